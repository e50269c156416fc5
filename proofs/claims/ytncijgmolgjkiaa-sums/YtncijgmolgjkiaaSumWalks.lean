/- The check sum of the program and that of the document's answer, walked: both answer the plain function SM.sum of the string's bytes; the world is as it was but for draws and new blocks; condition: a string of at most maxLen bytes. -/
import Derived.Test.YtncijgmolgjkiaaSumLeaves
import Derived.Deep.DeepMust
import Derived.Deep.LoopGhost
namespace Go.Proofs.Ytncijgmolgjkiaa
open Go.RowKit
set_option linter.unusedVariables false

def strLen : Value → Nat | .string b => b.size | _ => 0
theorem ret_int {k : IntKind} {a b : Int} (h : a = b) : Ending.returned (.int k a) = .returned (.int k b) := by rw [h]
theorem val_int {k : IntKind} {a b : Int} (h : a = b) : Value.int k a = .int k b := by rw [h]
theorem val_str {a b : ByteArray} (h : a = b) : Value.string a = .string b := by rw [h]

set_option maxHeartbeats 400000 in
theorem tail_any (h : Int) (s : ByteArray) (w : World) (h0 : 0 ≤ h) (h1 : h ≤ 4294967295) (hs : s.size ≤ maxLen) :
    Calls Try.prog 26 #[.int .u32 h, .string s] w fun e w' => e = .returned (.int .u32 (SM.tl h s.data.toList)) ∧ ∃ n, w' = w.drewN n := by
  unfold maxLen at hs
  go_enter Try.func26, Try.ntmps26
  go_wp2
  go_loopw [0, 1] (fun hv sv wr => ∃ i q : Nat, 4 * i ≤ s.size ∧ hv = .int .u32 (SM.by4 h s.data.toList i) ∧ sv = .string (SM.cut s (4 * i)) ∧ wr = w.drewN q) (fun _ sv _ => strLen sv)
  case atStart => exact ⟨0, 0, by omega, rfl, by rw [SM.cut_zero], rfl⟩
  case round =>
    obtain ⟨i, q, hi, rfl, rfl, rfl⟩ := hrel
    have hz := SM.cut_size s (4 * i)
    have hb := SM.by4_bound h s.data.toList ⟨h0, h1⟩ i
    by_cases hlt : 4 * i + 4 ≤ s.size
    · have hn := SM.num4_bound (s.data.toList.drop (4 * i))
      have hn' : Hid _ := SM.cut_data s (4 * i)
      have hcc : Hid _ := SM.cut_cut s (4 * i) 4
      go_wp2_with fail
      refine (snumber_any _ _ (by omega) (by unfold maxLen; omega)).mono ?_
      rintro e w1 ⟨rfl, q1, rfl⟩
      rw [hn'.out]
      go_wp2_with (go_at_call 43; refine (rot_any _ _ _ (by unfold SM.Turns; decide) (by omega) (by omega)).mono ?_; rintro e w' ⟨rfl, rfl⟩)
      go_roundw
      case rel => exact ⟨i + 1, q + q1, by omega, val_int (SM.by4_step _ _ _), val_str (SM.cut_walk s (4 * i) 4), rfl⟩
      case measure =>
        simp only [strLen, SM.cut_walk, SM.cut_size]
        omega
    · have hdone : Hid (4 * (s.size / 4) = 4 * i ∧ s.size / 4 = i ∧ s.size % 4 = s.size - 4 * i) := by rw [Hid]; omega
      go_wp2_with fail
      go_loop [0, 20] (fun hv kv => ∃ k : Nat, k ≤ s.size - 4 * i ∧ kv = .int .i64 k ∧ hv = .int .u32 (SM.by1 (SM.by4 h s.data.toList i) (s.data.toList.drop (4 * i)) k)) (fun _ kv => (s.size - 4 * i) - (intOf kv).toNat)
      case atStart => exact ⟨0, by omega, rfl, rfl⟩
      case round =>
        obtain ⟨k, hk, rfl, rfl⟩ := hrel
        have hb1 := SM.by1_bound (SM.by4 h s.data.toList i) (s.data.toList.drop (4 * i)) hb k
        by_cases hlk : k < s.size - 4 * i
        · go_wp2_with (go_at_call 43; refine (rot_any _ _ _ (by unfold SM.Turns; decide) (by omega) (by omega)).mono ?_; rintro e w' ⟨rfl, rfl⟩)
          go_round
          case rel => exact ⟨k + 1, by omega, by go_num, val_int (SM.by1_step _ s (4 * i) k (by omega))⟩
          case measure => simp [intOf]; omega
        · go_wp2
          go_ret
          refine ⟨ret_int ?_, q, rfl⟩
          obtain ⟨d1, d2, d3⟩ := hdone.out
          have e : s.data.toList.length = s.size := by simp
          rw [SM.tl, e, d1, d2, d3, show s.size - 4 * i = k by omega]

set_option maxHeartbeats 1000000 in
theorem stripes_any (s : ByteArray) (w : World) (hs : s.size ≤ maxLen) :
    Calls Try.prog 24 #[.string s] w fun e w' => e = .returned (.tuple #[.int .u32 (SM.stripe s.data.toList (s.size / 16)).join, .string (SM.cut s (16 * (s.size / 16)))]) ∧ ∃ n, w' = w.drewN n := by
  unfold maxLen at hs
  go_enter Try.func24, Try.ntmps24
  go_wp2
  go_loopg [0, 5, 6, 7, 8] s.size (fun g sv av bv cv dv wr => ∃ i q : Nat, g = s.size - 16 * i ∧ 16 * i ≤ s.size ∧ sv = .string (SM.cut s (16 * i)) ∧ av = .int .u32 (SM.stripe s.data.toList i).a ∧ bv = .int .u32 (SM.stripe s.data.toList i).b ∧ cv = .int .u32 (SM.stripe s.data.toList i).c ∧ dv = .int .u32 (SM.stripe s.data.toList i).d ∧ wr = w.drewN q)
  case atStart => exact ⟨0, 0, by omega, by omega, by rw [SM.cut_zero], rfl, rfl, rfl, rfl, rfl⟩
  case round =>
    obtain ⟨i, q, rfl, hi, rfl, rfl, rfl, rfl, rfl, rfl⟩ := hrel
    have hz := SM.cut_size s (16 * i)
    obtain ⟨ba, bb, bc, bd⟩ := SM.stripe_ok s.data.toList i
    by_cases hlt : 16 * i + 16 ≤ s.size
    · go_wp2_with fail
      refine (snumber_any _ _ (by omega) (by unfold maxLen; omega)).mono ?_
      rintro e w1 ⟨rfl, q1, rfl⟩
      have n0 := SM.num4_bound (SM.cut s (16 * i)).data.toList
      go_wp2_with fail
      refine (mix_any _ _ _ (by omega) (by omega) (by omega) (by omega)).mono ?_
      rintro e w1 ⟨rfl, rfl⟩
      go_wp2_with fail
      rw [SM.cut_walk]
      have z4 := SM.cut_size s (16 * i + 4)
      refine (snumber_any _ _ (by omega) (by unfold maxLen; omega)).mono ?_
      rintro e w1 ⟨rfl, q2, rfl⟩
      have n1 := SM.num4_bound (SM.cut s (16 * i + 4)).data.toList
      go_wp2_with fail
      refine (mix_any _ _ _ (by omega) (by omega) (by omega) (by omega)).mono ?_
      rintro e w1 ⟨rfl, rfl⟩
      go_wp2_with fail
      rw [SM.cut_walk]
      have z8 := SM.cut_size s (16 * i + 8)
      refine (snumber_any _ _ (by omega) (by unfold maxLen; omega)).mono ?_
      rintro e w1 ⟨rfl, q3, rfl⟩
      have n2 := SM.num4_bound (SM.cut s (16 * i + 8)).data.toList
      go_wp2_with fail
      refine (mix_any _ _ _ (by omega) (by omega) (by omega) (by omega)).mono ?_
      rintro e w1 ⟨rfl, rfl⟩
      go_wp2_with fail
      rw [SM.cut_walk]
      have z12 := SM.cut_size s (16 * i + 12)
      refine (snumber_any _ _ (by omega) (by unfold maxLen; omega)).mono ?_
      rintro e w1 ⟨rfl, q4, rfl⟩
      have n3 := SM.num4_bound (SM.cut s (16 * i + 12)).data.toList
      go_wp2_with fail
      refine (mix_any _ _ _ (by omega) (by omega) (by omega) (by omega)).mono ?_
      rintro e w1 ⟨rfl, rfl⟩
      go_wp2_with fail
      go_roundg (s.size - 16 * (i + 1))
      case rel =>
        refine ⟨i + 1, q + q1 + q2 + q3 + q4, rfl, by omega, val_str (SM.cut_walk s (16 * i) 16), ?_, ?_, ?_, ?_, rfl⟩ <;> rw [SM.stripe_step]
      case measure => omega
    · go_wp2_with (go_at_call 43; refine (rot_any _ _ _ (by unfold SM.Turns; decide) (by omega) (by omega)).mono ?_; rintro e w' ⟨rfl, rfl⟩)
      have hdone : s.size / 16 = i := by omega
      go_ret2
      refine ⟨?_, q, rfl⟩
      rw [hdone, ← SM.join_sum]
      rfl

set_option maxHeartbeats 400000 in
theorem psum_any (s : ByteArray) (w : World) (hs : s.size ≤ maxLen) :
    Calls Try.prog 8 #[.string s] w fun e w' => e = .returned (.int .u32 (SM.sum s.data.toList)) ∧ ∃ n, w' = w.drewN n := by
  have hs' := hs
  unfold maxLen at hs
  by_cases h16 : 16 ≤ s.size
  · go_enter Try.func8, Try.ntmps8
    go_wp2_with fail
    refine (stripes_any _ _ hs').mono ?_
    rintro e w1 ⟨rfl, q1, rfl⟩
    have hz := SM.cut_size s (16 * (s.size / 16))
    have hj := SM.join_bound (SM.stripe s.data.toList (s.size / 16))
    go_wp2_with fail
    refine (tail_any _ _ _ (by omega) (by omega) (by unfold maxLen; omega)).mono ?_
    rintro e w1 ⟨rfl, q2, rfl⟩
    have ht := SM.tl_bound (((SM.stripe s.data.toList (s.size / 16)).join + s.size) % 4294967296) (SM.cut s (16 * (s.size / 16))).data.toList (by omega)
    have hf : Hid _ := SM.sum_long s h16
    go_wp2_with fail
    refine (finish_any _ _ ht.1 ht.2).mono ?_
    rintro e w1 ⟨rfl, rfl⟩
    go_wp2
    go_ret
    exact ⟨by rw [hf.out]; rfl, q1 + q2, rfl⟩
  · go_enter Try.func8, Try.ntmps8
    go_wp2_with fail
    refine (tail_any _ _ _ (by omega) (by omega) (by unfold maxLen; omega)).mono ?_
    rintro e w1 ⟨rfl, q2, rfl⟩
    have ht := SM.tl_bound (374761393 + s.size) s.data.toList (by omega)
    have hf : Hid _ := SM.sum_short s h16
    go_wp2_with fail
    refine (finish_any _ _ ht.1 ht.2).mono ?_
    rintro e w1 ⟨rfl, rfl⟩
    go_wp2
    go_ret
    exact ⟨by rw [hf.out]; rfl, q2, rfl⟩
end Go.Proofs.Ytncijgmolgjkiaa

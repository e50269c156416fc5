/- The tail of the check sum of the program, walked: what is left behind the stripes, by four bytes and by one. Condition: a string of at most maxLen bytes. -/
import Derived.Test.YtbhemchnjpajiaaSumLeaves
import Derived.Deep.DeepMust
import Derived.Deep.LoopGhost
namespace Go.Proofs.Ytbhemchnjpajiaa
open Go.RowKit
set_option linter.unusedVariables false

def strLen : Value → Nat | .string b => b.size | _ => 0
theorem ret_int {k : IntKind} {a b : Int} (h : a = b) : Ending.returned (.int k a) = .returned (.int k b) := by rw [h]
theorem val_int {k : IntKind} {a b : Int} (h : a = b) : Value.int k a = .int k b := by rw [h]
theorem val_str {a b : ByteArray} (h : a = b) : Value.string a = .string b := by rw [h]

set_option maxHeartbeats 400000 in
theorem tail_any (h : Int) (s : ByteArray) (w : World) (h0 : 0 ≤ h) (h1 : h ≤ 4294967295) (hs : s.size ≤ maxLen) :
    Calls Try.prog 46 #[.int .u32 h, .string s] w fun e w' => e = .returned (.int .u32 (SM.tl h s.data.toList)) ∧ ∃ n, w' = w.drewN n := by
  unfold maxLen at hs
  go_enter Try.func46, Try.ntmps46
  go_wp2
  go_loopw [0, 1] (fun hv sv wr => ∃ i q : Nat, 4 * i ≤ s.size ∧ hv = .int .u32 (SM.by4 h s.data.toList i) ∧ sv = .string (SM.cut s (4 * i)) ∧ wr = w.drewN q) (fun _ sv _ => strLen sv)
  case atStart => exact ⟨0, 0, by omega, rfl, by rw [SM.cut_zero], rfl⟩
  case round =>
    obtain ⟨i, q, hi, rfl, rfl, rfl⟩ := hrel
    have hz := SM.cut_size s (4 * i)
    have hb := SM.by4_bound h s.data.toList ⟨h0, h1⟩ i
    by_cases hlt : 4 * i + 4 ≤ s.size
    · have hn := SM.num4_bound (s.data.toList.drop (4 * i))
      have hn' : Hid _ := SM.cut_data s (4 * i)
      have hcc : Hid _ := SM.cut_cut s (4 * i) 4
      go_wp2_with fail
      refine (snumber_any _ _ (by omega) (by unfold maxLen; omega)).mono ?_
      rintro e w1 ⟨rfl, q1, rfl⟩
      rw [hn'.out]
      go_wp2_with (go_at_call 51; refine (rot_any _ _ _ (by unfold SM.Turns; decide) (by omega) (by omega)).mono ?_; rintro e w' ⟨rfl, rfl⟩)
      go_roundw
      case rel => exact ⟨i + 1, q + q1, by omega, val_int (SM.by4_step _ _ _), val_str (SM.cut_walk s (4 * i) 4), rfl⟩
      case measure =>
        simp only [strLen, SM.cut_walk, SM.cut_size]
        omega
    · have hdone : Hid (4 * (s.size / 4) = 4 * i ∧ s.size / 4 = i ∧ s.size % 4 = s.size - 4 * i) := by rw [Hid]; omega
      go_wp2_with fail
      go_loop [0, 20] (fun hv kv => ∃ k : Nat, k ≤ s.size - 4 * i ∧ kv = .int .i64 k ∧ hv = .int .u32 (SM.by1 (SM.by4 h s.data.toList i) (s.data.toList.drop (4 * i)) k)) (fun _ kv => (s.size - 4 * i) - (intOf kv).toNat)
      case atStart => exact ⟨0, by omega, rfl, rfl⟩
      case round =>
        obtain ⟨k, hk, rfl, rfl⟩ := hrel
        have hb1 := SM.by1_bound (SM.by4 h s.data.toList i) (s.data.toList.drop (4 * i)) hb k
        by_cases hlk : k < s.size - 4 * i
        · go_wp2_with (go_at_call 51; refine (rot_any _ _ _ (by unfold SM.Turns; decide) (by omega) (by omega)).mono ?_; rintro e w' ⟨rfl, rfl⟩)
          go_round
          case rel => exact ⟨k + 1, by omega, by go_num, val_int (SM.by1_step _ s (4 * i) k (by omega))⟩
          case measure => simp [intOf]; omega
        · go_wp2
          go_ret
          refine ⟨ret_int ?_, q, rfl⟩
          obtain ⟨d1, d2, d3⟩ := hdone.out
          have e : s.data.toList.length = s.size := by simp
          rw [SM.tl, e, d1, d2, d3, show s.size - 4 * i = k by omega]

end Go.Proofs.Ytbhemchnjpajiaa

/- The value of the rolling check sum, and the check sum of a whole text by it, walked: both are the plain function SM.sum of the bytes. Condition: texts of at most 2^47 bytes. -/
import Derived.Test.YtbhemchnjpajiaaRollWalks
import Derived.Test.YtbhemchnjpajiaaSumWalks
namespace Go.Proofs.Ytbhemchnjpajiaa
open Go.RowKit
set_option linter.unusedVariables false
set_option maxHeartbeats 1000000 in
theorem value_any (L : ByteArray) (g : Nat) (t : TypeId) (pre post : List Value) (w : World) (h : Blk w g t (pre ++ (sumCells L ++ post))) (hs : L.size ≤ 140737488355328) :
    Calls Try.prog 26 #[.pointer (some ⟨g, pre.length, none⟩)] w fun e w' => e = .returned (.int .u32 (SM.sum L.data.toList)) ∧ Below w.heap.size w w' := by
  obtain ⟨c0, c1, c2, c3, c4, c5⟩ := roll_cells (by unfold sumCells at h; exact h)
  have hz := SM.cut_size L (16 * (L.size / 16))
  have hsum := hid' (SM.sum_of L)
  have hlen : (((L.size : Nat) : Int) < 18446744073709551616) := by omega
  by_cases h16 : 16 ≤ L.size
  · have d16 : (16 : Int) ≤ (L.size : Int) := by omega
    rw [if_pos h16] at hsum
    go_enter Try.func26, Try.ntmps26
    go_wp2_with fail
    refine (join_any (SM.words L) _ (SM.stripe_ok _ _)).mono ?_
    rintro e w1 ⟨rfl, hb1⟩
    have hw1 := h.below hb1 h.lt
    obtain ⟨e0, e1, e2, e3, e4, e5⟩ := roll_cells (by unfold sumCells at hw1; exact hw1)
    have hj := SM.join_bound (SM.words L)
    go_wp2_with fail
    refine (tail_any _ _ _ (by omega) (by omega) (by unfold maxLen; omega)).mono ?_
    rintro e w2 ⟨rfl, q2, rfl⟩
    have ht := SM.tl_bound (((SM.words L).join + L.size) % 4294967296) (SM.cut L (16 * (L.size / 16))).data.toList (by omega)
    go_wp2_with fail
    refine (finish_any _ _ ht.1 ht.2).mono ?_
    rintro e w1 ⟨rfl, rfl⟩
    go_wp2
    go_ret
    exact ⟨by rw [hsum.out]; rfl, ⟨hb1.os, hb1.tape, hb1.output, hb1.size, hb1.block⟩⟩
  · have d16 : ¬ (16 : Int) ≤ (L.size : Int) := by omega
    rw [if_neg h16] at hsum
    go_enter Try.func26, Try.ntmps26
    go_wp2_with fail
    refine (tail_any _ _ _ (by omega) (by omega) (by unfold maxLen; omega)).mono ?_
    rintro e w2 ⟨rfl, q2, rfl⟩
    have ht := SM.tl_bound (374761393 + L.size) (SM.cut L (16 * (L.size / 16))).data.toList (by omega)
    go_wp2_with fail
    refine (finish_any _ _ ht.1 ht.2).mono ?_
    rintro e w1 ⟨rfl, rfl⟩
    go_wp2
    go_ret
    refine ⟨?_, ⟨rfl, rfl, rfl, Nat.le_refl _, fun _ _ => rfl⟩⟩
    rw [hsum.out, show (374761393 + (L.size : Int)) % 4294967296 = 374761393 + (L.size : Int) by omega]
    rfl

set_option maxHeartbeats 400000 in
theorem psum_any (s : ByteArray) (w : World) (hs : s.size ≤ 140737488355328) :
    Calls Try.prog 8 #[.string s] w fun e w' => e = .returned (.int .u32 (SM.sum s.data.toList)) ∧ Below w.heap.size w w' := by
  go_enter Try.func8, Try.ntmps8
  go_wp2_with fail
  refine (start_any _).mono ?_
  rintro e w1 ⟨rfl, hb1⟩
  go_wp2_with fail
  have h0 : Blk (w1.alloc (.cells (sumCells ByteArray.empty).toArray 51)) w1.heap.size 51 ([] ++ (sumCells ByteArray.empty ++ [])) := by
    have := Blk.new w1 51 (sumCells ByteArray.empty)
    simpa using this
  refine (add_any ByteArray.empty s _ _ [] [] _ h0 (by simp; omega)).mono ?_
  rintro e w2 ⟨rfl, hb2, ho2⟩
  go_wp2_with fail
  refine (value_any _ _ _ [] [] _ hb2 (by simp; omega)).mono ?_
  rintro e w3 ⟨rfl, hb3⟩
  go_wp2
  go_ret
  refine ⟨by simp, ?_⟩
  have ho3 := ((ho2.below hb3).weaken (G' := fun k => w1.heap.size ≤ k) (fun k _ e => by omega)).toBelow (by simp)
  have ha := ((Below.refl _ w1).alloc (Nat.le_refl _) (.cells (sumCells ByteArray.empty).toArray 51)).trans ho3
  exact hb1.trans (ha.mono hb1.size)
end Go.Proofs.Ytbhemchnjpajiaa

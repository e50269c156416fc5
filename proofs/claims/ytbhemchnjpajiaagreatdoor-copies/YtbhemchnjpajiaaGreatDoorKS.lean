/- Several texts in one: PrTb0. -/
import Derived.Test.YtbhemchnjpajiaaGreatDoorKR
/- The counts that are agreed on (package sequences), walked. -/
namespace Go.Proofs.YtbhemchnjpajiaaGreatDoor
open Go.RowKit
set_option linter.unusedVariables false

theorem agreed_res (lg z0 z1 z2 z3 z4 z5 z6 z7 z8 z9 z10 z11 z12 z13 z14 z15 : Int) (w : World) (t0 t1 t3 t4 t5 t6 t7 t8 : Value) : (results Tryz.f161 #[t0, t1, .pointer (some ⟨w.heap.size, 0, none⟩), t3, t4, t5, t6, t7, t8]).run Tryz.prog (w.alloc (.cells #[.int .i64 lg, .int .i64 z0, .int .i64 z1, .int .i64 z2, .int .i64 z3, .int .i64 z4, .int .i64 z5, .int .i64 z6, .int .i64 z7, .int .i64 z8, .int .i64 z9, .int .i64 z10, .int .i64 z11, .int .i64 z12, .int .i64 z13, .int .i64 z14, .int .i64 z15] 294)) = .ok (.agg #[.int .i64 lg, .int .i64 z0, .int .i64 z1, .int .i64 z2, .int .i64 z3, .int .i64 z4, .int .i64 z5, .int .i64 z6, .int .i64 z7, .int .i64 z8, .int .i64 z9, .int .i64 z10, .int .i64 z11, .int .i64 z12, .int .i64 z13, .int .i64 z14, .int .i64 z15]) (w.alloc (.cells #[.int .i64 lg, .int .i64 z0, .int .i64 z1, .int .i64 z2, .int .i64 z3, .int .i64 z4, .int .i64 z5, .int .i64 z6, .int .i64 z7, .int .i64 z8, .int .i64 z9, .int .i64 z10, .int .i64 z11, .int .i64 z12, .int .i64 z13, .int .i64 z14, .int .i64 z15] 294)) := by
  simp [results, Tryz.results161, go_sem]
/-- The counts that are agreed on, sixteen of them. -/
def plain16 (k : Nat) : List Int := RD.plain k ++ List.replicate (16 - (RD.plain k).length) 0
theorem plain_a : keyV ((5 : Nat) : Int) (plain16 0) = .agg #[.int .i64 5, .int .i64 5, .int .i64 3, .int .i64 3, .int .i64 2, .int .i64 2, .int .i64 2, .int .i64 2, .int .i64 2, .int .i64 2, .int .i64 2, .int .i64 2, .int .i64 1, .int .i64 1, .int .i64 1, .int .i64 1, .int .i64 1] := by
  simp [keyV, plain16, RD.plain, intCells]
theorem plain_b : keyV ((5 : Nat) : Int) (plain16 1) = .agg #[.int .i64 5, .int .i64 3, .int .i64 3, .int .i64 3, .int .i64 3, .int .i64 3, .int .i64 3, .int .i64 3, .int .i64 2, .int .i64 2, .int .i64 2, .int .i64 2, .int .i64 2, .int .i64 1, .int .i64 0, .int .i64 0, .int .i64 0] := by
  simp [keyV, plain16, RD.plain, intCells, List.replicate]
theorem plain_c : keyV ((5 : Nat) : Int) (plain16 2) = .agg #[.int .i64 5, .int .i64 5, .int .i64 3, .int .i64 3, .int .i64 2, .int .i64 2, .int .i64 2, .int .i64 2, .int .i64 2, .int .i64 2, .int .i64 2, .int .i64 2, .int .i64 1, .int .i64 1, .int .i64 1, .int .i64 1, .int .i64 1] := by
  simp [keyV, plain16, RD.plain, intCells]
set_option maxHeartbeats 800000 in
theorem agreed_a (w : World) : Calls Tryz.prog 161 #[.int .i64 0] w fun e w' => e = .returned (.agg #[.int .i64 5, .int .i64 5, .int .i64 3, .int .i64 3, .int .i64 2, .int .i64 2, .int .i64 2, .int .i64 2, .int .i64 2, .int .i64 2, .int .i64 2, .int .i64 2, .int .i64 1, .int .i64 1, .int .i64 1, .int .i64 1, .int .i64 1]) ∧ Below w.heap.size w w' := by
  go_enter Tryz.func161, Tryz.ntmps161
  go_wp2_with fail
  exact bodyPost_ret (agreed_res 5 5 3 3 2 2 2 2 2 2 2 2 1 1 1 1 1 w _ _ _ _ _ _ _ _) rfl ⟨rfl, (Below.refl _ w).alloc (Nat.le_refl _) _⟩
set_option maxHeartbeats 800000 in
theorem agreed_b (w : World) : Calls Tryz.prog 161 #[.int .i64 1] w fun e w' => e = .returned (.agg #[.int .i64 5, .int .i64 3, .int .i64 3, .int .i64 3, .int .i64 3, .int .i64 3, .int .i64 3, .int .i64 3, .int .i64 2, .int .i64 2, .int .i64 2, .int .i64 2, .int .i64 2, .int .i64 1, .int .i64 0, .int .i64 0, .int .i64 0]) ∧ Below w.heap.size w w' := by
  go_enter Tryz.func161, Tryz.ntmps161
  go_wp2_with fail
  exact bodyPost_ret (agreed_res 5 3 3 3 3 3 3 3 2 2 2 2 2 1 0 0 0 w _ _ _ _ _ _ _ _) rfl ⟨rfl, (Below.refl _ w).alloc (Nat.le_refl _) _⟩
set_option maxHeartbeats 800000 in
theorem agreed_c (w : World) : Calls Tryz.prog 161 #[.int .i64 2] w fun e w' => e = .returned (.agg #[.int .i64 5, .int .i64 5, .int .i64 3, .int .i64 3, .int .i64 2, .int .i64 2, .int .i64 2, .int .i64 2, .int .i64 2, .int .i64 2, .int .i64 2, .int .i64 2, .int .i64 1, .int .i64 1, .int .i64 1, .int .i64 1, .int .i64 1]) ∧ Below w.heap.size w w' := by
  go_enter Tryz.func161, Tryz.ntmps161
  go_wp2_with fail
  exact bodyPost_ret (agreed_res 5 5 3 3 2 2 2 2 2 2 2 2 1 1 1 1 1 w _ _ _ _ _ _ _ _) rfl ⟨rfl, (Below.refl _ w).alloc (Nat.le_refl _) _⟩
theorem agreed_any (k : Nat) (w : World) (hk : k ≤ 2) :
    Calls Tryz.prog 161 #[.int .i64 k] w fun e w' => e = .returned (keyV ((5 : Nat) : Int) (plain16 k)) ∧ Below w.heap.size w w' := by
  rcases (by omega : k = 0 ∨ k = 1 ∨ k = 2) with rfl | rfl | rfl
  · rw [plain_a]; exact agreed_a w
  · rw [plain_b]; exact agreed_b w
  · rw [plain_c]; exact agreed_c w
end Go.Proofs.YtbhemchnjpajiaaGreatDoor

/- The document's power, walked: 2 to the n, for n up to 16. -/
import Derived.Test.YtbhemchnjpajiaaKit
import Derived.Test.YtbhemchnjpajiaaCodeMath
namespace Go.Proofs.Ytbhemchnjpajiaa
open Go.RowKit
set_option linter.unusedVariables false

set_option maxHeartbeats 400000 in
theorem rpower_any (n : Int) (w : World) (h0 : 0 ≤ n) (h1 : n ≤ 16) :
    Calls Try.prog 35 #[.int .i64 n] w fun e w' => e = .returned (.int .i64 (2 ^ n.toNat)) ∧ w' = w := by
  obtain ⟨m, rfl⟩ := Int.eq_ofNat_of_zero_le h0
  go_enter Try.func35, Try.ntmps35
  go_wp2
  go_loopg [3, 4] m (fun g pv iv wr => ∃ k : Nat, g = m - k ∧ k ≤ m ∧ iv = .int .i64 (k : Int) ∧ pv = .int .i64 (2 ^ k) ∧ wr = w)
  case atStart => exact ⟨0, by omega, by omega, rfl, rfl, rfl⟩
  case round =>
    obtain ⟨k, rfl, hk, rfl, rfl, hwr⟩ := hrel
    subst hwr
    have hp := CM.pow_le k 16 (by omega)
    have hq := CM.pow_pos k
    by_cases hkm : k < m
    · go_wp2
      go_roundg (m - (k + 1))
      case rel => exact ⟨k + 1, rfl, by omega, by go_num, vl_int (by rw [Int.pow_succ, Int.mul_comm]), rfl⟩
      case measure => omega
    · obtain rfl : k = m := by omega
      go_wp2
      go_ret
      exact ⟨rfl, rfl⟩

theorem rpower_same (n : Int) (w : World) (h0 : 0 ≤ n) (h1 : n ≤ 16) :
    Calls Try.prog 35 #[.int .i64 n] w fun e w' => e = .returned (.int .i64 (2 ^ n.toNat)) ∧ w = w' :=
  (rpower_any n w h0 h1).mono fun e w' h => ⟨h.1, h.2.symm⟩
end Go.Proofs.Ytbhemchnjpajiaa

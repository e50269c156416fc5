/- The leaves of the check sum, walked: RotateLeft32, mix, number and finish of the program; number, times and turn of the document's answer. Each answers as the plain function says, and leaves the world as it was but for draws; conditions: words below 2^32, four bytes there. -/
import Derived.Test.YtbhemchnjpajiaaRows
import Derived.Test.YtbhemchnjpajiaaSumMath
import Derived.WalkKit
import Derived.WalkSpells
import Derived.WalkLawsBesides
import Derived.Deep.QuietTactic
import Derived.BigQuiet
namespace Go.Proofs.Ytbhemchnjpajiaa
open Go.RowKit
set_option linter.unusedVariables false

set_option maxHeartbeats 400000 in
theorem rot_any (x k : Int) (w : World) (hk : SM.Turns k) (h0 : 0 ≤ x) (h1 : x ≤ 4294967295) :
    Calls Try.prog 51 #[.int .u32 x, .int .i64 k] w fun e w' => e = .returned (.int .u32 (SM.rl x k)) ∧ w' = w := by
  have H := SM.rl_or x k hk h0 h1
  have hb : bits .and .u64 k 31 = k := by rcases hk with rfl | rfl | rfl | rfl | rfl | rfl | rfl <;> decide
  rcases hk with rfl | rfl | rfl | rfl | rfl | rfl | rfl
  all_goals
    simp at H
    have HH : Hid _ := H
    clear H
    go_enter Try.func51, Try.ntmps51
    go_wp2
    go_ret
    exact ⟨by rw [HH.out]; rfl, rfl⟩

set_option maxHeartbeats 400000 in
theorem mix_any (wd x : Int) (w : World) (h0 : 0 ≤ wd) (h1 : wd ≤ 4294967295) (h2 : 0 ≤ x) (h3 : x ≤ 4294967295) :
    Calls Try.prog 41 #[.int .u32 wd, .int .u32 x] w fun e w' => e = .returned (.int .u32 (SM.mx wd x)) ∧ w' = w := by
  go_enter Try.func41, Try.ntmps41
  go_wp2_with (go_at_call 51; refine (rot_any _ _ _ (by unfold SM.Turns; decide) (by omega) (by omega)).mono ?_; rintro e w' ⟨rfl, rfl⟩)
  go_ret
  exact ⟨by rw [← SM.mx_add]; rfl, rfl⟩

set_option maxHeartbeats 400000 in
theorem finish_any (h : Int) (w : World) (h0 : 0 ≤ h) (h1 : h ≤ 4294967295) :
    Calls Try.prog 45 #[.int .u32 h] w fun e w' => e = .returned (.int .u32 (SM.fin h)) ∧ w' = w := by
  go_enter Try.func45, Try.ntmps45
  have H : Hid (SM.fin h = _) := (SM.fin_or h h0 h1).symm
  go_wp2
  go_ret
  exact ⟨by rw [H.out]; rfl, rfl⟩

set_option maxHeartbeats 400000 in
theorem times_any (a b : Int) (w : World) (h0 : 0 ≤ a) (h1 : a ≤ 4294967295) (h2 : 0 ≤ b) (h3 : b ≤ 4294967295) :
    Calls Try.prog 28 #[.int .i64 a, .int .i64 b] w fun e w' => e = .returned (.int .i64 (SM.tm a b)) ∧ w' = w := by
  have m1 := SM.mul_bound a (b / 65536) 4294967295 65535 h0 h1 (by omega) (by omega)
  have m2 := SM.mul_bound a (b % 65536) 4294967295 65535 h0 h1 (by omega) (by omega)
  have H : Hid _ := SM.tm_halves a b
  go_enter Try.func28, Try.ntmps28
  go_wp2
  go_ret
  exact ⟨by rw [← H.out]; rfl, rfl⟩

set_option maxHeartbeats 400000 in
theorem snumber_any (s : ByteArray) (w : World) (h : 4 ≤ s.size) (hs : s.size ≤ maxLen) :
    Calls Try.prog 42 #[.string s] w fun e w' => e = .returned (.int .u32 (SM.num4 s.data.toList)) ∧ ∃ n, w' = w.drewN n := by
  unfold maxLen at hs
  have i0 : (0 : Int) < (s.size : Int) := by omega
  have i1 : (1 : Int) < (s.size : Int) := by omega
  have i2 : (2 : Int) < (s.size : Int) := by omega
  have i3 : (3 : Int) < (s.size : Int) := by omega
  have j0 : 0 < s.size := by omega
  have j1 : 1 < s.size := by omega
  have j2 : 2 < s.size := by omega
  have j3 : 3 < s.size := by omega
  go_enter Try.func42, Try.ntmps42
  go_wp2
  go_quiet (fail)
  go_wp2
  go_ret
  exact ⟨by rw [← SM.number_bits s h]; rfl, nq, rfl⟩

set_option maxHeartbeats 400000 in
theorem rnumber_any (s : ByteArray) (i : Int) (w : World) (h0 : 0 ≤ i) (h1 : i + 4 ≤ s.size) (hs : s.size ≤ maxLen) :
    Calls Try.prog 27 #[.string s, .int .i64 i, .int .i64 4] w fun e w' => e = .returned (.int .i64 (SM.num4 (s.data.toList.drop i.toNat))) ∧ w' = w := by
  unfold maxLen at hs
  obtain ⟨n, rfl⟩ := Int.eq_ofNat_of_zero_le h0
  go_enter Try.func27, Try.ntmps27
  go_wp2
  go_loop [7, 8] (fun v k => ∃ j : Nat, j ≤ 4 ∧ k = .int .i64 (3 - (j : Int)) ∧ v = .int .i64 (SM.lv s n j)) (fun _ k => (intOf k + 1).toNat)
  case atStart => exact ⟨0, by omega, by simp, by simp [SM.lv, SM.lev]⟩
  case round =>
    obtain ⟨j, hj, rfl, rfl⟩ := hrel
    by_cases hlt : j < 4
    · have hv := SM.lv_three s n j (by omega)
      have hg : Hid _ := SM.byteAt_get s (n + (3 - j)) (by omega)
      have hbb : Hid _ := SM.byteAt_bound s (n + (3 - j))
      go_wp2
      go_round
      case rel =>
        refine ⟨j + 1, by omega, by go_num, ?_⟩
        rw [hg.out]
        have hbb := hbb.out
        rw [IntWalk.wrap64_in (SM.byteAt s (n + (3 - j))) (by omega), IntWalk.wrap64_in _ (by omega)]
        rfl
      case measure => simp [intOf]; omega
    · obtain rfl : j = 4 := by omega
      have H : Hid _ := SM.lv_four s n (by omega)
      go_wp2
      go_ret
      exact ⟨by rw [← H.out]; rfl, rfl⟩

set_option maxHeartbeats 400000 in
theorem turn_any (a k : Int) (w : World) (hk : SM.Turns k) (h0 : 0 ≤ a) (h1 : a ≤ 4294967295) :
    Calls Try.prog 29 #[.int .i64 a, .int .i64 k] w fun e w' => e = .returned (.int .i64 (SM.rl a k)) ∧ w' = w := by
  have hk' : 1 ≤ k ∧ k ≤ 18 := by unfold SM.Turns at hk; omega
  go_enter Try.func29, Try.ntmps29
  go_wp2
  go_loop [5, 6] (fun p i => ∃ j : Nat, (j : Int) ≤ k ∧ i = .int .i64 j ∧ p = .int .i64 (2 ^ j)) (fun _ i => (k - intOf i).toNat)
  case atStart => exact ⟨0, by omega, rfl, rfl⟩
  case round =>
    obtain ⟨j, hj, rfl, rfl⟩ := hrel
    have hp := SM.pow_bound j (by omega)
    by_cases hlt : (j : Int) < k
    · go_wp2
      go_round
      case rel => exact ⟨j + 1, by omega, by go_num, by rw [Int.pow_succ]; go_num⟩
      case measure => simp [intOf]; omega
    · have hm := SM.mul_bound a (2 ^ j) 4294967295 262144 h0 h1 (by omega) (by omega)
      have e : k.toNat = j := by omega
      have H : Hid (SM.rl a k = a * 2 ^ j % 4294967296 + a * 2 ^ j / 4294967296) := by rw [Hid, SM.rl, e]
      clear e
      go_wp2
      go_ret
      exact ⟨by rw [H.out]; rfl, rfl⟩
end Go.Proofs.Ytbhemchnjpajiaa

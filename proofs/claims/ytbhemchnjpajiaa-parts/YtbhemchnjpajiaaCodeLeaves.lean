/- The leaves of the program's codes, walked: bits.Len of numbers below 65536, span, inBounds, totalOf. Each answers as the plain function says and leaves the world as it was. -/
import Derived.Test.YtbhemchnjpajiaaKit
import Derived.Test.YtbhemchnjpajiaaCodeMath
namespace Go.Proofs.Ytbhemchnjpajiaa
open Go.RowKit
set_option linter.unusedVariables false

theorem tab_size : Lib.len8tab.size = 256 := by decide +kernel
theorem tab_all : ∀ n : Fin 256, (Lib.len8tab[n.val]'(by rw [tab_size]; exact n.isLt)).toNat = Lib.bitLen n.val := by decide +kernel
theorem tab_at (n : Nat) (h : n < Lib.len8tab.size) : (Lib.len8tab[n].toNat : Int) = (Lib.bitLen n : Int) := by
  have := tab_all ⟨n, by rw [tab_size] at h; exact h⟩
  exact_mod_cast this

set_option maxHeartbeats 1000000 in
set_option maxRecDepth 100000 in
theorem len64_any (x : Int) (w : World) (h0 : 0 ≤ x) (h1 : x ≤ 65535) :
    Calls Try.prog 50 #[.int .u64 x] w fun e w' => e = .returned (.int .i64 (CM.len x)) ∧ w' = w := by
  unfold CM.len
  have hts := tab_size
  by_cases h8 : 256 ≤ x
  · go_enter Try.func50, Try.ntmps50
    go_wp2
    go_ret
    refine ⟨rt_int ?_, rfl⟩
    have e : (x / 256).toNat = x.toNat / 256 := by omega
    have l := Lib.bitLen_le8 ⟨x.toNat / 256, by omega⟩
    simp only at l
    have s := Lib.bitLen_shift8 x.toNat (by omega) (by omega)
    rw [tab_at, e, IntWalk.wrap64_in (Lib.bitLen (x.toNat / 256) : Int) (by omega), IntWalk.wrap64_in _ (by omega)]
    omega
  · go_enter Try.func50, Try.ntmps50
    go_wp2
    go_ret
    refine ⟨rt_int ?_, rfl⟩
    have l := Lib.bitLen_le8 ⟨x.toNat, by omega⟩
    simp only at l
    rw [tab_at, IntWalk.wrap64_in (Lib.bitLen x.toNat : Int) (by omega), IntWalk.wrap64_in _ (by omega)]

theorem len_any (x : Int) (w : World) (h0 : 0 ≤ x) (h1 : x ≤ 65535) :
    Calls Try.prog 38 #[.int .u64 x] w fun e w' => e = .returned (.int .i64 (CM.len x)) ∧ w' = w := by
  go_enter Try.func38, Try.ntmps38
  go_wp2_with (go_at_call 50; refine (len64_any x _ h0 h1).mono ?_; rintro e w' ⟨rfl, rfl⟩)
  go_ret
  exact ⟨rfl, rfl⟩

set_option maxHeartbeats 400000 in
theorem span_any (x : Int) (w : World) (h : 0 ≤ x ∧ x ≤ 8) :
    Calls Try.prog 48 #[.int .i64 x] w fun e w' => e = .returned (.int .i64 (CM.sp x)) ∧ w' = w := by
  rcases (by omega : x = 0 ∨ x = 1 ∨ x = 2 ∨ x = 3 ∨ x = 4 ∨ x = 5 ∨ x = 6 ∨ x = 7 ∨ x = 8) with rfl | rfl | rfl | rfl | rfl | rfl | rfl | rfl | rfl
  all_goals
    go_enter Try.func48, Try.ntmps48
    go_wp2
    go_ret
    exact ⟨rfl, rfl⟩

set_option maxHeartbeats 400000 in
theorem inBounds_any (a : Option Addr) (n cap : Nat) (z : List Int) (w : World) (hI : Ints w a n z) :
    Calls Try.prog 36 #[.slice a n cap] w fun e w' => e = .returned (.bool (CM.inB z)) ∧ w' = w := by
  obtain ⟨hl, hbig, hc⟩ := hI
  by_cases hn : n = 0
  · have hf : Hid (CM.inB z = false) := by rw [Hid]; simp [CM.inB, hl, hn]
    subst hn
    go_enter Try.func36, Try.ntmps36
    go_wp2
    go_ret
    exact ⟨rt_bool hf.out.symm, rfl⟩
  have hn0 : ((n : Int) == 0) = false := by simp; omega
  by_cases h128 : 128 < n
  · have hf : Hid (CM.inB z = false) := by rw [Hid]; simp [CM.inB, hl]; omega
    go_enter Try.func36, Try.ntmps36
    go_wp2
    go_ret
    exact ⟨rt_bool hf.out.symm, rfl⟩
  obtain ⟨b, off, rfl, hlt, hc⟩ := hc.resolve_left hn
  have hin : Hid (CM.inB z = CM.fitsB z) := by rw [Hid]; simp [CM.inB, hl]; omega
  have HC : Hid _ := hc
  clear hc
  go_enter Try.func36, Try.ntmps36
  go_wp2
  go_loopg [15] n (fun g kv wr => ∃ k : Nat, g = n - k ∧ k ≤ n ∧ kv = .int .i64 (k : Int) ∧ Hid (CM.fitsB (z.take k) = true) ∧ wr = w)
  case atStart => exact ⟨0, by omega, by omega, rfl, rfl, rfl⟩
  case round =>
    obtain ⟨k, rfl, hk, rfl, hfit, hwr⟩ := hrel
    subst hwr
    by_cases hkn : k < n
    · have hck := HC.out k hkn
      have hts : Hid _ := CM.fits_take z k (by omega)
      have hpre : Hid _ := CM.fits_prefix z (k + 1)
      generalize hx : z.getD k 0 = x at *
      clear hx
      by_cases hx : 0 ≤ x ∧ x ≤ 8
      · go_wp2
        go_roundg (n - (k + 1))
        case rel => exact ⟨k + 1, rfl, by omega, by go_num, by rw [Hid, hts.out, hfit.out]; simp [hx], rfl⟩
        case measure => omega
      · by_cases hx0 : x < 0
        all_goals
          go_wp2
          go_ret
          refine ⟨rt_bool ?_, rfl⟩
          rw [hin.out, hpre.out (by rw [hts.out, hfit.out]; simp; omega)]
    · go_wp2
      go_ret
      refine ⟨rt_bool ?_, rfl⟩
      have hf := hfit.out
      rw [List.take_of_length_le (by omega)] at hf
      rw [hin.out, hf]

set_option maxHeartbeats 400000 in
theorem totalOf_any (a : Option Addr) (n cap : Nat) (z : List Int) (w : World) (hI : Ints w a n z) (hf : CM.Fits z) (hn : 1 ≤ n ∧ n ≤ 128) :
    Calls Try.prog 37 #[.slice a n cap] w fun e w' => e = .returned (.int .i64 (CM.tot z n)) ∧ w' = w := by
  obtain ⟨hl, hbig, hc⟩ := hI
  obtain ⟨b, off, rfl, hlt, hc⟩ := hc.resolve_left (by omega)
  have hF : Hid _ := hf
  have HC : Hid _ := hc
  clear hf hc
  go_enter Try.func37, Try.ntmps37
  go_wp2
  go_loopg [3, 8] n (fun g tv kv wr => ∃ k : Nat, g = n - k ∧ k ≤ n ∧ kv = .int .i64 (k : Int) ∧ tv = .int .i64 (CM.tot z k) ∧ wr = w)
  case atStart => exact ⟨0, by omega, by omega, rfl, rfl, rfl⟩
  case round =>
    obtain ⟨k, rfl, hk, rfl, rfl, hwr⟩ := hrel
    subst hwr
    have ht := CM.tot_bound z hF.out k
    by_cases hkn : k < n
    · have hck := HC.out k hkn
      have hx := CM.fits_getD z hF.out k
      have hsp := CM.sp_bound _ hx
      have hts : Hid (CM.tot z (k + 1) = CM.tot z k + CM.sp (z.getD k 0)) := rfl
      generalize z.getD k 0 = x at *
      go_wp2_with (go_at_call 48; refine (span_any _ _ hx).mono ?_; rintro e w' ⟨rfl, rfl⟩)
      go_roundg (n - (k + 1))
      case rel => exact ⟨k + 1, rfl, by omega, by go_num, vl_int hts.out.symm, rfl⟩
      case measure => omega
    · obtain rfl : k = n := by omega
      go_wp2
      go_ret
      exact ⟨rfl, rfl⟩
end Go.Proofs.Ytbhemchnjpajiaa

/- The program's tables of states, walked: which counts are right, the places from behind, the places by the step. -/
import Derived.Test.YtbhemchnjpajiaaCodeLeaves
import Derived.Test.YtbhemchnjpajiaaTabMath
namespace Go.Proofs.Ytbhemchnjpajiaa
open Go.RowKit
set_option linter.unusedVariables false

theorem placesOf_any (c : Int) (w : World) :
    Calls Try.prog 47 #[.int .i64 c] w fun e w' => e = .returned (.int .i64 (TM.pl c)) ∧ w = w' := by
  by_cases h : c = -1
  · subst h
    go_enter Try.func47, Try.ntmps47
    go_wp2
    go_ret
    exact ⟨rfl, rfl⟩
  · have hb : (c == -1) = false := by simpa using h
    have hp : Hid (TM.pl c = c) := by rw [Hid, TM.pl, if_neg h]
    clear h
    go_enter Try.func47, Try.ntmps47
    go_wp2
    go_ret
    exact ⟨rt_int hp.out.symm, rfl⟩

set_option maxHeartbeats 400000 in
theorem fill_any (a : Option Addr) (n cap : Nat) (z : List Int) (S : Int) (w : World) (hI : Ints w a n z) (hS : 1 ≤ S ∧ S ≤ 64) :
    Calls Try.prog 31 #[.slice a n cap, .int .i64 S] w fun e w' => e = .returned (.bool (TM.fillB z S)) ∧ w = w' := by
  obtain ⟨hl, hbig, hc⟩ := hI
  by_cases hn : n = 0
  · have hf : Hid (TM.fillB z S = false) := by rw [Hid]; simp [TM.fillB, hl, hn]
    subst hn
    go_enter Try.func31, Try.ntmps31
    go_wp2
    go_ret
    exact ⟨rt_bool hf.out.symm, rfl⟩
  have hn0 : ((n : Int) == 0) = false := by simp; omega
  by_cases h16 : 16 < n
  · have hf : Hid (TM.fillB z S = false) := by rw [Hid]; simp [TM.fillB, hl]; omega
    go_enter Try.func31, Try.ntmps31
    go_wp2
    go_ret
    exact ⟨rt_bool hf.out.symm, rfl⟩
  obtain ⟨b, off, rfl, hlt, hc'⟩ := hc.resolve_left hn
  have HC : Hid _ := hc'
  clear hc hc'
  have hin : Hid (TM.fillB z S = (TM.fitsB z S && (TM.sum z n == S))) := by
    rw [Hid]
    have h1 : 1 ≤ n := by omega
    have h2 : n ≤ 16 := by omega
    simp [TM.fillB, hl, h1, h2]
  go_enter Try.func31, Try.ntmps31
  go_wp2
  go_loopg [5, 18] n (fun g sv kv wr => ∃ k : Nat, g = n - k ∧ k ≤ n ∧ kv = .int .i64 (k : Int) ∧ sv = .int .i64 (TM.sum z k) ∧ (0 ≤ TM.sum z k ∧ TM.sum z k ≤ 64 * k) ∧ Hid (TM.fitsB (z.take k) S = true) ∧ wr = w)
  case atStart => exact ⟨0, by omega, by omega, rfl, rfl, by simp [TM.sum], rfl, rfl⟩
  case round =>
    obtain ⟨k, rfl, hk, rfl, rfl, hsb, hfit, hwr⟩ := hrel
    subst hwr
    by_cases hkn : k < n
    · have hck := HC.out k hkn
      have hts : Hid _ := TM.fits_take z S k (by omega)
      have hpre : Hid _ := TM.fits_prefix z S (k + 1)
      have hsu : Hid (TM.sum z (k + 1) = TM.sum z k + TM.pl (z.getD k 0)) := rfl
      generalize z.getD k 0 = x at *
      by_cases hx : -1 ≤ x ∧ x ≤ S
      · obtain ⟨hx1, hx2⟩ := hx
        have hpb := TM.pl_bound x S hS.1 ⟨hx1, hx2⟩
        go_wp2_with (go_at_call 47; refine (placesOf_any _ _).mono ?_; rintro e w' ⟨rfl, rfl⟩)
        go_roundg (n - (k + 1))
        case rel => exact ⟨k + 1, rfl, by omega, by go_num, vl_int hsu.out.symm, by rw [hsu.out]; omega, by rw [Hid, hts.out, hfit.out]; simp [hx1, hx2], rfl⟩
        case measure => omega
      · by_cases hx0 : x < -1
        all_goals
          go_wp2
          go_ret
          refine ⟨rt_bool ?_, rfl⟩
          rw [hin.out, hpre.out (by rw [hts.out, hfit.out]; simp; omega)]
          rfl
    · obtain rfl : k = n := by omega
      go_wp2
      go_ret
      refine ⟨rt_bool ?_, rfl⟩
      have hf := hfit.out
      rw [List.take_of_length_le (by omega)] at hf
      rw [hin.out, hf]
      rfl

/-- A table in memory: S states of the symbols f, numbers not yet given. -/
def symTab (S : Nat) (f : Nat → Int) : List Value := CM.cellsOf (TM.tab S fun p => (f p, 0, 0))
theorem symTab_put (S : Nat) (f : Nat → Int) (p : Nat) (s : Int) (hp : p < S) : (symTab S f).set (p * 3) (.int .i64 s) = symTab S (TM.upd f p s) := by
  unfold symTab
  rw [show p * 3 = p * 3 + 0 by omega, TM.cells_set _ p 0 (s, 0, 0) _ (by rw [TM.tab_length]; exact hp) (by omega) (by rw [TM.tab_getD _ _ _ hp]; rfl), TM.tab_set]
  congr 1
  apply TM.tab_congr
  intro q hq
  unfold TM.upd
  split <;> rfl
theorem symTab_length (S : Nat) (f : Nat → Int) : (symTab S f).length = S * 3 := by unfold symTab; rw [CM.cellsOf_length, TM.tab_length]
theorem symTab_at (S : Nat) (f : Nat → Int) (p : Nat) (hp : p < S) : (symTab S f)[p * 3]? = some (.int .i64 (f p)) ∧ (symTab S f)[p * 3 + 1]? = some (.int .i64 0) ∧ (symTab S f)[p * 3 + 2]? = some (.int .i64 0) := by
  have := CM.cellsOf_at (TM.tab S fun p => (f p, 0, 0)) p (by rw [TM.tab_length]; exact hp)
  rw [TM.tab_getD _ _ _ hp] at this
  exact this

set_option maxHeartbeats 400000 in
theorem behind_any (a : Option Addr) (n cap : Nat) (z : List Int) (S : Nat) (w0 w : World) (hI : Ints w0 a n z) (hn : 1 ≤ n ∧ n ≤ 16) (hS : TM.Size S) (hf : TM.Fits z S) (hsum : TM.sum z n = S) (hb : Below w0.heap.size w0 w) (hg : Blk w w0.heap.size 40 (symTab S fun _ => 0)) :
    Calls Try.prog 32 #[.slice (some ⟨w0.heap.size, 0, none⟩) S S, .slice a n cap] w fun e w' => e = .returned (.int .i64 ((TM.tb z S n).2 : Int)) ∧ Blk w' w0.heap.size 40 (symTab S (TM.tb z S n).1) ∧ Below w0.heap.size w0 w' := by
  have hS64 : 32 ≤ S ∧ S ≤ 64 := by rcases hS with rfl | rfl <;> omega
  obtain ⟨hl, hbig, hc⟩ := hI
  obtain ⟨b, off, rfl, hlt, hc'⟩ := hc.resolve_left (by omega)
  have HC : Hid _ := hc'
  have HF : Hid (TM.Fits z S) := hf
  have HS : Hid (TM.sum z n = S) := hsum
  clear hc hc' hf hsum
  generalize hgg : w0.heap.size = G at *
  have HGG : Hid _ := hgg
  clear hgg
  go_enter Try.func32, Try.ntmps32
  go_wp2_with fail
  go_loopg [5, 12] n (fun g fv kv wr => ∃ k : Nat, g = n - k ∧ k ≤ n ∧ kv = .int .i64 (k : Int) ∧ fv = .int .i64 ((TM.tb z S k).2 : Int) ∧ Blk wr G 40 (symTab S (TM.tb z S k).1) ∧ Below G w0 wr)
  case atStart => exact ⟨0, by omega, by omega, rfl, rfl, hg, hb⟩
  case round =>
    clear hg hb
    obtain ⟨k, rfl, hk, rfl, rfl, hg, hb⟩ := hrel
    by_cases hkn : k < n
    · have hck : wr.cell? ⟨b, off + k, none⟩ = some (.int .i64 (z.getD k 0)) := (hb.cell (p := ⟨b, off + k, none⟩) hlt).trans (HC.out k hkn)
      have hm := TM.sum_mono z S (by omega) HF.out k n hk
      have hm1 := TM.sum_mono z S (by omega) HF.out (k + 1) n hkn
      have hfr := TM.tb_free z S HF.out (by omega) k (by have := HS.out; omega)
      have hsu : Hid (TM.sum z (k + 1) = TM.sum z k + TM.pl (z.getD k 0)) := rfl
      have htb : Hid (TM.tb z S (k + 1) = if z.getD k 0 = -1 then (TM.upd (TM.tb z S k).1 ((TM.tb z S k).2 - 1) (k : Int), (TM.tb z S k).2 - 1) else TM.tb z S k) := rfl
      generalize z.getD k 0 = x at *
      by_cases hx : x = -1
      · subst hx
        obtain ⟨f', hf'⟩ : ∃ f', (TM.tb z S k).2 = f' + 1 := by
          have h1 := hsu.out
          have h2 := HS.out
          have h3 : TM.pl (-1) = 1 := rfl
          exact ⟨(TM.tb z S k).2 - 1, by omega⟩
        have htb' := htb.out
        rw [if_pos rfl, hf', show f' + 1 - 1 = f' by omega] at htb'
        have HT := htb'
        rw [hf'] at hfr ⊢
        have hft : f' < S := by omega
        obtain ⟨c0, -, -⟩ := symTab_at S (TM.tb z S k).1 f' hft
        have d0 := hg.cell c0
        have d1 := hg.free (f' * 3)
        have HTT : Hid _ := HT
        clear htb' HT hf' htb c0
        have hi1 : (f' : Int) < (S : Int) := by omega
        go_wp2
        go_roundg (n - (k + 1))
        case rel =>
          refine ⟨k + 1, rfl, by omega, by go_num, ?_, ?_, hb.setCell (Nat.le_refl _) _⟩
          · rw [HTT.out]
          · rw [HTT.out]
            simp only
            rw [← symTab_put S _ f' _ hft]
            exact hg.put _ _
        case measure => omega
      · have hxb : (x == -1) = false := by simpa using hx
        have htb' := htb.out
        rw [if_neg hx] at htb'
        have HTT : Hid _ := htb'
        clear htb' htb
        go_wp2
        go_roundg (n - (k + 1))
        case rel => exact ⟨k + 1, rfl, by omega, by go_num, by rw [HTT.out], by rw [HTT.out]; exact hg, hb⟩
        case measure => omega
    · obtain rfl : k = n := by omega
      go_wp2
      go_ret
      exact ⟨rfl, hg, hb⟩

set_option maxHeartbeats 1000000 in
theorem byStep_any (a : Option Addr) (n cap : Nat) (z : List Int) (S free : Nat) (f0 : Nat → Int) (w0 w : World) (hI : Ints w0 a n z) (hn : 1 ≤ n ∧ n ≤ 16) (hS : TM.Size S) (hf : TM.Fits z S) (hfree : free ≤ S) (hbase : TM.base z n = free) (hb : Below w0.heap.size w0 w) (hg : Blk w w0.heap.size 40 (symTab S f0)) :
    Calls Try.prog 33 #[.slice (some ⟨w0.heap.size, 0, none⟩) S S, .slice a n cap, .int .i64 (free : Int)] w fun e w' => e = .returned (.tuple #[]) ∧ Blk w' w0.heap.size 40 (symTab S (TM.fK z S free n f0 S)) ∧ Below w0.heap.size w0 w' := by
  have hS64 : 32 ≤ S ∧ S ≤ 64 := by rcases hS with rfl | rfl <;> omega
  obtain ⟨hl, hbig, hc⟩ := hI
  obtain ⟨b, off, rfl, hlt, hc'⟩ := hc.resolve_left (by omega)
  have HC : Hid _ := hc'
  have HF : Hid (TM.Fits z S) := hf
  have HS : Hid (TM.Size S) := hS
  have HB : Hid (TM.base z n = free) := hbase
  clear hc hc' hf hS hbase
  generalize hgg : w0.heap.size = G at *
  have HGG : Hid _ := hgg
  clear hgg
  have hst : (S : Int) / 2 + (S : Int) / 8 + 3 = (TM.step S : Int) := by unfold TM.step; omega
  have hstb : TM.step S ≤ 64 := by unfold TM.step; omega
  have HST : Hid _ := hst
  go_enter Try.func33, Try.ntmps33
  go_wp2_with fail
  clear hst
  go_loopg [8, 21] n (fun g pv kv wr => ∃ s K : Nat, g = n - s ∧ s ≤ n ∧ K ≤ S ∧ kv = .int .i64 (s : Int) ∧ pv = .int .i64 (TM.P S K : Int) ∧ Hid (TM.cf S free K = TM.base z s) ∧ Blk wr G 40 (symTab S (TM.fK z S free n f0 K)) ∧ Below G w0 wr)
  case atStart => exact ⟨0, 0, by omega, by omega, by omega, rfl, by simp [TM.P], rfl, by rw [show symTab S (TM.fK z S free n f0 0) = symTab S f0 from congrArg CM.cellsOf (TM.tab_congr S _ _ fun p hp => by rw [TM.fK_zero])]; exact hg, hb⟩
  case round =>
    clear hg hb
    obtain ⟨s, K, rfl, hs, hK, rfl, rfl, hcf, hg, hb⟩ := hrel
    by_cases hsn : s < n
    · have hcs : wr.cell? ⟨b, off + s, none⟩ = some (.int .i64 (z.getD s 0)) := (hb.cell (p := ⟨b, off + s, none⟩) hlt).trans (HC.out s hsn)
      have hx := TM.fits_getD z S (by omega) HF.out s
      have hbs : Hid (TM.base z (s + 1) = TM.base z s + (z.getD s 0).toNat) := rfl
      have hbm : Hid (TM.base z (s + 1) ≤ free) := by rw [Hid, ← HB.out]; exact TM.base_mono z (s + 1) n hsn
      generalize z.getD s 0 = x at *
      go_wp2_with fail
      go_loopg [8, 27] x.toNat (fun g pv cv wr => ∃ c K : Nat, g = x.toNat - c ∧ c ≤ x.toNat ∧ K ≤ S ∧ cv = .int .i64 (c : Int) ∧ pv = .int .i64 (TM.P S K : Int) ∧ Hid (TM.cf S free K = TM.base z s + c) ∧ Blk wr G 40 (symTab S (TM.fK z S free n f0 K)) ∧ Below G w0 wr)
      case atStart => exact ⟨0, K, by omega, by omega, hK, rfl, rfl, hcf, hg, hb⟩
      case round =>
        clear hg hb hcf hK hcs
        obtain ⟨c, K, rfl, hc, hK, rfl, rfl, hcf, hg, hb⟩ := hrel
        by_cases hcx : (c : Int) < x
        · have hcd : decide ((c : Int) < x) = true := decide_eq_true hcx
          go_wp2_with fail
          obtain ⟨wo, rfl⟩ : ∃ wo : World, wo = wr := ⟨_, rfl⟩
          go_loopg [8] (S - K) (fun g pv wr => ∃ K : Nat, g = S - K ∧ K ≤ S ∧ pv = .int .i64 (TM.P S K : Int) ∧ Hid (TM.cf S free K = TM.base z s + c) ∧ Blk wo G 40 (symTab S (TM.fK z S free n f0 K)) ∧ wr = wo)
          case atStart => exact ⟨K, rfl, hK, rfl, hcf, hg, rfl⟩
          case round =>
            clear hg hcf hK
            obtain ⟨K, rfl, hK, rfl, hcf, hg, hwr⟩ := hrel
            subst hwr
            have hKS : K < S := TM.cf_lt HS.out hfree K hK (by have := hcf.out; have := hbs.out; have := hbm.out; omega)
            have hPn := TM.P_next S K
            have hPl := TM.P_lt HS.out K
            have hcs : Hid (TM.cf S free (K + 1) = TM.cf S free K + if TM.P S K < free then 1 else 0) := rfl
            by_cases hp : free ≤ TM.P S K
            · go_wp2
              go_roundg (S - (K + 1))
              case rel =>
                refine ⟨K + 1, rfl, by omega, vl_int hPn, ?_, ?_, rfl⟩
                · rw [Hid, hcs.out, if_neg (by omega), hcf.out, Nat.add_zero]
                · rw [← show symTab S (TM.fK z S free n f0 K) = symTab S (TM.fK z S free n f0 (K + 1)) from congrArg CM.cellsOf (TM.tab_congr S _ _ fun p hp' => by rw [TM.fK_skip HS.out K hp p hp'])]
                  exact hg
              case measure => omega
            · have hitem : TM.item z (TM.cf S free K) n = s := TM.item_is z _ s n hsn (by have := hcf.out; omega) (by have := hcf.out; have := hbs.out; omega)
              obtain ⟨c0, -, -⟩ := symTab_at S (TM.fK z S free n f0 K) (TM.P S K) hPl
              have d0 := hg.cell c0
              have d1 := hg.free (TM.P S K * 3)
              have HIT : Hid _ := hitem
              clear hitem c0
              have hi1 : (TM.P S K : Int) < (S : Int) := by omega
              go_wp2
              go_roundg (x.toNat - (c + 1))
              case rel =>
                refine ⟨c + 1, K + 1, rfl, by omega, by omega, by go_num, vl_int hPn, ?_, ?_, hb.setCell (Nat.le_refl _) _⟩
                · rw [Hid, hcs.out, if_pos (by omega), hcf.out]; omega
                · rw [← show symTab S (TM.upd (TM.fK z S free n f0 K) (TM.P S K) (s : Int)) = symTab S (TM.fK z S free n f0 (K + 1)) from congrArg CM.cellsOf (TM.tab_congr S _ _ fun p hp' => by rw [TM.fK_put HS.out K hKS (by omega) s HIT.out p hp']), ← symTab_put S _ _ _ hPl]
                  exact hg.put _ _
              case measure => omega
        · have hcd : decide ((c : Int) < x) = false := decide_eq_false hcx
          go_wp2
          go_roundg (n - (s + 1))
          case rel => exact ⟨s + 1, K, rfl, by omega, hK, by go_num, rfl, by rw [Hid, hbs.out, hcf.out]; omega, hg, hb⟩
          case measure => omega
    · obtain rfl : s = n := by omega
      go_wp2
      go_end0
      refine ⟨rfl, ?_, hb⟩
      rw [← show symTab S (TM.fK z S free s f0 K) = symTab S (TM.fK z S free s f0 S) from congrArg CM.cellsOf (TM.tab_congr S _ _ fun p hp' => by rw [TM.fK_end HS.out hfree K hK (by rw [hcf.out, HB.out]) p hp'])]
      exact hg
end Go.Proofs.Ytbhemchnjpajiaa

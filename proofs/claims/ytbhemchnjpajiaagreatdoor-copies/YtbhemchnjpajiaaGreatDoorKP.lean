/- Several texts in one: TabWalks, TabNum, PrMap. -/
import Derived.Test.YtbhemchnjpajiaaGreatDoorJE
import Derived.Test.YtbhemchnjpajiaaGreatDoorJA
import Derived.Deep.RegionHeld3
import Derived.Test.YtbhemchnjpajiaaGreatDoorKO
import Derived.DeepKeys4
import Derived.Maps.OwnSet
/- The program's tables of states, walked: which counts are right, the places from behind, the places by the step. -/
namespace Go.Proofs.YtbhemchnjpajiaaGreatDoor
open Go.RowKit
set_option linter.unusedVariables false

theorem placesOf_any (c : Int) (w : World) :
    Calls Tryz.prog 181 #[.int .i64 c] w fun e w' => e = .returned (.int .i64 (TM.pl c)) ∧ w = w' := by
  by_cases h : c = -1
  · subst h
    go_enter Tryz.func181, Tryz.ntmps181
    go_wp2
    go_ret
    exact ⟨rfl, rfl⟩
  · have hb : (c == -1) = false := by simpa using h
    have hp : Hid (TM.pl c = c) := by rw [Hid, TM.pl, if_neg h]
    clear h
    go_enter Tryz.func181, Tryz.ntmps181
    go_wp2
    go_ret
    exact ⟨rt_int hp.out.symm, rfl⟩

set_option maxHeartbeats 400000 in
theorem fill_any (a : Option Addr) (n cap : Nat) (z : List Int) (S : Int) (w : World) (hI : Ints w a n z) (hS : 1 ≤ S ∧ S ≤ 64) :
    Calls Tryz.prog 177 #[.slice a n cap, .int .i64 S] w fun e w' => e = .returned (.bool (TM.fillB z S)) ∧ w = w' := by
  obtain ⟨hl, hbig, hc⟩ := hI
  by_cases hn : n = 0
  · have hf : Hid (TM.fillB z S = false) := by rw [Hid]; simp [TM.fillB, hl, hn]
    subst hn
    go_enter Tryz.func177, Tryz.ntmps177
    go_wp2
    go_ret
    exact ⟨rt_bool hf.out.symm, rfl⟩
  have hn0 : ((n : Int) == 0) = false := by simp; omega
  by_cases h16 : 16 < n
  · have hf : Hid (TM.fillB z S = false) := by rw [Hid]; simp [TM.fillB, hl]; omega
    go_enter Tryz.func177, Tryz.ntmps177
    go_wp2
    go_ret
    exact ⟨rt_bool hf.out.symm, rfl⟩
  obtain ⟨b, off, rfl, hlt, hc'⟩ := hc.resolve_left hn
  have HC : Hid _ := hc'
  clear hc hc'
  have hin : Hid (TM.fillB z S = (TM.fitsB z S && (TM.sum z n == S))) := by
    rw [Hid]
    have h1 : 1 ≤ n := by omega
    have h2 : n ≤ 16 := by omega
    simp [TM.fillB, hl, h1, h2]
  go_enter Tryz.func177, Tryz.ntmps177
  go_wp2
  go_loopg [5, 18] n (fun g sv kv wr => ∃ k : Nat, g = n - k ∧ k ≤ n ∧ kv = .int .i64 (k : Int) ∧ sv = .int .i64 (TM.sum z k) ∧ (0 ≤ TM.sum z k ∧ TM.sum z k ≤ 64 * k) ∧ Hid (TM.fitsB (z.take k) S = true) ∧ wr = w)
  case atStart => exact ⟨0, by omega, by omega, rfl, rfl, by simp [TM.sum], rfl, rfl⟩
  case round =>
    obtain ⟨k, rfl, hk, rfl, rfl, hsb, hfit, hwr⟩ := hrel
    subst hwr
    by_cases hkn : k < n
    · have hck := HC.out k hkn
      have hts : Hid _ := TM.fits_take z S k (by omega)
      have hpre : Hid _ := TM.fits_prefix z S (k + 1)
      have hsu : Hid (TM.sum z (k + 1) = TM.sum z k + TM.pl (z.getD k 0)) := rfl
      generalize z.getD k 0 = x at *
      by_cases hx : -1 ≤ x ∧ x ≤ S
      · obtain ⟨hx1, hx2⟩ := hx
        have hpb := TM.pl_bound x S hS.1 ⟨hx1, hx2⟩
        go_wp2_with (go_at_call 181; refine (placesOf_any _ _).mono ?_; rintro e w' ⟨rfl, rfl⟩)
        go_roundg (n - (k + 1))
        case rel => exact ⟨k + 1, rfl, by omega, by go_num, vl_int hsu.out.symm, by rw [hsu.out]; omega, by rw [Hid, hts.out, hfit.out]; simp [hx1, hx2], rfl⟩
        case measure => omega
      · by_cases hx0 : x < -1
        all_goals
          go_wp2
          go_ret
          refine ⟨rt_bool ?_, rfl⟩
          rw [hin.out, hpre.out (by rw [hts.out, hfit.out]; simp; omega)]
          rfl
    · obtain rfl : k = n := by omega
      go_wp2
      go_ret
      refine ⟨rt_bool ?_, rfl⟩
      have hf := hfit.out
      rw [List.take_of_length_le (by omega)] at hf
      rw [hin.out, hf]
      rfl

/-- A table in memory: S states of the symbols f, numbers not yet given. -/
def symTab (S : Nat) (f : Nat → Int) : List Value := CM.cellsOf (TM.tab S fun p => (f p, 0, 0))
theorem symTab_put (S : Nat) (f : Nat → Int) (p : Nat) (s : Int) (hp : p < S) : (symTab S f).set (p * 3) (.int .i64 s) = symTab S (TM.upd f p s) := by
  unfold symTab
  rw [show p * 3 = p * 3 + 0 by omega, TM.cells_set _ p 0 (s, 0, 0) _ (by rw [TM.tab_length]; exact hp) (by omega) (by rw [TM.tab_getD _ _ _ hp]; rfl), TM.tab_set]
  congr 1
  apply TM.tab_congr
  intro q hq
  unfold TM.upd
  split <;> rfl
theorem symTab_length (S : Nat) (f : Nat → Int) : (symTab S f).length = S * 3 := by unfold symTab; rw [CM.cellsOf_length, TM.tab_length]
theorem symTab_at (S : Nat) (f : Nat → Int) (p : Nat) (hp : p < S) : (symTab S f)[p * 3]? = some (.int .i64 (f p)) ∧ (symTab S f)[p * 3 + 1]? = some (.int .i64 0) ∧ (symTab S f)[p * 3 + 2]? = some (.int .i64 0) := by
  have := CM.cellsOf_at (TM.tab S fun p => (f p, 0, 0)) p (by rw [TM.tab_length]; exact hp)
  rw [TM.tab_getD _ _ _ hp] at this
  exact this

set_option maxHeartbeats 400000 in
theorem behind_any (a : Option Addr) (n cap : Nat) (z : List Int) (S : Nat) (w0 w : World) (hI : Ints w0 a n z) (hn : 1 ≤ n ∧ n ≤ 16) (hS : TM.Size S) (hf : TM.Fits z S) (hsum : TM.sum z n = S) (hb : Below w0.heap.size w0 w) (hg : Blk w w0.heap.size 226 (symTab S fun _ => 0)) :
    Calls Tryz.prog 178 #[.slice (some ⟨w0.heap.size, 0, none⟩) S S, .slice a n cap] w fun e w' => e = .returned (.int .i64 ((TM.tb z S n).2 : Int)) ∧ Blk w' w0.heap.size 226 (symTab S (TM.tb z S n).1) ∧ Below w0.heap.size w0 w' := by
  have hS64 : 32 ≤ S ∧ S ≤ 64 := by rcases hS with rfl | rfl <;> omega
  obtain ⟨hl, hbig, hc⟩ := hI
  obtain ⟨b, off, rfl, hlt, hc'⟩ := hc.resolve_left (by omega)
  have HC : Hid _ := hc'
  have HF : Hid (TM.Fits z S) := hf
  have HS : Hid (TM.sum z n = S) := hsum
  clear hc hc' hf hsum
  generalize hgg : w0.heap.size = G at *
  have HGG : Hid _ := hgg
  clear hgg
  go_enter Tryz.func178, Tryz.ntmps178
  go_wp2_with fail
  go_loopg [5, 12] n (fun g fv kv wr => ∃ k : Nat, g = n - k ∧ k ≤ n ∧ kv = .int .i64 (k : Int) ∧ fv = .int .i64 ((TM.tb z S k).2 : Int) ∧ Blk wr G 226 (symTab S (TM.tb z S k).1) ∧ Below G w0 wr)
  case atStart => exact ⟨0, by omega, by omega, rfl, rfl, hg, hb⟩
  case round =>
    clear hg hb
    obtain ⟨k, rfl, hk, rfl, rfl, hg, hb⟩ := hrel
    by_cases hkn : k < n
    · have hck : wr.cell? ⟨b, off + k, none⟩ = some (.int .i64 (z.getD k 0)) := (hb.cell (p := ⟨b, off + k, none⟩) hlt).trans (HC.out k hkn)
      have hm := TM.sum_mono z S (by omega) HF.out k n hk
      have hm1 := TM.sum_mono z S (by omega) HF.out (k + 1) n hkn
      have hfr := TM.tb_free z S HF.out (by omega) k (by have := HS.out; omega)
      have hsu : Hid (TM.sum z (k + 1) = TM.sum z k + TM.pl (z.getD k 0)) := rfl
      have htb : Hid (TM.tb z S (k + 1) = if z.getD k 0 = -1 then (TM.upd (TM.tb z S k).1 ((TM.tb z S k).2 - 1) (k : Int), (TM.tb z S k).2 - 1) else TM.tb z S k) := rfl
      generalize z.getD k 0 = x at *
      by_cases hx : x = -1
      · subst hx
        obtain ⟨f', hf'⟩ : ∃ f', (TM.tb z S k).2 = f' + 1 := by
          have h1 := hsu.out
          have h2 := HS.out
          have h3 : TM.pl (-1) = 1 := rfl
          exact ⟨(TM.tb z S k).2 - 1, by omega⟩
        have htb' := htb.out
        rw [if_pos rfl, hf', show f' + 1 - 1 = f' by omega] at htb'
        have HT := htb'
        rw [hf'] at hfr ⊢
        have hft : f' < S := by omega
        obtain ⟨c0, -, -⟩ := symTab_at S (TM.tb z S k).1 f' hft
        have d0 := hg.cell c0
        have d1 := hg.free (f' * 3)
        have HTT : Hid _ := HT
        clear htb' HT hf' htb c0
        have hi1 : (f' : Int) < (S : Int) := by omega
        go_wp2
        go_roundg (n - (k + 1))
        case rel =>
          refine ⟨k + 1, rfl, by omega, by go_num, ?_, ?_, hb.setCell (Nat.le_refl _) _⟩
          · rw [HTT.out]
          · rw [HTT.out]
            simp only
            rw [← symTab_put S _ f' _ hft]
            exact hg.put _ _
        case measure => omega
      · have hxb : (x == -1) = false := by simpa using hx
        have htb' := htb.out
        rw [if_neg hx] at htb'
        have HTT : Hid _ := htb'
        clear htb' htb
        go_wp2
        go_roundg (n - (k + 1))
        case rel => exact ⟨k + 1, rfl, by omega, by go_num, by rw [HTT.out], by rw [HTT.out]; exact hg, hb⟩
        case measure => omega
    · obtain rfl : k = n := by omega
      go_wp2
      go_ret
      exact ⟨rfl, hg, hb⟩

set_option maxHeartbeats 1000000 in
theorem byStep_any (a : Option Addr) (n cap : Nat) (z : List Int) (S free : Nat) (f0 : Nat → Int) (w0 w : World) (hI : Ints w0 a n z) (hn : 1 ≤ n ∧ n ≤ 16) (hS : TM.Size S) (hf : TM.Fits z S) (hfree : free ≤ S) (hbase : TM.base z n = free) (hb : Below w0.heap.size w0 w) (hg : Blk w w0.heap.size 226 (symTab S f0)) :
    Calls Tryz.prog 179 #[.slice (some ⟨w0.heap.size, 0, none⟩) S S, .slice a n cap, .int .i64 (free : Int)] w fun e w' => e = .returned (.tuple #[]) ∧ Blk w' w0.heap.size 226 (symTab S (TM.fK z S free n f0 S)) ∧ Below w0.heap.size w0 w' := by
  have hS64 : 32 ≤ S ∧ S ≤ 64 := by rcases hS with rfl | rfl <;> omega
  obtain ⟨hl, hbig, hc⟩ := hI
  obtain ⟨b, off, rfl, hlt, hc'⟩ := hc.resolve_left (by omega)
  have HC : Hid _ := hc'
  have HF : Hid (TM.Fits z S) := hf
  have HS : Hid (TM.Size S) := hS
  have HB : Hid (TM.base z n = free) := hbase
  clear hc hc' hf hS hbase
  generalize hgg : w0.heap.size = G at *
  have HGG : Hid _ := hgg
  clear hgg
  have hst : (S : Int) / 2 + (S : Int) / 8 + 3 = (TM.step S : Int) := by unfold TM.step; omega
  have hstb : TM.step S ≤ 64 := by unfold TM.step; omega
  have HST : Hid _ := hst
  go_enter Tryz.func179, Tryz.ntmps179
  go_wp2_with fail
  clear hst
  go_loopg [8, 21] n (fun g pv kv wr => ∃ s K : Nat, g = n - s ∧ s ≤ n ∧ K ≤ S ∧ kv = .int .i64 (s : Int) ∧ pv = .int .i64 (TM.P S K : Int) ∧ Hid (TM.cf S free K = TM.base z s) ∧ Blk wr G 226 (symTab S (TM.fK z S free n f0 K)) ∧ Below G w0 wr)
  case atStart => exact ⟨0, 0, by omega, by omega, by omega, rfl, by simp [TM.P], rfl, by rw [show symTab S (TM.fK z S free n f0 0) = symTab S f0 from congrArg CM.cellsOf (TM.tab_congr S _ _ fun p hp => by rw [TM.fK_zero])]; exact hg, hb⟩
  case round =>
    clear hg hb
    obtain ⟨s, K, rfl, hs, hK, rfl, rfl, hcf, hg, hb⟩ := hrel
    by_cases hsn : s < n
    · have hcs : wr.cell? ⟨b, off + s, none⟩ = some (.int .i64 (z.getD s 0)) := (hb.cell (p := ⟨b, off + s, none⟩) hlt).trans (HC.out s hsn)
      have hx := TM.fits_getD z S (by omega) HF.out s
      have hbs : Hid (TM.base z (s + 1) = TM.base z s + (z.getD s 0).toNat) := rfl
      have hbm : Hid (TM.base z (s + 1) ≤ free) := by rw [Hid, ← HB.out]; exact TM.base_mono z (s + 1) n hsn
      generalize z.getD s 0 = x at *
      go_wp2_with fail
      go_loopg [8, 27] x.toNat (fun g pv cv wr => ∃ c K : Nat, g = x.toNat - c ∧ c ≤ x.toNat ∧ K ≤ S ∧ cv = .int .i64 (c : Int) ∧ pv = .int .i64 (TM.P S K : Int) ∧ Hid (TM.cf S free K = TM.base z s + c) ∧ Blk wr G 226 (symTab S (TM.fK z S free n f0 K)) ∧ Below G w0 wr)
      case atStart => exact ⟨0, K, by omega, by omega, hK, rfl, rfl, hcf, hg, hb⟩
      case round =>
        clear hg hb hcf hK hcs
        obtain ⟨c, K, rfl, hc, hK, rfl, rfl, hcf, hg, hb⟩ := hrel
        by_cases hcx : (c : Int) < x
        · have hcd : decide ((c : Int) < x) = true := decide_eq_true hcx
          go_wp2_with fail
          obtain ⟨wo, rfl⟩ : ∃ wo : World, wo = wr := ⟨_, rfl⟩
          go_loopg [8] (S - K) (fun g pv wr => ∃ K : Nat, g = S - K ∧ K ≤ S ∧ pv = .int .i64 (TM.P S K : Int) ∧ Hid (TM.cf S free K = TM.base z s + c) ∧ Blk wo G 226 (symTab S (TM.fK z S free n f0 K)) ∧ wr = wo)
          case atStart => exact ⟨K, rfl, hK, rfl, hcf, hg, rfl⟩
          case round =>
            clear hg hcf hK
            obtain ⟨K, rfl, hK, rfl, hcf, hg, hwr⟩ := hrel
            subst hwr
            have hKS : K < S := TM.cf_lt HS.out hfree K hK (by have := hcf.out; have := hbs.out; have := hbm.out; omega)
            have hPn := TM.P_next S K
            have hPl := TM.P_lt HS.out K
            have hcs : Hid (TM.cf S free (K + 1) = TM.cf S free K + if TM.P S K < free then 1 else 0) := rfl
            by_cases hp : free ≤ TM.P S K
            · go_wp2
              go_roundg (S - (K + 1))
              case rel =>
                refine ⟨K + 1, rfl, by omega, vl_int hPn, ?_, ?_, rfl⟩
                · rw [Hid, hcs.out, if_neg (by omega), hcf.out, Nat.add_zero]
                · rw [← show symTab S (TM.fK z S free n f0 K) = symTab S (TM.fK z S free n f0 (K + 1)) from congrArg CM.cellsOf (TM.tab_congr S _ _ fun p hp' => by rw [TM.fK_skip HS.out K hp p hp'])]
                  exact hg
              case measure => omega
            · have hitem : TM.item z (TM.cf S free K) n = s := TM.item_is z _ s n hsn (by have := hcf.out; omega) (by have := hcf.out; have := hbs.out; omega)
              obtain ⟨c0, -, -⟩ := symTab_at S (TM.fK z S free n f0 K) (TM.P S K) hPl
              have d0 := hg.cell c0
              have d1 := hg.free (TM.P S K * 3)
              have HIT : Hid _ := hitem
              clear hitem c0
              have hi1 : (TM.P S K : Int) < (S : Int) := by omega
              go_wp2
              go_roundg (x.toNat - (c + 1))
              case rel =>
                refine ⟨c + 1, K + 1, rfl, by omega, by omega, by go_num, vl_int hPn, ?_, ?_, hb.setCell (Nat.le_refl _) _⟩
                · rw [Hid, hcs.out, if_pos (by omega), hcf.out]; omega
                · rw [← show symTab S (TM.upd (TM.fK z S free n f0 K) (TM.P S K) (s : Int)) = symTab S (TM.fK z S free n f0 (K + 1)) from congrArg CM.cellsOf (TM.tab_congr S _ _ fun p hp' => by rw [TM.fK_put HS.out K hKS (by omega) s HIT.out p hp']), ← symTab_put S _ _ _ hPl]
                  exact hg.put _ _
              case measure => omega
        · have hcd : decide ((c : Int) < x) = false := decide_eq_false hcx
          go_wp2
          go_roundg (n - (s + 1))
          case rel => exact ⟨s + 1, K, rfl, by omega, hK, by go_num, rfl, by rw [Hid, hbs.out, hcf.out]; omega, hg, hb⟩
          case measure => omega
    · obtain rfl : s = n := by omega
      go_wp2
      go_end0
      refine ⟨rfl, ?_, hb⟩
      rw [← show symTab S (TM.fK z S free s f0 K) = symTab S (TM.fK z S free s f0 S) from congrArg CM.cellsOf (TM.tab_congr S _ _ fun p hp' => by rw [TM.fK_end HS.out hfree K hK (by rw [hcf.out, HB.out]) p hp'])]
      exact hg
end Go.Proofs.YtbhemchnjpajiaaGreatDoor

/- The program's tables of states, walked: the numbers of the states, and States itself. -/
namespace Go.Proofs.YtbhemchnjpajiaaGreatDoor
open Go.RowKit
set_option linter.unusedVariables false

def nxt (z : List Int) (f : Nat → Int) (k p : Nat) : List Value := (List.range 16).map fun s => .int .i64 ((if s < k then TM.pl (z.getD s 0) else 0) + TM.cntEq f (s : Int) p)
theorem nxt_at (z : List Int) (f : Nat → Int) (k p s : Nat) (h : s < 16) : (nxt z f k p)[s]? = some (.int .i64 ((if s < k then TM.pl (z.getD s 0) else 0) + TM.cntEq f (s : Int) p)) := by simp [nxt, h]
theorem nxt_first (z : List Int) (f : Nat → Int) (k : Nat) (h : k < 16) : (nxt z f k 0).set k (.int .i64 (TM.pl (z.getD k 0))) = nxt z f (k + 1) 0 := by
  apply List.ext_getElem
  · simp [nxt]
  · intro i h1 h2
    simp only [nxt, List.getElem_set, List.getElem_map, List.getElem_range]
    by_cases e : k = i
    · subst e; simp [TM.cntEq]
    · rw [if_neg e]
      by_cases e2 : i < k
      · rw [if_pos e2, if_pos (by omega)]
      · rw [if_neg e2, if_neg (by omega)]
theorem nxt_next (z : List Int) (f : Nat → Int) (n p s : Nat) (hs : s < 16) (hsn : s < n) (hf : f p = (s : Int)) (x : Int) (hx : x = TM.pl (z.getD s 0) + TM.cntEq f (s : Int) p + 1) : (nxt z f n p).set s (.int .i64 x) = nxt z f n (p + 1) := by
  apply List.ext_getElem
  · simp [nxt]
  · intro i h1 h2
    simp only [nxt, List.getElem_set, List.getElem_map, List.getElem_range, TM.cntEq, hf]
    by_cases e : s = i
    · subst e
      rw [if_pos rfl, if_pos hsn, if_pos rfl, hx]
      congr 1
      omega
    · rw [if_neg e, if_neg (show ¬ (s : Int) = (i : Int) by omega)]
      rfl

def numTab (z : List Int) (log S : Int) (f : Nat → Int) (p : Nat) : Nat → CM.Tri := fun q => if q < p then TM.st z log S f q else (f q, 0, 0)

theorem numTab_zero (z : List Int) (log S : Int) (f : Nat → Int) (SS : Nat) : CM.cellsOf (TM.tab SS (numTab z log S f 0)) = symTab SS f := by
  unfold symTab
  congr 1
theorem numTab_at (z : List Int) (log S : Int) (f : Nat → Int) (SS p : Nat) (h : p < SS) :
    (CM.cellsOf (TM.tab SS (numTab z log S f p)))[p * 3]? = some (.int .i64 (f p)) ∧ (CM.cellsOf (TM.tab SS (numTab z log S f p)))[p * 3 + 1]? = some (.int .i64 0) ∧ (CM.cellsOf (TM.tab SS (numTab z log S f p)))[p * 3 + 2]? = some (.int .i64 0) := by
  have := CM.cellsOf_at (TM.tab SS (numTab z log S f p)) p (by rw [TM.tab_length]; exact h)
  rw [TM.tab_getD _ _ _ h] at this
  simpa [numTab] using this
theorem numTab_step (z : List Int) (log S : Int) (f : Nat → Int) (SS p : Nat) (h : p < SS) :
    ((CM.cellsOf (TM.tab SS (numTab z log S f p))).set (p * 3 + 1) (.int .i64 (TM.bt log (TM.X z f p)))).set (p * 3 + 2) (.int .i64 (TM.bs log S (TM.X z f p))) = CM.cellsOf (TM.tab SS (numTab z log S f (p + 1))) := by
  rw [TM.cells_set _ p 1 (f p, TM.bt log (TM.X z f p), 0) _ (by rw [TM.tab_length]; exact h) (by omega) (by rw [TM.tab_getD _ _ _ h]; simp [numTab]), TM.tab_set]
  rw [TM.cells_set _ p 2 (TM.st z log S f p) _ (by rw [TM.tab_length]; exact h) (by omega) (by rw [TM.tab_getD _ _ _ h]; simp [TM.upd, TM.st]), TM.tab_set]
  congr 1
  apply TM.tab_congr
  intro q hq
  unfold TM.upd numTab
  by_cases e : q = p
  · subst e; simp
  · rw [if_neg e, if_neg e]
    by_cases e2 : q < p
    · rw [if_pos e2, if_pos (by omega)]
    · rw [if_neg e2, if_neg (by omega)]
theorem numTab_end (z : List Int) (log S : Int) (f : Nat → Int) (SS : Nat) : CM.cellsOf (TM.tab SS (numTab z log S f SS)) = CM.cellsOf (TM.tab SS (TM.st z log S f)) := by
  congr 1
  apply TM.tab_congr
  intro q hq
  unfold numTab
  rw [if_pos hq]

set_option maxRecDepth 100000 in
set_option maxHeartbeats 1000000 in
theorem number_any (a : Option Addr) (n cap : Nat) (z : List Int) (log : Nat) (f : Nat → Int) (w0 w : World) (hI : Ints w0 a n z) (hn : 1 ≤ n ∧ n ≤ 16) (hlog : log = 5 ∨ log = 6) (hf : TM.Fits z (2 ^ log : Nat)) (hsy : TM.Syms z (2 ^ log) n f) (hb : Below w0.heap.size w0 w) (hg : Blk w w0.heap.size 226 (symTab (2 ^ log) f)) :
    Calls Tryz.prog 180 #[.slice (some ⟨w0.heap.size, 0, none⟩) (2 ^ log) (2 ^ log), .slice a n cap, .int .i64 (log : Int)] w fun e w' => e = .returned (.tuple #[]) ∧ Blk w' w0.heap.size 226 (CM.cellsOf (TM.tab (2 ^ log) (TM.st z log (2 ^ log : Nat) f))) ∧ Below w0.heap.size w0 w' := by
  obtain ⟨hl, hbig, hc⟩ := hI
  obtain ⟨b, off, rfl, hlt, hc'⟩ := hc.resolve_left (by omega)
  have HC : Hid _ := hc'
  have HF := hid' hf
  have HSY := hid' hsy
  clear hc hc' hf hsy
  generalize hgg : w0.heap.size = G at *
  have HGG : Hid _ := hgg
  clear hgg
  obtain ⟨SS, hSS⟩ : ∃ SS : Nat, SS = 2 ^ log := ⟨_, rfl⟩
  have hS64 : 32 ≤ SS ∧ SS ≤ 64 := by rw [hSS]; rcases hlog with rfl | rfl <;> decide
  rw [← hSS] at HF HSY hg ⊢
  have HSS : Hid _ := hSS
  clear hSS
  have hlg : 5 ≤ log ∧ log ≤ 6 := by omega
  have HLG : Hid (log = 5 ∨ log = 6) := hlog
  clear hlog
  go_enter Tryz.func180, Tryz.ntmps180
  go_wp2_with fail
  have hGl := hg.lt
  have hn0 : Blk (w.alloc (.cells (nxt z f 0 0).toArray 292)) w.heap.size 292 (nxt z f 0 0) := Blk.new w _ _
  generalize hgn : w.heap.size = GN at *
  have HGN : Hid _ := hgn
  clear hgn
  go_loopg [14] n (fun g kv wr => ∃ k : Nat, g = n - k ∧ k ≤ n ∧ kv = .int .i64 (k : Int) ∧ Blk wr GN 292 (nxt z f k 0) ∧ Blk wr G 226 (symTab SS f) ∧ Below G w0 wr)
  case atStart => exact ⟨0, by omega, by omega, rfl, hn0, hg.alloc _, hb.alloc (by have := HGN.out; omega) _⟩
  case round =>
    clear hn0 hg hb
    obtain ⟨k, rfl, hk, rfl, hnx, hg, hb⟩ := hrel
    by_cases hkn : k < n
    · have hck : wr.cell? ⟨b, off + k, none⟩ = some (.int .i64 (z.getD k 0)) := (hb.cell (p := ⟨b, off + k, none⟩) hlt).trans (HC.out k hkn)
      have hst := nxt_first z f k (by omega)
      have d0 := hnx.cell (nxt_at z f k 0 k (by omega))
      have d1 := hnx.free k
      have HST : Hid _ := hst
      clear hst
      generalize z.getD k 0 = x at *
      have i1 : (k : Int) < 16 := by omega
      go_wp2_with (go_at_call 181; refine (placesOf_any _ _).mono ?_; rintro e w' ⟨rfl, rfl⟩)
      go_roundg (n - (k + 1))
      case rel =>
        refine ⟨k + 1, rfl, by omega, by go_num, ?_, hg.other _ _ (by simp only; omega), hb.setCell (by simp only; omega) _⟩
        rw [← HST.out]
        exact hnx.put _ _
      case measure => omega
    · obtain rfl : k = n := by omega
      rw [← numTab_zero z log SS f SS] at hg
      go_wp2_with fail
      go_loopg [26] SS (fun g pv wr => ∃ p : Nat, g = SS - p ∧ p ≤ SS ∧ pv = .int .i64 (p : Int) ∧ Blk wr GN 292 (nxt z f k p) ∧ Blk wr G 226 (CM.cellsOf (TM.tab SS (numTab z log SS f p))) ∧ Below G w0 wr)
      case atStart => exact ⟨0, by omega, by omega, rfl, hnx, hg, hb⟩
      case round =>
        clear hnx hg hb
        obtain ⟨p, rfl, hp, rfl, hnx, hg, hb⟩ := hrel
        by_cases hpS : p < SS
        · obtain ⟨s, hfs, hsn, hpl⟩ := HSY.out p hpS
          have hX := TM.X_bound z SS (by omega) HF.out f p hpS ⟨s, hfs, hpl⟩
          obtain ⟨c0, c1, c2⟩ := numTab_at z log SS f SS p hpS
          rw [hfs] at c0
          have d0 := hg.cell c0
          have d1 := hg.cell c1
          have d2 := hg.cell c2
          have f1 := hg.free (p * 3 + 1)
          have f2 := hg.free (p * 3 + 2)
          have e0 := hnx.cell (nxt_at z f k p s (by omega))
          rw [if_pos hsn] at e0
          have ex : TM.pl (z.getD s 0) + (TM.cntEq f (s : Int) p : Int) = TM.X z f p := by unfold TM.X; rw [hfs, Int.toNat_natCast]
          have hnn := nxt_next z f k p s (by omega) hsn hfs (TM.X z f p + 1) (by rw [← ex])
          rw [ex] at e0
          have e1 := hnx.free s
          have hstp := numTab_step z log SS f SS p hpS
          have hbs := TM.bs_range log (by omega) (TM.X z f p) hX.1 (by
            have := HSS.out
            have c : ((2 ^ (log + 1) : Nat) : Int) = (2 : Int) ^ (log + 1) := by simp
            rw [← c, Nat.pow_succ, ← this]
            omega)
          have hlen := CM.len_bound (TM.X z f p) (by omega) (by omega)
          have hbt : (log : Int) + 1 - CM.len (TM.X z f p) = TM.bt log (TM.X z f p) := rfl
          have hbsd : TM.X z f p * 2 ^ (TM.bt log (TM.X z f p)).toNat - (SS : Int) = TM.bs log SS (TM.X z f p) := rfl
          have hpow : ((2 : Int) ^ log) = (SS : Int) := by have := HSS.out; rw [this]; simp
          generalize TM.X z f p = x at *
          have HNN : Hid _ := hnn
          have HSTP : Hid _ := hstp
          have HBSD : Hid _ := hbsd
          have HFS : Hid _ := hfs
          clear hnn hstp hbsd hfs ex c0 c1 c2
          have i1 : (s : Int) < 16 := by omega
          have i2 : (p : Int) < (SS : Int) := by omega
          have hGN : G ≠ GN := by omega
          have hGN' : GN ≠ G := by omega
          go_wp2_with (go_at_call 155; refine (len_any x _ (by omega) (by omega)).mono ?_; rintro e w' ⟨rfl, rfl⟩)
          generalize hBB : TM.bt log x = Bt at *
          have hYb : x * 2 ^ Bt.toNat ≤ 128 := by
            have := hbs.2.2.2
            have h2 := CM.pow_pos Bt.toNat
            rw [Int.add_mul] at this
            have h3 := CM.pow_le (log + 1) 7 (by omega)
            omega
          have hY0 : 0 ≤ x * 2 ^ Bt.toNat := by have := hbs.2.2.1; have := CM.pow_pos log; omega
          have hB0 := hbs.1
          have hB1 := hbs.2.1
          have hw1 : IntKind.i64.wrap (x * 2 ^ Bt.toNat) = x * 2 ^ Bt.toNat := by rw [IntWalk.i64_left, IntWalk.wrap64_in _ (by omega)]
          have hw2 : IntKind.i64.wrap (x * 2 ^ Bt.toNat - (SS : Int)) = x * 2 ^ Bt.toNat - (SS : Int) := by rw [IntWalk.i64_left, IntWalk.wrap64_in _ (by omega)]
          have hw3 : IntKind.i64.wrap (2 ^ log) = (SS : Int) := by rw [IntWalk.i64_left, hpow, IntWalk.wrap64_in _ (by omega)]
          have hcl : (CM.cellsOf (TM.tab SS (numTab z log SS f p))).length = SS * 3 := by rw [CM.cellsOf_length, TM.tab_length]
          have hgW : Blk ((wr.setCell ⟨GN, s, none⟩ (.int .i64 (x + 1))).setCell ⟨G, p * 3 + 1, none⟩ (.int .i64 Bt)) G 226 ((CM.cellsOf (TM.tab SS (numTab z log SS f p))).set (p * 3 + 1) (.int .i64 Bt)) := (hg.other _ _ (by simp only; omega)).put _ _
          have hnW : Blk ((wr.setCell ⟨GN, s, none⟩ (.int .i64 (x + 1))).setCell ⟨G, p * 3 + 1, none⟩ (.int .i64 Bt)) GN 292 (nxt z f k (p + 1)) := by
            rw [← HNN.out]
            exact (hnx.put _ _).other _ _ (by simp only; omega)
          have hbW : Below G w0 ((wr.setCell ⟨GN, s, none⟩ (.int .i64 (x + 1))).setCell ⟨G, p * 3 + 1, none⟩ (.int .i64 Bt)) := (hb.setCell (by simp only; omega) _).setCell (Nat.le_refl _) _
          clear hbs e0 e1 d0 d1 d2 f1 f2 hg hnx hb
          generalize (wr.setCell ⟨GN, s, none⟩ (.int .i64 (x + 1))).setCell ⟨G, p * 3 + 1, none⟩ (.int .i64 Bt) = W1 at *
          have d1 : W1.cell? ⟨G, p * 3 + 1, none⟩ = some (.int .i64 Bt) := hgW.cell (by rw [List.getElem?_set_self (by omega)])
          obtain ⟨u2, hu2⟩ : ∃ u, ((CM.cellsOf (TM.tab SS (numTab z log SS f p))).set (p * 3 + 1) (.int .i64 Bt))[p * 3 + 2]? = some u := ⟨_, List.getElem?_eq_getElem (by simp; omega)⟩
          have d2 := hgW.cell hu2
          have f2 := hgW.free (p * 3 + 2)
          clear hu2
          have hk2 : ∀ v, (W1.setCell ⟨G, p * 3 + 2, none⟩ v).cell? ⟨G, p * 3 + 1, none⟩ = some (.int .i64 Bt) := by
            intro v
            rw [World.cell?_setCell_other _ _ _ _ (fun e => by have := congrArg Addr.off e; simp at this)]
            exact d1
          have hw4 : IntKind.i64.wrap (SS : Int) = (SS : Int) := by rw [IntWalk.i64_left, IntWalk.wrap64_in _ (by omega)]
          go_region_held3 (fun w' => w'.cell? ⟨G, p * 3 + 1, none⟩ = some (.int .i64 Bt)) (go_keep) (fail)
          go_wp2
          go_roundg (SS - (p + 1))
          case rel =>
            refine ⟨p + 1, rfl, by omega, by go_num, ?_, ?_, ?_⟩
            · exact (hnW.other _ _ (by simp only; omega)).drew
            · rw [← HSTP.out, ← HBSD.out]
              exact (hgW.put _ _).drew
            · exact (hbW.setCell (Nat.le_refl _) _).drew
          case measure => omega
        · obtain rfl : p = SS := by omega
          go_wp2
          go_end0
          refine ⟨rfl, ?_, hb⟩
          rw [← numTab_end]
          exact hg

theorem infoState : (Tryz.prog.info? 226).map (fun i => (i.zero, i.size, i.bytes)) = some (some (.agg #[.int .i64 0, .int .i64 0, .int .i64 0]), 3, 24) := by kernel_rfl
theorem symTab_zero (S : Nat) : symTab S (fun _ => 0) = List.replicate (S * 3) (.int .i64 0) := by
  unfold symTab TM.tab CM.cellsOf
  induction S with
  | zero => rfl
  | succ S ih => rw [List.range_succ, List.map_append, List.flatMap_append, ih, Nat.succ_mul, ← List.replicate_append_replicate]; rfl
theorem made_states (S : Nat) : madeCells #[.int .i64 0, .int .i64 0, .int .i64 0] (S * 3) = (symTab S fun _ => 0).toArray := by
  rw [symTab_zero]
  apply Array.ext
  · simp [madeCells]
  · intro i h1 h2
    simp only [madeCells, List.getElem_toArray, List.getElem_replicate]
    have h3 : i % 3 < 3 := Nat.mod_lt _ (by omega)
    rcases (by omega : i % 3 = 0 ∨ i % 3 = 1 ∨ i % 3 = 2) with e | e | e <;> simp [e]
theorem make_states (w : World) (S : Nat) (hS : TM.Size S) :
    (Instr.makeSlice 117 (.int .i64 (S : Int)) (.int .i64 (S : Int))).run Tryz.prog w =
      .ok (.slice (some ⟨w.heap.size, 0, none⟩) S S) (w.alloc (.cells (symTab S fun _ => 0).toArray 226)) := by
  have hS64 : S ≤ 64 := by rcases hS with rfl | rfl <;> omega
  obtain ⟨i0, hi, hz0, hz1, hz2⟩ := info_parts infoState
  have h := run_make (P := Tryz.prog) w 117 226 i0 _ Tryz.underlying117 hi hz0 .i64 .i64 (S : Int) (S : Int) (by omega) (Int.le_refl _) (by rw [hz2]; omega) (by omega)
  rw [h, Int.toNat_natCast, hz1]
  have e : madeCells (Value.cells (.agg #[.int .i64 0, .int .i64 0, .int .i64 0])) (S * 3) = (symTab S fun _ => 0).toArray := by
    exact made_states S
  rw [e]

set_option maxHeartbeats 400000 in
theorem states_bad (log : Int) (a : Option Addr) (n cap : Nat) (z : List Int) (w : World) (hI : Ints w a n z) (hg : goodT log z = false) :
    Calls Tryz.prog 172 #[.int .i64 log, .slice a n cap] w fun e w' => e = .returned (.tuple #[.slice none 0 0, .int .i64 4]) ∧ w = w' := by
  by_cases h5 : log < 5
  · go_enter Tryz.func172, Tryz.ntmps172
    go_wp2
    go_ret2
    exact ⟨rfl, rfl⟩
  by_cases h6 : 6 < log
  · go_enter Tryz.func172, Tryz.ntmps172
    go_wp2
    go_ret2
    exact ⟨rfl, rfl⟩
  rcases (by omega : log = 5 ∨ log = 6) with rfl | rfl
  · have hf : TM.fillB z 32 = false := by simpa [goodT] using hg
    go_enter Tryz.func172, Tryz.ntmps172
    go_wp2_with (go_at_call 177; refine (fill_any _ _ _ z _ _ hI (by omega)).mono ?_; rintro e w' ⟨rfl, rfl⟩)
    go_ret2
    exact ⟨rfl, rfl⟩
  · have hf : TM.fillB z 64 = false := by simpa [goodT] using hg
    go_enter Tryz.func172, Tryz.ntmps172
    go_wp2_with (go_at_call 177; refine (fill_any _ _ _ z _ _ hI (by omega)).mono ?_; rintro e w' ⟨rfl, rfl⟩)
    go_ret2
    exact ⟨rfl, rfl⟩

set_option maxHeartbeats 400000 in
theorem states_ok (log : Nat) (a : Option Addr) (n cap : Nat) (z : List Int) (w : World) (hI : Ints w a n z) (hlog : log = 5 ∨ log = 6) (hf : TM.fillB z (2 ^ log : Nat) = true) :
    Calls Tryz.prog 172 #[.int .i64 (log : Int), .slice a n cap] w fun e w' => e = .returned (.tuple #[.slice (some ⟨w.heap.size, 0, none⟩) (2 ^ log) (2 ^ log), .int .i64 0]) ∧ Blk w' w.heap.size 226 (CM.cellsOf (table log z)) ∧ Below w.heap.size w w' := by
  have hl := hI.1
  obtain ⟨f1, f2, f3, f4⟩ := TM.fillB_parts hf
  rw [hl] at f2 f3 f4
  have hS : TM.Size (2 ^ log) := by rcases hlog with rfl | rfl; exact .inl rfl; exact .inr rfl
  have hsy := TM.syms z (2 ^ log) n hS f1 f4
  have hfr := TM.tb_free z (2 ^ log) f1 (by rcases hlog with rfl | rfl <;> decide) n (by rw [f4]; exact Int.le_refl _)
  have hfb := TM.free_is z (2 ^ log) n (by rcases hlog with rfl | rfl <;> decide) f1 f4
  have hA : Below w.heap.size w (w.alloc (.cells (symTab (2 ^ log) fun _ => 0).toArray 226)) := (Below.refl _ _).alloc (Nat.le_refl _) _
  have hB := Blk.new w 226 (symTab (2 ^ log) fun _ => 0)
  have C1 := hid' fun w' hb hg => behind_any a n cap z (2 ^ log) w w' hI ⟨f2, f3⟩ hS f1 f4 hb hg
  have C2 := hid' fun w' hb hg => byStep_any a n cap z (2 ^ log) (TM.tb z (2 ^ log) n).2 (TM.tb z (2 ^ log) n).1 w w' hI ⟨f2, f3⟩ hS f1 hfr.2 hfb hb hg
  have C3 := hid' fun w' hb hg => number_any a n cap z log (TM.F z (2 ^ log) n) w w' hI ⟨f2, f3⟩ hlog f1 hsy hb hg
  have C4 := hid' fun u => make_states u (2 ^ log) hS
  have C5 := hid' (show table log z = TM.tab (2 ^ log) (TM.st z log (2 ^ log : Nat) (TM.F z (2 ^ log) n)) by unfold table; rw [hl])
  rw [← C5.out] at C3
  have HA := hid' hA
  have HB := hid' hB
  have HF := hid' hf
  clear f1 f4 hsy hfr hfb hA hB hf C5 hS
  rcases hlog with rfl | rfl
  · have HF' : TM.fillB z 32 = true := HF.out
    have D4 : (Instr.makeSlice 117 (.int .i64 32) (.int .i64 32)).run Tryz.prog w = .ok (.slice (some ⟨w.heap.size, 0, none⟩) 32 32) (w.alloc (.cells (symTab 32 fun _ => 0).toArray 226)) := C4.out w
    clear C4 HF
    have e5 : ((5 : Nat) : Int) = 5 := rfl
    have e32 : 2 ^ 5 = 32 := rfl
    simp only [e5, e32] at *
    clear e5 e32
    go_enter Tryz.func172, Tryz.ntmps172
    go_wp2_with fail
    go_at_call 177
    refine (fill_any _ _ _ z _ _ hI (by omega)).mono ?_
    rintro e w' ⟨rfl, rfl⟩
    rw [HF']
    go_wp2_with fail
    go_at_call 178
    refine (C1.out _ HA.out HB.out).mono ?_
    rintro e w1 ⟨rfl, hg1, hb1⟩
    go_wp2_with fail
    go_at_call 179
    refine (C2.out _ hb1 hg1).mono ?_
    rintro e w2 ⟨rfl, hg2, hb2⟩
    go_wp2_with fail
    go_at_call 180
    refine (C3.out _ hb2 hg2).mono ?_
    rintro e w3 ⟨rfl, hg3, hb3⟩
    go_wp2
    go_ret2
    exact ⟨rfl, hg3, hb3⟩
  · have HF' : TM.fillB z 64 = true := HF.out
    have D4 : (Instr.makeSlice 117 (.int .i64 64) (.int .i64 64)).run Tryz.prog w = .ok (.slice (some ⟨w.heap.size, 0, none⟩) 64 64) (w.alloc (.cells (symTab 64 fun _ => 0).toArray 226)) := C4.out w
    clear C4 HF
    have e5 : ((6 : Nat) : Int) = 6 := rfl
    have e32 : 2 ^ 6 = 64 := rfl
    simp only [e5, e32] at *
    clear e5 e32
    go_enter Tryz.func172, Tryz.ntmps172
    go_wp2_with fail
    go_at_call 177
    refine (fill_any _ _ _ z _ _ hI (by omega)).mono ?_
    rintro e w' ⟨rfl, rfl⟩
    rw [HF']
    go_wp2_with fail
    go_at_call 178
    refine (C1.out _ HA.out HB.out).mono ?_
    rintro e w1 ⟨rfl, hg1, hb1⟩
    go_wp2_with fail
    go_at_call 179
    refine (C2.out _ hb1 hg1).mono ?_
    rintro e w2 ⟨rfl, hg2, hb2⟩
    go_wp2_with fail
    go_at_call 180
    refine (C3.out _ hb2 hg2).mono ?_
    rintro e w3 ⟨rfl, hg3, hb3⟩
    go_wp2
    go_ret2
    exact ⟨rfl, hg3, hb3⟩
end Go.Proofs.YtbhemchnjpajiaaGreatDoor

/- The tables of states that a stream keeps in a map (package sequences), walked. -/
namespace Go.Proofs.YtbhemchnjpajiaaGreatDoor
open Go.RowKit
open Go.Maps (Keyed fit_look fit_store)
open Go.WideElems (Fit)
set_option linter.unusedVariables false

theorem mlaid : laidOutB Tryz.prog = true := by kernel_rfl
theorem mrow : (294 : TypeId) < Tryz.prog.types.size := of_decide_eq_true (by kernel_rfl)
theorem mwide : (match Tryz.prog.underlying 294 with | some (.array _ _) | some (.struct _) => true | _ => false) = true := by kernel_rfl
theorem mkey3 : Tryz.prog.keyTypeAt 3 294 = true := by kernel_rfl
set_option maxRecDepth 100000 in
theorem mkeyed : Keyed Tryz.prog 294 := Keyed.of_law (deep_law_laid mlaid (m := 3) (by omega) mrow mkey3 mwide)
/-- The key of counts. -/
def keyV (lg : Int) (z : List Int) : Value := .agg (.int .i64 lg :: intCells z).toArray
theorem keyV_inj {lg lg' : Int} {z z' : List Int} (h : keyV lg z = keyV lg' z') : lg = lg' ∧ z = z' := by
  unfold keyV at h
  injection h with h
  have h := congrArg Array.toList h
  simp only [] at h
  injection h with h1 h2
  injection h1 with _ h1
  refine ⟨h1, ?_⟩
  unfold intCells at h2
  exact List.map_inj_right (fun a b e => by injection e) |>.1 h2
theorem mapM_some {α β : Type} (f : α → Option β) : ∀ (l : List α), (∀ a ∈ l, ∃ b, f a = some b) → ∃ bs, l.mapM f = some bs
  | [], _ => ⟨[], rfl⟩
  | a :: l, h => by
    obtain ⟨b, hb⟩ := h a (by simp)
    obtain ⟨bs, hbs⟩ := mapM_some f l (fun x hx => h x (by simp [hx]))
    exact ⟨b :: bs, by simp [List.mapM_cons, hb, hbs]⟩
def Wf (n : Int) : Prop := -9223372036854775808 ≤ n ∧ n ≤ 9223372036854775807
theorem wf_lit {n : Int} (h : Wf n) : (Lit.int .i64 n).wf = true := by
  obtain ⟨h1, h2⟩ := h
  show (decide (_ ≤ n) && decide (n ≤ _)) = true
  rw [Bool.and_eq_true, decide_eq_true_eq, decide_eq_true_eq]
  exact ⟨h1, h2⟩
theorem mtypes : Tryz.prog.types.size = Tryz.prog.types.size - 3 + 3 := by
  have h : 3 ≤ Tryz.prog.types.size := of_decide_eq_true (by kernel_rfl)
  omega
theorem mcells : Tryz.prog.cellsOf 294 = 17 := by kernel_rfl
theorem mcellsA : Tryz.prog.cellsOf 292 = 16 := by kernel_rfl
theorem mcellsI : Tryz.prog.cellsOf 3 = 1 := by kernel_rfl
theorem mkeyT : Tryz.prog.keyType 294 = true := by kernel_rfl
theorem lit_one (d : Nat) {n : Int} (h : Wf n) : Tryz.prog.keyLits (d + 1) 3 [.int .i64 n] = some [.int .i64 n] := by
  unfold Program.keyLits
  rw [Tryz.underlying3]
  simp only []
  rw [if_pos ⟨trivial, wf_lit h⟩]
theorem lit_arr (d : Nat) {z : List Int} (hz : z.length = 16) (h : ∀ x ∈ z, Wf x) : ∃ ls, Tryz.prog.keyLits (d + 2) 292 (intCells z) = some ls := by
  unfold Program.keyLits
  rw [show Tryz.prog.underlying 292 = some (.array 16 3) from Tryz.underlying292]
  simp only []
  rw [if_pos (by rw [mcellsA]; simp [intCells, hz])]
  obtain ⟨bs, hbs⟩ := mapM_some (fun i => Tryz.prog.keyLits (d + 1) 3 (((intCells z).drop (i * Tryz.prog.cellsOf 3)).take (Tryz.prog.cellsOf 3))) (List.range 16) (fun i hi => by
    have hi : i < 16 := List.mem_range.1 hi
    have hl : i < z.length := by omega
    rw [mcellsI, Nat.mul_one]
    have e : ((intCells z).drop i).take 1 = [.int .i64 z[i]] := by
      unfold intCells
      rw [List.drop_eq_getElem_cons (by simpa using hl)]
      simp
    rw [e]
    exact ⟨_, lit_one d (h _ (List.getElem_mem hl))⟩)
  rw [hbs]
  exact ⟨_, rfl⟩
theorem key_some {lg : Int} {z : List Int} (hz : z.length = 16) (h0 : Wf lg) (h : ∀ x ∈ z, Wf x) : ∃ kl, keyOf Tryz.prog 294 (keyV lg z) = some kl := by
  unfold keyOf
  rw [Tryz.underlying294]
  simp only []
  have hf : (keyV lg z).formed Tryz.prog 294 = true := by
    unfold keyV Value.formed
    rw [Tryz.underlying294]
    simp [mcells, intCells, hz]
  rw [if_pos (by rw [mkeyT, hf]; rfl)]
  have hcs : (keyV lg z).cells.toList = .int .i64 lg :: intCells z := by simp [keyV, Value.cells]
  rw [hcs, mtypes]
  unfold Program.keyLits
  rw [Tryz.underlying294]
  simp only []
  rw [if_pos ⟨by rw [mcells]; simp [intCells, hz], by kernel_rfl⟩]
  obtain ⟨ls, hls⟩ := lit_arr (Tryz.prog.types.size - 3 + 1) hz h
  have e0 : ((Value.int .i64 lg :: intCells z).drop 0).take (Tryz.prog.cellsOf 3) = [.int .i64 lg] := by rw [mcellsI]; rfl
  have e1 : ((Value.int .i64 lg :: intCells z).drop 1).take (Tryz.prog.cellsOf 292) = intCells z := by
    rw [mcellsA]
    simp only [List.drop_succ_cons, List.drop_zero]
    exact List.take_of_length_le (by simp [intCells, hz])
  simp only [List.mapM_cons, List.mapM_nil]
  rw [e0, e1, lit_one (Tryz.prog.types.size - 3 + 2) h0, hls]
  exact ⟨_, rfl⟩
end Go.Proofs.YtbhemchnjpajiaaGreatDoor

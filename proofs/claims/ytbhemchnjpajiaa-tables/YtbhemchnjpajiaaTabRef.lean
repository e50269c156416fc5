/- The document's tables of states, walked: States of package skeinref answers the same table as the plain function, or the same error; nothing that was there has turned. -/
import Derived.Test.YtbhemchnjpajiaaTabRows
import Derived.Test.YtbhemchnjpajiaaRefPosts
namespace Go.Proofs.Ytbhemchnjpajiaa
open Go.RowKit
set_option linter.unusedVariables false

set_option maxRecDepth 100000 in
set_option maxHeartbeats 1000000 in
theorem rstates_out (log : Int) (a : Option Addr) (n cap : Nat) (z : List Int) (w : World) (hI : Ints w a n z) (hout : ¬ ((log = 5 ∨ log = 6) ∧ 1 ≤ n ∧ n ≤ 16)) :
    Calls Try.prog 11 #[.int .i64 log, .slice a n cap] w (StatesPost log z w) := by
  have hl := hI.1
  have hgood : goodT log z = false := by
    unfold goodT TM.fillB
    rw [hl]
    rcases Int.lt_trichotomy log 5 with h | h | h
    · simp; omega
    · simp; omega
    · simp; omega
  have hG : Hid (StatesPost log z w (.returned (.tuple #[.slice none 0 0, .int .i64 4])) w) := ⟨Below.refl _ _, .inl ⟨hgood, rfl⟩⟩
  clear hgood
  by_cases h5 : log < 5
  · go_enter Try.func11, Try.ntmps11
    go_wp2
    go_ret2
    exact hG.out
  by_cases h6 : 6 < log
  · go_enter Try.func11, Try.ntmps11
    go_wp2
    go_ret2
    exact hG.out
  have t5 : decide (log < 5) = false := decide_eq_false h5
  have t6 : decide (6 < log) = false := decide_eq_false h6
  by_cases hn : n < 1
  · have t1 : decide ((n : Int) < 1) = true := decide_eq_true (by omega)
    go_enter Try.func11, Try.ntmps11
    go_wp2
    go_ret2
    exact hG.out
  · have t1 : decide ((n : Int) < 1) = false := decide_eq_false (by omega)
    have t2 : decide (16 < (n : Int)) = true := decide_eq_true (by omega)
    go_enter Try.func11, Try.ntmps11
    go_wp2
    go_ret2
    exact hG.out

set_option maxRecDepth 100000 in
set_option maxHeartbeats 4000000 in
theorem rstates_in (log : Int) (lg SS : Nat) (a : Option Addr) (n cap : Nat) (z : List Int) (w : World) (hI : Ints w a n z) (hlog : (log = 5 ∧ lg = 5 ∧ SS = 32) ∨ (log = 6 ∧ lg = 6 ∧ SS = 64)) (hn : 1 ≤ n ∧ n ≤ 16) :
    Calls Try.prog 11 #[.int .i64 log, .slice a n cap] w (StatesPost log z w) := by
  obtain ⟨hl, hbig, hc⟩ := hI
  obtain ⟨b, off, rfl, hlt, hc'⟩ := hc.resolve_left (by omega)
  have HC : Hid _ := hc'
  clear hc hc'
  have hSz : Hid (TM.Size SS) := by rcases hlog with h | h; exact .inl h.2.2; exact .inr h.2.2
  have hS64 : 32 ≤ SS ∧ SS ≤ 64 := by omega
  have hlg := hid' (show log = (lg : Int) ∧ (lg = 5 ∨ lg = 6) by omega)
  have hpw := hid' (show 2 ^ lg = SS by rcases hlog with ⟨-, rfl, rfl⟩ | ⟨-, rfl, rfl⟩ <;> rfl)
  have hgd := hid' (show goodT log z = TM.fillB z SS by
    rcases hlog with ⟨rfl, rfl, rfl⟩ | ⟨rfl, rfl, rfl⟩
    · simp [goodT]
    · simp [goodT])
  have hfill := hid' (show TM.fillB z SS = (TM.fitsB z SS && (TM.sum z n == SS)) by simp [TM.fillB, hl, hn.1, hn.2])
  have hcase : ((log == 6) = false ∧ Hid (SS = 32)) ∨ ((log == 6) = true ∧ Hid (SS = 64)) := by
    rcases hlog with ⟨rfl, -, h2⟩ | ⟨rfl, -, h2⟩
    · exact .inl ⟨rfl, h2⟩
    · exact .inr ⟨rfl, h2⟩
  have hG := hid' (show TM.fillB z SS = false → StatesPost log z w (.returned (.tuple #[.slice none 0 0, .int .i64 4])) w from fun h => ⟨Below.refl _ _, .inl ⟨by rw [hgd.out]; exact h, rfl⟩⟩)
  have t1 : decide ((n : Int) < 1) = false := decide_eq_false (by omega)
  have t2 : decide (16 < (n : Int)) = false := decide_eq_false (by omega)
  have t3 : decide (log < 5) = false := decide_eq_false (by omega)
  have t4 : decide (6 < log) = false := decide_eq_false (by omega)
  clear hlog
  rcases hcase with ⟨hc6, hSS⟩ | ⟨hc6, hSS⟩
  all_goals
    go_enter Try.func11, Try.ntmps11
    go_wp2_with fail
    clear hc6 t1 t2 t3 t4
    first
      | rw [show (Value.int .i64 32) = .int .i64 (SS : Int) by rw [hSS.out]; rfl]
      | rw [show (Value.int .i64 64) = .int .i64 (SS : Int) by rw [hSS.out]; rfl]
    clear hSS
    go_loopg [8, 9] n (fun g sv iv wr => ∃ k : Nat, g = n - k ∧ k ≤ n ∧ iv = .int .i64 (k : Int) ∧ sv = .int .i64 (TM.sum z k) ∧ (0 ≤ TM.sum z k ∧ TM.sum z k ≤ 64 * k) ∧ Hid (TM.fitsB (z.take k) SS = true) ∧ wr = w)
    case atStart => exact ⟨0, by omega, by omega, rfl, rfl, by simp [TM.sum], rfl, rfl⟩
    case round =>
      obtain ⟨k, rfl, hk, rfl, rfl, hsb, hfit, hwr⟩ := hrel
      subst hwr
      by_cases hkn : k < n
      · have hck := HC.out k hkn
        have hts : Hid _ := TM.fits_take z SS k (by omega)
        have hpre : Hid _ := TM.fits_prefix z SS (k + 1)
        have hsu : Hid (TM.sum z (k + 1) = TM.sum z k + TM.pl (z.getD k 0)) := rfl
        generalize z.getD k 0 = x at *
        by_cases hx : -1 ≤ x ∧ x ≤ SS
        · obtain ⟨hx1, hx2⟩ := hx
          have d1 : decide (x < -1) = false := decide_eq_false (by omega)
          have d2 : decide ((SS : Int) < x) = false := decide_eq_false (by omega)
          by_cases hx0 : x = -1
          · subst hx0
            have hp1 : Hid (TM.pl (-1) = 1) := rfl
            go_wp2_with fail
            go_roundg (n - (k + 1))
            case rel => exact ⟨k + 1, rfl, by omega, by go_num, vl_int (by rw [hsu.out, hp1.out]; omega), by rw [hsu.out, hp1.out]; omega, by rw [Hid, hts.out, hfit.out]; simp [hx2], rfl⟩
            case measure => omega
          · have d3 : decide (x < 0) = false := decide_eq_false (by omega)
            have hp1 : Hid (TM.pl x = x) := by rw [Hid, TM.pl, if_neg hx0]
            go_wp2_with fail
            go_roundg (n - (k + 1))
            case rel => exact ⟨k + 1, rfl, by omega, by go_num, vl_int (by rw [hsu.out, hp1.out]), by rw [hsu.out, hp1.out]; omega, by rw [Hid, hts.out, hfit.out]; simp [hx1, hx2], rfl⟩
            case measure => omega
        · have hbad := hid' (hG.out (by rw [hfill.out, hpre.out (by rw [hts.out, hfit.out]; simp; omega)]; rfl))
          by_cases hx0 : x < -1
          · have d1 : decide (x < -1) = true := decide_eq_true hx0
            go_wp2
            go_ret2
            exact hbad.out
          · have d1 : decide (x < -1) = false := decide_eq_false hx0
            have d2 : decide ((SS : Int) < x) = true := decide_eq_true (by omega)
            go_wp2
            go_ret2
            exact hbad.out
      · obtain rfl : n = k := by omega
        obtain ⟨w0, rfl⟩ : ∃ w0 : World, w0 = wr := ⟨_, rfl⟩
        have hfitz := hfit.out
        rw [List.take_of_length_le (by omega)] at hfitz
        by_cases hsum : TM.sum z n = SS
        · have hF : Hid (TM.Fits z SS) := (TM.fits_iff z SS).1 hfitz
          have hfb := hid' (show TM.fillB z SS = true by rw [hfill.out, hfitz, hsum]; simp)
          have hfr := hid' (fun j (hj : j ≤ n) => TM.tb_free z SS hF.out (by omega) j (by have := TM.sum_mono z SS (by omega) hF.out j n hj; omega))
          have hsum' := hid' hsum
          have hsb' : (TM.sum z n != (SS : Int)) = false := by simpa using hsum
          have hmk := fun u => make_rows u n (by omega)
          clear hfitz hfit hsb hG hfill hsum
          obtain ⟨i0, hi0, hz0', hz1, hz2⟩ := info_parts infoInt
          go_wp2_with fail
          clear hmk hsb'
          have hB0 := Blk.new w0 25 (nilRow n)
          have hbel0 : Below w0.heap.size w0 (w0.alloc (.cells (nilRow n).toArray 25)) := (Below.refl _ _).alloc (Nat.le_refl _) _
          have hsz0 : w0.heap.size + 1 = (w0.alloc (.cells (nilRow n).toArray 25)).heap.size := by simp
          have hR0 := fun D hD => rows_start z SS n (w0.alloc (.cells (nilRow n).toArray 25)) (fun b => b = w0.heap.size ∨ (Value.slice none 0 0).ownBlock = some b) D hD
          generalize hgp : w0.heap.size = Gp at *
          have HGP := hid' hgp
          clear hgp
          go_loopg [11, 12] n (fun g bv iv wx => ∃ (k : Nat) (Lb : List Int) (vs : List Value), g = n - k ∧ k ≤ n ∧ iv = .int .i64 (k : Int) ∧ (Lb.length + (TM.tb z SS k).2 = SS ∧ (TM.tb z SS k).2 ≤ SS) ∧ Hid (∀ p : Nat, p < SS → ((p : Int) ∈ Lb ↔ (TM.tb z SS k).2 ≤ p)) ∧ wx.ownsRow (Gp + 1) 3 1 bv Lb.length (intCells Lb) ∧ Blk wx Gp 25 vs ∧ Hid (Rows' z SS n wx (fun b => b = Gp ∨ bv.ownBlock = some b) (fun t => t < k ∧ z.getD t 0 = -1) vs) ∧ Below Gp w0 wx ∧ Gp + 1 ≤ wx.heap.size)
          case atStart =>
            refine ⟨0, [], _, by omega, by omega, rfl, by simp [TM.tb], ?_, World.ownsRow_nil _ _ _ _, hB0, hR0 _ (fun t h => by omega), hbel0, by omega⟩
            intro p hp
            simp [TM.tb]
            omega
          case round =>
            clear hB0 hbel0 hsz0 hR0
            obtain ⟨k, Lb, vs, rfl, hk, rfl, hLb, hmem, hown, hblk, hrows, hbel, hsz⟩ := hrel
            by_cases hkn : k < n
            · have hck : wr.cell? ⟨b, off + k, none⟩ = some (.int .i64 (z.getD k 0)) := (hbel.cell (p := ⟨b, off + k, none⟩) hlt).trans (HC.out k hkn)
              have htb : Hid (TM.tb z SS (k + 1) = if z.getD k 0 = -1 then (TM.upd (TM.tb z SS k).1 ((TM.tb z SS k).2 - 1) (k : Int), (TM.tb z SS k).2 - 1) else TM.tb z SS k) := rfl
              by_cases hx : z.getD k 0 = -1
              · have hgood := hid' (TM.good_behind z SS n k hSz.out hF.out hsum'.out hkn hx)
                have hpl := hid' (TM.tb_place z SS hF.out (by omega) k hx n (by rw [hsum'.out]; exact Int.le_refl _) hkn)
                have hf1 : 1 ≤ (TM.tb z SS k).2 := hpl.out.2.1
                rw [hx] at hck
                have hfe : (SS : Int) - 1 - (Lb.length : Int) = ((TM.tb z SS k).2 : Int) - 1 := by omega
                have hft : Hid ((TM.tb z SS (k + 1)).2 = (TM.tb z SS k).2 - 1) := by rw [Hid, htb.out, if_pos hx]
                have HX := hid' hx
                clear hx htb hpl
                generalize (TM.tb z SS k).2 = f at *
                have HOWN := hid' hown
                have hlL : Lb.length ≤ 64 := by omega
                obtain ⟨ab, cb, hbv⟩ : ∃ a c, u11 = .slice a Lb.length c := by
                  rcases owns_form hown with ⟨h1, h2⟩ | ⟨g, c, h1, -⟩
                  · exact ⟨none, 0, by rw [h1, h2]⟩
                  · exact ⟨_, _, h1⟩
                subst hbv
                have HBLK := hid' hblk
                clear hown hblk
                go_wp2_with (first | (at_builtin; refine wpList_append_own_at _ rfl _ _ 25 rfl (Gp + 1) 3 i0 _ 1 8 Try.underlying25 hi0 hz0' hz1 hz2 rfl (by decide) _ _ _ rfl (HOWN.out.alloc _) ⟨wr.heap.size, 0, none⟩ 1 1 [.int .i64 ((f : Int) - 1)] rfl rfl (cell_one_new _ _ _) (one_one _) (by unfold maxLen; omega) (by omega) (by simp; omega) ?_))
                intro v' w1 hown' hgrow _ hat
                have hnb := owns_not HOWN.out Gp (by omega)
                have hkp : Keeps (fun b => (Value.slice ab Lb.length cb).ownBlock = some b) wr w1 := ((Keeps.refl _ wr).alloc _).grown hgrow (fun k e _ => e)
                have hb1 : Blk w1 Gp 25 vs := hkp.blk HBLK.out hnb
                have hbel1 : Below Gp w0 w1 := (hbel.alloc (by omega) _).grown hgrow (by simp; omega) (fun j hj => by have := (HOWN.out.lt j hj).1; omega)
                have hsz1 := hkp.1
                have hrow1 := hid' (rows_append hrows.out hgrow hat)
                have hlt1 := hid' (owns_lt hown')
                obtain ⟨old, hold, -⟩ := hrows.out.2 k hkn
                have hcA : ∀ X, (w1.alloc X).cell? ⟨Gp, k, none⟩ = some old := fun X => (hb1.alloc X).cell hold
                have hfA : ∀ X, (w1.alloc X).frozen? ⟨Gp, k, none⟩ = false := fun X => (hb1.alloc X).free k
                have HB1 := hid' hb1
                have HOWN' := hid' hown'
                have i1 : (k : Int) < (n : Int) := by omega
                clear hgrow hck hown' hkp hnb hat hb1 hold hrows HBLK HOWN
                go_wp2
                go_roundg (n - (k + 1))
                case rel =>
                  refine ⟨k + 1, Lb ++ [(f : Int) - 1], _, rfl, by omega, by go_num, ?_, ?_, ?_, (HB1.out.alloc _).put _ _, ?_, (hbel1.alloc (by omega) _).setCell (Nat.le_refl _) _, by simp; omega⟩
                  · rw [hft.out, List.length_append, List.length_singleton]
                    omega
                  · rw [Hid, hft.out]
                    intro p hp
                    rw [List.mem_append, List.mem_singleton, hmem.out p hp]
                    omega
                  · have e : intCells (Lb ++ [(f : Int) - 1]) = intCells Lb ++ [.int .i64 ((f : Int) - 1)] := by simp [intCells]
                    rw [e, List.length_append, List.length_singleton]
                    exact ownsRow_setCell_below (HOWN'.out.alloc _) (Nat.lt_succ_self _) _
                  · exact rows_lay hrow1.out hlt1.out (by omega) hkn (fun t ht => by constructor <;> rintro ⟨a, b⟩ <;> exact ⟨by omega, b⟩) ⟨by omega, HX.out⟩ hgood.out
                case measure => omega
              · have hxb : (z.getD k 0 == -1) = false := by simpa using hx
                have hft : Hid ((TM.tb z SS (k + 1)).2 = (TM.tb z SS k).2) := by rw [Hid, htb.out, if_neg hx]
                have HX := hid' hx
                clear hx htb
                generalize z.getD k 0 = x at hxb hck
                go_wp2
                go_roundg (n - (k + 1))
                case rel =>
                  refine ⟨k + 1, Lb, vs, rfl, by omega, by go_num, by rw [hft.out]; exact hLb, by rw [hft.out]; exact hmem, hown, hblk, ?_, hbel, hsz⟩
                  refine hrows.out.same (fun t ht => ?_)
                  constructor
                  · rintro ⟨a, b⟩; exact ⟨by omega, b⟩
                  · rintro ⟨a, b⟩
                    refine ⟨?_, b⟩
                    by_cases e : t = k
                    · subst e; exact absurd b HX.out
                    · omega
                case measure => omega
            · obtain rfl : n = k := by omega
              have hfree := hid' (TM.free_is z SS n (by omega) hF.out hsum'.out)
              obtain ⟨ab, cb, hbv, hIb, hbb⟩ := owns_ints hown (by omega)
              subst hbv
              have hrC := hid' ((hrows.out.keep (bad' := fun b => b = Gp) (Keeps.refl _ wr) (fun b _ e => .inl e)).same (D' := fun t => z.getD t 0 = -1 ∨ t < 0) (fun t ht => by simp [ht]))
              obtain ⟨w1, rfl⟩ : ∃ w1 : World, w1 = wr := ⟨_, rfl⟩
              generalize hfg : (TM.tb z SS n).2 = free at *
              have HFG := hid' hfg
              have hbb' := hid' hbb
              have HIB := hid' hIb
              clear hfg hown hrows hbb hIb
              have hst : (SS : Int) / 2 + (SS : Int) / 8 + 3 = (TM.step SS : Int) := by unfold TM.step; omega
              have hstb : TM.step SS ≤ 64 := by unfold TM.step; omega
              go_wp2_with fail
              go_loopg [14, 15] n (fun g kv sv wx => ∃ (s K : Nat) (vs : List Value), g = n - s ∧ s ≤ n ∧ K ≤ SS ∧ sv = .int .i64 (s : Int) ∧ kv = .int .i64 (K : Int) ∧ Hid (TM.cf SS free K = TM.base z s) ∧ Blk wx Gp 25 vs ∧ Hid (Rows' z SS n wx (fun b => b = Gp) (fun t => z.getD t 0 = -1 ∨ t < s) vs) ∧ Keeps (fun b => b = Gp) w1 wx ∧ Below Gp w0 wx)
              case atStart => exact ⟨0, 0, vs, by omega, by omega, by omega, rfl, rfl, rfl, hblk, hrC, Keeps.refl _ _, hbel⟩
              case round =>
                clear hrC hblk hbel
                obtain ⟨s, K, vs, rfl, hs, hK, rfl, rfl, hcf, hblk, hrows, hkeep, hbel⟩ := hrel
                have hszx := hkeep.1
                by_cases hsn : s < n
                · have hcs : wr.cell? ⟨b, off + s, none⟩ = some (.int .i64 (z.getD s 0)) := (hbel.cell (p := ⟨b, off + s, none⟩) hlt).trans (HC.out s hsn)
                  obtain ⟨v, hv, hrow⟩ := hrows.out.2 s hsn
                  have hcv := hblk.cell hv
                  have i1 : (s : Int) < (n : Int) := by omega
                  have hxr := TM.fits_getD z SS (by omega) hF.out s
                  have hbs : Hid (TM.base z (s + 1) = TM.base z s + (z.getD s 0).toNat) := rfl
                  by_cases hx : z.getD s 0 = -1
                  · rcases hrow with ⟨h, -⟩ | ⟨-, L, a, c, hvL, hIL, -, hgood⟩
                    · exact absurd (.inl hx) h
                    · have hL1 : L.length = 1 := by have := hgood.2; rw [hx] at this; simp [TM.pl] at this; omega
                      rw [hx] at hcs hbs
                      subst hvL
                      rw [hL1] at hcv
                      have HX := hid' hx
                      clear hx hxr hIL hgood
                      go_wp2_with fail
                      refine wp_loop_rounds 1 ?_
                      rw [rounds_succ]
                      go_wp2_with fail
                      go_quiet (fail)
                      go_wp2_with fail
                      go_roundg (n - (s + 1))
                      case rel =>
                        refine ⟨s + 1, K, vs, rfl, by omega, hK, by go_num, rfl, ?_, hblk.drewN _, ?_, hkeep.drewN _, below_drewN hbel _⟩
                        · rw [Hid, hbs.out, hcf.out]; rfl
                        · refine (hrows.out.keep ((Keeps.refl _ wr).drewN _) (fun b _ e => e)).same (fun t ht => ?_)
                          by_cases e : t = s
                          · subst e; exact ⟨fun _ => .inl HX.out, fun _ => .inl HX.out⟩
                          · constructor
                            · rintro (h | h)
                              · exact .inl h
                              · exact .inr (by omega)
                            · rintro (h | h)
                              · exact .inl h
                              · exact .inr (by omega)
                      case measure => omega
                  · rcases hrow with ⟨-, hvn⟩ | ⟨h, -⟩
                    · subst hvn
                      have hset0 := hid' (show vs.set s (.slice none 0 0) = vs by
                        apply List.ext_getElem?
                        intro j
                        by_cases e : s = j
                        · subst e; rw [List.getElem?_set_self (by rw [hrows.out.1]; exact hsn)]; exact hv.symm
                        · rw [List.getElem?_set_ne e])
                      have HX := hid' hx
                      have hvl := hid' hrows.out.1
                      have hx0 : 0 ≤ z.getD s 0 := by omega
                      have hcx := hid' (HC.out s hsn)
                      have hts := hid' (TM.turn_start z SS free n s K hSz.out hsn (by have := hfr.out n (Nat.le_refl _); have := HFG.out; omega) hfree.out hcf.out)
                      have hfrS : free ≤ SS := by have := hfr.out n (Nat.le_refl _); have := HFG.out; omega
                      have hbm := hid' (TM.base_mono z (s + 1) n hsn)
                      have hten := hid' (fun K L hc ht => TM.turn_end z SS n s K L hSz.out hF.out hsum'.out hsn HX.out hc ht)
                      rw [HFG.out] at hten
                      clear hx hcs hcv hv
                      generalize z.getD s 0 = x at *
                      go_wp2_with fail
                      obtain ⟨wo, rfl⟩ : ∃ wo : World, wo = wr := ⟨_, rfl⟩
                      go_loopg [14] (SS - K) (fun g kv wx => ∃ (K : Nat) (L : List Int) (v : Value), g = SS - K ∧ K ≤ SS ∧ kv = .int .i64 (K : Int) ∧ Hid (TM.Turn z SS free n s K L) ∧ Hid (TM.base z s ≤ TM.cf SS free K ∧ TM.cf SS free K ≤ TM.base z (s + 1)) ∧ wx.ownsRow wo.heap.size 3 1 v L.length (intCells L) ∧ Blk wx Gp 25 (vs.set s v) ∧ Keeps (fun b => b = Gp) wo wx ∧ Below Gp w0 wx)
                      case atStart => exact ⟨K, [], _, rfl, hK, rfl, hts, by rw [Hid, hcf.out, hbs.out]; omega, World.ownsRow_nil _ _ _ _, by rw [hset0.out]; exact hblk, Keeps.refl _ _, hbel⟩
                      case round =>
                        clear hts hcf hK hset0
                        have hblk0 := hid' hblk
                        have hbel0 := hid' hbel
                        clear hblk hbel
                        obtain ⟨K, L, v, rfl, hK, rfl, hturn, hcfb, hown, hblk, hkp, hbel⟩ := hrel
                        have hszw := hkp.1
                        have hcs : wr.cell? ⟨b, off + s, none⟩ = some (.int .i64 x) := (hbel.cell (p := ⟨b, off + s, none⟩) hlt).trans hcx.out
                        have hcv : wr.cell? ⟨Gp, s, none⟩ = some v := hblk.cell (by rw [List.getElem?_set_self (by rw [hvl.out]; exact hsn)])
                        have hLl := hturn.out.2
                        have hcfl := hcfb.out
                        have hfe := hfree.out
                        have hbse := hbs.out
                        have hbme := hbm.out
                        have hL64 : L.length ≤ 64 := by omega
                        obtain ⟨av, cv, hvf⟩ : ∃ a c, v = .slice a L.length c := by
                          rcases owns_form hown with ⟨h1, h2⟩ | ⟨g, c, h1, -⟩
                          · exact ⟨none, 0, by rw [h1, h2]⟩
                          · exact ⟨_, _, h1⟩
                        subst hvf
                        have HOWN := hid' hown
                        have HBLK := hid' hblk
                        have hfz := hblk.free s
                        by_cases hgo : (L.length : Int) < x
                        · have hgd' : decide ((L.length : Int) < x) = true := decide_eq_true hgo
                          have hKS : K < SS := TM.cf_lt hSz.out hfrS K hK (by omega)
                          have hPe : ((K : Int) * (TM.step SS : Int)) % (SS : Int) = (TM.P SS K : Int) := by unfold TM.P; simp
                          have hmul : (K : Int) * (TM.step SS : Int) ≤ 64 * 64 := by
                            have := Nat.mul_le_mul (show K ≤ 64 by omega) hstb
                            exact_mod_cast this
                          have hmul0 : 0 ≤ (K : Int) * (TM.step SS : Int) := by
                            have := Nat.zero_le (K * TM.step SS)
                            exact_mod_cast this
                          have hPl := TM.P_lt hSz.out K
                          have hIb : Ints wr ab Lb.length Lb := (hkeep.trans hkp).ints HIB.out (fun b' o e => by have := hbb'.out b' o e; omega)
                          have hmemP := hmem.out (TM.P SS K) hPl
                          have HTU := hid' hturn.out
                          clear hown hblk hLl hcfl hfe hbse hbme hturn hgo
                          go_wp2_with fail
                          go_quiet (fail)
                          go_wp2_with fail
                          refine (has_any _ _ _ Lb _ _ (show Ints (wr.drewN nq) ab Lb.length Lb from hIb)).mono ?_
                          rintro e w' ⟨rfl, rfl⟩
                          by_cases hp : free ≤ TM.P SS K
                          · have hdp : decide ((TM.P SS K : Int) ∈ Lb) = true := decide_eq_true (hmemP.2 hp)
                            rw [hdp]
                            have hsk := hid' (TM.turn_skip z SS free n s K L hSz.out hKS hp HTU.out)
                            have hck2 : Hid (TM.cf SS free (K + 1) = TM.cf SS free K) := by rw [Hid, TM.cf, if_neg (by omega)]; rfl
                            clear hmemP hdp hcs hcv
                            go_wp2_with fail
                            go_roundg (SS - (K + 1))
                            case rel => exact ⟨K + 1, L, _, rfl, by omega, by go_num, hsk, by rw [hck2.out]; exact hcfb, HOWN.out, HBLK.out.drewN _, hkp.drewN _, below_drewN hbel _⟩
                            case measure => omega
                          · have hdp : decide ((TM.P SS K : Int) ∈ Lb) = false := decide_eq_false (fun h => hp (hmemP.1 h))
                            rw [hdp]
                            have hLs := hid' HTU.out.2
                            have hlt2 : Hid (TM.cf SS free K < TM.base z (s + 1)) := by
                              have h1 := HTU.out.2
                              have h2 := hbs.out
                              have : (L.length : Int) < x := of_decide_eq_true hgd'
                              rw [Hid]
                              omega
                            have hsk := hid' (TM.turn_put z SS free n s K L hSz.out hKS hsn (by omega) hcfb.out.1 hlt2.out HTU.out)
                            have hck2 : Hid (TM.cf SS free (K + 1) = TM.cf SS free K + 1) := by rw [Hid, TM.cf, if_pos (by omega)]
                            clear hmemP hdp hcs
                            go_wp2_with (first | (at_builtin; refine wpList_append_own _ rfl _ _ 25 rfl wo.heap.size 3 i0 _ 1 8 Try.underlying25 hi0 hz0' hz1 hz2 rfl (by decide) _ _ _ rfl (World.ownsRow.alloc (show (wr.drewN nq).ownsRow wo.heap.size 3 1 _ _ _ from HOWN.out) _) ⟨wr.heap.size, 0, none⟩ 1 1 [.int .i64 (TM.P SS K : Int)] rfl rfl (cell_one_new _ _ _) (one_one _) (by unfold maxLen; omega) (by omega) (by simp; omega) ?_))
                            intro v' w2 hown' hgrow _
                            have hnb := owns_not HOWN.out Gp (by omega)
                            have hk2 : Keeps (fun b => (Value.slice av L.length cv).ownBlock = some b) wr w2 := (((Keeps.refl _ wr).drewN nq).alloc _).grown hgrow (fun k e _ => e)
                            have hb2 : Blk w2 Gp 25 (vs.set s (.slice av L.length cv)) := hk2.blk HBLK.out hnb
                            have hkp2 : Keeps (fun b => b = Gp) wo w2 := ((hkp.drewN nq).alloc _).grown hgrow (fun k e hlt => by have := (HOWN.out.lt k e).1; omega)
                            have hbel2 : Below Gp w0 w2 := ((below_drewN hbel nq).alloc (by simp; omega) _).grown hgrow (by simp; omega) (fun j hj => by have := (HOWN.out.lt j hj).1; omega)
                            have hcA : w2.cell? ⟨Gp, s, none⟩ = some (.slice av L.length cv) := hb2.cell (by rw [List.getElem?_set_self (by rw [hvl.out]; exact hsn)])
                            have hfA := hb2.free s
                            obtain ⟨g', c', rfl, -⟩ := (owns_form hown').resolve_left (by rintro ⟨-, h⟩; omega)
                            have HB2 := hid' hb2
                            have HOWN' := hid' hown'
                            clear hgrow hown' hk2 hnb hb2 hcv hfz
                            go_wp2_with fail
                            go_roundg (SS - (K + 1))
                            case rel =>
                              refine ⟨K + 1, L ++ [(TM.P SS K : Int)], .slice (some ⟨g', 0, none⟩) (L.length + 1) c', rfl, by omega, by go_num, hsk, ?_, ?_, ?_, hkp2.setCell _ _ rfl, hbel2.setCell (Nat.le_refl _) _⟩
                              · have := hlt2.out
                                have := hcfb.out.1
                                rw [Hid, hck2.out]
                                omega
                              · have e : intCells (L ++ [(TM.P SS K : Int)]) = intCells L ++ [.int .i64 (TM.P SS K : Int)] := by simp [intCells]
                                rw [e, List.length_append, List.length_singleton]
                                exact ownsRow_setCell_below HOWN'.out (by simp only; omega) _
                              · have := HB2.out.put s (.slice (some ⟨g', 0, none⟩) (L.length + 1) c')
                                rw [List.set_set] at this
                                exact this
                            case measure => omega
                        · have hgd' : decide ((L.length : Int) < x) = false := decide_eq_false hgo
                          have hce : TM.cf SS free K = TM.base z (s + 1) := by omega
                          have hgood := hid' (hten.out K L hce hturn.out)
                          have HCE := hid' hce
                          have HKP := hid' hkp
                          clear hown hblk hLl hcfl hfe hbse hbme hturn hce
                          go_wp2_with fail
                          go_quiet (fail)
                          go_wp2_with fail
                          go_roundg (n - (s + 1))
                          case rel =>
                            refine ⟨s + 1, K, vs.set s (.slice av L.length cv), rfl, by omega, hK, by go_num, rfl, HCE, HBLK.out.drewN _, ?_, (hkeep.trans hkp).drewN _, below_drewN hbel _⟩
                            obtain ⟨a', c', hv', hI', hb'⟩ := owns_ints HOWN.out hL64
                            injection hv' with e1 _ e3
                            subst e1 e3
                            refine (hrows.out.keep (HKP.out.drewN _) (fun b _ e => e)).put s _ ?_ hsn (fun t ht => ?_)
                            · refine .inr ⟨.inr (by omega), L, av, cv, rfl, hI', fun b' o e => ⟨?_, ?_⟩, hgood.out⟩
                              · have := hb' b' o e
                                omega
                              · exact owns_lt HOWN.out b' (by rw [e]; rfl)
                            · constructor
                              · rintro (h | h)
                                · exact .inl h
                                · exact .inr (by omega)
                              · rintro (h | h)
                                · exact .inl h
                                · exact .inr (by omega)
                          case measure => omega
                    · exact absurd h (by rintro (h | h); exact hx h; omega)
                · obtain rfl : n = s := by omega
                  obtain ⟨w3, rfl⟩ : ∃ w3 : World, w3 = wr := ⟨_, rfl⟩
                  have HR := hid' (show ∀ t, t < n → ∃ L a c, w3.cell? ⟨Gp, t, none⟩ = some (.slice a L.length c) ∧ Ints w3 a L.length L ∧ TM.Good z SS n t L from fun t ht => by
                    obtain ⟨v, h1, h2⟩ := hrows.out.2 t ht
                    rcases h2 with ⟨h2, -⟩ | ⟨-, L, a, c, rfl, hI, -, hg⟩
                    · exact absurd (.inr ht) h2
                    · exact ⟨L, a, c, hblk.cell h1, hI, hg⟩)
                  have hGp3 : Gp < w3.heap.size := hblk.lt
                  have hsy := hid' (TM.syms z SS n hSz.out hF.out hsum'.out)
                  have hXb := hid' (fun p (hp : p < SS) => TM.X_bound z SS (by omega) hF.out (TM.F z SS n) p hp (by obtain ⟨s, a, b, c⟩ := hsy.out p hp; exact ⟨s, a, c⟩))
                  have hpost := hid' (show ∀ v w', Below w3.heap.size w3 w' → w'.ownsRow (w3.heap.size + 1) 40 3 v SS (CM.cellsOf (TM.tab SS (TM.st z lg SS (TM.F z SS n)))) → StatesPost log z w0 (.returned (.tuple #[v, .int .i64 0])) w' from fun v w' h1 h2 => by
                    refine ⟨?_, .inr ⟨lg, hlg.out.1, hlg.out.2, ?_, v, rfl, ?_⟩⟩
                    · rw [HGP.out]; exact hbel.trans (h1.mono (by omega))
                    · rw [hpw.out]; exact hfb.out
                    · unfold table
                      rw [hpw.out, hl, HGP.out]
                      exact ownsRow_base h2 (by omega))
                  have HGD := hid' (show ∀ p : Nat, p < SS → ∀ t L, TM.Good z SS n t L → ((p : Int) ∈ L ↔ TM.F z SS n p = (t : Int)) ∧ (TM.F z SS n p = (t : Int) → (L.length : Int) + TM.cntEq (TM.F z SS n) (t : Int) p = TM.X z (TM.F z SS n) p) from fun p hp t L hg => ⟨hg.1 p hp, fun e => by
                    unfold TM.X
                    rw [e, Int.toNat_natCast, hg.2]⟩)
                  have HLX := hid' (show ∀ t L, TM.Good z SS n t L → t < n → L.length ≤ 64 from fun t L hg ht => by
                    have h1 := hg.2
                    have h2 := TM.pl_bound _ (SS : Int) (by omega) (TM.fits_getD z SS (by omega) hF.out t)
                    omega)
                  generalize hFF : TM.F z SS n = F at *
                  clear hFF hrows hblk hcf hkeep hmem HIB hbb' hfree HFG hfb
                  have hmk := fun u => make_ints u n (by omega)
                  obtain ⟨i1, hi1, hy0, hy1, hy2⟩ := info_parts infoState
                  go_wp2_with fail
                  clear hmk
                  have hB0 := Blk.new w3 3 (zeroRow n)
                  have hbel0 : Below w3.heap.size w3 (w3.alloc (.cells (zeroRow n).toArray 3)) := (Below.refl _ _).alloc (Nat.le_refl _) _
                  have hsz0 : w3.heap.size + 1 ≤ (w3.alloc (.cells (zeroRow n).toArray 3)).heap.size := by simp
                  rw [sRow_zero F n] at hB0 hbel0 hsz0 ⊢
                  generalize hgn : w3.heap.size = Gn at *
                  have HGN := hid' hgn
                  clear hgn
                  go_loopg [18, 20] SS (fun g v pv wx => ∃ p : Nat, g = SS - p ∧ p ≤ SS ∧ pv = .int .i64 (p : Int) ∧ wx.ownsRow (Gn + 1) 40 3 v p (CM.cellsOf (TM.tab p (TM.st z lg SS F))) ∧ Blk wx Gn 3 (sRow F n p 0) ∧ Below Gn w3 wx ∧ Gn + 1 ≤ wx.heap.size)
                  case atStart => exact ⟨0, by omega, by omega, rfl, World.ownsRow_nil _ _ _ _, hB0, hbel0, hsz0⟩
                  case round =>
                    clear hB0 hbel0 hsz0
                    obtain ⟨p, rfl, hp, rfl, hown, hseen, hbw, hsw⟩ := hrel
                    by_cases hpS : p < SS
                    · obtain ⟨sy, hsy1, hsy2, hsy3⟩ := hsy.out p hpS
                      rw [← outL_zero (TM.st z lg SS F) F p (by omega)] at hown
                      have hlen0 : (outL (TM.st z lg SS F) F p 0).length = p := by rw [outL_zero _ _ _ (by omega), TM.tab_length]
                      rw [show wr.ownsRow (Gn + 1) 40 3 u18 p (CM.cellsOf (outL (TM.st z lg SS F) F p 0)) = wr.ownsRow (Gn + 1) 40 3 u18 (outL (TM.st z lg SS F) F p 0).length (CM.cellsOf (outL (TM.st z lg SS F) F p 0)) by rw [hlen0]] at hown
                      have HOWN0 := hid' hown
                      clear hlen0 hown
                      go_wp2_with fail
                      obtain ⟨wp, rfl⟩ : ∃ wp : World, wp = wr := ⟨_, rfl⟩
                      have hszp := hbw.size
                      go_loopg [18, 21] n (fun g v sv wx => ∃ s : Nat, g = n - s ∧ s ≤ n ∧ sv = .int .i64 (s : Int) ∧ wx.ownsRow (Gn + 1) 40 3 v (outL (TM.st z lg SS F) F p s).length (CM.cellsOf (outL (TM.st z lg SS F) F p s)) ∧ Blk wx Gn 3 (sRow F n p s) ∧ Below Gn w3 wx ∧ Gn + 1 ≤ wx.heap.size)
                      case atStart => exact ⟨0, by omega, by omega, rfl, HOWN0.out, hseen, hbw, hsw⟩
                      case round =>
                        clear HOWN0 hseen hbw hsw hszp
                        obtain ⟨s, rfl, hs, rfl, hown, hseen, hbw, hsw⟩ := hrel
                        by_cases hsn : s < n
                        · obtain ⟨L, a, c, hcv0, hI0, hgood⟩ := HR.out s hsn
                          have hcv : wr.cell? ⟨Gp, s, none⟩ = some (.slice a L.length c) := (hbw.cell (p := ⟨Gp, s, none⟩) (show Gp < Gn by omega)).trans hcv0
                          have hI : Ints wr a L.length L := hI0.below (by rw [HGN.out]; exact hbw)
                          obtain ⟨hgm, hgx⟩ := HGD.out p hpS s L hgood
                          have hL64 := HLX.out s L hgood hsn
                          have hsc := hseen.cell (sRow_at F n p s hsn)
                          have hsf := hseen.free s
                          have hout := outL_length (TM.st z lg SS F) F p s
                          have i1' : (s : Int) < (n : Int) := by omega
                          have HOWN := hid' hown
                          have HSEEN := hid' hseen
                          have HI := hid' hI
                          clear hcv0 hI0 hgood hown hseen hI
                          by_cases hFs : F p = (s : Int)
                          · have hdp : decide ((p : Int) ∈ L) = true := decide_eq_true (hgm.2 hFs)
                            have hX1 := hgx hFs
                            have hX2 := hXb.out p hpS
                            have hsp := hid' (sRow_put F n p s hFs hsn)
                            have hop := hid' (outL_put (TM.st z lg SS F) F p s hFs)
                            have hst2 := hid' (show TM.st z lg SS F p = (F p, TM.bt lg (TM.X z F p), TM.bs lg SS (TM.X z F p)) from rfl)
                            have HFS := hid' hFs
                            clear hgm hgx hFs
                            generalize TM.X z F p = X at *
                            generalize TM.cntEq F (s : Int) p = cn at *
                            go_wp2_with fail
                            refine (has_any _ _ _ L _ _ HI.out).mono ?_
                            rintro e w' ⟨rfl, rfl⟩
                            rw [hdp]
                            clear hdp
                            go_wp2_with fail
                            go_quiet (fail)
                            go_wp2_with fail
                            have hlg6 : lg ≤ 6 := by have := hlg.out.2; omega
                            have hpI : (2 : Int) ^ lg = (SS : Int) := by rw [← hpw.out]; simp
                            have hx2 : X < 2 ^ (lg + 1) := by rw [Int.pow_succ, hpI]; omega
                            obtain ⟨q1, q2, q3, q4⟩ := TM.bs_range lg hlg6 X hX2.1 hx2
                            have hdm := hid' (fun j => TM.double_more lg hlg6 X hX2.1 hx2 j)
                            obtain ⟨B, hB⟩ := Int.eq_ofNat_of_zero_le q1
                            have hbsd : TM.bs lg SS X = X * 2 ^ B - SS := by unfold TM.bs; rw [hB]; rfl
                            rw [hbsd, hB] at hst2
                            rw [hB, hpI] at hdm
                            rw [hB, Int.toNat_natCast, hpI] at q3
                            have hB6 : B ≤ 6 := by omega
                            have hWs := hid' (show Blk ((wr.drewN nq).setCell ⟨Gn, s, none⟩ (.int .i64 ((cn : Int) + 1))) Gn 3 (sRow F n p (s + 1)) by rw [← hsp.out]; exact (HSEEN.out.drewN nq).put _ _)
                            have hWo := hid' (ownsRow_setCell_below (a := ⟨Gn, s, none⟩) (show (wr.drewN nq).ownsRow (Gn + 1) 40 3 u18 _ _ from HOWN.out) (Nat.lt_succ_self _) (.int .i64 ((cn : Int) + 1)))
                            have hWb : Below Gn w3 ((wr.drewN nq).setCell ⟨Gn, s, none⟩ (.int .i64 ((cn : Int) + 1))) := (below_drewN hbw nq).setCell (Nat.le_refl _) _
                            have hWz : Gn + 1 ≤ ((wr.drewN nq).setCell ⟨Gn, s, none⟩ (.int .i64 ((cn : Int) + 1))).heap.size := by simp; omega
                            have hXu : X * 2 ^ B ≤ 128 := by
                              rw [hB, Int.toNat_natCast, Int.add_mul, Int.pow_succ, hpI] at q4
                              have := CM.pow_pos B
                              omega
                            clear HSEEN HOWN hsp hbw hsw hcv hsf hsc hx2 q1 q2 q4 hB hbsd hX1
                            generalize (wr.drewN nq).setCell ⟨Gn, s, none⟩ (.int .i64 ((cn : Int) + 1)) = W at *
                            go_loopg [23, 24] B (fun g xv bv wx => ∃ j : Nat, g = B - j ∧ j ≤ B ∧ xv = .int .i64 (X * 2 ^ j) ∧ bv = .int .i64 (j : Int) ∧ wx = W)
                            case atStart => exact ⟨0, by omega, by omega, by simp, rfl, rfl⟩
                            case round =>
                              obtain ⟨j, rfl, hj, rfl, rfl, hwx⟩ := hrel
                              subst hwx
                              by_cases hjB : j < B
                              · have hlo := (hdm.out j).1 (by simpa using hjB)
                                have hpos : 0 ≤ X * 2 ^ j := by have := CM.pow_pos j; exact Int.mul_nonneg (by omega) (by omega)
                                have hdl : decide (X * 2 ^ j < (SS : Int)) = true := decide_eq_true hlo
                                have hnx := hid' (show 2 * (X * 2 ^ j) = X * 2 ^ (j + 1) by rw [Int.pow_succ, Int.mul_comm 2, Int.mul_assoc])
                                go_wp2_with fail
                                go_roundg (B - (j + 1))
                                case rel => exact ⟨j + 1, rfl, by omega, vl_int hnx.out, by go_num, rfl⟩
                                case measure => omega
                              · obtain rfl : B = j := by omega
                                have hdl : decide (X * 2 ^ B < (SS : Int)) = false := decide_eq_false (by omega)
                                have hszW := hWb.size
                                go_wp2_with (first | (at_builtin; refine wpList_append_own _ rfl _ _ 27 rfl (Gn + 1) 40 i1 _ 3 24 Try.underlying27 hi1 hy0 hy1 hy2 rfl (by decide) _ _ _ rfl (hWo.out.alloc _) ⟨wr.heap.size, 0, none⟩ 1 1 [.int .i64 (s : Int), .int .i64 (B : Int), .int .i64 (X * 2 ^ B - (SS : Int))] rfl rfl (three_new _ _ _ _ _) (three_one _ _ _) (by unfold maxLen; omega) (by omega) (by simp; omega) ?_))
                                intro v' w4 hown' hgrow _
                                have hnb := owns_not hWo.out Gn (Nat.lt_succ_self _)
                                have hk4 : Keeps (fun b => u18.ownBlock = some b) wr w4 := ((Keeps.refl _ wr).alloc _).grown hgrow (fun k e _ => e)
                                have hb4 := hid' (hk4.blk hWs.out hnb)
                                have hbel4 : Below Gn w3 w4 := (hWb.alloc (by omega) _).grown hgrow (by simp; omega) (fun j hj => by have := (hWo.out.lt j hj).1; omega)
                                have hsz4 := hk4.1
                                have hown4 := hid' (show w4.ownsRow (Gn + 1) 40 3 v' (outL (TM.st z lg SS F) F p (s + 1)).length (CM.cellsOf (outL (TM.st z lg SS F) F p (s + 1))) by
                                  rw [hop.out, CM.cellsOf_snoc, hst2.out, HFS.out, List.length_append, List.length_singleton]
                                  exact hown')
                                clear hgrow hown' hk4 hnb hWo hWs
                                go_wp2_with fail
                                go_roundg (n - (s + 1))
                                case rel => exact ⟨s + 1, rfl, by omega, by go_num, hown4.out, hb4.out, hbel4, by omega⟩
                                case measure => omega
                          · have hdp : decide ((p : Int) ∈ L) = false := decide_eq_false (fun h => hFs (hgm.1 h))
                            have hsp := hid' (sRow_skip F n p s hFs)
                            have hop := hid' (outL_skip (TM.st z lg SS F) F p s hFs)
                            clear hgm hgx
                            go_wp2_with fail
                            refine (has_any _ _ _ L _ _ HI.out).mono ?_
                            rintro e w' ⟨rfl, rfl⟩
                            rw [hdp]
                            clear hdp
                            go_wp2_with fail
                            go_roundg (n - (s + 1))
                            case rel => exact ⟨s + 1, rfl, by omega, by go_num, by rw [← hop.out]; exact HOWN.out, by rw [← hsp.out]; exact HSEEN.out, hbw, hsw⟩
                            case measure => omega
                        · obtain rfl : n = s := by omega
                          rw [outL_end (TM.st z lg SS F) F p n (by omega), TM.tab_length, ] at hown
                          rw [sRow_next F n p] at hseen
                          go_wp2_with fail
                          go_roundg (SS - (p + 1))
                          case rel => exact ⟨p + 1, rfl, by omega, by go_num, hown, hseen, hbw, hsw⟩
                          case measure => omega
                    · obtain rfl : SS = p := by omega
                      go_wp2
                      go_ret2
                      exact hpost.out _ _ hbw hown
        · have hbad := hid' (hG.out (by rw [hfill.out, hfitz]; simpa using hsum))
          have hsb' : (TM.sum z n != (SS : Int)) = true := by simpa using hsum
          go_wp2
          go_ret2
          exact hbad.out

theorem rstates_any (log : Int) (a : Option Addr) (n cap : Nat) (z : List Int) (w : World) (hI : Ints w a n z) :
    Calls Try.prog 11 #[.int .i64 log, .slice a n cap] w (StatesPost log z w) := by
  by_cases h : (log = 5 ∨ log = 6) ∧ 1 ≤ n ∧ n ≤ 16
  · obtain ⟨h1, h2⟩ := h
    rcases h1 with rfl | rfl
    · exact rstates_in 5 5 32 a n cap z w hI (.inl ⟨rfl, rfl, rfl⟩) h2
    · exact rstates_in 6 6 64 a n cap z w hI (.inr ⟨rfl, rfl, rfl⟩) h2
  · exact rstates_out log a n cap z w hI h
end Go.Proofs.Ytbhemchnjpajiaa

/- The law Parts, walked to its end: it answers true, whatever it is asked. -/
import Derived.Test.YtbhemchnjpajiaaPartWalks
namespace Go.Proofs.Ytbhemchnjpajiaa
open Go.RowKit
set_option linter.unusedVariables false

/-- Which states the spans have come to: those of the first m numbers, and j of the next. -/
def spRow (S : Nat) (log : Nat) (c : Int) (m : Nat) (x : Int) (j : Nat) : List Value := (List.range S).map fun k => .bool (TM.SN log S c m k || (decide (x ≤ (k : Int)) && decide ((k : Int) < x + j)))
theorem spRow_at (S log : Nat) (c : Int) (m : Nat) (x : Int) (j k : Nat) (h : k < S) : (spRow S log c m x j)[k]? = some (.bool (TM.SN log S c m k || (decide (x ≤ (k : Int)) && decide ((k : Int) < x + j)))) := by simp [spRow, h]
theorem made_sp (S log : Nat) (c x : Int) : madeCells #[.bool false] S = (spRow S log c 0 x 0).toArray := by
  apply Array.ext
  · simp [madeCells, spRow]
  · intro i h1 h2
    simp [madeCells, spRow, Nat.mod_one, TM.SN]
theorem spRow_zero (S log : Nat) (c : Int) (m : Nat) (x y : Int) : spRow S log c m x 0 = spRow S log c m y 0 := by
  unfold spRow
  apply List.map_congr_left
  intro k hk
  congr 2
  rw [Bool.eq_iff_iff]
  simp
  omega
theorem spRow_set (S log : Nat) (c : Int) (m : Nat) (x : Int) (j k : Nat) (hk : (k : Int) = x + j) (h : k < S) : (spRow S log c m x j).set k (.bool true) = spRow S log c m x (j + 1) := by
  apply List.ext_getElem
  · simp [spRow]
  · intro u h1 h2
    simp only [spRow, List.getElem_set, List.getElem_map, List.getElem_range]
    by_cases e : k = u
    · subst e
      rw [if_pos rfl]
      congr 1
      simp
      omega
    · rw [if_neg e]
      congr 2
      rw [Bool.eq_iff_iff]
      simp
      omega
theorem spRow_next (S log : Nat) (c : Int) (m : Nat) (j : Nat) (y : Int) (hj : (j : Int) = TM.wide log (c + m)) : spRow S log c m (TM.bs log S (c + m)) j = spRow S log c (m + 1) y 0 := by
  unfold spRow
  apply List.map_congr_left
  intro k hk
  congr 1
  simp only [TM.SN, TM.inSpan]
  rw [hj]
  rw [Bool.eq_iff_iff]
  simp
  omega
theorem make_sp (log : Nat) (c x : Int) (w : World) (S : Nat) (hn : S ≤ 281474976710656) :
    (Instr.makeSlice 38 (.int .i64 (S : Int)) (.int .i64 (S : Int))).run Try.prog w =
      .ok (.slice (some ⟨w.heap.size, 0, none⟩) S S) (w.alloc (.cells (spRow S log c 0 x 0).toArray 4)) := by
  obtain ⟨i0, hi, hz0, hz1, hz2⟩ := info_parts infoBool
  have h := run_make (P := Try.prog) w 38 4 i0 (.bool false) Try.underlying38 hi hz0 .i64 .i64 (S : Int) (S : Int) (by omega) (Int.le_refl _) (by rw [hz2]; omega) (by omega)
  rw [h, Int.toNat_natCast, hz1, Nat.mul_one, ← made_sp S log c x]
  rfl

theorem cntEq_mono (f : Nat → Int) (v : Int) (a b : Nat) (h : a ≤ b) : TM.cntEq f v a ≤ TM.cntEq f v b := by
  induction b with
  | zero => obtain rfl : a = 0 := by omega
            exact Nat.le_refl _
  | succ b ih =>
    by_cases e : a = b + 1
    · subst e; exact Nat.le_refl _
    · have := ih (by omega)
      simp only [TM.cntEq]
      omega
theorem tab_cells {w : World} {g S : Nat} {f : Nat → CM.Tri} (h : Blk w g 40 (CM.cellsOf (TM.tab S f))) (i : Nat) (hi : i < S) :
    w.cell? ⟨g, i * 3, none⟩ = some (.int .i64 (f i).1) ∧ w.cell? ⟨g, i * 3 + 1, none⟩ = some (.int .i64 (f i).2.1) ∧ w.cell? ⟨g, i * 3 + 2, none⟩ = some (.int .i64 (f i).2.2) := by
  obtain ⟨a, b, c⟩ := CM.cellsOf_at (TM.tab S f) i (by rw [TM.tab_length]; exact hi)
  rw [TM.tab_getD _ _ _ hi] at a b c
  exact ⟨h.cell a, h.cell b, h.cell c⟩

set_option maxRecDepth 100000 in
set_option maxHeartbeats 4000000 in
theorem parts_any (l0 : Int) (a : Option Addr) (n cap : Nat) (z : List Int) (w : World) (h0 : -9223372036854775808 ≤ l0 ∧ l0 ≤ 9223372036854775807) (hI : Ints w a n z) (hR : ∀ x ∈ z, -9223372036854775808 ≤ x ∧ x ≤ 9223372036854775807) :
    Calls Try.prog 5 #[.int .i64 l0, .slice a n cap] w fun e w' => e = .returned (.bool true) ∧ Below w.heap.size w w' := by
  go_enter Try.func5, Try.ntmps5
  go_wp2_with fail
  go_at_call 17
  refine (pick_any _ _ _ h0 (by omega)).mono ?_
  rintro e w' ⟨⟨r, rfl, hr0, hr1⟩, rfl⟩
  obtain ⟨lg, hlg, hlg'⟩ : ∃ lg : Nat, 5 + r = (lg : Int) ∧ (lg = 5 ∨ lg = 6) := ⟨(5 + r).toNat, by omega, by omega⟩
  have C := hid' (countsOf_any lg a n cap z w hI hR hlg')
  have hlgb : 5 ≤ lg ∧ lg ≤ 6 := by omega
  have HLG := hid' hlg'
  clear hI hR h0 hlg'
  go_wp2_with fail
  go_at_call 18
  refine C.out.mono ?_
  rintro e w1 ⟨hb1, g, c, cs, rest, rfl, hg1, hblk, hfill, hfine⟩
  clear C
  obtain ⟨hfits, f2, f3, fsum⟩ := TM.fillB_parts hfill
  have hI1 : Ints w1 (some ⟨g, 0, none⟩) cs.length cs := Ints.of_blk hblk (by omega)
  have C := hid' (states_ok lg (some ⟨g, 0, none⟩) cs.length c cs w1 hI1 HLG.out hfill)
  have HB := hid' hblk
  have HFI := hid' hfine
  have HFT := hid' hfits
  have HFS := hid' fsum
  clear hI1 hblk hfine hfits fsum hfill
  go_wp2_with fail
  go_at_call 12
  refine C.out.mono ?_
  rintro e w2 ⟨rfl, hg2, hb2⟩
  clear C hlg hr0 hr1
  obtain ⟨SS, hSS⟩ : ∃ SS : Nat, SS = 2 ^ lg := ⟨_, rfl⟩
  have hSz : Hid (TM.Size SS) := by rw [hSS]; rcases HLG.out with rfl | rfl; exact .inl rfl; exact .inr rfl
  have hS64 : 32 ≤ SS ∧ SS ≤ 64 := by rw [hSS]; rcases HLG.out with rfl | rfl <;> decide
  have hpw : (2 : Int) ^ lg = (SS : Int) := by rw [hSS]; simp
  have HSS := hid' hSS
  unfold table at hg2
  rw [← hSS] at hg2 HFI HFT HFS ⊢
  clear hSS
  have hb02 : Below w.heap.size w w2 := hb1.trans (hb2.mono hb1.size)
  have hgw2 : g < w1.heap.size := HB.out.lt
  have HB2 := hid' (HB.out.below hb2 hgw2)
  have hgl2 : w1.heap.size < w2.heap.size := hg2.lt
  have HG2 := hid' hg2
  have hpl := hid' fun s hs => TM.places cs SS cs.length s hSz.out HFT.out HFS.out hs
  have hsy := hid' (TM.syms cs SS cs.length hSz.out HFT.out HFS.out)
  obtain ⟨F, hF⟩ : ∃ F, F = TM.F cs SS cs.length := ⟨_, rfl⟩
  rw [← hF] at HG2 hpl hsy
  have hsz1 := hb1.size
  generalize hGG : w1.heap.size = G2 at *
  clear hF hg2 hb2 hb1 hGG HB
  go_wp2_with (go_at_call 19; refine (power_same _ _ (by omega) (by omega)).mono ?_; rintro e w' ⟨rfl, rfl⟩)
  have hcl : Hid (∀ k, k < cs.length → w2.cell? ⟨g, k, none⟩ = some (.int .i64 (cs.getD k 0))) := fun k hk => HB2.out.cell (by
    rw [List.getElem?_append_left (by simpa [intCells] using hk)]
    exact intCells_at cs k hk)
  go_loopg [9] cs.length (fun q sv wr => ∃ s : Nat, q = cs.length - s ∧ s ≤ cs.length ∧ sv = .int .i64 (s : Int) ∧ Below w2.heap.size w2 wr)
  case atStart => exact ⟨0, by omega, by omega, rfl, Below.refl _ _⟩
  case round =>
    obtain ⟨s, rfl, hs, rfl, hbel⟩ := hrel
    have hsz := hbel.size
    by_cases hsn : s < cs.length
    · have hcs : wr.cell? ⟨g, s, none⟩ = some (.int .i64 (cs.getD s 0)) := (hbel.cell (p := ⟨g, s, none⟩) (show g < w2.heap.size by omega)).trans (hcl.out s hsn)
      have hps := hpl.out s hsn
      have hfn : cs.getD s 0 = -1 ∨ (1 ≤ cs.getD s 0 ∧ cs.getD s 0 ≤ SS) := HFI.out _ (by rw [List.getD_eq_getElem?_getD, List.getElem?_eq_getElem hsn]; exact List.getElem_mem _)
      have hX : Hid (∀ p, F p = (s : Int) → TM.X cs F p = TM.pl (cs.getD s 0) + TM.cntEq F (s : Int) p) := by
        intro p hp
        unfold TM.X
        rw [hp, Int.toNat_natCast]
      have hcx := hid' (hcl.out s hsn)
      generalize cs.getD s 0 = x at *
      obtain ⟨c, hc, hc1⟩ : ∃ c : Nat, TM.pl x = (c : Int) ∧ (1 ≤ c ∧ c ≤ SS) := ⟨(TM.pl x).toNat, by unfold TM.pl; split <;> omega, by unfold TM.pl; split <;> omega⟩
      rw [hc] at hps hX
      have hTT := TM.T_all lg HLG.out c hc1.1 (by rw [← HSS.out]; exact hc1.2)
      rw [← HSS.out] at hTT
      have HTT := hid' hTT
      have HPS := hid' hps
      have HPL := hid' hc
      clear hTT hps hc
      have hmk := fun u => make_sp lg c 0 u SS (by omega)
      go_wp2_with fail
      clear hmk
      have hGs : Blk (wr.alloc (.cells (spRow SS lg c 0 0 0).toArray 4)) wr.heap.size 4 (spRow SS lg c 0 0 0) := Blk.new _ _ _
      have hbs : Below w2.heap.size w2 (wr.alloc (.cells (spRow SS lg c 0 0 0).toArray 4)) := hbel.alloc hsz _
      generalize hgs : wr.heap.size = Gs at *
      clear hgs
      go_loopg [11, 12, 13] SS (fun q pv tv iv wr => ∃ i : Nat, q = SS - i ∧ i ≤ SS ∧ iv = .int .i64 (i : Int) ∧ pv = .int .i64 (TM.cntEq F (s : Int) i : Int) ∧ tv = .int .i64 (TM.T lg c (TM.cntEq F (s : Int) i)) ∧ Blk wr Gs 4 (spRow SS lg c (TM.cntEq F (s : Int) i) 0 0) ∧ Below w2.heap.size w2 wr)
      case atStart => exact ⟨0, by omega, by omega, rfl, rfl, rfl, hGs, hbs⟩
      case round =>
        clear hGs hbs hbel hcs
        obtain ⟨i, rfl, hi, rfl, rfl, rfl, hseen, hbel⟩ := hrel
        by_cases hiS : i < SS
        · have hG2l : G2 < w2.heap.size := hgl2
          obtain ⟨k0, k1, k2⟩ := tab_cells (HG2.out.below hbel hG2l) i hiS
          simp only [TM.st] at k0 k1 k2
          have hcnt : Hid (TM.cntEq F (s : Int) (i + 1) = TM.cntEq F (s : Int) i + if F i = (s : Int) then 1 else 0) := rfl
          have hcm := cntEq_mono F (s : Int) (i + 1) SS hiS
          obtain ⟨sy, hsy1, hsy2, hsy3⟩ := hsy.out i hiS
          by_cases hFs : F i = (s : Int)
          · have hXi := hX.out i hFs
            have hmc : TM.cntEq F (s : Int) i < c := by
              have := hcnt.out
              rw [if_pos hFs] at this
              have := HPS.out
              omega
            have hcn1 : Hid (TM.cntEq F (s : Int) (i + 1) = TM.cntEq F (s : Int) i + 1) := by rw [Hid, hcnt.out, if_pos hFs]
            have hcells := hid' (show ∀ wx, Below w2.heap.size w2 wx → wx.cell? ⟨G2, i * 3 + 1, none⟩ = some (.int .i64 (TM.bt lg (TM.X cs F i))) ∧ wx.cell? ⟨G2, i * 3 + 2, none⟩ = some (.int .i64 (TM.bs lg SS (TM.X cs F i))) from fun wx hx => (tab_cells (HG2.out.below hx hG2l) i hiS).2)
            rw [hXi] at k1 k2 hcells
            rw [hFs] at k0
            clear hXi hcnt hcm hsy1 hsy2 hsy3
            generalize TM.cntEq F (s : Int) i = m at *
            have hx2 : (c : Int) + m < 2 ^ (lg + 1) := by
              rw [Int.pow_succ, hpw]
              omega
            have hrange := TM.bs_range lg (by omega) ((c : Int) + m) (by omega) hx2
            obtain ⟨hr1, hr2, hr3, hr4⟩ := hrange
            have hTm := TM.T_mono lg c 0 m (by omega)
            have hTm2 := TM.T_mono lg c (m + 1) c (by omega)
            have hTs : TM.T lg c (m + 1) = TM.T lg c m + TM.wide lg ((c : Int) + m) := rfl
            have hT0 : TM.T lg c 0 = 0 := rfl
            rw [HTT.out, hTs] at hTm2
            rw [hT0] at hTm
            have hnew := hid' fun k => TM.SN_new lg (by omega) SS c (by omega) m (by omega) hx2 k
            have hnext := hid' fun j => spRow_next SS lg c m j 0
            have HTs := hid' hTs
            have hwd : Hid (TM.wide lg ((c : Int) + m) = 2 ^ (TM.bt lg ((c : Int) + m)).toNat) := rfl
            have hbsd : Hid (TM.bs lg SS ((c : Int) + m) = ((c : Int) + m) * 2 ^ (TM.bt lg ((c : Int) + m)).toNat - SS) := rfl
            rw [Int.pow_succ, hpw, Int.add_mul] at hr4
            rw [hpw] at hr3
            have hB0 : 0 ≤ TM.bs lg SS ((c : Int) + m) := by rw [hbsd.out]; omega
            have hB1 : TM.bs lg SS ((c : Int) + m) + TM.wide lg ((c : Int) + m) ≤ SS := by rw [hbsd.out, hwd.out]; omega
            have hw0 := TM.wide_pos lg ((c : Int) + m)
            rw [spRow_zero SS lg c m 0 (TM.bs lg SS ((c : Int) + m))] at hseen
            have HSEEN := hid' hseen
            clear hbsd hr3 hr4 hTs hT0 hseen
            have hpwd : (2 : Int) ^ (TM.bt lg ((c : Int) + m)).toNat = TM.wide lg ((c : Int) + m) := rfl
            generalize hWD : TM.wide lg ((c : Int) + m) = wd at *
            replace hWD := hid' hWD
            have HXN := hid' (show ∀ k : Nat, TM.inSpan lg SS ((c : Int) + m) k = (decide (TM.bs lg SS ((c : Int) + m) ≤ (k : Int)) && decide ((k : Int) < TM.bs lg SS ((c : Int) + m) + wd)) from fun k => by unfold TM.inSpan; rw [hWD.out])
            clear hWD hwd
            generalize TM.bt lg ((c : Int) + m) = bt at *
            obtain ⟨B, hB⟩ := Int.eq_ofNat_of_zero_le hB0
            rw [hB] at k2 hB1 HXN hnext HSEEN hcells
            clear hB hB0
            generalize hTM : TM.T lg c m = Tm at *
            clear hTM
            have hw64 : wd ≤ 64 := by omega
            have t1 : decide (bt < 0) = false := decide_eq_false (by omega)
            have t2 : decide ((lg : Int) < bt) = false := decide_eq_false (by omega)
            have t4 : decide ((SS : Int) < (B : Int) + wd) = false := decide_eq_false (by omega)
            have t3 : decide ((B : Int) < 0) = false := decide_eq_false (by omega)
            have hw1 : IntKind.i64.wrap ((B : Int) + wd) = (B : Int) + wd := by rw [IntWalk.i64_left, IntWalk.wrap64_in _ (by omega)]
            have i1 : (i : Int) < (SS : Int) := by omega
            go_wp2_with fail
            go_quiet ((go_at_call 19; refine Calls.quiet_of_same (power_any _ _ ?_ ?_); omega; omega))
            go_wp2_with fail
            clear k0 k1 k2 t3 t4
            go_loopg [12, 14] wd.toNat (fun q tv kv wx => ∃ j : Nat, q = wd.toNat - j ∧ j ≤ wd.toNat ∧ kv = .int .i64 ((B : Int) + j) ∧ tv = .int .i64 (Tm + j) ∧ Blk wx Gs 4 (spRow SS lg c m B j) ∧ Below w2.heap.size w2 wx)
            case atStart => exact ⟨0, by omega, by omega, by simp, by simp, HSEEN.out.drewN _, below_drewN hbel _⟩
            case round =>
              clear HSEEN hbel
              obtain ⟨j, rfl, hj, rfl, rfl, hseen, hbel⟩ := hrel
              obtain ⟨k1, k2⟩ := hcells.out _ hbel
              have i1 : (i : Int) < (SS : Int) := by omega
              have hw2 : IntKind.i64.wrap ((B : Int) + wd) = (B : Int) + wd := by rw [IntWalk.i64_left, IntWalk.wrap64_in _ (by omega)]
              by_cases hjw : (j : Int) < wd
              · have hkS : B + j < SS := by omega
                have hcell := hseen.cell (spRow_at SS lg c m B j (B + j) hkS)
                have hfalse : (TM.SN lg SS c m (B + j) || (decide ((B : Int) ≤ ((B + j : Nat) : Int)) && decide (((B + j : Nat) : Int) < (B : Int) + j))) = false := by
                  rw [hnew.out (B + j) (by rw [HXN.out]; simp; omega)]
                  simp
                rw [hfalse] at hcell
                have hfr := hseen.free (B + j)
                have hset := hid' (spRow_set SS lg c m B j (B + j) (by omega) hkS)
                have HSE := hid' hseen
                clear hfalse hseen
                have d1 : decide ((B : Int) + j < (B : Int) + wd) = true := decide_eq_true (by omega)
                have d1' : decide ((j : Int) < wd) = true := decide_eq_true (by omega)
                have i2 : (B : Int) + (j : Int) < (SS : Int) := by omega
                go_wp2_with fail
                go_quiet ((go_at_call 19; refine Calls.quiet_of_same (power_any _ _ ?_ ?_); omega; omega))
                go_wp2_with fail
                go_roundg (wd.toNat - (j + 1))
                case rel => exact ⟨j + 1, rfl, by omega, by go_num, by go_num, by rw [← hset.out]; exact (HSE.out.drewN _).put _ _, (below_drewN hbel _).setCell hsz _⟩
                case measure => omega
              · have d1 : decide ((B : Int) + j < (B : Int) + wd) = false := decide_eq_false (by omega)
                have d1' : decide ((j : Int) < wd) = false := decide_eq_false (by omega)
                go_wp2_with fail
                go_quiet ((go_at_call 19; refine Calls.quiet_of_same (power_any _ _ ?_ ?_); omega; omega))
                go_wp2_with fail
                go_roundg (SS - (i + 1))
                case rel =>
                  have hjw' : (j : Int) = wd := by omega
                  refine ⟨i + 1, rfl, by omega, by go_num, ?_, ?_, ?_, below_drewN hbel _⟩
                  · rw [hcn1.out]; go_num
                  · rw [hcn1.out, HTs.out, hjw']
                  · rw [hcn1.out, ← hnext.out j hjw']
                    exact hseen.drewN _
                case measure => omega
          · have hFb : (F i != (s : Int)) = true := by simpa using hFs
            have hcn1 : Hid (TM.cntEq F (s : Int) (i + 1) = TM.cntEq F (s : Int) i) := by rw [Hid, hcnt.out, if_neg hFs]; rfl
            clear hcnt hsy1 hsy2 hsy3
            go_wp2
            go_roundg (SS - (i + 1))
            case rel => exact ⟨i + 1, rfl, by omega, by go_num, by rw [hcn1.out], by rw [hcn1.out], by rw [hcn1.out]; exact hseen, hbel⟩
            case measure => omega
        · obtain rfl : i = SS := by omega
          have hcs : wr.cell? ⟨g, s, none⟩ = some (.int .i64 x) := (hbel.cell (p := ⟨g, s, none⟩) (show g < w2.heap.size by omega)).trans hcx.out
          have hcc : TM.cntEq F (s : Int) i = c := by have := HPS.out; omega
          rw [hcc, HTT.out]
          by_cases hx : x = -1
          · obtain rfl : c = 1 := by have := HPL.out; rw [hx] at this; simp [TM.pl] at this; omega
            subst hx
            have i1 : (s : Int) < (cs.length : Int) := by omega
            clear hcc
            go_wp2
            go_roundg (cs.length - (s + 1))
            case rel => exact ⟨s + 1, rfl, by omega, by go_num, hbel⟩
            case measure => omega
          · have hxc : x = (c : Int) := by have := HPL.out; unfold TM.pl at this; rw [if_neg hx] at this; exact this
            subst hxc
            have i1 : (s : Int) < (cs.length : Int) := by omega
            clear hcc
            go_wp2
            go_roundg (cs.length - (s + 1))
            case rel => exact ⟨s + 1, rfl, by omega, by go_num, hbel⟩
            case measure => omega
    · obtain rfl : s = cs.length := by omega
      go_wp2
      go_ret
      exact ⟨rfl, hb02.trans (hbel.mono hb02.size)⟩
end Go.Proofs.Ytbhemchnjpajiaa

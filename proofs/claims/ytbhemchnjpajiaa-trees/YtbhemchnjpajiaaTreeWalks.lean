/- The law Trees, walked: both sides answer alike, what was handed in is as it was, the answers share no room. -/
import Derived.Test.YtbhemchnjpajiaaTreeLeaves
import Derived.Test.YtbhemchnjpajiaaSpanMath
import Derived.Test.YtbhemchnjpajiaaMixCodes
namespace Go.Proofs.Ytbhemchnjpajiaa
open Go.RowKit
set_option linter.unusedVariables false

theorem codes_bad_same (a : Option Addr) (n cap : Nat) (z : List Int) (w : World) (hI : Ints w a n z) (hg : CM.good z = false) :
    Calls Try.prog 21 #[.slice a n cap] w fun e w' => e = .returned (.tuple #[.slice none 0 0, .int .i64 4]) ∧ w = w' :=
  (codes_bad a n cap z w hI hg).mono fun e w' h => ⟨h.1, h.2.symm⟩
theorem sameCodes_nil_same (w : World) :
    Calls Try.prog 22 #[.slice none 0 0, .slice none 0 0] w fun e w' => e = .returned (.bool true) ∧ w = w' :=
  (sameCodes_nil w).mono fun e w' h => ⟨h.1, h.2.symm⟩

set_option maxRecDepth 100000 in
set_option maxHeartbeats 4000000 in
theorem trees_bad (a : Option Addr) (n cap : Nat) (z : List Int) (w : World) (hI : Ints w a n z) (hr : n * 8 ≤ 140737488351232) (hg : CM.good z = false) :
    Calls Try.prog 6 #[.slice a n cap] w fun e w' => e = .returned (.bool true) ∧ Below w.heap.size w w' := by
  have hl := hI.1
  go_enter Try.func6, Try.ntmps6
  go_wp2_with fail
  refine (handed_any _ _ _ z _ hI).mono ?_
  rintro e w1 ⟨rfl, hblk, hb1⟩
  go_wp2_with fail
  refine (rcodes_any _ _ _ z _ (hI.below hb1)).mono ?_
  rintro e w2 ⟨hb2, h⟩
  rcases h with ⟨-, rfl⟩ | ⟨h, -⟩
  · have hblk2 := hblk.below hb2 hblk.lt
    have hbw2 : Below w.heap.size w w2 := hb1.trans (hb2.mono hb1.size)
    have qn := fun W => run_neq_slice_nil_any (P := Try.prog) W 41 47 none 0 0 0 0 Try.underlying41
    go_wp2_with fail
    refine (codes_bad_same _ _ _ z _ (in_ints hblk2 hl hr) hg).mono ?_
    rintro e w3 ⟨rfl, rfl⟩
    go_wp2_with fail
    refine (codes_bad_same _ _ _ z _ (in_ints hblk2 hl hr) hg).mono ?_
    rintro e w3 ⟨rfl, rfl⟩
    go_wp2_with fail
    refine (sameCodes_nil_same _).mono ?_
    rintro e w3 ⟨rfl, rfl⟩
    go_wp2_with fail
    refine (sameCodes_nil_same _).mono ?_
    rintro e w3 ⟨rfl, rfl⟩
    go_wp2_with fail
    refine (mixedCodes_any none none 0 0 0 0 w2 w2.heap.size (fun _ => 0) (.inl ⟨rfl, rfl, rfl⟩) (.inl ⟨rfl, rfl, rfl⟩) (by omega) (by omega) (Nat.le_refl _)).mono ?_
    rintro e w4 ⟨rfl, hb4⟩
    have hblk4 := hblk2.below hb4 hblk2.lt
    have hbw4 : Below w.heap.size w w4 := hbw2.trans (hb4.mono hbw2.size)
    go_wp2_with fail
    refine (handed_any _ _ _ z _ (hI.below hbw4)).mono ?_
    rintro e w5 ⟨rfl, hblk5, hb5⟩
    have hbw5 : Below w.heap.size w w5 := hbw4.trans (hb5.mono hbw4.size)
    have hblk4' := hblk4.below hb5 hblk4.lt
    go_wp2_with fail
    refine (sameInts_any _ _ _ _ _ (z ++ [-77, -77]) _ (in_all hblk4' hl hr) (in_all hblk5 hl hr)).mono ?_
    rintro e w6 ⟨rfl, q, rfl⟩
    go_wp2_with fail
    refine (codes_bad_same _ _ _ z _ (in_ints (hblk4'.drewN q) hl hr) hg).mono ?_
    rintro e w3 ⟨rfl, rfl⟩
    go_wp2_with fail
    refine (sameCodes_nil_same _).mono ?_
    rintro e w3 ⟨rfl, rfl⟩
    go_wp2
    go_ret
    exact ⟨rfl, below_drewN hbw5 q⟩
  · rw [hg] at h; cases h

set_option maxRecDepth 100000 in
set_option maxHeartbeats 4000000 in
theorem trees_good (a : Option Addr) (n cap : Nat) (z : List Int) (w : World) (hI : Ints w a n z) (hr : n * 8 ≤ 140737488351232) (hg : CM.good z = true) :
    Calls Try.prog 6 #[.slice a n cap] w fun e w' => e = .returned (.bool true) ∧ Below w.heap.size w w' := by
  have hl := hI.1
  obtain ⟨g1, g2, g3, g4⟩ := good_parts hg
  have T := CM.told g1 (by simpa using g2) g3 g4
  have hpos := T.pos
  have hfew := T.few
  clear T g1 g2 g3 g4
  go_enter Try.func6, Try.ntmps6
  go_wp2_with fail
  refine (handed_any _ _ _ z _ hI).mono ?_
  rintro e w1 ⟨rfl, hblk, hb1⟩
  go_wp2_with fail
  refine (rcodes_any _ _ _ z _ (hI.below hb1)).mono ?_
  rintro e w2 ⟨hb2, h⟩
  rcases h with ⟨h, -⟩ | ⟨-, v, rfl, hown⟩
  · rw [hg] at h; cases h
  · obtain ⟨gw, cw, rw', hvw, hgw1, hbw, hcw, -, -⟩ := owns_slice hown hpos
    rw [hvw]
    have hblk2 := hblk.below hb2 hblk.lt
    have hbel2 : Below w.heap.size w w2 := hb1.trans (hb2.mono hb1.size)
    clear hown hvw
    go_wp2_with fail
    refine (codes_rows _ _ _ z _ (in_ints hblk2 hl hr) hg hpos).mono ?_
    rintro e w3 ⟨gf, cf, rf, rfl, hgf1, hbf, hcf1, hcf2, hcf3, hb3⟩
    have hblk3 := hblk2.below hb3 hblk2.lt
    have hbw3 := hbw.below hb3 hbw.lt
    go_wp2_with fail
    refine (codes_rows _ _ _ z _ (in_ints hblk3 hl hr) hg hpos).mono ?_
    rintro e w4 ⟨ga, ca, ra, rfl, hga1, hba, hca1, hca2, hca3, hb4⟩
    have hblk4 := hblk3.below hb4 hblk3.lt
    have hbw4 := hbw3.below hb4 hbw3.lt
    have hbf4 := hbf.below hb4 hbf.lt
    go_wp2_with fail
    refine (sameCodes_any gf gw cf cw (CM.codes z) _ ⟨rf, hbf4⟩ ⟨rw', hbw4⟩ (by omega)).mono ?_
    rintro e w5 ⟨rfl, q5, rfl⟩
    go_wp2_with fail
    refine (sameCodes_any ga gw ca cw (CM.codes z) _ ⟨ra, hba.drewN q5⟩ ⟨rw', hbw4.drewN q5⟩ (by omega)).mono ?_
    rintro e w6 ⟨rfl, q6, rfl⟩
    go_wp2_with fail
    have hw23 : w2.heap.size ≤ w3.heap.size := hb3.size
    have hw34 : w3.heap.size ≤ w4.heap.size := hb4.size
    have hgf2 := hbf.lt
    have hbel4 : Below w.heap.size w w4 := (hbel2.trans (hb3.mono hbel2.size)).trans (hb4.mono (Nat.le_trans hbel2.size hw23))
    refine (mixedCodes_any (some ⟨gf, 0, none⟩) (some ⟨ga, 0, none⟩) (CM.codes z).length cf (CM.codes z).length ca (w4.drewN (q5 + q6)) w2.heap.size (fun x => if x = gf then -1 else -2)
      (.inr ⟨gf, cf, _, rfl, hgf1, hbf4.drewN _, hcf3, hcf1, hcf2, by omega, by simp, by omega, fun j hj => by omega⟩)
      (.inr ⟨ga, ca, _, rfl, by omega, hba.drewN _, hca3, hca1, hca2, by omega, if_neg (by omega), by omega, fun j hj => by omega⟩)
      (by omega) (by omega) (by show w2.heap.size ≤ w4.heap.size; omega)).mono ?_
    rintro e w7 ⟨rfl, hb7⟩
    have hblk7 : Blk w7 w.heap.size 3 (intCells (z ++ [-77, -77])) := Blk.below (hblk4.drewN (q5 + q6)) hb7 hblk2.lt
    have hbw7 : Blk w7 gw 47 (CM.cellsOf (CM.codes z) ++ rw') := Blk.below (hbw4.drewN (q5 + q6)) hb7 hbw.lt
    have hbel7 : Below w.heap.size w w7 := (below_drewN hbel4 (q5 + q6)).trans (hb7.mono hbel2.size)
    go_wp2_with fail
    refine (handed_any _ _ _ z _ (hI.below hbel7)).mono ?_
    rintro e w8 ⟨rfl, hblk8, hb8⟩
    have hbel8 : Below w.heap.size w w8 := hbel7.trans (hb8.mono hbel7.size)
    have hblk7' := hblk7.below hb8 hblk7.lt
    have hbw8 := hbw7.below hb8 hbw7.lt
    go_wp2_with fail
    refine (sameInts_any _ _ _ _ _ (z ++ [-77, -77]) _ (in_all hblk7' hl hr) (in_all hblk8 hl hr)).mono ?_
    rintro e w9 ⟨rfl, q9, rfl⟩
    go_wp2_with fail
    refine (codes_rows _ _ _ z _ (in_ints (hblk7'.drewN q9) hl hr) hg hpos).mono ?_
    rintro e w10 ⟨gl, cl, rl, rfl, hgl1, hbl, hcl1, hcl2, hcl3, hb10⟩
    have hbw10 := Blk.below (hbw8.drewN q9) hb10 hbw8.lt
    have hbel10 : Below w.heap.size w w10 := (below_drewN hbel8 q9).trans (hb10.mono hbel8.size)
    go_wp2_with fail
    refine (sameCodes_any gl gw cl cw (CM.codes z) _ ⟨rl, hbl⟩ ⟨rw', hbw10⟩ (by omega)).mono ?_
    rintro e w11 ⟨rfl, q11, rfl⟩
    go_wp2
    go_ret
    exact ⟨rfl, below_drewN hbel10 q11⟩

theorem trees_any (a : Option Addr) (n cap : Nat) (z : List Int) (w : World) (hI : Ints w a n z) (hr : n * 8 ≤ 140737488351232) :
    Calls Try.prog 6 #[.slice a n cap] w fun e w' => e = .returned (.bool true) ∧ Below w.heap.size w w' := by
  cases h : CM.good z with
  | true => exact trees_good a n cap z w hI hr h
  | false => exact trees_bad a n cap z w hI hr h
end Go.Proofs.Ytbhemchnjpajiaa

/- The law Tables, walked: both sides answer alike, what was handed in is as it was, the answers share no room. -/
import Derived.Test.YtbhemchnjpajiaaTreeLeaves
import Derived.Test.YtbhemchnjpajiaaTabRef
import Derived.Test.YtbhemchnjpajiaaMixStates
namespace Go.Proofs.Ytbhemchnjpajiaa
open Go.RowKit
set_option linter.unusedVariables false

theorem sameStates_nil (w : World) :
    Calls Try.prog 13 #[.slice none 0 0, .slice none 0 0] w fun e w' => e = .returned (.bool true) ∧ w' = w := by
  go_enter Try.func13, Try.ntmps13
  go_wp2_with fail
  refine wp_loop_rounds 1 ?_
  rw [rounds_succ]
  go_wp2
  go_ret
  exact ⟨rfl, rfl⟩

set_option maxHeartbeats 400000 in
theorem sameStates_any (g1 g2 c1 c2 : Nat) (L : List CM.Tri) (w : World) (h1 : Sl3 w 40 g1 L) (h2 : Sl3 w 40 g2 L) (hL : L.length ≤ 2000) :
    Calls Try.prog 13 #[.slice (some ⟨g1, 0, none⟩) L.length c1, .slice (some ⟨g2, 0, none⟩) L.length c2] w fun e w' => e = .returned (.bool true) ∧ ∃ q, w' = w.drewN q := by
  go_enter Try.func13, Try.ntmps13
  go_wp2_with fail
  go_loopg [5] L.length (fun g iv wr => ∃ i : Nat, g = L.length - i ∧ i ≤ L.length ∧ iv = .int .i64 (i : Int) ∧ ∃ q, wr = w.drewN q)
  case atStart => exact ⟨0, by omega, by omega, rfl, 0, rfl⟩
  case round =>
    obtain ⟨i, rfl, hi, rfl, q, hwr⟩ := hrel
    subst hwr
    by_cases hin : i < L.length
    · obtain ⟨r1, hr1⟩ := h1
      obtain ⟨r2, hr2⟩ := h2
      have hl := CM.cellsOf_length L
      obtain ⟨a0, a1, a2⟩ := CM.cellsOf_at L i hin
      have x0 := hr1.cell (j := i * 3) (by rw [List.getElem?_append_left (by omega)]; exact a0)
      have x1 := hr1.cell (j := i * 3 + 1) (by rw [List.getElem?_append_left (by omega)]; exact a1)
      have x2 := hr1.cell (j := i * 3 + 2) (by rw [List.getElem?_append_left (by omega)]; exact a2)
      have y0 := hr2.cell (j := i * 3) (by rw [List.getElem?_append_left (by omega)]; exact a0)
      have y1 := hr2.cell (j := i * 3 + 1) (by rw [List.getElem?_append_left (by omega)]; exact a1)
      have y2 := hr2.cell (j := i * 3 + 2) (by rw [List.getElem?_append_left (by omega)]; exact a2)
      clear hr1 hr2 hl a0 a1 a2
      generalize L.getD i (0, 0, 0) = C at *
      obtain ⟨p, r, s⟩ := C
      simp only at x0 x1 x2 y0 y1 y2
      have i1 : (i : Int) < (L.length : Int) := by omega
      go_wp2_with fail
      go_quiet (fail)
      go_wp2
      go_roundg (L.length - (i + 1))
      case rel => exact ⟨i + 1, rfl, by omega, by go_num, _, rfl⟩
      case measure => omega
    · go_wp2
      go_ret
      exact ⟨rfl, _, rfl⟩
theorem sameStates_nil_same (w : World) :
    Calls Try.prog 13 #[.slice none 0 0, .slice none 0 0] w fun e w' => e = .returned (.bool true) ∧ w = w' :=
  (sameStates_nil w).mono fun e w' h => ⟨h.1, h.2.symm⟩

theorem table_length (lg : Nat) (z : List Int) : (table lg z).length = 2 ^ lg := by unfold table; rw [TM.tab_length]
/-- States, where the counts may be. -/
theorem states_rows (lg : Nat) (a : Option Addr) (n cap : Nat) (z : List Int) (w : World) (hI : Ints w a n z) (hlog : lg = 5 ∨ lg = 6) (hf : TM.fillB z (2 ^ lg : Nat) = true) :
    Calls Try.prog 12 #[.int .i64 (lg : Int), .slice a n cap] w fun e w' => e = .returned (.tuple #[.slice (some ⟨w.heap.size, 0, none⟩) (table lg z).length (table lg z).length, .int .i64 0]) ∧ Blk w' w.heap.size 40 (CM.cellsOf (table lg z) ++ []) ∧ Below w.heap.size w w' := by
  rw [table_length, List.append_nil]
  exact states_ok lg a n cap z w hI hlog hf

set_option maxHeartbeats 400000 in
theorem anew_bad (log : Int) (a : Option Addr) (n cap : Nat) (z : List Int) (w : World) (hI : Ints w a n z) (hg : goodT log z = false) :
    Calls Try.prog 16 #[.int .i64 log, .slice a n cap, .slice none 0 0, .int .i64 4] w fun e w' => e = .returned (.bool true) ∧ w = w' := by
  go_enter Try.func16, Try.ntmps16
  go_wp2_with fail
  refine (states_bad _ _ _ _ z _ hI hg).mono ?_
  rintro e w' ⟨rfl, rfl⟩
  go_wp2_with fail
  refine (sameStates_nil_same _).mono ?_
  rintro e w' ⟨rfl, rfl⟩
  go_wp2
  go_ret
  exact ⟨rfl, rfl⟩

set_option maxHeartbeats 400000 in
theorem anew_good (lg : Nat) (a : Option Addr) (n cap gw cw : Nat) (z : List Int) (w : World) (hI : Ints w a n z) (hlog : lg = 5 ∨ lg = 6) (hf : TM.fillB z (2 ^ lg : Nat) = true) (hw : Sl3 w 40 gw (table lg z)) :
    Calls Try.prog 16 #[.int .i64 (lg : Int), .slice a n cap, .slice (some ⟨gw, 0, none⟩) (table lg z).length cw, .int .i64 0] w fun e w' => e = .returned (.bool true) ∧ Below w.heap.size w w' := by
  have hl := table_length lg z
  have hl64 : (table lg z).length ≤ 64 := by rw [hl]; rcases hlog with rfl | rfl <;> decide
  have C := hid' (states_rows lg a n cap z w hI hlog hf)
  clear hl hf hI hlog
  generalize table lg z = L at *
  obtain ⟨rw', hw⟩ := hw
  go_enter Try.func16, Try.ntmps16
  go_wp2_with fail
  refine C.out.mono ?_
  rintro e w1 ⟨rfl, hb, hbel⟩
  have hw1 := hw.below hbel hw.lt
  go_wp2_with fail
  refine (sameStates_any _ gw _ cw L _ ⟨[], hb⟩ ⟨rw', hw1⟩ (by omega)).mono ?_
  rintro e w2 ⟨rfl, q, rfl⟩
  go_wp2
  go_ret
  exact ⟨rfl, below_drewN hbel q⟩

set_option maxRecDepth 100000 in
set_option maxHeartbeats 4000000 in
theorem tables_bad (log : Int) (a : Option Addr) (n cap : Nat) (z : List Int) (w : World) (hI : Ints w a n z) (hr : n * 8 ≤ 140737488351232) (hg : goodT log z = false) :
    Calls Try.prog 4 #[.int .i64 log, .slice a n cap] w fun e w' => e = .returned (.bool true) ∧ Below w.heap.size w w' := by
  have hl := hI.1
  go_enter Try.func4, Try.ntmps4
  go_wp2_with fail
  refine (handed_any _ _ _ z _ hI).mono ?_
  rintro e w1 ⟨rfl, hblk, hb1⟩
  go_wp2_with fail
  refine (rstates_any log _ _ _ z _ (hI.below hb1)).mono ?_
  rintro e w2 ⟨hb2, h⟩
  rcases h with ⟨-, rfl⟩ | ⟨lg, rfl, hlg, hf, -⟩
  · have hblk2 := hblk.below hb2 hblk.lt
    have hbw2 : Below w.heap.size w w2 := hb1.trans (hb2.mono hb1.size)
    have qn := fun W => run_neq_slice_nil_any (P := Try.prog) W 27 40 none 0 0 0 0 Try.underlying27
    go_wp2_with fail
    refine (states_bad _ _ _ _ z _ (in_ints hblk2 hl hr) hg).mono ?_
    rintro e w3 ⟨rfl, rfl⟩
    go_wp2_with fail
    refine (states_bad _ _ _ _ z _ (in_ints hblk2 hl hr) hg).mono ?_
    rintro e w3 ⟨rfl, rfl⟩
    go_wp2_with fail
    refine (sameStates_nil_same _).mono ?_
    rintro e w3 ⟨rfl, rfl⟩
    go_wp2_with fail
    refine (sameStates_nil_same _).mono ?_
    rintro e w3 ⟨rfl, rfl⟩
    go_wp2_with fail
    refine (mixedStates_any none none 0 0 0 0 w2 w2.heap.size (fun _ => 0) (.inl ⟨rfl, rfl, rfl⟩) (.inl ⟨rfl, rfl, rfl⟩) (by omega) (by omega) (Nat.le_refl _)).mono ?_
    rintro e w4 ⟨rfl, hb4⟩
    have hblk4 := hblk2.below hb4 hblk2.lt
    have hbw4 : Below w.heap.size w w4 := hbw2.trans (hb4.mono hbw2.size)
    go_wp2_with fail
    refine (handed_any _ _ _ z _ (hI.below hbw4)).mono ?_
    rintro e w5 ⟨rfl, hblk5, hb5⟩
    have hbw5 : Below w.heap.size w w5 := hbw4.trans (hb5.mono hbw4.size)
    have hblk4' := hblk4.below hb5 hblk4.lt
    go_wp2_with fail
    refine (sameInts_any _ _ _ _ _ (z ++ [-77, -77]) _ (in_all hblk4' hl hr) (in_all hblk5 hl hr)).mono ?_
    rintro e w6 ⟨rfl, q, rfl⟩
    go_wp2_with fail
    refine (anew_bad _ _ _ _ z _ (in_ints (hblk4'.drewN q) hl hr) hg).mono ?_
    rintro e w3 ⟨rfl, rfl⟩
    go_wp2
    go_ret
    exact ⟨rfl, below_drewN hbw5 q⟩
  · exfalso
    rcases hlg with rfl | rfl
    · simp [goodT] at hg; rw [show ((2 ^ 5 : Nat) : Int) = 32 by rfl, hg] at hf; cases hf
    · simp [goodT] at hg; rw [show ((2 ^ 6 : Nat) : Int) = 64 by rfl, hg] at hf; cases hf

set_option maxRecDepth 100000 in
set_option maxHeartbeats 4000000 in
theorem tables_good (lg : Nat) (a : Option Addr) (n cap : Nat) (z : List Int) (w : World) (hI : Ints w a n z) (hr : n * 8 ≤ 140737488351232) (hlog : lg = 5 ∨ lg = 6) (hf : TM.fillB z (2 ^ lg : Nat) = true) :
    Calls Try.prog 4 #[.int .i64 (lg : Int), .slice a n cap] w fun e w' => e = .returned (.bool true) ∧ Below w.heap.size w w' := by
  have hl := hI.1
  have hgt : goodT lg z = true := by
    rcases hlog with rfl | rfl
    · have : TM.fillB z 32 = true := hf
      simp [goodT, this]
    · have : TM.fillB z 64 = true := hf
      simp [goodT, this]
  have hL := table_length lg z
  have hL64 : 32 ≤ (table lg z).length ∧ (table lg z).length ≤ 64 := by rw [hL]; rcases hlog with rfl | rfl <;> decide
  have CS := hid' fun a n cap w hI => states_rows lg a n cap z w hI hlog hf
  have CA := hid' fun a n cap gw cw w hI hw => anew_good lg a n cap gw cw z w hI hlog hf hw
  have CR : Hid (∀ a n cap w, Ints w a n z → Calls Try.prog 11 #[.int .i64 (lg : Int), .slice a n cap] w fun e w' => Below w.heap.size w w' ∧ ∃ v, e = .returned (.tuple #[v, .int .i64 0]) ∧ w'.ownsRow w.heap.size 40 3 v (table lg z).length (CM.cellsOf (table lg z))) := by
    intro a n cap w hI
    refine (rstates_any lg a n cap z w hI).mono ?_
    rintro e w' ⟨h1, h2⟩
    rcases h2 with ⟨h2, -⟩ | ⟨lg', h2, -, -, v, rfl, hown⟩
    · rw [hgt] at h2; cases h2
    · obtain rfl : lg = lg' := by omega
      exact ⟨h1, v, rfl, by rw [hL]; exact hown⟩
  clear hgt hf hL hlog
  generalize table lg z = L at *
  go_enter Try.func4, Try.ntmps4
  go_wp2_with fail
  refine (handed_any _ _ _ z _ hI).mono ?_
  rintro e w1 ⟨rfl, hblk, hb1⟩
  go_wp2_with fail
  refine (CR.out _ _ _ _ (hI.below hb1)).mono ?_
  rintro e w2 ⟨hb2, v, rfl, hown⟩
  obtain ⟨gw, cw, rw', hvw, hgw1, hbw, hcw, -, -⟩ := owns_slice hown (by omega)
  rw [hvw]
  have hblk2 := hblk.below hb2 hblk.lt
  have hbel2 : Below w.heap.size w w2 := hb1.trans (hb2.mono hb1.size)
  clear hown hvw
  go_wp2_with fail
  refine (CS.out _ _ _ _ (in_ints hblk2 hl hr)).mono ?_
  rintro e w3 ⟨rfl, hbf, hb3⟩
  have hblk3 := hblk2.below hb3 hblk2.lt
  have hbw3 := hbw.below hb3 hbw.lt
  go_wp2_with fail
  refine (CS.out _ _ _ _ (in_ints hblk3 hl hr)).mono ?_
  rintro e w4 ⟨rfl, hba, hb4⟩
  have hblk4 := hblk3.below hb4 hblk3.lt
  have hbw4 := hbw3.below hb4 hbw3.lt
  have hbf4 := hbf.below hb4 hbf.lt
  go_wp2_with fail
  refine (sameStates_any _ gw _ cw L _ ⟨[], hbf4⟩ ⟨rw', hbw4⟩ (by omega)).mono ?_
  rintro e w5 ⟨rfl, q5, rfl⟩
  go_wp2_with fail
  refine (sameStates_any _ gw _ cw L _ ⟨[], hba.drewN q5⟩ ⟨rw', hbw4.drewN q5⟩ (by omega)).mono ?_
  rintro e w6 ⟨rfl, q6, rfl⟩
  go_wp2_with fail
  have hw23 : w2.heap.size ≤ w3.heap.size := hb3.size
  have hw34 : w3.heap.size ≤ w4.heap.size := hb4.size
  have hgf2 := hbf.lt
  have hcl : (CM.cellsOf L ++ []).length = L.length * 3 := by rw [List.append_nil, CM.cellsOf_length]
  have hbel4 : Below w.heap.size w w4 := (hbel2.trans (hb3.mono hbel2.size)).trans (hb4.mono (Nat.le_trans hbel2.size hw23))
  refine (mixedStates_any (some ⟨w2.heap.size, 0, none⟩) (some ⟨w3.heap.size, 0, none⟩) L.length L.length L.length L.length (w4.drewN (q5 + q6)) w2.heap.size (fun x => if x = w2.heap.size then -1 else -2)
    (.inr ⟨w2.heap.size, L.length, _, rfl, Nat.le_refl _, hbf4.drewN _, hcl, Nat.le_refl _, by unfold maxLen; omega, by omega, by simp, by omega, fun j hj => by omega⟩)
    (.inr ⟨w3.heap.size, L.length, _, rfl, by omega, hba.drewN _, hcl, Nat.le_refl _, by unfold maxLen; omega, by omega, if_neg (by omega), by omega, fun j hj => by omega⟩)
    (by omega) (by omega) (by show w2.heap.size ≤ w4.heap.size; omega)).mono ?_
  rintro e w7 ⟨rfl, hb7⟩
  have hblk7 : Blk w7 w.heap.size 3 (intCells (z ++ [-77, -77])) := Blk.below (hblk4.drewN (q5 + q6)) hb7 hblk2.lt
  have hbw7 : Blk w7 gw 40 (CM.cellsOf L ++ rw') := Blk.below (hbw4.drewN (q5 + q6)) hb7 hbw.lt
  have hbel7 : Below w.heap.size w w7 := (below_drewN hbel4 (q5 + q6)).trans (hb7.mono hbel2.size)
  go_wp2_with fail
  refine (handed_any _ _ _ z _ (hI.below hbel7)).mono ?_
  rintro e w8 ⟨rfl, hblk8, hb8⟩
  have hbel8 : Below w.heap.size w w8 := hbel7.trans (hb8.mono hbel7.size)
  have hblk7' := hblk7.below hb8 hblk7.lt
  have hbw8 := hbw7.below hb8 hbw7.lt
  go_wp2_with fail
  refine (sameInts_any _ _ _ _ _ (z ++ [-77, -77]) _ (in_all hblk7' hl hr) (in_all hblk8 hl hr)).mono ?_
  rintro e w9 ⟨rfl, q9, rfl⟩
  go_wp2_with fail
  refine (CA.out _ _ _ gw cw _ (in_ints (hblk7'.drewN q9) hl hr) ⟨rw', hbw8.drewN q9⟩).mono ?_
  rintro e w10 ⟨rfl, hb10⟩
  have hbel10 : Below w.heap.size w w10 := (below_drewN hbel8 q9).trans (hb10.mono hbel8.size)
  go_wp2
  go_ret
  exact ⟨rfl, hbel10⟩

theorem tables_any (log : Int) (a : Option Addr) (n cap : Nat) (z : List Int) (w : World) (hI : Ints w a n z) (hr : n * 8 ≤ 140737488351232) :
    Calls Try.prog 4 #[.int .i64 log, .slice a n cap] w fun e w' => e = .returned (.bool true) ∧ Below w.heap.size w w' := by
  cases h : goodT log z with
  | false => exact tables_bad log a n cap z w hI hr h
  | true =>
    unfold goodT at h
    simp at h
    rcases h with ⟨rfl, h⟩ | ⟨rfl, h⟩
    · exact tables_good 5 a n cap z w hI hr (.inl rfl) h
    · exact tables_good 6 a n cap z w hI hr (.inr rfl) h
end Go.Proofs.Ytbhemchnjpajiaa

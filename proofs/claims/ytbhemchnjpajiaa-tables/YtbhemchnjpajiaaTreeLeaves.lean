/- The law Trees: handed, sameInts and sameCodes, walked: a list as a caller hands it in; equal lists are found equal. -/
import Derived.Test.YtbhemchnjpajiaaCodeRef
namespace Go.Proofs.Ytbhemchnjpajiaa
open Go.RowKit
set_option linter.unusedVariables false

set_option maxHeartbeats 400000 in
theorem handed_any (a : Option Addr) (n cap : Nat) (z : List Int) (w : World) (hI : Ints w a n z) :
    Calls Try.prog 10 #[.slice a n cap] w fun e w' => e = .returned (.slice (some ⟨w.heap.size, 0, none⟩) (n + 2) (n + 2)) ∧ Blk w' w.heap.size 3 (intCells (z ++ [-77, -77])) ∧ Below w.heap.size w w' := by
  have hbig := hI.2.1
  have hmk := fun u => make_ints u (n + 2) (by omega)
  have ec : ((n + 2 : Nat) : Int) = (n : Int) + 2 := by omega
  rw [ec] at hmk
  clear ec
  have hA : Below w.heap.size w (w.alloc (.cells (zeroRow (n + 2)).toArray 3)) := (Below.refl _ _).alloc (Nat.le_refl _) _
  obtain ⟨W2, hrun, hB2, hbel, hsz⟩ := copy_ints (w.alloc (.cells (zeroRow (n + 2)).toArray 3)) a n cap w.heap.size (n + 2) (n + 2) z (hI.below hA) (Blk.new w 3 (zeroRow (n + 2))) (by omega)
  have hl : (intCells z).length = n := by simp [intCells, hI.1]
  have hcn : W2.cell? ⟨w.heap.size, n, none⟩ = some (.int .i64 0) := hB2.out.cell (by
    rw [List.getElem?_append_right (by omega), hl]
    simp [zeroRow])
  have hcn1 : W2.cell? ⟨w.heap.size, n + 1, none⟩ = some (.int .i64 0) := hB2.out.cell (by
    rw [List.getElem?_append_right (by omega), hl]
    simp [zeroRow])
  have hfn := hB2.out.free n
  have hfn1 := hB2.out.free (n + 1)
  have hbel' : Hid _ := hA.trans hbel
  clear hbel hA
  go_enter Try.func10, Try.ntmps10
  go_wp2
  go_ret
  refine ⟨rfl, ?_, ?_⟩
  · have := (hB2.out.put n (.int .i64 (-77))).put (n + 1) (.int .i64 (-77))
    have e : ((intCells z ++ zeroRow (n + 2 - n)).set n (.int .i64 (-77))).set (n + 1) (.int .i64 (-77)) = intCells (z ++ [-77, -77]) := by
      rw [List.set_append_right _ _ (by omega), List.set_append_right _ _ (by omega), hl]
      rw [show n + 2 - n = 2 by omega, show n - n = 0 by omega, show n + 1 - n = 1 by omega]
      simp [zeroRow, intCells]
    rw [e] at this
    exact this
  · exact (hbel'.out.setCell (Nat.le_refl _) _).setCell (Nat.le_refl _) _

set_option maxHeartbeats 400000 in
theorem sameInts_any (a b : Option Addr) (n ca cb : Nat) (z : List Int) (w : World) (hA : Ints w a n z) (hB : Ints w b n z) :
    Calls Try.prog 15 #[.slice a n ca, .slice b n cb] w fun e w' => e = .returned (.bool true) ∧ ∃ q, w' = w.drewN q := by
  obtain ⟨hl, hbig, hc⟩ := hA
  obtain ⟨-, -, hd⟩ := hB
  go_enter Try.func15, Try.ntmps15
  go_wp2_with fail
  go_loopg [5] n (fun g iv wr => ∃ i : Nat, g = n - i ∧ i ≤ n ∧ iv = .int .i64 (i : Int) ∧ ∃ q, wr = w.drewN q)
  case atStart => exact ⟨0, by omega, by omega, rfl, 0, rfl⟩
  case round =>
    obtain ⟨i, rfl, hi, rfl, q, hwr⟩ := hrel
    subst hwr
    by_cases hin : i < n
    · obtain ⟨b1, o1, rfl, -, hc'⟩ := hc.resolve_left (by omega)
      obtain ⟨b2, o2, rfl, -, hd'⟩ := hd.resolve_left (by omega)
      have c1 := hc' i hin
      have c2 := hd' i hin
      clear hc hd hc' hd'
      generalize z.getD i 0 = x at *
      have i1 : (i : Int) < (n : Int) := by omega
      go_wp2_with fail
      go_quiet (fail)
      go_wp2
      go_roundg (n - (i + 1))
      case rel => exact ⟨i + 1, rfl, by omega, by go_num, _, rfl⟩
      case measure => omega
    · clear hc hd
      go_wp2
      go_ret
      exact ⟨rfl, _, rfl⟩

theorem sameCodes_nil (w : World) :
    Calls Try.prog 22 #[.slice none 0 0, .slice none 0 0] w fun e w' => e = .returned (.bool true) ∧ w' = w := by
  go_enter Try.func22, Try.ntmps22
  go_wp2_with fail
  refine wp_loop_rounds 1 ?_
  rw [rounds_succ]
  go_wp2
  go_ret
  exact ⟨rfl, rfl⟩

/-- Rows of structs of three integers. -/
def Sl3 (w : World) (t : TypeId) (g : Nat) (L : List CM.Tri) : Prop := ∃ rest, Blk w g t (CM.cellsOf L ++ rest)

set_option maxHeartbeats 400000 in
theorem sameCodes_any (g1 g2 c1 c2 : Nat) (L : List CM.Tri) (w : World) (h1 : Sl3 w 47 g1 L) (h2 : Sl3 w 47 g2 L) (hL : L.length ≤ 2000) :
    Calls Try.prog 22 #[.slice (some ⟨g1, 0, none⟩) L.length c1, .slice (some ⟨g2, 0, none⟩) L.length c2] w fun e w' => e = .returned (.bool true) ∧ ∃ q, w' = w.drewN q := by
  go_enter Try.func22, Try.ntmps22
  go_wp2_with fail
  go_loopg [5] L.length (fun g iv wr => ∃ i : Nat, g = L.length - i ∧ i ≤ L.length ∧ iv = .int .i64 (i : Int) ∧ ∃ q, wr = w.drewN q)
  case atStart => exact ⟨0, by omega, by omega, rfl, 0, rfl⟩
  case round =>
    obtain ⟨i, rfl, hi, rfl, q, hwr⟩ := hrel
    subst hwr
    by_cases hin : i < L.length
    · obtain ⟨r1, hr1⟩ := h1
      obtain ⟨r2, hr2⟩ := h2
      have hl := CM.cellsOf_length L
      obtain ⟨a0, a1, a2⟩ := CM.cellsOf_at L i hin
      have x0 := hr1.cell (j := i * 3) (by rw [List.getElem?_append_left (by omega)]; exact a0)
      have x1 := hr1.cell (j := i * 3 + 1) (by rw [List.getElem?_append_left (by omega)]; exact a1)
      have x2 := hr1.cell (j := i * 3 + 2) (by rw [List.getElem?_append_left (by omega)]; exact a2)
      have y0 := hr2.cell (j := i * 3) (by rw [List.getElem?_append_left (by omega)]; exact a0)
      have y1 := hr2.cell (j := i * 3 + 1) (by rw [List.getElem?_append_left (by omega)]; exact a1)
      have y2 := hr2.cell (j := i * 3 + 2) (by rw [List.getElem?_append_left (by omega)]; exact a2)
      clear hr1 hr2 hl a0 a1 a2
      generalize L.getD i (0, 0, 0) = C at *
      obtain ⟨p, r, s⟩ := C
      simp only at x0 x1 x2 y0 y1 y2
      have i1 : (i : Int) < (L.length : Int) := by omega
      go_wp2_with fail
      go_quiet (fail)
      go_wp2
      go_roundg (L.length - (i + 1))
      case rel => exact ⟨i + 1, rfl, by omega, by go_num, _, rfl⟩
      case measure => omega
    · go_wp2
      go_ret
      exact ⟨rfl, _, rfl⟩
theorem in_ints {w : World} {g n : Nat} {z t : List Int} (h : Blk w g 3 (intCells (z ++ t))) (hl : z.length = n) (hb : n * 8 ≤ 140737488351232) : Ints w (some ⟨g, 0, none⟩) n z := by
  subst hl
  have e : intCells (z ++ t) = intCells z ++ intCells t := by simp [intCells]
  rw [e] at h
  exact Ints.of_blk h (by omega)
theorem in_all {w : World} {g n : Nat} {z : List Int} (h : Blk w g 3 (intCells (z ++ [-77, -77]))) (hl : z.length = n) (hb : n * 8 ≤ 140737488351232) : Ints w (some ⟨g, 0, none⟩) (n + 2) (z ++ [-77, -77]) := by
  have e : (z ++ [-77, -77]).length = n + 2 := by simp [hl]
  have := Ints.of_blk (rest := []) (z := z ++ [-77, -77]) (by rw [List.append_nil]; exact h) (by omega)
  rw [e] at this
  exact this
end Go.Proofs.Ytbhemchnjpajiaa

/- Several texts in one: PrOf. -/
import Derived.Test.YtbhemchnjpajiaaGreatDoorKP
/- The tables of states that a stream keeps in a map: asked for, and built (package sequences, Tables.of), walked. -/
namespace Go.Proofs.YtbhemchnjpajiaaGreatDoor
open Go.RowKit
open Go.Maps (Keyed fit_look fit_store)
open Go.WideElems (Fit)
set_option linter.unusedVariables false

/-- A list of states, in a block of its own. -/
def StV (w : World) (v : Value) (l : List CM.Tri) : Prop := ∃ b c, v = .slice (some ⟨b, 0, none⟩) l.length c ∧ Blk w b 226 (CM.cellsOf l)
theorem StV.only {G : Nat → Prop} {w w' : World} {v : Value} {l : List CM.Tri} (h : StV w v l) (ho : Only G w w') (hn : ∀ b xs, Blk w b 226 xs → ¬ G b) : StV w' v l := by
  obtain ⟨b, c, rfl, hb⟩ := h
  exact ⟨b, c, rfl, hb.only ho (hn b _ hb)⟩
theorem StV.tris {w : World} {v : Value} {l : List CM.Tri} (h : StV w v l) : Tris w v l := by
  obtain ⟨b, c, rfl, hb⟩ := h
  refine ⟨_, c, rfl, .inr ⟨b, rfl, hb.lt, fun i hi => ?_⟩⟩
  obtain ⟨q0, q1, q2⟩ := CM.cellsOf_at l i hi
  exact ⟨hb.cell q0, hb.cell q1, hb.cell q2⟩
def mR (v : Value) : Option (DataW Unit × List MemPlace) := some (.agg [], [])
/-- What the map of tables holds: for counts the table of them. -/
def TabsM (w : World) (M n : Nat) : Prop := ∃ es clock, w.heap[M]? = some (.map es clock) ∧ Fit Tryz.prog 294 mR es clock ∧ es.size ≤ n ∧
  ∀ e ∈ es.toList, ∃ (lg : Nat) (z : List Int) (v : Value), e.key = keyV lg z ∧ z.length = 16 ∧ goodT lg z = true ∧ e.val = .agg #[.int .i64 lg, v] ∧ StV w v (table lg z)
theorem TabsM.lt {w : World} {M n : Nat} (h : TabsM w M n) : M < w.heap.size := by
  obtain ⟨es, clock, h, -⟩ := h
  exact (Array.getElem?_eq_some_iff.1 h).1
theorem TabsM.ne {w : World} {M n b : Nat} {t : TypeId} {xs : List Value} (h : TabsM w M n) (k : Blk w b t xs) : M ≠ b := by
  obtain ⟨es, clock, h, -⟩ := h
  intro e
  subst e
  have k : w.heap[M]? = some (.cells xs.toArray t (0, 0)) := k
  rw [h] at k
  cases k
theorem TabsM.only {G : Nat → Prop} {w w' : World} {M n : Nat} (h : TabsM w M n) (ho : Only G w w') (hM : ¬ G M) (hn : ∀ b xs, Blk w b 226 xs → ¬ G b) : TabsM w' M n := by
  have hl := h.lt
  obtain ⟨es, clock, h1, h2, h3, h4⟩ := h
  refine ⟨es, clock, by rw [ho.block M hl hM]; exact h1, h2, h3, fun e he => ?_⟩
  obtain ⟨lg, z, v, q1, q2, q3, q4, q5⟩ := h4 e he
  exact ⟨lg, z, v, q1, q2, q3, q4, q5.only ho hn⟩

def OfPost (x : Fx) (M n lg : Nat) (z : List Int) (w : World) (e : Ending) (w' : World) : Prop :=
  Only (· = M) w w' ∧ ((goodT lg z = false ∧ e = .returned (.tuple #[.agg #[.int .i64 0, .slice none 0 0], errV x.f])) ∨
    ∃ v, goodT lg z = true ∧ e = .returned (.tuple #[.agg #[.int .i64 lg, v], .nilIface]) ∧ StV w' v (table lg z) ∧ TabsM w' M (n + 1))

theorem nodup_le {α : Type} : ∀ (a b : List α), a.Nodup → (∀ x ∈ a, x ∈ b) → a.length ≤ b.length
  | [], _, _, _ => Nat.zero_le _
  | x :: a, b, hn, hs => by
    have : DecidableEq α := fun _ _ => Classical.propDecidable _
    have hx := hs x (by simp)
    have h1 := nodup_le a (b.erase x) (List.nodup_cons.1 hn).2 (fun y hy => (List.mem_erase_of_ne (by rintro rfl; exact (List.nodup_cons.1 hn).1 hy)).2 (hs y (by simp [hy])))
    rw [List.length_erase_of_mem hx] at h1
    have h2 := List.length_pos_of_mem hx
    simp only [List.length_cons]
    omega
theorem below_grow {B : Nat} {a b c : World} (h : Below B a b) (k : Below b.heap.size b c) (hB : B ≤ b.heap.size) : Below B a c := h.trans ⟨k.os, k.tape, k.output, k.size, fun j hj => k.block j (by omega)⟩
theorem setBlock_only {w : World} {M : Nat} {o : Obj} {es : Array MapEntry} {clock : Nat} (hb : w.heap[M]? = some (.map es clock)) : Only (· = M) w (Go.ChangeMaps.setBlock w M o) :=
  ⟨rfl, rfl, rfl, by simp [Go.ChangeMaps.setBlock], fun k hk hn => by simp [Go.ChangeMaps.setBlock, Ne.symm hn]⟩
theorem setBlock_at {w : World} {M : Nat} {o : Obj} (hM : M < w.heap.size) : (Go.ChangeMaps.setBlock w M o).heap[M]? = some o := by
  simp [Go.ChangeMaps.setBlock, hM]

set_option maxRecDepth 100000 in
set_option maxHeartbeats 4000000 in
theorem of_known (x : Fx) (M n lg : Nat) (z0 z1 z2 z3 z4 z5 z6 z7 z8 z9 z10 z11 z12 z13 z14 z15 : Int) (w : World) (es : Array MapEntry) (clock : Nat) (b cc : Nat) (hMl : M < w.heap.size) (hb : w.heap[M]? = some (.map es clock))
    (hrun : (Instr.lookup 127 (.map (some M)) (.agg #[.int .i64 (lg : Int), .int .i64 z0, .int .i64 z1, .int .i64 z2, .int .i64 z3, .int .i64 z4, .int .i64 z5, .int .i64 z6, .int .i64 z7, .int .i64 z8, .int .i64 z9, .int .i64 z10, .int .i64 z11, .int .i64 z12, .int .i64 z13, .int .i64 z14, .int .i64 z15]) true).run Tryz.prog ((w.alloc (.cells #[.int .i64 (lg : Int), .int .i64 z0, .int .i64 z1, .int .i64 z2, .int .i64 z3, .int .i64 z4, .int .i64 z5, .int .i64 z6, .int .i64 z7, .int .i64 z8, .int .i64 z9, .int .i64 z10, .int .i64 z11, .int .i64 z12, .int .i64 z13, .int .i64 z14, .int .i64 z15] 294)).alloc (.cells #[.int .i64 0, .slice none 0 0] 133)) = .ok (.tuple #[.agg #[.int .i64 (lg : Int), .slice (some ⟨b, 0, none⟩) (table lg [z0, z1, z2, z3, z4, z5, z6, z7, z8, z9, z10, z11, z12, z13, z14, z15]).length cc], .bool true]) ((w.alloc (.cells #[.int .i64 (lg : Int), .int .i64 z0, .int .i64 z1, .int .i64 z2, .int .i64 z3, .int .i64 z4, .int .i64 z5, .int .i64 z6, .int .i64 z7, .int .i64 z8, .int .i64 z9, .int .i64 z10, .int .i64 z11, .int .i64 z12, .int .i64 z13, .int .i64 z14, .int .i64 z15] 294)).alloc (.cells #[.int .i64 0, .slice none 0 0] 133))) :
    Calls Tryz.prog 160 #[.map (some M), .agg #[.int .i64 (lg : Int), .int .i64 z0, .int .i64 z1, .int .i64 z2, .int .i64 z3, .int .i64 z4, .int .i64 z5, .int .i64 z6, .int .i64 z7, .int .i64 z8, .int .i64 z9, .int .i64 z10, .int .i64 z11, .int .i64 z12, .int .i64 z13, .int .i64 z14, .int .i64 z15]] w fun e w' => e = .returned (.tuple #[.agg #[.int .i64 lg, .slice (some ⟨b, 0, none⟩) (table lg [z0, z1, z2, z3, z4, z5, z6, z7, z8, z9, z10, z11, z12, z13, z14, z15]).length cc], .nilIface]) ∧ Below w.heap.size w w' := by
  generalize (table lg [z0, z1, z2, z3, z4, z5, z6, z7, z8, z9, z10, z11, z12, z13, z14, z15]).length = N at *
  go_enter Tryz.func160, Tryz.ntmps160
  go_wp2_with fail
  refine bodyPost_ret (v := .tuple #[.agg #[.int .i64 (lg : Int), .slice (some ⟨b, 0, none⟩) N cc], .nilIface]) (by simp [results, Tryz.results160, go_sem]) rfl ?_
  exact ⟨rfl, (((Below.refl _ w).alloc (Nat.le_refl _) _).alloc (by simp) _).alloc (by simp; omega) _⟩

set_option maxRecDepth 100000 in
set_option maxHeartbeats 4000000 in
theorem of_new (x : Fx) (M n lg : Nat) (z0 z1 z2 z3 z4 z5 z6 z7 z8 z9 z10 z11 z12 z13 z14 z15 : Int) (w : World) (hM : TabsM w M n) (hV : VarsAt x w) (hlg : lg ≤ 15) (hzb : ∀ y ∈ [z0, z1, z2, z3, z4, z5, z6, z7, z8, z9, z10, z11, z12, z13, z14, z15], -1 ≤ y ∧ y ≤ 255) (hn : n < 1000000000) (hMb : x.base ≤ M)
    (hrun : (Instr.lookup 127 (.map (some M)) (.agg #[.int .i64 (lg : Int), .int .i64 z0, .int .i64 z1, .int .i64 z2, .int .i64 z3, .int .i64 z4, .int .i64 z5, .int .i64 z6, .int .i64 z7, .int .i64 z8, .int .i64 z9, .int .i64 z10, .int .i64 z11, .int .i64 z12, .int .i64 z13, .int .i64 z14, .int .i64 z15]) true).run Tryz.prog ((w.alloc (.cells #[.int .i64 (lg : Int), .int .i64 z0, .int .i64 z1, .int .i64 z2, .int .i64 z3, .int .i64 z4, .int .i64 z5, .int .i64 z6, .int .i64 z7, .int .i64 z8, .int .i64 z9, .int .i64 z10, .int .i64 z11, .int .i64 z12, .int .i64 z13, .int .i64 z14, .int .i64 z15] 294)).alloc (.cells #[.int .i64 0, .slice none 0 0] 133)) = .ok (.tuple #[.agg #[.int .i64 0, .slice none 0 0], .bool false]) ((w.alloc (.cells #[.int .i64 (lg : Int), .int .i64 z0, .int .i64 z1, .int .i64 z2, .int .i64 z3, .int .i64 z4, .int .i64 z5, .int .i64 z6, .int .i64 z7, .int .i64 z8, .int .i64 z9, .int .i64 z10, .int .i64 z11, .int .i64 z12, .int .i64 z13, .int .i64 z14, .int .i64 z15] 294)).alloc (.cells #[.int .i64 0, .slice none 0 0] 133))) :
    Calls Tryz.prog 160 #[.map (some M), .agg #[.int .i64 (lg : Int), .int .i64 z0, .int .i64 z1, .int .i64 z2, .int .i64 z3, .int .i64 z4, .int .i64 z5, .int .i64 z6, .int .i64 z7, .int .i64 z8, .int .i64 z9, .int .i64 z10, .int .i64 z11, .int .i64 z12, .int .i64 z13, .int .i64 z14, .int .i64 z15]] w (OfPost x M n lg [z0, z1, z2, z3, z4, z5, z6, z7, z8, z9, z10, z11, z12, z13, z14, z15] w) := by
  have hMl := hM.lt
  have h8 := hV.eight
  have h8s := hV.size
  have hba : Below w.heap.size w (((w.alloc (.cells #[.int .i64 (lg : Int), .int .i64 z0, .int .i64 z1, .int .i64 z2, .int .i64 z3, .int .i64 z4, .int .i64 z5, .int .i64 z6, .int .i64 z7, .int .i64 z8, .int .i64 z9, .int .i64 z10, .int .i64 z11, .int .i64 z12, .int .i64 z13, .int .i64 z14, .int .i64 z15] 294)).alloc (.cells #[.int .i64 0, .slice none 0 0] 133)).alloc (.cells #[.int .i64 0, .slice none 0 0] 133)) := (((Below.refl _ w).alloc (Nat.le_refl _) _).alloc (by simp) _).alloc (by simp; omega) _
  have hC : Blk (((w.alloc (.cells #[.int .i64 (lg : Int), .int .i64 z0, .int .i64 z1, .int .i64 z2, .int .i64 z3, .int .i64 z4, .int .i64 z5, .int .i64 z6, .int .i64 z7, .int .i64 z8, .int .i64 z9, .int .i64 z10, .int .i64 z11, .int .i64 z12, .int .i64 z13, .int .i64 z14, .int .i64 z15] 294)).alloc (.cells #[.int .i64 0, .slice none 0 0] 133)).alloc (.cells #[.int .i64 0, .slice none 0 0] 133)) w.heap.size 294 [.int .i64 (lg : Int), .int .i64 z0, .int .i64 z1, .int .i64 z2, .int .i64 z3, .int .i64 z4, .int .i64 z5, .int .i64 z6, .int .i64 z7, .int .i64 z8, .int .i64 z9, .int .i64 z10, .int .i64 z11, .int .i64 z12, .int .i64 z13, .int .i64 z14, .int .i64 z15] := ((Blk.new w 294 [.int .i64 (lg : Int), .int .i64 z0, .int .i64 z1, .int .i64 z2, .int .i64 z3, .int .i64 z4, .int .i64 z5, .int .i64 z6, .int .i64 z7, .int .i64 z8, .int .i64 z9, .int .i64 z10, .int .i64 z11, .int .i64 z12, .int .i64 z13, .int .i64 z14, .int .i64 z15]).alloc _).alloc _
  have hR : Blk (((w.alloc (.cells #[.int .i64 (lg : Int), .int .i64 z0, .int .i64 z1, .int .i64 z2, .int .i64 z3, .int .i64 z4, .int .i64 z5, .int .i64 z6, .int .i64 z7, .int .i64 z8, .int .i64 z9, .int .i64 z10, .int .i64 z11, .int .i64 z12, .int .i64 z13, .int .i64 z14, .int .i64 z15] 294)).alloc (.cells #[.int .i64 0, .slice none 0 0] 133)).alloc (.cells #[.int .i64 0, .slice none 0 0] 133)) (w.heap.size + 1) 133 [.int .i64 0, .slice none 0 0] := by
    have := (Blk.new (w.alloc (.cells #[.int .i64 (lg : Int), .int .i64 z0, .int .i64 z1, .int .i64 z2, .int .i64 z3, .int .i64 z4, .int .i64 z5, .int .i64 z6, .int .i64 z7, .int .i64 z8, .int .i64 z9, .int .i64 z10, .int .i64 z11, .int .i64 z12, .int .i64 z13, .int .i64 z14, .int .i64 z15] 294)) 133 [.int .i64 0, .slice none 0 0]).alloc (.cells #[.int .i64 0, .slice none 0 0] 133)
    simpa using this
  have hBt : Blk (((w.alloc (.cells #[.int .i64 (lg : Int), .int .i64 z0, .int .i64 z1, .int .i64 z2, .int .i64 z3, .int .i64 z4, .int .i64 z5, .int .i64 z6, .int .i64 z7, .int .i64 z8, .int .i64 z9, .int .i64 z10, .int .i64 z11, .int .i64 z12, .int .i64 z13, .int .i64 z14, .int .i64 z15] 294)).alloc (.cells #[.int .i64 0, .slice none 0 0] 133)).alloc (.cells #[.int .i64 0, .slice none 0 0] 133)) (w.heap.size + 1 + 1) 133 [.int .i64 0, .slice none 0 0] := by
    have := Blk.new ((w.alloc (.cells #[.int .i64 (lg : Int), .int .i64 z0, .int .i64 z1, .int .i64 z2, .int .i64 z3, .int .i64 z4, .int .i64 z5, .int .i64 z6, .int .i64 z7, .int .i64 z8, .int .i64 z9, .int .i64 z10, .int .i64 z11, .int .i64 z12, .int .i64 z13, .int .i64 z14, .int .i64 z15] 294)).alloc (.cells #[.int .i64 0, .slice none 0 0] 133)) 133 [.int .i64 0, .slice none 0 0]
    simpa using this
  have hM1 : TabsM (((w.alloc (.cells #[.int .i64 (lg : Int), .int .i64 z0, .int .i64 z1, .int .i64 z2, .int .i64 z3, .int .i64 z4, .int .i64 z5, .int .i64 z6, .int .i64 z7, .int .i64 z8, .int .i64 z9, .int .i64 z10, .int .i64 z11, .int .i64 z12, .int .i64 z13, .int .i64 z14, .int .i64 z15] 294)).alloc (.cells #[.int .i64 0, .slice none 0 0] 133)).alloc (.cells #[.int .i64 0, .slice none 0 0] 133)) M n := hM.only (below_only (G := fun _ => False) hba) (fun e => e) (fun _ _ _ e => e)
  go_enter Tryz.func160, Tryz.ntmps160
  go_wp2_with fail
  generalize (((w.alloc (.cells #[.int .i64 (lg : Int), .int .i64 z0, .int .i64 z1, .int .i64 z2, .int .i64 z3, .int .i64 z4, .int .i64 z5, .int .i64 z6, .int .i64 z7, .int .i64 z8, .int .i64 z9, .int .i64 z10, .int .i64 z11, .int .i64 z12, .int .i64 z13, .int .i64 z14, .int .i64 z15] 294)).alloc (.cells #[.int .i64 0, .slice none 0 0] 133)).alloc (.cells #[.int .i64 0, .slice none 0 0] 133)) = w1 at *
  have hV1 := hV.below hba
  have hI : Ints w1 (some ⟨w.heap.size, 1, none⟩) 16 [z0, z1, z2, z3, z4, z5, z6, z7, z8, z9, z10, z11, z12, z13, z14, z15] := by
    refine ⟨rfl, by omega, .inr ⟨w.heap.size, 1, rfl, hC.lt, fun i hi => ?_⟩⟩
    apply hC.cell
    rw [Nat.add_comm 1 i]
    exact intCells_at [z0, z1, z2, z3, z4, z5, z6, z7, z8, z9, z10, z11, z12, z13, z14, z15] i hi
  have c0 := hC.cell (j := 0) rfl
  have hRl := hR.lt
  obtain ⟨C, hCe⟩ : ∃ C, C = w.heap.size := ⟨_, rfl⟩
  rw [← hCe] at hC hR hBt hI c0 hMl hRl h8s
  rw [← hCe]
  replace hCe := hid' hCe
  clear hrun
  cases hg : goodT lg [z0, z1, z2, z3, z4, z5, z6, z7, z8, z9, z10, z11, z12, z13, z14, z15] with
  | false =>
    have hst : ∀ W : World, W.heap = w1.heap → Calls Tryz.prog 172 #[.int .i64 (lg : Int), .slice (some ⟨C, 1, none⟩) 16 16] W fun e w' => e = .returned (.tuple #[.slice none 0 0, .int .i64 4]) ∧ w' = W := fun W hW => by
      refine (states_bad (lg : Int) (some ⟨C, 1, none⟩) 16 16 [z0, z1, z2, z3, z4, z5, z6, z7, z8, z9, z10, z11, z12, z13, z14, z15] W ?_ hg).mono (fun e w' h => ⟨h.1, h.2.symm⟩)
      obtain ⟨q1, q2, q3⟩ := hI
      refine ⟨q1, q2, ?_⟩
      rcases q3 with q3 | ⟨b', off, q4, q5, q6⟩
      · exact .inl q3
      · exact .inr ⟨b', off, q4, by rw [hW]; exact q5, fun i hi => by rw [← q6 i hi]; exact World.cell?_of_block (by rw [hW])⟩
    have z0' := hR.cell (j := 0) rfl
    have z1' := hR.cell (j := 1) rfl
    have fz := hR.free
    have cF := hV1.cF
    have hR6 : ¬ 6 = C + 1 := by omega
    have hR6' : ¬ C + 1 = 6 := by omega
    go_region_with (go_at_call 172; refine (hst w1.drew rfl).mono ?_; rintro e w2 ⟨rfl, rfl⟩)
    all_goals go_wp2_with fail
    all_goals go_region_with (fail)
    all_goals go_wp2_with fail
    all_goals
      have hR2 := (hR.put 0 (.int .i64 0)).put 1 (.slice none 0 0)
      have r0 := hR2.cell (j := 0) rfl
      have r1 := hR2.cell (j := 1) rfl
      have hCw : w.heap.size ≤ C := by rw [hCe.out]; exact Nat.le_refl _
      have hO2 : Only (· = M) w ((w1.setCell ⟨C + 1, 0, none⟩ (.int .i64 0)).setCell ⟨C + 1, 1, none⟩ (.slice none 0 0)) := ((below_only (G := (· = M)) hba).setCell ⟨C + 1, 0, none⟩ _ (fun e => by simp at e; omega)).setCell ⟨C + 1, 1, none⟩ _ (fun e => by simp at e; omega)
      refine bodyPost_ret (v := .tuple #[.agg #[.int .i64 0, .slice none 0 0], errV x.f]) (by simp [results, Tryz.results160, go_sem, r0, r1]) rfl ?_
      exact ⟨hO2.drew.drew, .inl ⟨hg, rfl⟩⟩
  | true =>
    have hgt : (lg = 5 ∨ lg = 6) ∧ TM.fillB [z0, z1, z2, z3, z4, z5, z6, z7, z8, z9, z10, z11, z12, z13, z14, z15] (2 ^ lg : Nat) = true := by
      unfold goodT at hg
      simp only [Bool.or_eq_true, Bool.and_eq_true, decide_eq_true_eq] at hg
      rcases hg with ⟨e, h⟩ | ⟨e, h⟩
      · obtain rfl : lg = 5 := by omega
        exact ⟨.inl rfl, h⟩
      · obtain rfl : lg = 6 := by omega
        exact ⟨.inr rfl, h⟩
    have hst : ∀ W : World, W.heap = w1.heap → (W.os = w1.os ∧ W.tape = w1.tape ∧ W.output = w1.output) → Calls Tryz.prog 172 #[.int .i64 (lg : Int), .slice (some ⟨C, 1, none⟩) 16 16] W fun e w' => e = .returned (.tuple #[.slice (some ⟨w1.heap.size, 0, none⟩) (2 ^ lg) (2 ^ lg), .int .i64 0]) ∧ Blk w' w1.heap.size 226 (CM.cellsOf (table lg [z0, z1, z2, z3, z4, z5, z6, z7, z8, z9, z10, z11, z12, z13, z14, z15])) ∧ Below w1.heap.size w1 w' := fun W hW hWo => by
      refine (states_ok lg (some ⟨C, 1, none⟩) 16 16 [z0, z1, z2, z3, z4, z5, z6, z7, z8, z9, z10, z11, z12, z13, z14, z15] W ?_ hgt.1 hgt.2).mono (fun e w' h => ?_)
      · obtain ⟨q1, q2, q3⟩ := hI
        refine ⟨q1, q2, ?_⟩
        rcases q3 with q3 | ⟨b', off, q4, q5, q6⟩
        · exact .inl q3
        · exact .inr ⟨b', off, q4, by rw [hW]; exact q5, fun i hi => by rw [← q6 i hi]; exact World.cell?_of_block (by rw [hW])⟩
      · rw [hW] at h
        exact ⟨h.1, h.2.1, ⟨h.2.2.os.trans hWo.1, h.2.2.tape.trans hWo.2.1, h.2.2.output.trans hWo.2.2, by have := h.2.2.size; rw [hW] at this; exact this, fun k hk => by rw [h.2.2.block k hk, hW]⟩⟩
    go_region_with (go_at_call 172; refine (hst w1.drew rfl ⟨rfl, rfl, rfl⟩).mono ?_; rintro e w2 ⟨rfl, hS2, hb2⟩)
    all_goals
      have hC2 := hC.below hb2 hC.lt
      have hR2 := hR.below hb2 hR.lt
      have hM2 := hM1.only (below_only (G := fun _ => False) hb2) (fun e => e) (fun _ _ _ e => e)
      have hB2 := (Blk.only · (below_only (G := fun _ => False) hb2) (fun e => e) : Blk w1 (C + 1 + 1) 133 [.int .i64 0, .slice none 0 0] → _) hBt
      have c02_0 := hC2.cell (j := 0) rfl
      have c02_1 := hC2.cell (j := 1) rfl
      have c02_2 := hC2.cell (j := 2) rfl
      have c02_3 := hC2.cell (j := 3) rfl
      have c02_4 := hC2.cell (j := 4) rfl
      have c02_5 := hC2.cell (j := 5) rfl
      have c02_6 := hC2.cell (j := 6) rfl
      have c02_7 := hC2.cell (j := 7) rfl
      have c02_8 := hC2.cell (j := 8) rfl
      have c02_9 := hC2.cell (j := 9) rfl
      have c02_10 := hC2.cell (j := 10) rfl
      have c02_11 := hC2.cell (j := 11) rfl
      have c02_12 := hC2.cell (j := 12) rfl
      have c02_13 := hC2.cell (j := 13) rfl
      have c02_14 := hC2.cell (j := 14) rfl
      have c02_15 := hC2.cell (j := 15) rfl
      have c02_16 := hC2.cell (j := 16) rfl
      have fzB := hB2.free
      have fzR := hR2.free
      have hCl2 : C < w2.heap.size := hC2.lt
      have hRl2 : C + 1 < w2.heap.size := hR2.lt
      have hMl2 : M < w2.heap.size := hM2.lt
      have hne2 : ¬ C = w2.heap.size := by omega
      replace hS2 := hid' hS2
      go_wp2_with fail
    have hO3 : Only (fun _ => False) w2 (w2.alloc (.cells #[.int .i64 (lg : Int), .slice (some ⟨w1.heap.size, 0, none⟩) (2 ^ lg) (2 ^ lg)] 133)) := (Only.refl _ w2).alloc _
    have hM3 := hM2.only hO3 (fun e => e) (fun _ _ _ e => e)
    have hR3 := hR2.only hO3 (fun e => e)
    have hS3 := hS2.out.only hO3 (fun e => e)
    have hT3 := Blk.new w2 133 [.int .i64 (lg : Int), .slice (some ⟨w1.heap.size, 0, none⟩) (2 ^ lg) (2 ^ lg)]
    have hb3 : Below w.heap.size w (w2.alloc (.cells #[.int .i64 (lg : Int), .slice (some ⟨w1.heap.size, 0, none⟩) (2 ^ lg) (2 ^ lg)] 133)) := (below_grow hba hb2 hba.size).alloc (by have := hba.size; have := hb2.size; omega) _
    obtain ⟨es, clock, hm1, hF, hsz, hes⟩ := id hM3
    obtain ⟨kl, hkl⟩ := key_some (lg := (lg : Int)) (z := [z0, z1, z2, z3, z4, z5, z6, z7, z8, z9, z10, z11, z12, z13, z14, z15]) rfl ⟨by omega, by omega⟩ (fun y hy => by have := hzb y hy; exact ⟨by omega, by omega⟩)
    obtain ⟨es', clock', hr, hF', -, -, -, hall⟩ := fit_store (R' := mR) mkeyed Tryz.underlying127 hm1 hF (by unfold maxLen; omega) (key := keyV lg [z0, z1, z2, z3, z4, z5, z6, z7, z8, z9, z10, z11, z12, z13, z14, z15]) (val := .agg #[.int .i64 (lg : Int), .slice (some ⟨w1.heap.size, 0, none⟩) (2 ^ lg) (2 ^ lg)]) (fun _ _ _ z h => h) hkl rfl
    have hr' : (Instr.mapUpdate 127 (.map (some M)) (.agg #[.int .i64 (lg : Int), .int .i64 z0, .int .i64 z1, .int .i64 z2, .int .i64 z3, .int .i64 z4, .int .i64 z5, .int .i64 z6, .int .i64 z7, .int .i64 z8, .int .i64 z9, .int .i64 z10, .int .i64 z11, .int .i64 z12, .int .i64 z13, .int .i64 z14, .int .i64 z15]) (.agg #[.int .i64 (lg : Int), .slice (some ⟨w1.heap.size, 0, none⟩) (2 ^ lg) (2 ^ lg)])).run Tryz.prog (w2.alloc (.cells #[.int .i64 (lg : Int), .slice (some ⟨w1.heap.size, 0, none⟩) (2 ^ lg) (2 ^ lg)] 133)) = .ok () (Go.ChangeMaps.setBlock (w2.alloc (.cells #[.int .i64 (lg : Int), .slice (some ⟨w1.heap.size, 0, none⟩) (2 ^ lg) (2 ^ lg)] 133)) M (.map es' clock')) := hr
    rw [hr']
    have hO4 : Only (· = M) (w2.alloc (.cells #[.int .i64 (lg : Int), .slice (some ⟨w1.heap.size, 0, none⟩) (2 ^ lg) (2 ^ lg)] 133)) (Go.ChangeMaps.setBlock (w2.alloc (.cells #[.int .i64 (lg : Int), .slice (some ⟨w1.heap.size, 0, none⟩) (2 ^ lg) (2 ^ lg)] 133)) M (.map es' clock')) := setBlock_only hm1
    have hm4 : (Go.ChangeMaps.setBlock (w2.alloc (.cells #[.int .i64 (lg : Int), .slice (some ⟨w1.heap.size, 0, none⟩) (2 ^ lg) (2 ^ lg)] 133)) M (.map es' clock')).heap[M]? = some (.map es' clock') := setBlock_at hM3.lt
    generalize Go.ChangeMaps.setBlock (w2.alloc (.cells #[.int .i64 (lg : Int), .slice (some ⟨w1.heap.size, 0, none⟩) (2 ^ lg) (2 ^ lg)] 133)) M (.map es' clock') = w4 at *
    generalize (w2.alloc (.cells #[.int .i64 (lg : Int), .slice (some ⟨w1.heap.size, 0, none⟩) (2 ^ lg) (2 ^ lg)] 133)) = w3 at *
    have hR4 := hR3.only hO4 (fun e => hM3.ne hR3 e.symm)
    have hT4 := hT3.only hO4 (fun e => hM3.ne hT3 e.symm)
    have hS4 := hS3.only hO4 (fun e => hM3.ne hS3 e.symm)
    have hl4 : (table lg [z0, z1, z2, z3, z4, z5, z6, z7, z8, z9, z10, z11, z12, z13, z14, z15]).length = 2 ^ lg := by unfold table; exact TM.tab_length _ _
    have hM4 : TabsM w4 M (n + 1) := by
      refine ⟨es', clock', hm4, hF', ?_, fun e he => ?_⟩
      · have h1 := nodup_le (es'.toList.map (·.key)) (keyV lg [z0, z1, z2, z3, z4, z5, z6, z7, z8, z9, z10, z11, z12, z13, z14, z15] :: es.toList.map (·.key)) hF'.stamped.2.2 (fun k hk => by
          obtain ⟨e, he, rfl⟩ := List.mem_map.1 hk
          rcases hall e he with h | h
          · exact List.mem_cons_of_mem _ (List.mem_map.2 ⟨e, h.1, rfl⟩)
          · rw [h.1]; exact List.mem_cons_self)
        simp at h1
        omega
      · rcases hall e he with h | h
        · obtain ⟨lg', z', v', q1, q2, q3, q4, q5⟩ := hes e h.1
          exact ⟨lg', z', v', q1, q2, q3, q4, q5.only hO4 (fun b xs hb e => hM3.ne hb e.symm)⟩
        · exact ⟨lg, [z0, z1, z2, z3, z4, z5, z6, z7, z8, z9, z10, z11, z12, z13, z14, z15], _, h.1, rfl, hg, h.2, w1.heap.size, 2 ^ lg, by rw [hl4], hS4⟩
    have t40 := hT4.cell (j := 0) rfl
    have t41 := hT4.cell (j := 1) rfl
    have r40 := hR4.cell (j := 0) rfl
    have r41 := hR4.cell (j := 1) rfl
    have fz4 := hR4.free
    have hne4 : ¬ w2.heap.size = C + 1 := by omega
    have hne5 : ¬ C + 1 = w2.heap.size := by omega
    replace hM4 := hid' hM4
    replace hS4 := hid' hS4
    have hb4 : Only (· = M) w w4 := (below_only (G := (· = M)) hb3).trans ⟨hO4.os, hO4.tape, hO4.output, hO4.size, fun k hk hn => hO4.block k hk hn⟩
    have hR5 := (hR4.put 0 (.int .i64 (lg : Int))).put 1 (.slice (some ⟨w1.heap.size, 0, none⟩) (2 ^ lg) (2 ^ lg))
    have hCw : w.heap.size ≤ C := by rw [hCe.out]; exact Nat.le_refl _
    have hO5 : Only (· = M) w ((w4.setCell ⟨C + 1, 0, none⟩ (.int .i64 (lg : Int))).setCell ⟨C + 1, 1, none⟩ (.slice (some ⟨w1.heap.size, 0, none⟩) (2 ^ lg) (2 ^ lg))) := (hb4.setCell ⟨C + 1, 0, none⟩ _ (fun e => by simp at e; omega)).setCell ⟨C + 1, 1, none⟩ _ (fun e => by simp at e; omega)
    have hO6 : Only (· = C + 1) w4 ((w4.setCell ⟨C + 1, 0, none⟩ (.int .i64 (lg : Int))).setCell ⟨C + 1, 1, none⟩ (.slice (some ⟨w1.heap.size, 0, none⟩) (2 ^ lg) (2 ^ lg))) := ((Only.refl (· = C + 1) w4).setCell ⟨C + 1, 0, none⟩ _ (fun _ => rfl)).setCell ⟨C + 1, 1, none⟩ _ (fun _ => rfl)
    have hM6 := hM4.out.only hO6 (fun e => hM4.out.ne hR4 e) (fun b xs hb e => by
      rw [e] at hb
      have := hR4
      unfold Blk at hb this
      rw [this] at hb
      injection hb with hb
      injection hb with _ q _
      exact absurd q (by decide))
    have hS6 := hS4.out.only hO6 (fun e => by
      have hb := hS4.out
      rw [e] at hb
      have := hR4
      unfold Blk at hb this
      rw [this] at hb
      injection hb with hb
      injection hb with _ q _
      exact absurd q (by decide))
    have r50 := hR5.cell (j := 0) rfl
    have r51 := hR5.cell (j := 1) rfl
    replace hO5 := hid' hO5
    replace hO6 := hid' hO6
    replace hM6 := hid' hM6
    replace hS6 := hid' hS6
    replace hR5 := hid' hR5
    go_wp2_with fail
    refine bodyPost_ret (v := .tuple #[.agg #[.int .i64 (lg : Int), .slice (some ⟨w1.heap.size, 0, none⟩) (2 ^ lg) (2 ^ lg)], .nilIface]) (by simp [results, Tryz.results160, go_sem, r50, r51]) rfl ?_
    exact ⟨hO5.out, .inr ⟨.slice (some ⟨w1.heap.size, 0, none⟩) (2 ^ lg) (2 ^ lg), hg, rfl, ⟨w1.heap.size, 2 ^ lg, by rw [hl4], hS6.out⟩, hM6.out⟩⟩
end Go.Proofs.YtbhemchnjpajiaaGreatDoor

/- Several texts in one: PrTb3. -/
import Derived.Test.YtbhemchnjpajiaaGreatDoorKS
import Derived.Test.YtbhemchnjpajiaaGreatDoorKT
/- The table of a part, in whatever way it is given (package sequences, readTable), walked. -/
namespace Go.Proofs.YtbhemchnjpajiaaGreatDoor
open Go.RowKit
set_option linter.unusedVariables false

theorem nil_eq (W : World) : (binOp .eql 117 (.slice none 0 0) (.slice none 0 0)).run Tryz.prog W = .ok (.bool true) W := by kernel_rfl
theorem nil_ne (b n c : Nat) (W : World) : (binOp .eql 117 (.slice (some ⟨b, 0, none⟩) n c) (.slice none 0 0)).run Tryz.prog W = .ok (.bool false) W := by kernel_rfl
/-- A table as a reader keeps it: none so far, or a list of states in a block of its own. -/
def TabOk (w : World) (v : Value) (t : RD.Tab) : Prop := (t = RD.noTab ∧ v = .slice none 0 0) ∨ (t.there = true ∧ StV w v t.l)
theorem good_plain (k : Nat) (hk : k ≤ 2) : goodT ((5 : Nat) : Int) (plain16 k) = true ∧ table 5 (plain16 k) = table 5 (RD.plain k) ∧ (plain16 k).length = 16 ∧ ∀ y ∈ plain16 k, -1 ≤ y ∧ y ≤ 255 := by
  have h0 : goodT ((5 : Nat) : Int) (RD.plain k) = true ∧ (RD.plain k).length ≤ 16 ∧ 1 ≤ (RD.plain k).length ∧ ∀ y ∈ RD.plain k, -1 ≤ y ∧ y ≤ 255 := by
    rcases (by omega : k = 0 ∨ k = 1 ∨ k = 2) with rfl | rfl | rfl <;> decide
  obtain ⟨h1, h2, h3, h4⟩ := h0
  have e : plain16 k = TM.padL (RD.plain k) (16 - (RD.plain k).length) := rfl
  have hg := goodT_pad ((5 : Nat) : Int) (RD.plain k) (16 - (RD.plain k).length) h3 (by omega)
  obtain ⟨n5, e5, h56, hfb⟩ := goodT_log h1
  obtain rfl : n5 = 5 := by omega
  refine ⟨by rw [e, hg]; exact h1, by rw [e]; exact table_pad _ h56 hfb, by rw [e, TM.padL_length]; omega, fun y hy => ?_⟩
  rw [e] at hy
  unfold TM.padL at hy
  rcases List.mem_append.1 hy with hy | hy
  · exact h4 y hy
  · rw [(List.mem_replicate.1 hy).2]; omega
set_option maxRecDepth 100000 in
set_option maxHeartbeats 4000000 in
theorem readTable_0 (x : Fx) (g o k p M n : Nat) (t : TypeId) (gs : List Value) (old : RD.Tab) (s : RD.Bytes) (w : World) (hG : Blk w g t gs) (hg0 : gs[o]? = some (.map (some M))) (hk : k ≤ 2) (h : At1 w p s) (hV : VarsAt x w) (hM : TabsM w M n) (hn : n < 1000000000) (hpb : x.base ≤ p) (hMb : x.base ≤ M) :
    Calls Tryz.prog 147 #[.pointer (some ⟨g, o, none⟩), .int .i64 k, .int .i64 0, .pointer (some ⟨p, 0, none⟩)] w (TbPost x p M n s (RD.tableOf k 0 old s) w) := by
  have hl := Blk.lt h
  have hb0 : Below w.heap.size w (w.alloc (.cells #[.int .i64 0, .slice none 0 0] 133)) := (Below.refl _ w).alloc (Nat.le_refl _) _
  have hT0 := Blk.new w 133 [.int .i64 0, .slice none 0 0]
  have h0 : At1 (w.alloc (.cells #[.int .i64 0, .slice none 0 0] 133)) p s := Blk.below h hb0 hl
  have hV0 := hV.below hb0
  have hG0 := hG.below hb0 hG.lt
  have hM0 := hM.only (below_only (G := fun _ => False) hb0) (fun e => e) (fun _ _ _ e => e)
  obtain ⟨p1, p2, p3, p4⟩ := good_plain k hk
  replace p1 := hid' p1
  replace p2 := hid' p2
  go_enter Tryz.func147, Tryz.ntmps147
  go_wp2_with fail
  obtain ⟨C, hC⟩ : ∃ C, C = w.heap.size := ⟨_, rfl⟩
  rw [← hC] at hT0 ⊢
  generalize w.alloc (.cells #[.int .i64 0, .slice none 0 0] 133) = w1 at *
  replace hC := hid' hC
  have hag := hid' (fun W => agreed_any k W hk)
  have hof : Hid (∀ W : World, Below w1.heap.size w1 W → Calls Tryz.prog 160 #[.map (some M), keyV ((5 : Nat) : Int) (plain16 k)] W fun e w' => ∃ b7 cc7, e = .returned (.tuple #[.agg #[.int .i64 5, .slice (some ⟨b7, 0, none⟩) (table 5 (plain16 k)).length cc7], .nilIface]) ∧ Blk w' b7 226 (CM.cellsOf (table 5 (plain16 k))) ∧ TabsM w' M (n + 1) ∧ Only (· = M) W w') := fun W hW => (of_any x M n 5 (plain16 k) W p3 (hM0.only (below_only (G := fun _ => False) hW) (fun e => e) (fun _ _ _ e => e)) (hV0.below hW) (by omega) p4 hn hMb).mono fun e w' q => by
    obtain ⟨q1, q2 | ⟨v, q2, rfl, ⟨b7, cc7, rfl, hb7⟩, hM7⟩⟩ := q
    · rw [p1.out] at q2; cases q2.1
    · exact ⟨b7, cc7, rfl, hb7, hM7, q1⟩
  have g0 := hG0.cell hg0
  have hcm : C ≠ M := fun e => hM0.ne hT0 e.symm
  go_region_with (first
    | (go_at_call 161; refine (hag.out _).mono ?_; rintro e w2 ⟨rfl, hb2⟩; replace hb2 := below_undrew hb2; have g2 := (hG0.below hb2 hG0.lt).cell hg0)
    | (go_at_call 160; refine (hof.out _ ?_).mono ?_; exact hb2; rintro e w7 ⟨b7, cc7, rfl, hb7, hM7, hO7⟩; have hT7 := (hT0.below hb2 hT0.lt).only hO7 hcm; have d0 := hT7.cell (j := 0) rfl; have d1 := hT7.cell (j := 1) rfl; have fz7 := hT7.free))
  all_goals go_wp2_with fail
  all_goals
    have hO9 : Only (fun b => b = p ∨ b = M) w w7 := ((below_only hb0).trans (below_only hb2)).trans (hO7.weaken (fun _ _ e => .inr e))
    have hT9 := (hT7.put 0 (.int .i64 5)).put 1 (.slice (some ⟨b7, 0, none⟩) (table 5 (plain16 k)).length cc7)
    have r0 := hT9.cell (j := 0) rfl
    have r1 := hT9.cell (j := 1) rfl
    have hO10 : Only (fun b => b = p ∨ b = M) w ((w7.setCell ⟨C, 0, none⟩ (.int .i64 5)).setCell ⟨C, 1, none⟩ (.slice (some ⟨b7, 0, none⟩) (table 5 (plain16 k)).length cc7)) := (hO9.setCell ⟨C, 0, none⟩ _ (fun e => by rw [hC.out] at e; simp at e)).setCell ⟨C, 1, none⟩ _ (fun e => by rw [hC.out] at e; simp at e)
    have hOC : Only (· = C) w7 ((w7.setCell ⟨C, 0, none⟩ (.int .i64 5)).setCell ⟨C, 1, none⟩ (.slice (some ⟨b7, 0, none⟩) (table 5 (plain16 k)).length cc7)) := ((Only.refl (· = C) w7).setCell ⟨C, 0, none⟩ _ (fun _ => rfl)).setCell ⟨C, 1, none⟩ _ (fun _ => rfl)
    have hb9 := hb7.only hOC (fun e => hb7.apart hT7 (by decide) e)
    have hM9 := hM7.only hOC (fun e => hM7.ne hT7 e) (fun b xs hb e => hb.apart hT7 (by decide) e)
    have hM2 := hM0.only (below_only (G := fun _ => False) hb2) (fun e => e) (fun _ _ _ e => e)
    have hp2 : At1 w2 p s := Blk.below h0 hb2 (Blk.lt h0)
    have hp7 : At1 w7 p s := Blk.only hp2 hO7 (fun e => hM2.ne hp2 e.symm)
    have hp9 : At1 _ p s := Blk.only hp7 hOC (fun e => Blk.apart hp7 hT7 (by decide) e)
    refine bodyPost_ret (v := .tuple #[.agg #[.int .i64 5, .slice (some ⟨b7, 0, none⟩) (table 5 (plain16 k)).length cc7], .nilIface]) (by simp [results, Tryz.results147, go_sem, r0, r1]) rfl ?_
    refine ⟨hO10, .inr ⟨⟨true, 5, table 5 (RD.plain k)⟩, 0, .slice (some ⟨b7, 0, none⟩) (table 5 (plain16 k)).length cc7, by rw [RD.tableOf, if_pos rfl], rfl, ⟨b7, cc7, by rw [p2.out], by rw [← p2.out]; exact hb9⟩, by rw [List.drop_zero]; exact hp9, hM9⟩⟩
set_option maxRecDepth 100000 in
set_option maxHeartbeats 4000000 in
theorem readTable_1 (x : Fx) (g o k p M n : Nat) (old : RD.Tab) (s : RD.Bytes) (w : World) (hk : k ≤ 2) (h : At1 w p s) (hV : VarsAt x w) (hs : s.length ≤ 1048576) (hM : TabsM w M n) (hpb : x.base ≤ p) :
    Calls Tryz.prog 147 #[.pointer (some ⟨g, o, none⟩), .int .i64 k, .int .i64 1, .pointer (some ⟨p, 0, none⟩)] w (TbPost x p M n s (RD.tableOf k 1 old s) w) := by
  have hl := Blk.lt h
  have hb0 : Below w.heap.size w (w.alloc (.cells #[.int .i64 0, .slice none 0 0] 133)) := (Below.refl _ w).alloc (Nat.le_refl _) _
  have hT0 := Blk.new w 133 [.int .i64 0, .slice none 0 0]
  have h0 : At1 (w.alloc (.cells #[.int .i64 0, .slice none 0 0] 133)) p s := Blk.below h hb0 hl
  have hV0 := hV.below hb0
  have hM0 := hM.only (below_only (G := fun _ => False) hb0) (fun e => e) (fun _ _ _ e => e)
  go_enter Tryz.func147, Tryz.ntmps147
  go_wp2_with fail
  refine (readSingle_any x k p M n old s _ hk h0 hV0 hs hM0 hpb).mono ?_
  obtain ⟨C, hC⟩ : ∃ C, C = w.heap.size := ⟨_, rfl⟩
  have hCpM : ¬ (C = p ∨ C = M) := by
    have := hM.lt
    omega
  rw [← hC] at hT0 ⊢
  generalize w.alloc (.cells #[.int .i64 0, .slice none 0 0] 133) = w1 at *
  replace hC := hid' hC
  rintro e w2 ⟨hO2, (⟨hR, rfl⟩ | ⟨tt, cc, v, hR, rfl, hst, hp2, hM2⟩)⟩
  · have hT2 := hT0.only hO2 hCpM
    have c0 := hT2.cell (j := 0) rfl
    have c1 := hT2.cell (j := 1) rfl
    have fz := hT2.free
    have hT3 := (hT2.put 0 (.int .i64 0)).put 1 (.slice none 0 0)
    have r0 := hT3.cell (j := 0) rfl
    have r1 := hT3.cell (j := 1) rfl
    have hO : Only (fun b => b = p ∨ b = M) w ((w2.setCell ⟨C, 0, none⟩ (.int .i64 0)).setCell ⟨C, 1, none⟩ (.slice none 0 0)) := (((below_only hb0).trans hO2).setCell ⟨C, 0, none⟩ _ (fun e => by rw [hC.out] at e; simp at e)).setCell ⟨C, 1, none⟩ _ (fun e => by rw [hC.out] at e; simp at e)
    replace hO := hid' hO
    replace hT3 := hid' hT3
    replace hR := hid' hR
    go_wp2_with fail
    refine bodyPost_ret (v := .tuple #[.agg #[.int .i64 0, .slice none 0 0], errV x.f]) (by simp [results, Tryz.results147, go_sem, r0, r1]) rfl ?_
    exact ⟨hO.out, .inl ⟨hR.out, rfl⟩⟩
  · obtain ⟨b7, c7, rfl, hb7⟩ := hst
    obtain ⟨N7, hN7⟩ : ∃ q, tt.l.length = q := ⟨_, rfl⟩
    obtain ⟨g7, hg7⟩ : ∃ q, tt.log = q := ⟨_, rfl⟩
    rw [hN7, hg7]
    have hT2 := hT0.only hO2 hCpM
    have c0 := hT2.cell (j := 0) rfl
    have c1 := hT2.cell (j := 1) rfl
    have fz := hT2.free
    have hT3 := (hT2.put 0 (.int .i64 (g7 : Nat))).put 1 (.slice (some ⟨b7, 0, none⟩) N7 c7)
    have r0 := hT3.cell (j := 0) rfl
    have r1 := hT3.cell (j := 1) rfl
    have hOC : Only (· = C) w2 ((w2.setCell ⟨C, 0, none⟩ (.int .i64 (g7 : Nat))).setCell ⟨C, 1, none⟩ (.slice (some ⟨b7, 0, none⟩) N7 c7)) := ((Only.refl (· = C) w2).setCell ⟨C, 0, none⟩ _ (fun _ => rfl)).setCell ⟨C, 1, none⟩ _ (fun _ => rfl)
    have hO : Only (fun b => b = p ∨ b = M) w ((w2.setCell ⟨C, 0, none⟩ (.int .i64 (g7 : Nat))).setCell ⟨C, 1, none⟩ (.slice (some ⟨b7, 0, none⟩) N7 c7)) := (((below_only hb0).trans hO2).setCell ⟨C, 0, none⟩ _ (fun e => by rw [hC.out] at e; simp at e)).setCell ⟨C, 1, none⟩ _ (fun e => by rw [hC.out] at e; simp at e)
    have hb9 := hb7.only hOC (fun e => hb7.apart hT2 (by decide) e)
    have hM9 := hM2.only hOC (fun e => hM2.ne hT2 e) (fun b xs hb e => hb.apart hT2 (by decide) e)
    have hp9 : At1 _ p (s.drop cc) := Blk.only hp2 hOC (fun e => Blk.apart hp2 hT2 (by decide) e)
    replace hO := hid' hO
    replace hOC := hid' hOC
    replace hT3 := hid' hT3
    replace hR := hid' hR
    replace hb9 := hid' hb9
    replace hM9 := hid' hM9
    replace hp9 := hid' hp9
    replace hN7 := hid' hN7
    replace hg7 := hid' hg7
    go_wp2_with fail
    refine bodyPost_ret (v := .tuple #[.agg #[.int .i64 (g7 : Nat), .slice (some ⟨b7, 0, none⟩) N7 c7], .nilIface]) (by simp [results, Tryz.results147, go_sem, r0, r1]) rfl ?_
    exact ⟨hO.out, .inr ⟨tt, cc, _, hR.out, by rw [hg7.out], ⟨b7, c7, by rw [hN7.out], hb9.out⟩, hp9.out, hM9.out⟩⟩
set_option maxRecDepth 100000 in
set_option maxHeartbeats 4000000 in
theorem readTable_2 (x : Fx) (g o k p M n : Nat) (t : TypeId) (gs : List Value) (old : RD.Tab) (s : RD.Bytes) (w : World) (hG : Blk w g t gs) (hg0 : gs[o]? = some (.map (some M))) (hn : n < 1000000000) (hMb : x.base ≤ M) (hgp : g ≠ p) (hk : k ≤ 2) (h : At1 w p s) (hV : VarsAt x w) (hs : s.length ≤ 1048576) (hM : TabsM w M n) (hpb : x.base ≤ p) :
    Calls Tryz.prog 147 #[.pointer (some ⟨g, o, none⟩), .int .i64 k, .int .i64 2, .pointer (some ⟨p, 0, none⟩)] w (TbPost x p M n s (RD.tableOf k 2 old s) w) := by
  have hl := Blk.lt h
  have hb0 : Below w.heap.size w (w.alloc (.cells #[.int .i64 0, .slice none 0 0] 133)) := (Below.refl _ w).alloc (Nat.le_refl _) _
  have hT0 := Blk.new w 133 [.int .i64 0, .slice none 0 0]
  have h0 : At1 (w.alloc (.cells #[.int .i64 0, .slice none 0 0] 133)) p s := Blk.below h hb0 hl
  have hV0 := hV.below hb0
  have hM0 := hM.only (below_only (G := fun _ => False) hb0) (fun e => e) (fun _ _ _ e => e)
  have hG0 := hG.below hb0 hG.lt
  go_enter Tryz.func147, Tryz.ntmps147
  go_wp2_with fail
  refine (readCounted_any x g o k p M n t gs old s _ hG0 hg0 hk h0 hV0 hs hM0 hn hpb hMb hgp).mono ?_
  obtain ⟨C, hC⟩ : ∃ C, C = w.heap.size := ⟨_, rfl⟩
  have hCpM : ¬ (C = p ∨ C = M) := by
    have := hM.lt
    omega
  rw [← hC] at hT0 ⊢
  generalize w.alloc (.cells #[.int .i64 0, .slice none 0 0] 133) = w1 at *
  replace hC := hid' hC
  rintro e w2 ⟨hO2, (⟨hR, rfl⟩ | ⟨tt, cc, v, hR, rfl, hst, hp2, hM2⟩)⟩
  · have hT2 := hT0.only hO2 hCpM
    have c0 := hT2.cell (j := 0) rfl
    have c1 := hT2.cell (j := 1) rfl
    have fz := hT2.free
    have hT3 := (hT2.put 0 (.int .i64 0)).put 1 (.slice none 0 0)
    have r0 := hT3.cell (j := 0) rfl
    have r1 := hT3.cell (j := 1) rfl
    have hO : Only (fun b => b = p ∨ b = M) w ((w2.setCell ⟨C, 0, none⟩ (.int .i64 0)).setCell ⟨C, 1, none⟩ (.slice none 0 0)) := (((below_only hb0).trans hO2).setCell ⟨C, 0, none⟩ _ (fun e => by rw [hC.out] at e; simp at e)).setCell ⟨C, 1, none⟩ _ (fun e => by rw [hC.out] at e; simp at e)
    replace hO := hid' hO
    replace hT3 := hid' hT3
    replace hR := hid' hR
    go_wp2_with fail
    refine bodyPost_ret (v := .tuple #[.agg #[.int .i64 0, .slice none 0 0], errV x.f]) (by simp [results, Tryz.results147, go_sem, r0, r1]) rfl ?_
    exact ⟨hO.out, .inl ⟨hR.out, rfl⟩⟩
  · obtain ⟨b7, c7, rfl, hb7⟩ := hst
    obtain ⟨N7, hN7⟩ : ∃ q, tt.l.length = q := ⟨_, rfl⟩
    obtain ⟨g7, hg7⟩ : ∃ q, tt.log = q := ⟨_, rfl⟩
    rw [hN7, hg7]
    have hT2 := hT0.only hO2 hCpM
    have c0 := hT2.cell (j := 0) rfl
    have c1 := hT2.cell (j := 1) rfl
    have fz := hT2.free
    have hT3 := (hT2.put 0 (.int .i64 (g7 : Nat))).put 1 (.slice (some ⟨b7, 0, none⟩) N7 c7)
    have r0 := hT3.cell (j := 0) rfl
    have r1 := hT3.cell (j := 1) rfl
    have hOC : Only (· = C) w2 ((w2.setCell ⟨C, 0, none⟩ (.int .i64 (g7 : Nat))).setCell ⟨C, 1, none⟩ (.slice (some ⟨b7, 0, none⟩) N7 c7)) := ((Only.refl (· = C) w2).setCell ⟨C, 0, none⟩ _ (fun _ => rfl)).setCell ⟨C, 1, none⟩ _ (fun _ => rfl)
    have hO : Only (fun b => b = p ∨ b = M) w ((w2.setCell ⟨C, 0, none⟩ (.int .i64 (g7 : Nat))).setCell ⟨C, 1, none⟩ (.slice (some ⟨b7, 0, none⟩) N7 c7)) := (((below_only hb0).trans hO2).setCell ⟨C, 0, none⟩ _ (fun e => by rw [hC.out] at e; simp at e)).setCell ⟨C, 1, none⟩ _ (fun e => by rw [hC.out] at e; simp at e)
    have hb9 := hb7.only hOC (fun e => hb7.apart hT2 (by decide) e)
    have hM9 := hM2.only hOC (fun e => hM2.ne hT2 e) (fun b xs hb e => hb.apart hT2 (by decide) e)
    have hp9 : At1 _ p (s.drop cc) := Blk.only hp2 hOC (fun e => Blk.apart hp2 hT2 (by decide) e)
    replace hO := hid' hO
    replace hOC := hid' hOC
    replace hT3 := hid' hT3
    replace hR := hid' hR
    replace hb9 := hid' hb9
    replace hM9 := hid' hM9
    replace hp9 := hid' hp9
    replace hN7 := hid' hN7
    replace hg7 := hid' hg7
    go_wp2_with fail
    refine bodyPost_ret (v := .tuple #[.agg #[.int .i64 (g7 : Nat), .slice (some ⟨b7, 0, none⟩) N7 c7], .nilIface]) (by simp [results, Tryz.results147, go_sem, r0, r1]) rfl ?_
    exact ⟨hO.out, .inr ⟨tt, cc, _, hR.out, by rw [hg7.out], ⟨b7, c7, by rw [hN7.out], hb9.out⟩, hp9.out, hM9.out⟩⟩
set_option maxRecDepth 100000 in
set_option maxHeartbeats 4000000 in
theorem readTable_3 (x : Fx) (g o k p M n : Nat) (t : TypeId) (gs : List Value) (old : RD.Tab) (v : Value) (s : RD.Bytes) (w : World) (hG : Blk w g t gs) (hk : k ≤ 2) (h : At1 w p s) (hV : VarsAt x w) (hM : TabsM w M n) (hpb : x.base ≤ p) (hl1 : gs[o + 1 + k * 2]? = some (.int .i64 (old.log : Nat))) (hl2 : gs[o + 1 + k * 2 + 1]? = some v) (hO : TabOk w v old) :
    Calls Tryz.prog 147 #[.pointer (some ⟨g, o, none⟩), .int .i64 k, .int .i64 3, .pointer (some ⟨p, 0, none⟩)] w (TbPost x p M n s (RD.tableOf k 3 old s) w) := by
  have hl := Blk.lt h
  have hb0 : Below w.heap.size w (w.alloc (.cells #[.int .i64 0, .slice none 0 0] 133)) := (Below.refl _ w).alloc (Nat.le_refl _) _
  have hT0 := Blk.new w 133 [.int .i64 0, .slice none 0 0]
  have h0 : At1 (w.alloc (.cells #[.int .i64 0, .slice none 0 0] 133)) p s := Blk.below h hb0 hl
  have hV0 := hV.below hb0
  have hM0 := hM.only (below_only (G := fun _ => False) hb0) (fun e => e) (fun _ _ _ e => e)
  have hG0 := hG.below hb0 hG.lt
  have c1 := hG0.cell hl1
  have c2 := hG0.cell hl2
  have cF := hV0.cF
  have fz0 := hT0.free
  have z0 := hT0.cell (j := 0) rfl
  have z1 := hT0.cell (j := 1) rfl
  have hC0 := hM.lt
  have h8 := hV.eight
  have h8s := hV.size
  have hgl := hG.lt
  rcases hO with ⟨rfl, rfl⟩ | ⟨hth, b7, c7, rfl, hb7⟩
  · have hnq := nil_eq
    go_enter Tryz.func147, Tryz.ntmps147
    go_wp2_with fail
    obtain ⟨C, hC⟩ : ∃ C, C = w.heap.size := ⟨_, rfl⟩
    rw [← hC] at hT0 fz0 z0 z1 h8s hgl hl hC0 ⊢
    generalize w.alloc (.cells #[.int .i64 0, .slice none 0 0] 133) = w1 at *
    replace hC := hid' hC
    have hC6 : ¬ C = 6 := by omega
    have hT3 := (hT0.put 0 (.int .i64 0)).put 1 (.slice none 0 0)
    have r0 := hT3.cell (j := 0) rfl
    have r1 := hT3.cell (j := 1) rfl
    have hO : Only (fun b => b = p ∨ b = M) w ((w1.setCell ⟨C, 0, none⟩ (.int .i64 0)).setCell ⟨C, 1, none⟩ (.slice none 0 0)) := ((below_only hb0).setCell ⟨C, 0, none⟩ _ (fun e => by rw [hC.out] at e; simp at e)).setCell ⟨C, 1, none⟩ _ (fun e => by rw [hC.out] at e; simp at e)
    replace hO := hid' hO
    replace hT3 := hid' hT3
    go_region_with (fail)
    all_goals go_wp2_with fail
    all_goals
      refine bodyPost_ret (v := .tuple #[.agg #[.int .i64 0, .slice none 0 0], errV x.f]) (by simp [results, Tryz.results147, go_sem, r0, r1]) rfl ?_
      exact ⟨hO.out.drew, .inl ⟨by rw [RD.tableOf, if_neg (by decide), if_neg (by decide), if_neg (by decide), if_neg (by decide)], rfl⟩⟩
  · obtain ⟨N7, hN7⟩ : ∃ q, old.l.length = q := ⟨_, rfl⟩
    obtain ⟨g7, hg7⟩ : ∃ q, old.log = q := ⟨_, rfl⟩
    rw [hN7] at c2
    rw [hg7] at c1
    replace hN7 := hid' hN7
    replace hg7 := hid' hg7
    replace hl1 := hid' hl1
    replace hl2 := hid' hl2
    have hnq := nil_ne b7 N7 c7
    have hO3 : Hid ((w.alloc (.cells #[.int .i64 0, .slice none 0 0] 133)).cell? ⟨w.heap.size, 0, none⟩ = some (.int .i64 0)) := z0
    go_enter Tryz.func147, Tryz.ntmps147
    go_wp2_with fail
    have hb9 : Below w.heap.size w (w.alloc (.cells #[.int .i64 (g7 : Nat), .slice (some ⟨b7, 0, none⟩) N7 c7] 133)) := (Below.refl _ w).alloc (Nat.le_refl _) _
    refine bodyPost_ret (v := .tuple #[.agg #[.int .i64 (g7 : Nat), .slice (some ⟨b7, 0, none⟩) N7 c7], .nilIface]) (by simp [results, Tryz.results147, go_sem]) rfl ?_
    refine ⟨below_only hb9, .inr ⟨old, 0, .slice (some ⟨b7, 0, none⟩) N7 c7, ?_, by rw [hg7.out], ⟨b7, c7, by rw [hN7.out], hb7.below hb9 hb7.lt⟩, by rw [List.drop_zero]; exact Blk.below h hb9 (Blk.lt h), (hM.only (below_only (G := fun _ => False) hb9) (fun e => e) (fun _ _ _ e => e)).up⟩⟩
    rw [RD.tableOf, if_neg (by decide), if_neg (by decide), if_neg (by decide), if_pos hth]
theorem seqTable_any (x : Fx) (g o k wy p M n : Nat) (t : TypeId) (gs : List Value) (old : RD.Tab) (v : Value) (s : RD.Bytes) (w : World) (hG : Blk w g t gs) (hg0 : gs[o]? = some (.map (some M))) (hk : k ≤ 2) (hwy : wy ≤ 3) (h : At1 w p s) (hV : VarsAt x w) (hs : s.length ≤ 1048576) (hM : TabsM w M n) (hn : n < 1000000000) (hpb : x.base ≤ p) (hMb : x.base ≤ M) (hgp : g ≠ p) (hl1 : gs[o + 1 + k * 2]? = some (.int .i64 (old.log : Nat))) (hl2 : gs[o + 1 + k * 2 + 1]? = some v) (hO : TabOk w v old) :
    Calls Tryz.prog 147 #[.pointer (some ⟨g, o, none⟩), .int .i64 k, .int .i64 wy, .pointer (some ⟨p, 0, none⟩)] w (TbPost x p M n s (RD.tableOf k wy old s) w) := by
  rcases (by omega : wy = 0 ∨ wy = 1 ∨ wy = 2 ∨ wy = 3) with rfl | rfl | rfl | rfl
  · exact readTable_0 x g o k p M n t gs old s w hG hg0 hk h hV hM hn hpb hMb
  · exact readTable_1 x g o k p M n old s w hk h hV hs hM hpb
  · exact readTable_2 x g o k p M n t gs old s w hG hg0 hn hMb hgp hk h hV hs hM hpb
  · exact readTable_3 x g o k p M n t gs old v s w hG hk h hV hM hpb hl1 hl2 hO
end Go.Proofs.YtbhemchnjpajiaaGreatDoor

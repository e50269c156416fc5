/- Several texts in one: PrOf2, PrTb1. -/
import Derived.Test.YtbhemchnjpajiaaGreatDoorKQ
/- The tables of states that a stream keeps in a map: asked for, whatever they are (package sequences, Tables.of). -/
namespace Go.Proofs.YtbhemchnjpajiaaGreatDoor
open Go.RowKit
open Go.Maps (Keyed fit_look fit_store)
open Go.WideElems (Fit)
set_option linter.unusedVariables false

theorem zero_table (W : World) : (zeroValue 133).run Tryz.prog W = .ok (.agg #[.int .i64 0, .slice none 0 0]) W := by kernel_rfl
theorem TabsM.up {w : World} {M n : Nat} (h : TabsM w M n) : TabsM w M (n + 1) := by
  obtain ⟨es, clock, h1, h2, h3, h4⟩ := h
  exact ⟨es, clock, h1, h2, by omega, h4⟩
set_option maxRecDepth 100000 in
theorem of_any (x : Fx) (M n lg : Nat) (z : List Int) (w : World) (hz : z.length = 16) (hM : TabsM w M n) (hV : VarsAt x w) (hlg : lg ≤ 15) (hzb : ∀ y ∈ z, -1 ≤ y ∧ y ≤ 255) (hn : n < 1000000000) (hMb : x.base ≤ M) :
    Calls Tryz.prog 160 #[.map (some M), keyV lg z] w (OfPost x M n lg z w) := by
  obtain ⟨z0, z1, z2, z3, z4, z5, z6, z7, z8, z9, z10, z11, z12, z13, z14, z15, rfl⟩ : ∃ z0 z1 z2 z3 z4 z5 z6 z7 z8 z9 z10 z11 z12 z13 z14 z15, z = [z0, z1, z2, z3, z4, z5, z6, z7, z8, z9, z10, z11, z12, z13, z14, z15] := by
    match z, hz with
    | [z0, z1, z2, z3, z4, z5, z6, z7, z8, z9, z10, z11, z12, z13, z14, z15], _ => exact ⟨_, _, _, _, _, _, _, _, _, _, _, _, _, _, _, _, rfl⟩
  obtain ⟨es, clock, h1, hF, hsz, hes⟩ := id hM
  have hMl := hM.lt
  have hm2 : ((w.alloc (.cells #[.int .i64 (lg : Int), .int .i64 z0, .int .i64 z1, .int .i64 z2, .int .i64 z3, .int .i64 z4, .int .i64 z5, .int .i64 z6, .int .i64 z7, .int .i64 z8, .int .i64 z9, .int .i64 z10, .int .i64 z11, .int .i64 z12, .int .i64 z13, .int .i64 z14, .int .i64 z15] 294)).alloc (.cells #[.int .i64 0, .slice none 0 0] 133)).heap[M]? = some (.map es clock) := by
    have hO : Only (fun _ => False) w ((w.alloc (.cells #[.int .i64 (lg : Int), .int .i64 z0, .int .i64 z1, .int .i64 z2, .int .i64 z3, .int .i64 z4, .int .i64 z5, .int .i64 z6, .int .i64 z7, .int .i64 z8, .int .i64 z9, .int .i64 z10, .int .i64 z11, .int .i64 z12, .int .i64 z13, .int .i64 z14, .int .i64 z15] 294)).alloc (.cells #[.int .i64 0, .slice none 0 0] 133)) := ((Only.refl _ w).alloc _).alloc _
    rw [hO.block M hMl (fun e => e)]
    exact h1
  obtain ⟨kl, hkl⟩ := key_some (lg := (lg : Int)) (z := [z0, z1, z2, z3, z4, z5, z6, z7, z8, z9, z10, z11, z12, z13, z14, z15]) rfl ⟨by omega, by omega⟩ (fun y hy => by have := hzb y hy; exact ⟨by omega, by omega⟩)
  rcases fit_look true mkeyed Tryz.underlying127 (zero_table _) hm2 hF hkl with ⟨hrun, -, -⟩ | ⟨e0, y, he0, hk, hrun, -, -, -⟩
  · exact of_new x M n lg z0 z1 z2 z3 z4 z5 z6 z7 z8 z9 z10 z11 z12 z13 z14 z15 w hM hV hlg hzb hn hMb hrun
  · obtain ⟨lg', z', v, q1, q2, q3, q4, q5⟩ := hes e0 he0
    obtain ⟨e1, e2⟩ := keyV_inj (q1.symm.trans hk)
    obtain rfl : lg' = lg := by omega
    subst e2
    obtain ⟨b, cc, rfl, hb⟩ := id q5
    rw [q4] at hrun
    refine (of_known x M n lg' z0 z1 z2 z3 z4 z5 z6 z7 z8 z9 z10 z11 z12 z13 z14 z15 w es clock b cc hMl h1 hrun).mono ?_
    rintro e w' ⟨rfl, hb'⟩
    exact ⟨below_only hb', .inr ⟨_, q3, rfl, q5.only (below_only (G := fun _ => False) hb') (fun _ _ _ e => e), (hM.only (below_only (G := fun _ => False) hb') (fun e => e) (fun _ _ _ e => e)).up⟩⟩
end Go.Proofs.YtbhemchnjpajiaaGreatDoor

/- How the table of a part is given (package sequences): its small functions, and a single state, walked. -/
namespace Go.Proofs.YtbhemchnjpajiaaGreatDoor
open Go.RowKit
set_option linter.unusedVariables false

set_option maxHeartbeats 400000 in
theorem symbolsOf_any (k : Nat) (w : World) (hk : k ≤ 2) :
    Calls Tryz.prog 173 #[.int .i64 k] w fun e w' => e = .returned (.int .i64 (RD.most k : Nat)) ∧ w' = w := by
  rcases (by omega : k = 0 ∨ k = 1 ∨ k = 2) with rfl | rfl | rfl
  all_goals
    go_enter Tryz.func173, Tryz.ntmps173
    go_wp2
    go_ret
    exact ⟨rfl, rfl⟩
set_option maxHeartbeats 800000 in
theorem single_any (c : Nat) (w : World) :
    Calls Tryz.prog 174 #[.int .i64 c] w fun e w' => e = .returned (.agg #[.int .i64 0, .slice (some ⟨w.heap.size + 1, 0, none⟩) 1 1]) ∧ Blk w' (w.heap.size + 1) 226 [.int .i64 c, .int .i64 0, .int .i64 0] ∧ Below w.heap.size w w' := by
  go_enter Tryz.func174, Tryz.ntmps174
  go_wp2_with fail
  refine bodyPost_ret (v := .agg #[.int .i64 0, .slice (some ⟨w.heap.size + 1, 0, none⟩) 1 1]) (by simp [results, Tryz.results174, go_sem]) rfl ?_
  refine ⟨rfl, ?_, ((Below.refl _ w).alloc (Nat.le_refl _) _).alloc (by simp) _⟩
  have := Blk.new (w.alloc (.cells #[.int .i64 0, .slice (some ⟨w.heap.size + 1, 0, none⟩) 1 1] 133)) 226 [.int .i64 c, .int .i64 0, .int .i64 0]
  simpa using this
theorem Blk.apart {w : World} {a b : Nat} {t u : TypeId} {xs ys : List Value} (h : Blk w a t xs) (k : Blk w b u ys) (hne : t ≠ u) : a ≠ b := by
  intro e
  subst e
  unfold Blk at h k
  rw [h] at k
  injection k with k
  injection k with _ q _
  exact hne q
/-- What the reading of a table comes to. -/
def TbPost (x : Fx) (p M n : Nat) (s : RD.Bytes) (R : Option (RD.Tab × Nat)) (w : World) (e : Ending) (w' : World) : Prop :=
  Only (fun b => b = p ∨ b = M) w w' ∧ ((R = none ∧ e = .returned (.tuple #[.agg #[.int .i64 0, .slice none 0 0], errV x.f])) ∨
    ∃ t c v, R = some (t, c) ∧ e = .returned (.tuple #[.agg #[.int .i64 (t.log : Nat), v], .nilIface]) ∧ StV w' v t.l ∧ At1 w' p (s.drop c) ∧ TabsM w' M (n + 1))
set_option maxHeartbeats 2000000 in
theorem readSingle_any (x : Fx) (k p M n : Nat) (old : RD.Tab) (s : RD.Bytes) (w : World) (hk : k ≤ 2) (h : At1 w p s) (hV : VarsAt x w) (hs : s.length ≤ 1048576) (hM : TabsM w M n) (hpb : x.base ≤ p) :
    Calls Tryz.prog 162 #[.int .i64 k, .pointer (some ⟨p, 0, none⟩)] w (TbPost x p M n s (RD.tableOf k 1 old s) w) := by
  have hl := Blk.lt h
  have hb0 : Below w.heap.size w (w.alloc (.cells #[.int .i64 0, .slice none 0 0] 133)) := (Below.refl _ w).alloc (Nat.le_refl _) _
  have hT0 := Blk.new w 133 [.int .i64 0, .slice none 0 0]
  have h0 : At1 (w.alloc (.cells #[.int .i64 0, .slice none 0 0] 133)) p s := Blk.below h hb0 hl
  have hV0 := hV.below hb0
  have hM0 := hM.only (below_only (G := fun _ => False) hb0) (fun e => e) (fun _ _ _ e => e)
  have hs0 : (w.alloc (.cells #[.int .i64 0, .slice none 0 0] 133)).heap.size = w.heap.size + 1 := World.size_alloc _ _
  have h8 := hV.eight
  have h8s := hV.size
  go_enter Tryz.func162, Tryz.ntmps162
  go_wp2_with fail
  refine (bnum_any x p s 1 _ h0 hV0 (by omega) (by omega)).mono ?_
  obtain ⟨C, hC⟩ : ∃ C, C = w.heap.size := ⟨_, rfl⟩
  rw [← hC] at hT0 hs0 h8s hl ⊢
  generalize w.alloc (.cells #[.int .i64 0, .slice none 0 0] 133) = w1 at *
  replace hC := hid' hC
  rintro e w2 (⟨h1, rfl, hb⟩ | ⟨h1, rfl, rfl⟩)
  · have hT2 := hT0.below hb hT0.lt
    have c0 := hT2.cell (j := 0) rfl
    have c1 := hT2.cell (j := 1) rfl
    have fz := hT2.free
    have hT3 := (hT2.put 0 (.int .i64 0)).put 1 (.slice none 0 0)
    have r0 := hT3.cell (j := 0) rfl
    have r1 := hT3.cell (j := 1) rfl
    have hO : Only (fun b => b = p ∨ b = M) w ((w2.setCell ⟨C, 0, none⟩ (.int .i64 0)).setCell ⟨C, 1, none⟩ (.slice none 0 0)) := (((below_only hb0).trans (below_only hb)).setCell ⟨C, 0, none⟩ _ (fun e => by rw [hC.out] at e; simp at e)).setCell ⟨C, 1, none⟩ _ (fun e => by rw [hC.out] at e; simp at e)
    replace hO := hid' hO
    replace hT3 := hid' hT3
    go_wp2_with fail
    refine bodyPost_ret (v := .tuple #[.agg #[.int .i64 0, .slice none 0 0], errV x.f]) (by simp [results, Tryz.results162, go_sem, r0, r1]) rfl ?_
    exact ⟨hO.out, .inl ⟨by rw [RD.tableOf, if_neg (by decide), if_pos rfl, if_pos (.inl (by omega))], rfl⟩⟩
  · have hnum : RD.num (s.take 1) = RD.at' s 0 := num_one s (by omega)
    have hat : RD.at' s 0 ≤ 255 := RD.at_lt s 0
    have hO1 : Only (fun b => b = p ∨ b = M) w (w1.setCell ⟨p, 0, none⟩ (.string (RD.bs (s.drop 1)))) := (below_only hb0).setCell ⟨p, 0, none⟩ _ (fun _ => .inl rfl)
    have hpC : C ≠ p := fun e => by
      have := hC.out
      omega
    have hT2 := hT0.only ((Only.refl (· = p) w1).setCell ⟨p, 0, none⟩ (.string (RD.bs (s.drop 1))) (fun _ => rfl)) hpC
    have hM2 := hM0.only ((Only.refl (· = p) w1).setCell ⟨p, 0, none⟩ (.string (RD.bs (s.drop 1))) (fun _ => rfl)) (fun e => hM0.ne h0 e) (fun b xs hb e => by
      rw [e] at hb
      have q := h0
      unfold At1 Blk at q
      unfold Blk at hb
      rw [q] at hb
      injection hb with hb
      injection hb with _ q _
      exact absurd q (by decide))
    have hp2 : At1 (w1.setCell ⟨p, 0, none⟩ (.string (RD.bs (s.drop 1)))) p (s.drop 1) := Blk.put h0 0 _
    have hV2 := hV0.only ((Only.refl (· = p) w1).setCell ⟨p, 0, none⟩ (.string (RD.bs (s.drop 1))) (fun _ => rfl)) (fun k e => by rw [e]; exact hpb)
    rw [hnum]
    replace hnum := hid' hnum
    generalize w1.setCell ⟨p, 0, none⟩ (.string (RD.bs (s.drop 1))) = w2 at *
    have c0 := hT2.cell (j := 0) rfl
    have c1 := hT2.cell (j := 1) rfl
    have fz := hT2.free
    have cF := hV2.cF
    obtain ⟨c, hc⟩ : ∃ c, RD.at' s 0 = c := ⟨_, rfl⟩
    rw [hc] at hat ⊢
    obtain ⟨m, hm⟩ : ∃ m, RD.most k = m := ⟨_, rfl⟩
    have hmb : m ≤ 16 := by rw [← hm]; unfold RD.most; split <;> omega
    have hsy := fun W => symbolsOf_any k W hk
    rw [hm] at hsy
    replace hsy := hid' hsy
    go_wp2_with fail
    refine (hsy.out _).mono ?_
    rintro e w3 ⟨rfl, hw3⟩
    subst hw3
    by_cases hge : m ≤ c
    · have hge2 : (m : Int) ≤ (c : Int) := by omega
      have hT3 := (hT2.put 0 (.int .i64 0)).put 1 (.slice none 0 0)
      have r0 := hT3.cell (j := 0) rfl
      have r1 := hT3.cell (j := 1) rfl
      have hO : Only (fun b => b = p ∨ b = M) w ((w3.setCell ⟨C, 0, none⟩ (.int .i64 0)).setCell ⟨C, 1, none⟩ (.slice none 0 0)) := (hO1.setCell ⟨C, 0, none⟩ _ (fun e => by rw [hC.out] at e; simp at e)).setCell ⟨C, 1, none⟩ _ (fun e => by rw [hC.out] at e; simp at e)
      have hC6 : ¬ C = 6 := by omega
      replace hO := hid' hO
      replace hT3 := hid' hT3
      go_wp2_with fail
      go_region_with (fail)
      all_goals go_wp2_with fail
      all_goals
        refine bodyPost_ret (v := .tuple #[.agg #[.int .i64 0, .slice none 0 0], errV x.f]) (by simp [results, Tryz.results162, go_sem, r0, r1]) rfl ?_
        exact ⟨hO.out.drew, .inl ⟨by rw [RD.tableOf, if_neg (by decide), if_pos rfl, if_pos (.inr (by rw [hc, hm]; exact hge))], rfl⟩⟩
    · have hge2 : ¬ (m : Int) ≤ (c : Int) := by omega
      have hsg := hid' (fun W => single_any c W)
      go_wp2_with fail
      refine (hsg.out _).mono ?_
      rintro e w4 ⟨rfl, hS4, hb4⟩
      have hT4 := hT2.below hb4 hT2.lt
      have hM4 := hM2.only (below_only (G := fun _ => False) hb4) (fun e => e) (fun _ _ _ e => e)
      have hp4 : At1 w4 p (s.drop 1) := Blk.below hp2 hb4 (Blk.lt hp2)
      have d0 := hT4.cell (j := 0) rfl
      have d1 := hT4.cell (j := 1) rfl
      have fz4 := hT4.free
      obtain ⟨q, hq⟩ : ∃ q, w3.heap.size + 1 = q := ⟨_, rfl⟩
      rw [hq] at hS4 ⊢
      have hT5 := (hT4.put 0 (.int .i64 0)).put 1 (.slice (some ⟨q, 0, none⟩) 1 1)
      have r0 := hT5.cell (j := 0) rfl
      have r1 := hT5.cell (j := 1) rfl
      have hO6 : Only (· = C) w4 ((w4.setCell ⟨C, 0, none⟩ (.int .i64 0)).setCell ⟨C, 1, none⟩ (.slice (some ⟨q, 0, none⟩) 1 1)) := ((Only.refl (· = C) w4).setCell ⟨C, 0, none⟩ _ (fun _ => rfl)).setCell ⟨C, 1, none⟩ _ (fun _ => rfl)
      have hO : Only (fun b => b = p ∨ b = M) w ((w4.setCell ⟨C, 0, none⟩ (.int .i64 0)).setCell ⟨C, 1, none⟩ (.slice (some ⟨q, 0, none⟩) 1 1)) := ((hO1.trans (below_only hb4)).setCell ⟨C, 0, none⟩ _ (fun e => by rw [hC.out] at e; simp at e)).setCell ⟨C, 1, none⟩ _ (fun e => by rw [hC.out] at e; simp at e)
      have hS6 := hS4.only hO6 (fun e => hS4.apart hT4 (by decide) e)
      have hp6 : At1 _ p (s.drop 1) := Blk.only hp4 hO6 (fun e => Blk.apart hp4 hT4 (by decide) e)
      have hM6 := hM4.only hO6 (fun e => hM4.ne hT4 e) (fun b xs hb e => hb.apart hT4 (by decide) e)
      have hst : StV ((w4.setCell ⟨C, 0, none⟩ (.int .i64 0)).setCell ⟨C, 1, none⟩ (.slice (some ⟨q, 0, none⟩) 1 1)) (.slice (some ⟨q, 0, none⟩) 1 1) [((c : Nat), 0, 0)] := ⟨q, 1, rfl, hS6⟩
      replace hO := hid' hO
      replace hO6 := hid' hO6
      replace hS6 := hid' hS6
      replace hp6 := hid' hp6
      replace hM6 := hid' hM6
      replace hT5 := hid' hT5
      replace hst := hid' hst
      go_wp2_with fail
      refine bodyPost_ret (v := .tuple #[.agg #[.int .i64 0, .slice (some ⟨q, 0, none⟩) 1 1], .nilIface]) (by simp [results, Tryz.results162, go_sem, r0, r1]) rfl ?_
      exact ⟨hO.out, .inr ⟨⟨true, 0, [((c : Nat), 0, 0)]⟩, 1, _, by rw [RD.tableOf, if_neg (by decide), if_pos rfl, if_neg (by rw [hc, hm]; omega), hc], rfl, hst.out, hp6.out, hM6.out.up⟩⟩
end Go.Proofs.YtbhemchnjpajiaaGreatDoor

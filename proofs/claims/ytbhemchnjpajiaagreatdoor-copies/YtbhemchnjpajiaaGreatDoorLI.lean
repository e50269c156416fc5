/- Several texts in one: QSk2. -/
import Derived.Test.YtbhemchnjpajiaaGreatDoorLG
/- A reader in memory (package skein), and what is fed to it: Feed, walked. -/
namespace Go.Proofs.YtbhemchnjpajiaaGreatDoor
open Go.RowKit
set_option linter.unusedVariables false

/-- A reader that has not stopped. -/
structure LiveAt (x : Fx) (G : Nat → Prop) (c : RD.Cfg) (fed out : RD.Bytes) (given R : Nat) (w : World) (S : Nat) (m : MS) (a : RD.St) (G1 : Nat → Prop) (ss : List Value) (v6 vr : Value) : Prop where
  blk : Blk w R 94 [.pointer (some ⟨S, 0, none⟩), vr, .nilIface, .bool false]
  row : Row8 0 w vr (out.drop given)
  le : given ≤ out.length
  lk : Lk c fed m [] out a
  wants : RD.step c a = .wants
  len : m.bg.length ≤ unitLen m.nx m.bg m.kd m.nm
  str : StrAt x G1 c m S ss v6 w
  own : ∀ k, G1 k → G k ∧ k < w.heap.size
  nr : ¬ G1 R
  nv : ∀ k, vr.ownBlock = some k → ¬ G1 k ∧ G k ∧ S < k
  sr : S < R
  inG : G R
  base : ∀ k, G k → x.base ≤ k
  rows : ErrRows x w
  few : cntAt w S + 3 * potOf m [] ≤ 3 * fed.length
/-- A reader that has stopped: all its text, the number of the error, the place. -/
structure StopAt (x : Fx) (G : Nat → Prop) (text : RD.Bytes) (n : Nat) (place : Nat × Nat) (closed : Bool) (given R : Nat) (w : World) (F : Nat) (vr : Value) : Prop where
  blk : Blk w R 94 [.pointer none, vr, .iface 106 (.pointer (some ⟨F, 0, none⟩)), .bool closed]
  row : Row8 0 w vr (text.drop given)
  le : given ≤ text.length
  flt : Blk w F 111 [.int .i64 (place.1 : Nat), .int .i64 (place.2 : Nat), errV (errA x n)]
  num : n = 2 ∨ n = 4 ∨ n = 5 ∨ n = 6 ∨ n = 7 ∨ n = 8
  inG : G R
  nv : ∀ k, vr.ownBlock = some k → G k
  base : ∀ k, G k → x.base ≤ k
  vars : VarsAt x w
  rows : ErrRows x w
theorem step_num {c : RD.Cfg} {a : RD.St} {n : Nat} (h : RD.step c a = .err n) : n = 4 ∨ n = 5 ∨ n = 6 ∨ n = 8 := by
  obtain ⟨fr, ph, f, left, text⟩ := a
  unfold RD.step at h
  cases ph with
  | letters =>
    simp only [] at h
    repeat' split at h
    all_goals first | (cases h; done) | (cases h; omega)
  | skip =>
    simp only [] at h
    repeat' split at h
    all_goals first | (cases h; done) | (cases h; omega)
  | header =>
    simp only [] at h
    cases hx : RD.header c left with
    | wants => rw [hx] at h; cases h
    | ok r => rw [hx] at h; cases h
    | err e =>
      rw [hx] at h
      cases h
      unfold RD.header at hx
      repeat' (first | split at hx | (simp only [] at hx))
      all_goals first | (cases hx; done) | (cases hx; omega)
  | blocks =>
    simp only [] at h
    cases hx : RD.block f left with
    | wants => rw [hx] at h; cases h
    | ok r =>
      rw [hx] at h
      simp only [] at h
      repeat' split at h
      all_goals cases h
    | err e =>
      rw [hx] at h
      cases h
      unfold RD.block at hx
      repeat' (first | split at hx | (simp only [] at hx))
      all_goals first | (cases hx; done) | (cases hx; omega)
  | sum =>
    simp only [] at h
    repeat' split at h
    all_goals first | (cases h; done) | (cases h; omega)
set_option maxRecDepth 100000 in
set_option maxHeartbeats 2000000 in
theorem stop_any (R : Nat) (v0 v1 v2 v3 : Value) (F : Nat) (w : World) (h : Blk w R 94 [v0, v1, v2, v3]) :
    Calls Tryz.prog 42 #[.pointer (some ⟨R, 0, none⟩), .iface 106 (.pointer (some ⟨F, 0, none⟩))] w fun e w' => e = .returned (.tuple #[]) ∧ Blk w' R 94 [.pointer none, v1, .iface 106 (.pointer (some ⟨F, 0, none⟩)), v3] ∧ Only (· = R) w w' := by
  have c0 := h.cell (j := 0) rfl
  have c2 := h.cell (j := 2) rfl
  have fz := h.free
  go_enter Tryz.func42, Tryz.ntmps42
  go_wp2_with fail
  go_end0
  exact ⟨rfl, (h.put 2 _).put 0 _, ((Only.refl (· = R) w).setCell ⟨R, 2, none⟩ _ (fun _ => rfl)).setCell ⟨R, 0, none⟩ _ (fun _ => rfl)⟩
/-- What Feed of a reader that has not stopped comes to. -/
def RfPost (x : Fx) (G : Nat → Prop) (c : RD.Cfg) (fed text : RD.Bytes) (given R : Nat) (w : World) (e : Ending) (w' : World) : Prop :=
  e = .returned (.int .i64 0) ∧ Only G w w' ∧ ∃ (a : RD.St) (G' : Nat → Prop), (∀ k, G' k → G k ∨ w.heap.size ≤ k) ∧ RD.Reach c (RD.St.start (fed ++ text)) a ∧
    ((RD.step c a = .wants ∧ ∃ S m G1 ss v6 vr, LiveAt x G' c (fed ++ text) a.text given R w' S m a G1 ss v6 vr) ∨
     ∃ n F vr, RD.step c a = .err n ∧ StopAt x G' a.text n (a.frames, a.f.blocks) false given R w' F vr)
set_option maxRecDepth 100000 in
set_option maxHeartbeats 4000000 in
theorem rdFeed_live (x : Fx) (G : Nat → Prop) (c : RD.Cfg) (hc : CfgOk c) (fed text out : RD.Bytes) (given R S : Nat) (m : MS) (a : RD.St) (G1 : Nat → Prop) (ss : List Value) (v6 vr : Value) (w : World) (h : LiveAt x G c fed out given R w S m a G1 ss v6 vr) (hlen : (fed ++ text).length ≤ 268435456) :
    Calls Tryz.prog 23 #[.pointer (some ⟨R, 0, none⟩), .string (RD.bs text)] w (RfPost x G c fed text given R w) := by
  have c0 := h.blk.cell (j := 0) rfl
  have c1 := h.blk.cell (j := 1) rfl
  have c2 := h.blk.cell (j := 2) rfl
  have c3 := h.blk.cell (j := 3) rfl
  have hfd := feed_any x G1 c hc fed text out m a S ss v6 w h.str (fun k hk => (h.own k hk).2) h.lk h.len hlen (3 * fed.length) h.few (by rw [List.length_append] at hlen; omega)
  have hRlt := h.blk.lt
  replace hlen := hid' hlen
  go_enter Tryz.func23, Tryz.ntmps23
  go_wp2_with fail
  refine hfd.mono ?_
  rintro e w1 ⟨hO1, hV1, a1, p, hr1, ht1, hcase⟩
  have hB1 := h.blk.only hO1 h.nr
  have hR1 := h.row.only hO1 (fun k hk => (h.nv k hk).1)
  have hsm : p.length ≤ 274877906944 ∧ (out.drop given).length ≤ 274877906944 := by
    have h4 := (reach_small hr1).2.2.2
    have h5 := congrArg List.length ht1
    rw [List.length_append] at h5
    have h6 := hlen.out
    refine ⟨by omega, ?_⟩
    rw [List.length_drop]
    omega
  have hdr : Hid ((out ++ p).drop given = out.drop given ++ p) := by rw [Hid, List.drop_append_of_le_length h.le]
  obtain ⟨T, hT⟩ : ∃ T, T = out.drop given := ⟨_, rfl⟩
  rw [← hT] at hR1 hsm hdr
  replace hT := hid' hT
  obtain ⟨v2, w2, hrun, hR2, hO2, hat2⟩ := run_append8 0 9 36 w1 vr _ T p hR1 (src_text w1 p) (by omega) (Nat.zero_le _)
  obtain ⟨ad, cc, rfl, q1, q2, q3⟩ := hR1.form
  have hB2 := hB1.only hO2 (fun e => (hR1.blk e).2.ne hB1 (by decide) rfl)
  obtain ⟨a2, cc2, rfl, p1, p2, p3⟩ := hR2.form
  have hLs : (T ++ p).length = T.length + p.length := List.length_append
  rw [hLs] at hrun hR2 hat2 p1
  replace hLs := hid' hLs
  have d1 := hB1.cell (j := 1) rfl
  have e1 := hB2.cell (j := 1) rfl
  have fz1 := hB1.free
  have fz2 := hB2.free
  have hB3 := hB2.put 1 (.slice a2 (T.length + p.length) cc2)
  have hO3 : Only (· = R) w2 (w2.setCell ⟨R, 1, none⟩ (.slice a2 (T.length + p.length) cc2)) := (Only.refl (· = R) w2).setCell ⟨R, 1, none⟩ _ (fun _ => rfl)
  have hR3 : Row8 0 (w2.setCell ⟨R, 1, none⟩ (.slice a2 (T.length + p.length) cc2)) (.slice a2 (T.length + p.length) cc2) (T ++ p) := hR2.only hO3 (fun k hk e => (hR2.blk hk).2.ne hB2 (by decide) e)
  have hK : ∀ k, (G1 k ∨ k = R ∨ (Value.slice ad T.length cc).ownBlock = some k) → G k := fun k hk => by
    rcases hk with hk | rfl | hk
    · exact (h.own k hk).1
    · exact h.inG
    · exact (h.nv k hk).2.1
  have hO13 : Only (fun k => G1 k ∨ k = R ∨ (Value.slice ad T.length cc).ownBlock = some k) w (w2.setCell ⟨R, 1, none⟩ (.slice a2 (T.length + p.length) cc2)) := ((hO1.weaken (fun _ _ e => .inl e)).trans (hO2.weaken (fun _ _ e => .inr (.inr e)))).trans (hO3.weaken (fun _ _ e => .inr (.inl e)))
  have hv0 : ∀ k, (Value.slice ad T.length cc).ownBlock = some k → k < w.heap.size := fun k hk => (h.row.blk hk).2.lt
  have hv2 : ∀ k, (Value.slice a2 (T.length + p.length) cc2).ownBlock = some k → (Value.slice ad T.length cc).ownBlock = some k ∨ k = w1.heap.size := fun k hk => by
    rcases hat2 with e | e
    · exact .inl (e.symm.trans hk)
    · rw [e] at hk
      injection hk with hk
      exact .inr hk.symm
  have hsz1 := hO1.size
  have hErr := h.rows.only h.str.vars hO13 (fun k hk => h.base k (hK k hk))
  generalize hw3 : w2.setCell ⟨R, 1, none⟩ (.slice a2 (T.length + p.length) cc2) = w3 at *
  replace hw3 := hid' hw3
  rcases hcase with ⟨hw, rfl, m', G', ss', v6', hlk', hlen', hstr', hcn', hG'⟩ | ⟨n, F, hn, rfl, hF, hBF⟩
  · go_wp2_with (at_builtin; refine wpList_append_run rfl _ _ 36 9 rfl _ _ _ w2 rfl rfl hrun ?_)
    go_ret
    rw [hw3.out]
    have hG'v : ∀ k, (Value.slice ad T.length cc).ownBlock = some k → ¬ G' k := fun k hk e => by
      rcases (hG' k e).1 with e | e
      · exact (h.nv k hk).1 e
      · have := hv0 k hk; omega
    have hG'R : ¬ G' R := fun e => by
      rcases (hG' R e).1 with e | e
      · exact h.nr e
      · omega
    have hSR : ∀ k, G' k → k < w1.heap.size := fun k hk => (hG' k hk).2
    have hO23 : Only (fun k => k = R ∨ (Value.slice ad T.length cc).ownBlock = some k) w1 w3 := (hO2.weaken (fun _ _ e => .inr e)).trans (hO3.weaken (fun _ _ e => .inl e))
    have hnt : ∀ k, k < w1.heap.size → (k = R ∨ (Value.slice ad T.length cc).ownBlock = some k) → NoTab w1 k := fun k _ hk => by
      rcases hk with e | e
      · rw [e]; exact NoTab.of_blk hB1 (by decide) (by decide)
      · exact NoTab.of_u8 (hR1.blk e).2
    have hcn3 : cntAt w3 S = cntAt w1 S := cnt_same hstr' hO23 (fun M hM hk => by
      rcases hk with e | e
      · exact hM.ne hB1 e
      · exact (hR1.blk e).2.noMap hM) (hstr'.blk.only hO23 (fun hk => by
      rcases hk with e | e
      · exact hG'R (e ▸ hstr'.inG.1)
      · exact hG'v S e hstr'.inG.1)) rfl
    refine ⟨rfl, hO13.weaken (fun k _ hk => hK k hk), a1, fun k => G k ∨ G' k ∨ (Value.slice a2 (T.length + p.length) cc2).ownBlock = some k, fun k hk => ?_, hr1, .inl ⟨hw, S, m', G', ss', v6', _, hB3, ?_, ?_, by rw [ht1]; exact hlk', hw, hlen', ?_, fun k hk => ⟨.inr (.inl hk), ?_⟩, hG'R, fun k hk => ⟨fun e => ?_, .inr (.inr hk), ?_⟩, h.sr, .inl h.inG, fun k hk => ?_, hErr, ?_⟩⟩
    · rcases hk with hk | hk | hk
      · exact .inl hk
      · rcases (hG' k hk).1 with e | e
        · exact .inl (h.own k e).1
        · exact .inr e
      · rcases hv2 k hk with e | e
        · exact .inl (h.nv k e).2.1
        · exact .inr (by omega)
    · rw [ht1, hdr.out]; exact hR3
    · rw [ht1, List.length_append]; have := h.le; omega
    · refine hstr'.apart hO23 (fun k hkl hk => ⟨fun e => ?_, ?_⟩) hnt
      · rcases hk with rfl | hk
        · exact hG'R e
        · exact hG'v k hk e
      · rcases hk with rfl | hk
        · exact h.sr
        · exact (h.nv k hk).2.2
    · have := hSR k hk
      have := hO23.size
      omega
    · rcases hv2 k hk with e1 | e1
      · exact hG'v k e1 e
      · have := hSR k e; omega
    · rcases hv2 k hk with e1 | e1
      · exact (h.nv k e1).2.2
      · have := h.str.blk.lt; omega
    · rcases hk with hk | hk | hk
      · exact h.base k hk
      · exact hstr'.base k hk
      · rcases hv2 k hk with e | e
        · exact h.base k (h.nv k e).2.1
        · have := hV1.size; omega
    · rw [hcn3, List.length_append]
      omega
  · have hst := stop_any R (.pointer (some ⟨S, 0, none⟩)) (.slice a2 (T.length + p.length) cc2) .nilIface (.bool false) F w3 hB3
    go_wp2_with (at_builtin; refine wpList_append_run rfl _ _ 36 9 rfl _ _ _ w2 rfl rfl hrun ?_)
    rw [hw3.out]
    refine hst.mono ?_
    rintro e w4 ⟨rfl, hB4, hO4⟩
    go_wp2_with fail
    go_ret
    have hn4 := step_num hn
    have hBF2 := hBF.only hO2 (fun e => by have := hv0 F e; omega)
    have hBF3 := hBF2.only hO3 (fun e => by omega)
    have hBF4 := hBF3.only hO4 (fun e => by omega)
    have hO14 : Only (fun k => G1 k ∨ k = R ∨ (Value.slice ad T.length cc).ownBlock = some k) w w4 := hO13.trans (hO4.weaken (fun _ _ e => .inr (.inl e)))
    have hR4 := hR3.only hO4 (fun k hk e => (hR3.blk hk).2.ne hB3 (by decide) e)
    refine ⟨rfl, hO14.weaken (fun k _ hk => hK k hk), a1, fun k => G k ∨ (Value.slice a2 (T.length + p.length) cc2).ownBlock = some k, fun k hk => ?_, hr1, .inr ⟨n, F, _, hn, hB4, ?_, ?_, hBF4, by omega, .inl h.inG, fun k hk => .inr hk, fun k hk => ?_, h.str.vars.only hO14 (fun k hk => h.base k (hK k hk)), h.rows.only h.str.vars hO14 (fun k hk => h.base k (hK k hk))⟩⟩
    · rcases hk with hk | hk
      · exact .inl hk
      · rcases hv2 k hk with e | e
        · exact .inl (h.nv k e).2.1
        · exact .inr (by omega)
    · rw [ht1, hdr.out]; exact hR4
    · rw [ht1, List.length_append]; have := h.le; omega
    · rcases hk with hk | hk
      · exact h.base k hk
      · rcases hv2 k hk with e | e
        · exact h.base k (h.nv k e).2.1
        · have := hV1.size; omega
end Go.Proofs.YtbhemchnjpajiaaGreatDoor

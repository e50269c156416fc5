/- Several texts in one: QWh, QWh2. -/
import Derived.Test.YtbhemchnjpajiaaGreatDoorLH
import Derived.Test.YtbhemchnjpajiaaGreatDoorLK
/- A reader is made, and a whole stream is read (package skein): New, Whole, walked at settings that are right. -/
namespace Go.Proofs.YtbhemchnjpajiaaGreatDoor
open Go.RowKit
set_option linter.unusedVariables false
set_option linter.unusedSimpArgs false

theorem dicts_owned {w : World} {B : Nat} {v : Value} {ds : List (Int × RD.Bytes)} (h : w.ownsRow B 65 2 v ds.length (dictCells ds)) : DictsAt w v ds ∧ ∀ k, v.ownBlock = some k → B ≤ k ∧ k < w.heap.size := by
  by_cases h0 : ds = []
  · subst h0
    obtain ⟨-, h2⟩ := h
    rcases h2 with ⟨rfl, -⟩ | ⟨g, cap, cur, rfl, hbg, hg, r⟩
    · exact ⟨⟨none, 0, rfl, Nat.le_refl _, .inl rfl⟩, fun k hk => by cases hk⟩
    · refine ⟨⟨_, cap, rfl, Nat.zero_le _, .inl rfl⟩, fun k hk => ?_⟩
      injection hk with hk
      have : k = g := hk.symm
      rw [this]
      exact ⟨hbg, (Array.getElem?_eq_some_iff.1 hg).1⟩
  · obtain ⟨g, c, rest, rfl, hbg, hB, h1, h2, h3⟩ := owns_slice h (List.length_pos_iff.2 h0)
    refine ⟨⟨_, c, rfl, h1, .inr ⟨g, rfl, hB.lt, fun i hi => ?_⟩⟩, fun k hk => ?_⟩
    · obtain ⟨e1, e2⟩ := dictCells_at ds i hi
      have hl := dictCells_length ds
      exact ⟨hB.cell (by rw [List.getElem?_append_left (by omega)]; exact e1), hB.cell (by rw [List.getElem?_append_left (by omega)]; exact e2)⟩
    · injection hk with hk
      have : k = g := hk.symm
      rw [this]
      exact ⟨hbg, hB.lt⟩
def NewPost (x : Fx) (c : RD.Cfg) (w : World) (e : Ending) (w' : World) : Prop :=
  Below w.heap.size w w' ∧ ∃ R S G1 ss, e = .returned (.tuple #[.pointer (some ⟨R, 0, none⟩), .int .i64 0]) ∧ LiveAt x (fun k => w.heap.size ≤ k ∧ k < w'.heap.size) c [] [] 0 R w' S MS.start (RD.St.start []) G1 ss (.slice none 0 0) (.slice none 0 0)
set_option maxRecDepth 100000 in
set_option maxHeartbeats 4000000 in
theorem new_ok (x : Fx) (c : RD.Cfg) (hc : CfgOk c) (hi : IdsOk c) (v : Value) (w : World) (hD : DictsAt w v c.dicts) (hV : VarsAt x w) (hE : ErrRows x w) :
    Calls Tryz.prog 22 #[.agg #[.int .i64 c.limit, v]] w (NewPost x c w) := by
  obtain ⟨a, cc, rfl, hcc, -⟩ := id hD
  have hb0 : Below w.heap.size w (w.alloc (.cells #[.int .i64 c.limit, .slice a c.dicts.length cc] 24)) := (Below.refl _ w).alloc (Nat.le_refl _) _
  have hB0 := Blk.new w 24 [.int .i64 c.limit, .slice a c.dicts.length cc]
  have hD0 := hD.only (below_only (G := fun _ => False) hb0) (fun _ _ e => e)
  have hrc := rightConfig_ok c hc hi _ _ hD0
  go_enter Tryz.func22, Tryz.ntmps22
  go_wp2_with fail
  generalize hW0 : w.alloc (.cells #[.int .i64 c.limit, .slice a c.dicts.length cc] 24) = W0 at *
  refine hrc.mono ?_
  rintro e w1 ⟨rfl, hb1⟩
  have hB1 := hB0.below hb1 hB0.lt
  have hD1 := hD0.only (below_only (G := fun _ => False) hb1) (fun _ _ e => e)
  have k0 := hB1.cell (j := 0) rfl
  have k1 := hB1.cell (j := 1) rfl
  have hbw1 : Below w.heap.size w w1 := hb0.trans ⟨hb1.os, hb1.tape, hb1.output, hb1.size, fun k hk => hb1.block k (Nat.lt_of_lt_of_le hk hb0.size)⟩
  have hcp : ∀ W : World, SameW W w1 → Calls Tryz.prog 40 #[.slice a c.dicts.length cc] W fun e w' => ∃ da dc, e = .returned (.slice da c.dicts.length dc) ∧ Below w1.heap.size w1 w' ∧ DictsAt w' (.slice da c.dicts.length dc) c.dicts ∧ (∀ k, (Value.slice da c.dicts.length dc).ownBlock = some k → k < w'.heap.size) ∧ w'.cell? ⟨w.heap.size, 0, none⟩ = some (.int .i64 c.limit) ∧ w'.cell? ⟨w.heap.size, 1, none⟩ = some (.slice a c.dicts.length cc) := fun W hW => by
    have hDW : DictsAt W (.slice a c.dicts.length cc) c.dicts := hD1.only (G := fun _ => False) ⟨hW.2.1, hW.2.2.1, hW.2.2.2, by rw [hW.1]; exact Nat.le_refl _, fun k _ _ => by rw [hW.1]⟩ (fun _ _ e => e)
    refine (copied_any c.dicts _ W hDW hc.few (fun d hd => (hc.text d hd).2)).mono ?_
    rintro e w' ⟨hb', v', rfl, hown, da, dc, rfl⟩
    have hb2 := hW.below hb'
    obtain ⟨z1, z2⟩ := dicts_owned hown
    exact ⟨da, dc, rfl, hb2, z1, fun k hk => (z2 k hk).2, (hB1.below hb2 hB1.lt).cell (j := 0) rfl, (hB1.below hb2 hB1.lt).cell (j := 1) rfl⟩
  replace hW0 := hid' hW0
  go_wp2_with fail
  go_region_with (first | (go_at_call 40; refine (hcp _ (by exact ⟨rfl, rfl, rfl, rfl⟩)).mono ?_; rintro e w2 ⟨da, dc, rfl, hb2, hD2, hown2, m0, m1⟩) | (go_at_call 39; refine (strNew_any _ _ _ _ _).mono ?_; rintro e w3 ⟨S, M, rfl, hMge, hMS, hMh, hBS, hb3⟩))
  all_goals
    go_wp2_with fail
    go_ret2
    have hb12 : Below w.heap.size w w2 := hbw1.trans ⟨hb2.os, hb2.tape, hb2.output, hb2.size, fun k hk => hb2.block k (Nat.lt_of_lt_of_le hk hbw1.size)⟩
    have hb13 : Below w.heap.size w w3 := hb12.trans ⟨hb3.os, hb3.tape, hb3.output, hb3.size, fun k hk => hb3.block k (Nat.lt_of_lt_of_le hk hb12.size)⟩
    have hb4 : Below w3.heap.size w3 (w3.alloc (.cells #[.pointer (some ⟨S, 0, none⟩), .slice none 0 0, .nilIface, .bool false] 94)) := (Below.refl _ w3).alloc (Nat.le_refl _) _
    have hbf := hb13.trans ⟨hb4.os, hb4.tape, hb4.output, hb4.size, fun k hk => hb4.block k (Nat.lt_of_lt_of_le hk hb13.size)⟩
    have hVf := hV.below hbf
    have hEf := hE.below hV hbf
    have hBf := hBS.below hb4 hBS.lt
    have hDf := (hD2.only (below_only (G := fun _ => False) hb3) (fun _ _ e => e)).only (below_only (G := fun _ => False) hb4) (fun _ _ e => e)
    have hsw := hV.size
    have hs12 := hb12.size
    have hSlt := hBS.lt
    have hf4 := hb4.size
    have hMlt : M < w3.heap.size := (Array.getElem?_eq_some_iff.1 hMh).1
    have hMf : (w3.alloc (.cells #[.pointer (some ⟨S, 0, none⟩), .slice none 0 0, .nilIface, .bool false] 94)).heap[M]? = some (.map #[] 0) := by rw [hb4.block M hMlt]; exact hMh
    obtain ⟨hst, hc0⟩ := StrAt.start hBf hMf hMS hDf (fun k hk => by have := hown2 k hk; omega) hVf (by omega)
    refine ⟨hbf, w3.heap.size, S, (fun k => k = S ∨ k = M), _, rfl, Blk.new w3 94 [.pointer (some ⟨S, 0, none⟩), .slice none 0 0, .nilIface, .bool false], Row8.nil 0 _, Nat.zero_le _, Lk.start c, rfl, ?_, hst, fun k hk => ⟨⟨by omega, by omega⟩, by omega⟩, fun e => by omega, fun k hk => (by cases hk), hSlt, ⟨by have := hb13.size; omega, by simp⟩, fun k hk => by omega, hEf, by rw [hc0]; exact Nat.le_refl _⟩
    show (0 : Nat) ≤ _
    omega
end Go.Proofs.YtbhemchnjpajiaaGreatDoor

/- A whole stream is read (package skein): Whole, walked at settings that are right. -/
namespace Go.Proofs.YtbhemchnjpajiaaGreatDoor
open Go.RowKit
set_option linter.unusedVariables false

theorem Below.only {B : Nat} {G : Nat → Prop} {w w1 w2 : World} (h : Below B w w1) (ho : Only G w1 w2) (hG : ∀ k, G k → B ≤ k) (hB : B ≤ w.heap.size) : Below B w w2 :=
  h.trans ⟨ho.os, ho.tape, ho.output, ho.size, fun k hk => ho.block k (by have := h.size; omega) (fun e => by have := hG k e; omega)⟩
/-- What Whole tells of a stream. -/
def errOf (n : Nat) : Nat := if n = 2 then 0 else n
def WhPost (c : RD.Cfg) (s : RD.Bytes) (w : World) (e : Ending) (w' : World) : Prop :=
  e = .returned (.tuple #[.string (RD.bs (RD.gave c s).1), .int .i64 (errOf (RD.gave c s).2 : Nat)]) ∧ Below w.heap.size w w'
set_option maxRecDepth 100000 in
set_option maxHeartbeats 4000000 in
theorem whole_any (x : Fx) (c : RD.Cfg) (hc : CfgOk c) (hi : IdsOk c) (s : RD.Bytes) (v : Value) (w : World) (hD : DictsAt w v c.dicts) (hV : VarsAt x w) (hE : ErrRows x w) (hlen : s.length ≤ 268435456) :
    Calls Tryz.prog 17 #[.agg #[.int .i64 c.limit, v], .string (RD.bs s)] w (WhPost c s w) := by
  obtain ⟨a, cc, rfl, -, -⟩ := id hD
  have hb0 : Below w.heap.size w (w.alloc (.cells #[.int .i64 c.limit, .slice a c.dicts.length cc] 24)) := (Below.refl _ w).alloc (Nat.le_refl _) _
  have hnw := new_ok x c hc hi _ _ (hD.only (below_only (G := fun _ => False) hb0) (fun _ _ e => e)) (hV.below hb0) (hE.below hV hb0)
  go_enter Tryz.func17, Tryz.ntmps17
  go_wp2_with fail
  generalize hW0 : w.alloc (.cells #[.int .i64 c.limit, .slice a c.dicts.length cc] 24) = W0 at *
  replace hW0 := hid' hW0
  refine hnw.mono ?_
  rintro e w1 ⟨hb1, R, S, G1, ss, rfl, hL⟩
  have hbw1 : Below w.heap.size w w1 := hb0.trans ⟨hb1.os, hb1.tape, hb1.output, hb1.size, fun k hk => hb1.block k (Nat.lt_of_lt_of_le hk hb0.size)⟩
  have hfd := rdFeed_live x _ c hc [] s [] 0 R S _ _ _ _ _ _ w1 hL (by rw [List.nil_append]; exact hlen)
  unfold RfPost at hfd
  rw [List.nil_append] at hfd
  go_wp2_with fail
  refine hfd.mono ?_
  rintro e w2 ⟨rfl, hO2, a2, G2, hG2, hr2, hcase⟩
  have hs0 := hb0.size
  have hs1 := hb1.size
  have hbw2 : Below w.heap.size w w2 := Below.only hbw1 hO2 (fun k hk => by omega) (Nat.le_refl _)
  have hG2b : ∀ k, G2 k → w.heap.size ≤ k := fun k hk => by
    rcases hG2 k hk with e | e
    · omega
    · omega
  have hcl : Calls Tryz.prog 25 #[.pointer (some ⟨R, 0, none⟩)] w2 fun e w' => e = .returned (.int .i64 0) ∧ Only G2 w2 w' ∧ ∃ n F vr text pl, RD.gave c s = (text, n) ∧ StopAt x G2 text n pl true 0 R w' F vr := by
    rcases hcase with ⟨hw, S2, m2, G3, ss2, v62, vr2, hL2⟩ | ⟨n, F, vr2, hn, hS2⟩
    · refine (rdClose_live x G2 c s a2.text 0 R S2 m2 a2 G3 ss2 v62 vr2 w2 hL2).mono ?_
      rintro e w' ⟨rfl, h1, n, F, h2, h3⟩
      exact ⟨rfl, h1, n, F, vr2, a2.text, _, by unfold RD.gave; rw [h2], h3⟩
    · refine (rdClose_stop x G2 a2.text n _ 0 R F vr2 w2 hS2).mono ?_
      rintro e w' ⟨rfl, h1, h3⟩
      exact ⟨rfl, h1, n, F, vr2, a2.text, _, by unfold RD.gave; rw [RD.told_err true hr2 hn], h3⟩
  clear hcase hfd hL hnw
  go_wp2_with fail
  refine hcl.mono ?_
  rintro e w3 ⟨rfl, hO3, n, F, vr, text, pl, hgv, hS3⟩
  have hbw3 : Below w.heap.size w w3 := Below.only hbw2 hO3 hG2b (Nat.le_refl _)
  have hpl := rdPlace_stop x G2 text n pl true 0 R F vr w3 hS3
  go_wp2_with fail
  refine hpl.mono ?_
  rintro e w4 ⟨rfl, hb4⟩
  have hbw4 : Below w.heap.size w w4 := hbw3.trans ⟨hb4.os, hb4.tape, hb4.output, hb4.size, fun k hk => hb4.block k (Nat.lt_of_lt_of_le hk hbw3.size)⟩
  have hS4 : StopAt x G2 text n pl true 0 R w4 F vr := ⟨hS3.blk.below hb4 hS3.blk.lt, hS3.row.only (below_only (G := fun _ => False) hb4) (fun _ _ e => e), hS3.le, hS3.flt.below hb4 hS3.flt.lt, hS3.num, hS3.inG, hS3.nv, hS3.base, hS3.vars.below hb4, hS3.rows.below hS3.vars hb4⟩
  have htl : (text.drop 0).length ≤ (9223372036854775807 : Int) := by
    obtain ⟨_, c', e, h1, h2, _⟩ := hS3.row.form
    unfold maxLen at h2
    omega
  have hrd := rdRead_stop x G2 text n pl true 0 R F vr 9223372036854775807 w4 hS4 htl (by omega)
  rw [List.drop_zero] at hrd
  obtain ⟨Q, hQ⟩ : ∃ Q, Q = (if n = 2 then 0 else n : Nat) := ⟨_, rfl⟩
  rw [← hQ]
  replace hQ := hid' hQ
  replace hgv := hid' hgv
  go_wp2_with fail
  refine hrd.mono ?_
  rintro e w5 ⟨z, rfl, hO5⟩
  go_wp2_with fail
  go_ret2
  refine ⟨?_, Below.only hbw4 hO5 hG2b (Nat.le_refl _)⟩
  rw [hgv.out]
  have hq : errOf n = Q := hQ.out.symm
  rw [hq]
  rfl
end Go.Proofs.YtbhemchnjpajiaaGreatDoor

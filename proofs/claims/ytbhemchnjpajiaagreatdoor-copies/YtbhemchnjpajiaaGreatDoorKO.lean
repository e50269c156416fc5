/- Several texts in one: PrSq, PrSeq2, PrSeq3, PrList, PrPad. -/
import Derived.Test.YtbhemchnjpajiaaGreatDoorKM
import Derived.Test.YtbhemchnjpajiaaGreatDoorJC
import Derived.Test.YtbhemchnjpajiaaGreatDoorKN
import Derived.Test.YtbhemchnjpajiaaGreatDoorJA
/- One sequence (package sequences, readSequence), walked. -/
namespace Go.Proofs.YtbhemchnjpajiaaGreatDoor
open Go.RowKit
set_option linter.unusedVariables false

theorem plen_max {l : List Int} (hl : ∀ x ∈ l, 0 ≤ x ∧ x ≤ 1) (p c : Nat) (hc : c ≤ 15) : (RD.plen l p c).1 ≤ 1000 ∧ (RD.plen l p c).2 ≤ p + 15 := by
  unfold RD.plen
  split
  · simp only []; omega
  · have a := RD.pk_bound hl p (c - 7)
    have b := RD.pow_small (c - 7) 8 (by omega)
    simp only []
    omega
def SqPost (x : Fx) (g o p : Nat) (t : TypeId) (gs : List Value) (l : List Int) (h : RD.Ph) (s : RD.Bytes) (w : World) (e : Ending) (w' : World) : Prop :=
  Only (fun b => b = p ∨ b = g) w w' ∧ (((RD.pone l h).s.off = 0 ∧ e = .returned (.tuple #[.agg #[.int .i64 0, .int .i64 0, .int .i64 0], errV x.f]) ∧ ∃ a b c, Blk w' g t (((gs.set (o + 7) (.int .i64 a)).set (o + 8) (.int .i64 b)).set (o + 9) (.int .i64 c))) ∨
    ((RD.pone l h).s.off ≠ 0 ∧ e = .returned (.tuple #[.agg #[.int .i64 (RD.pone l h).s.len, .int .i64 (RD.pone l h).s.off, .int .i64 (RD.pone l h).s.mat], .nilIface]) ∧ BAt w' p s (RD.pone l h).pos ∧
      ∃ a b c, (RD.pone l h).last = [a, b, c] ∧ Blk w' g t (((gs.set (o + 7) (.int .i64 a)).set (o + 8) (.int .i64 b)).set (o + 9) (.int .i64 c))))

set_option maxRecDepth 100000 in
set_option maxHeartbeats 4000000 in
theorem readSequence_any (x : Fx) (g o p : Nat) (t : TypeId) (gs : List Value) (A0 B0 C0 A1 B1 C1 A2 B2 C2 i : Nat) (r0 r1 r2 : Int) (s : RD.Bytes) (w : World) (hG : Blk w g t gs) (hr0 : gs[o + 7]? = some (.int .i64 r0)) (hr1 : gs[o + 8]? = some (.int .i64 r1)) (hr2 : gs[o + 9]? = some (.int .i64 r2))
    (hA0 : A0 ≤ 15) (hA1 : A1 ≤ 15) (hA2 : A2 ≤ 15) (hx : 1 ≤ r0 ∧ r0 ≤ 65536) (h : BAt w p s i) (hV : VarsAt x w) (hs : s.length ≤ 1048576) (hi : i ≤ 1099511627) (hgp : g ≠ p) (hpb : x.base ≤ p) (hgb : x.base ≤ g) :
    Calls Tryz.prog 149 #[.pointer (some ⟨g, o, none⟩), .agg (stL ((A0 : Int), (B0 : Int), (C0 : Int)) ((A1 : Int), (B1 : Int), (C1 : Int)) ((A2 : Int), (B2 : Int), (C2 : Int))).toArray, .pointer (some ⟨p, 0, none⟩)] w
      (SqPost x g o p t gs (RD.bitsOf s) ⟨i, ((A0 : Int), (B0 : Int), (C0 : Int)), ((A1 : Int), (B1 : Int), (C1 : Int)), ((A2 : Int), (B2 : Int), (C2 : Int)), [r0, r1, r2]⟩ s w) := by
  have hbb := RD.bitsOf_bound s
  have hb := RD.pk_small hbb i A1 (by omega)
  have hpw := pow16i A1 (by omega)
  have hpw15 := RD.pow_small A1 15 hA1
  have hb' := RD.pk_bound hbb i A1
  have hl2 := RD.plen_nonneg hbb (i + A1) A2
  have hl0 := RD.plen_nonneg hbb (RD.plen (RD.bitsOf s) (i + A1) A2).2 A0
  have hm2 := plen_max hbb (i + A1) A2 hA2
  have hm0 := plen_max hbb (RD.plen (RD.bitsOf s) (i + A1) A2).2 A0 hA0
  have hone : Hid (RD.pone (RD.bitsOf s) ⟨i, ((A0 : Int), (B0 : Int), (C0 : Int)), ((A1 : Int), (B1 : Int), (C1 : Int)), ((A2 : Int), (B2 : Int), (C2 : Int)), [r0, r1, r2]⟩ =
      ⟨⟨(RD.plen (RD.bitsOf s) (RD.plen (RD.bitsOf s) (i + A1) A2).2 A0).1, (RD.backOf [r0, r1, r2] (2 ^ A1 + RD.pk (RD.bitsOf s) i A1) (RD.plen (RD.bitsOf s) (RD.plen (RD.bitsOf s) (i + A1) A2).2 A0).1).1, (RD.plen (RD.bitsOf s) (i + A1) A2).1 + 3⟩,
        (RD.plen (RD.bitsOf s) (RD.plen (RD.bitsOf s) (i + A1) A2).2 A0).2, (RD.backOf [r0, r1, r2] (2 ^ A1 + RD.pk (RD.bitsOf s) i A1) (RD.plen (RD.bitsOf s) (RD.plen (RD.bitsOf s) (i + A1) A2).2 A0).1).2⟩) := rfl
  have hgl := hG.lt
  have hpl := Blk.lt h
  have hSq : ∀ e w', SqPost x g o p t gs (RD.bitsOf s) ⟨i, ((A0 : Int), (B0 : Int), (C0 : Int)), ((A1 : Int), (B1 : Int), (C1 : Int)), ((A2 : Int), (B2 : Int), (C2 : Int)), [r0, r1, r2]⟩ s w e w' ↔ SqPost x g o p t gs (RD.bitsOf s) ⟨i, ((A0 : Int), (B0 : Int), (C0 : Int)), ((A1 : Int), (B1 : Int), (C1 : Int)), ((A2 : Int), (B2 : Int), (C2 : Int)), [r0, r1, r2]⟩ s w e w' := fun _ _ => Iff.rfl
  unfold stL
  go_enter Tryz.func149, Tryz.ntmps149
  go_wp2_with fail
  have hba : Below w.heap.size w ((w.alloc (.cells #[.int .i64 (A0 : Int), .int .i64 (B0 : Int), .int .i64 (C0 : Int), .int .i64 (A1 : Int), .int .i64 (B1 : Int), .int .i64 (C1 : Int), .int .i64 (A2 : Int), .int .i64 (B2 : Int), .int .i64 (C2 : Int)] 275)).alloc (.cells #[.int .i64 0, .int .i64 0, .int .i64 0] 264)) := ((Below.refl _ w).alloc (Nat.le_refl _) _).alloc (by simp) _
  have hN : Blk ((w.alloc (.cells #[.int .i64 (A0 : Int), .int .i64 (B0 : Int), .int .i64 (C0 : Int), .int .i64 (A1 : Int), .int .i64 (B1 : Int), .int .i64 (C1 : Int), .int .i64 (A2 : Int), .int .i64 (B2 : Int), .int .i64 (C2 : Int)] 275)).alloc (.cells #[.int .i64 0, .int .i64 0, .int .i64 0] 264)) w.heap.size 275 [.int .i64 (A0 : Int), .int .i64 (B0 : Int), .int .i64 (C0 : Int), .int .i64 (A1 : Int), .int .i64 (B1 : Int), .int .i64 (C1 : Int), .int .i64 (A2 : Int), .int .i64 (B2 : Int), .int .i64 (C2 : Int)] := (Blk.new w _ _).alloc _
  have hR : Blk ((w.alloc (.cells #[.int .i64 (A0 : Int), .int .i64 (B0 : Int), .int .i64 (C0 : Int), .int .i64 (A1 : Int), .int .i64 (B1 : Int), .int .i64 (C1 : Int), .int .i64 (A2 : Int), .int .i64 (B2 : Int), .int .i64 (C2 : Int)] 275)).alloc (.cells #[.int .i64 0, .int .i64 0, .int .i64 0] 264)) (w.heap.size + 1) 264 [.int .i64 0, .int .i64 0, .int .i64 0] := by
    have := Blk.new (w.alloc (.cells #[.int .i64 (A0 : Int), .int .i64 (B0 : Int), .int .i64 (C0 : Int), .int .i64 (A1 : Int), .int .i64 (B1 : Int), .int .i64 (C1 : Int), .int .i64 (A2 : Int), .int .i64 (B2 : Int), .int .i64 (C2 : Int)] 275)) 264 [.int .i64 0, .int .i64 0, .int .i64 0]
    simpa using this
  generalize (w.alloc (.cells #[.int .i64 (A0 : Int), .int .i64 (B0 : Int), .int .i64 (C0 : Int), .int .i64 (A1 : Int), .int .i64 (B1 : Int), .int .i64 (C1 : Int), .int .i64 (A2 : Int), .int .i64 (B2 : Int), .int .i64 (C2 : Int)] 275)).alloc (.cells #[.int .i64 0, .int .i64 0, .int .i64 0] 264) = w1 at *
  have h1 : BAt w1 p s i := Blk.below h hba hpl
  have hO1 : Only (fun b => b = p) w w1 := below_only hba
  have hSp : ¬ w.heap.size = p := by omega
  have hRp : ¬ w.heap.size + 1 = p := by omega
  refine (readValue_any p s i A1 _ h1 hs (by omega) hA1).mono ?_
  rintro e w2 ⟨rfl, hb2, ho2⟩
  have hN2 := hN.only ho2 hSp
  have d6 := hN2.cell (j := 6) rfl
  generalize hv : (2 : Int) ^ A1 + RD.pk (RD.bitsOf s) i A1 = V at *
  have hVb : 1 ≤ V ∧ V ≤ 65536 := by have := hv; omega
  replace hv := hid' hv
  clear hpw15 hb' hb hpw
  go_wp2_with fail
  refine (readLength_any p s (i + A1) A2 _ hb2 hs (by omega) hA2).mono ?_
  rintro e w3 ⟨rfl, hb3, ho3⟩
  have hN3 := hN2.only ho3 hSp
  have d0 := hN3.cell (j := 0) rfl
  generalize RD.plen (RD.bitsOf s) (i + A1) A2 = L2 at *
  go_wp2_with fail
  refine (readLength_any p s L2.2 A0 _ hb3 hs (by omega) hA0).mono ?_
  rintro e w4 ⟨rfl, hb4, ho4⟩
  have hO4 : Only (fun b => b = p) w w4 := ((hO1.trans ho2).trans ho3).trans ho4
  have hG4 := hG.only hO4 hgp
  have hR4 := ((hR.only ho2 hRp).only ho3 hRp).only ho4 hRp
  generalize RD.plen (RD.bitsOf s) L2.2 A0 = L0 at *
  go_wp2_with fail
  refine (otake_any g (o + 7) t gs r0 r1 r2 V L0.1 _ hG4 hr0 hr1 hr2 hVb (by omega) hx).mono ?_
  rintro e w5 ⟨rfl, a, b, c, hbk, hG5, ho5⟩
  have hgR : ¬ w.heap.size + 1 = g := by omega
  have hpg : ¬ p = g := fun e => hgp e.symm
  have hR5 := hR4.only ho5 hgR
  have hb5 : BAt w5 p s L0.2 := Blk.only hb4 ho5 hpg
  have hO5 : Only (fun b => b = p ∨ b = g) w w5 := (hO4.weaken (fun k _ e => .inl e)).trans (ho5.weaken (fun k _ e => .inr e))
  have hV5 := hV.only hO5 (fun k e => by omega)
  generalize RD.backOf [r0, r1, r2] V L0.1 = BK at *
  obtain ⟨O, la⟩ := BK
  simp only [] at hbk hone ⊢
  obtain ⟨-, rfl⟩ := Prod.mk.inj hbk
  have z0 := hR5.cell (j := 0) rfl
  have z1 := hR5.cell (j := 1) rfl
  have z2 := hR5.cell (j := 2) rfl
  have fz := hR5.free
  have cF := hV5.cF
  obtain ⟨R, hRe⟩ : ∃ R, R = w.heap.size + 1 := ⟨_, rfl⟩
  rw [← hRe] at hR5 hRp hgR z0 z1 z2 fz
  have hRg : R < w.heap.size → R = p ∨ R = g := fun e => absurd e (by omega)
  rw [← hRe]
  have h8 := hV.eight
  have h8s := hV.size
  have hR6 : ¬ 6 = R := by omega
  have hR6' : ¬ R = 6 := by omega
  replace hRe := hid' hRe
  by_cases hO : O = 0
  · have hOb : (O == 0) = true := by simpa using hO
    go_wp2_with fail
    go_region_with fail
    all_goals
      have hRf := ((hR5.put 0 (.int .i64 0)).put 1 (.int .i64 0)).put 2 (.int .i64 0)
      have hOf : Only (fun b => b = p ∨ b = g) w (((w5.setCell ⟨R, 0, none⟩ (.int .i64 0)).setCell ⟨R, 1, none⟩ (.int .i64 0)).setCell ⟨R, 2, none⟩ (.int .i64 0)) := ((hO5.setCell _ _ hRg).setCell _ _ hRg).setCell _ _ hRg
      have q0 := hRf.cell (j := 0) rfl
      have q1 := hRf.cell (j := 1) rfl
      have q2 := hRf.cell (j := 2) rfl
      have hGf := ((hG5.other ⟨R, 0, none⟩ (.int .i64 0) (fun e => hgR e.symm)).other ⟨R, 1, none⟩ (.int .i64 0) (fun e => hgR e.symm)).other ⟨R, 2, none⟩ (.int .i64 0) (fun e => hgR e.symm)
      go_wp2_with fail
      generalize ((w5.setCell ⟨R, 0, none⟩ (.int .i64 0)).setCell ⟨R, 1, none⟩ (.int .i64 0)).setCell ⟨R, 2, none⟩ (.int .i64 0) = wF at *
      refine bodyPost_ret (v := .tuple #[.agg #[.int .i64 0, .int .i64 0, .int .i64 0], errV x.f]) (by simp [results, Tryz.results149, go_sem, *]) rfl ?_
      refine ⟨?_, .inl ⟨?_, rfl, _, _, _, hGf⟩⟩
      · exact ⟨hOf.os, hOf.tape, hOf.output, hOf.size, hOf.block⟩
      · rw [hone.out]; exact hO
  · have hOb : (O == 0) = false := by simpa using hO
    have hRf := ((hR5.put 0 (.int .i64 L0.1)).put 1 (.int .i64 O)).put 2 (.int .i64 (L2.1 + 3))
    have hOf : Only (fun b => b = p ∨ b = g) w (((w5.setCell ⟨R, 0, none⟩ (.int .i64 L0.1)).setCell ⟨R, 1, none⟩ (.int .i64 O)).setCell ⟨R, 2, none⟩ (.int .i64 (L2.1 + 3))) := ((hO5.setCell _ _ hRg).setCell _ _ hRg).setCell _ _ hRg
    have hbf : BAt (((w5.setCell ⟨R, 0, none⟩ (.int .i64 L0.1)).setCell ⟨R, 1, none⟩ (.int .i64 O)).setCell ⟨R, 2, none⟩ (.int .i64 (L2.1 + 3))) p s L0.2 := Blk.other (Blk.other (Blk.other hb5 ⟨R, 0, none⟩ _ (fun e => hRp e.symm)) ⟨R, 1, none⟩ _ (fun e => hRp e.symm)) ⟨R, 2, none⟩ _ (fun e => hRp e.symm)
    have hGf := ((hG5.other ⟨R, 0, none⟩ (.int .i64 L0.1) (fun e => hgR e.symm)).other ⟨R, 1, none⟩ (.int .i64 O) (fun e => hgR e.symm)).other ⟨R, 2, none⟩ (.int .i64 (L2.1 + 3)) (fun e => hgR e.symm)
    have q0 := hRf.cell (j := 0) rfl
    have q1 := hRf.cell (j := 1) rfl
    have q2 := hRf.cell (j := 2) rfl
    go_wp2_with fail
    generalize ((w5.setCell ⟨R, 0, none⟩ (.int .i64 L0.1)).setCell ⟨R, 1, none⟩ (.int .i64 O)).setCell ⟨R, 2, none⟩ (.int .i64 (L2.1 + 3)) = wF at *
    refine bodyPost_ret (v := .tuple #[.agg #[.int .i64 L0.1, .int .i64 O, .int .i64 (L2.1 + 3)], .nilIface]) (by simp [results, Tryz.results149, go_sem, *]) rfl ?_
    refine ⟨hOf, .inr ?_⟩
    rw [hone.out]
    exact ⟨hO, rfl, hbf, a, b, c, rfl, hGf⟩
end Go.Proofs.YtbhemchnjpajiaaGreatDoor

/- The sequences of a block, as the program reads and fills them, against the document's content of a block. Plain lemmas. -/
namespace Go.Proofs.YtbhemchnjpajiaaGreatDoor.RD
open Go
set_option linter.unusedVariables false

/-- A state of a table. -/
def StFine (t : Tab) (x : CM.Tri) : Prop := 0 ≤ x.1 ∧ x.1 ≤ 15 ∧ 0 ≤ x.2.1 ∧ x.2.1 ≤ 6 ∧ 0 ≤ x.2.2 ∧ x.2.2 + 2 ^ x.2.1.toNat ≤ 2 ^ t.log
theorem triAt_fine {t : Tab} (h : TabFine t) {i : Int} (h0 : 0 ≤ i) (h1 : i < 2 ^ t.log) : StFine t (triAt t.l i) := by
  obtain ⟨_, a, b, c, d, e, f⟩ := triAt_ok h h0 h1
  exact ⟨a, b, c, d, e, f⟩
structure PhOk (t0 t1 t2 : Tab) (h : Ph) : Prop where
  x0 : StFine t0 h.x0
  x1 : StFine t1 h.x1
  x2 : StFine t2 h.x2
  last : LastOk h.last
theorem pfirst_ok {l : List Int} (hl : ∀ x ∈ l, 0 ≤ x ∧ x ≤ 1) {t0 t1 t2 : Tab} (f0 : TabFine t0) (f1 : TabFine t1) (f2 : TabFine t2) {last : List Int} (hla : LastOk last) : PhOk t0 t1 t2 (pfirst l t0 t1 t2 last) := by
  have a := pk_bound hl 0 t0.log
  have b := pk_bound hl t0.log t1.log
  have c := pk_bound hl (t0.log + t1.log) t2.log
  exact ⟨triAt_fine f0 a.1 a.2, triAt_fine f1 b.1 b.2, triAt_fine f2 c.1 c.2, hla⟩
theorem plen_max' {l : List Int} (hl : ∀ x ∈ l, 0 ≤ x ∧ x ≤ 1) (p c : Nat) (hc : c ≤ 15) : (plen l p c).1 ≤ 1000 ∧ (plen l p c).2 ≤ p + 15 := by
  unfold plen
  split
  · simp only []; omega
  · have a := pk_bound hl p (c - 7)
    have b := pow_small (c - 7) 8 (by omega)
    simp only []
    omega
theorem backOf_nonneg {l : List Int} (h : LastOk l) {v n : Int} (hv : 1 ≤ v) (hv2 : v ≤ 65536) : 0 ≤ (backOf l v n).1 ∧ (backOf l v n).1 ≤ 65536 := by
  obtain ⟨a, b, c, e, ha, hb, hc⟩ := h
  rw [e]
  unfold backOf
  split
  · show 0 ≤ v - 3 ∧ v - 3 ≤ 65536; omega
  · simp only []
    generalize (if n = 0 then v + 1 else v) = i
    split
    · show 0 ≤ a - 1 ∧ a - 1 ≤ 65536; omega
    · split
      · show 0 ≤ a ∧ a ≤ 65536; omega
      · split
        · show 0 ≤ b ∧ b ≤ 65536; omega
        · show 0 ≤ c ∧ c ≤ 65536; omega
/-- A sequence that may be. -/
def S3Ok (s : S3) : Prop := 0 ≤ s.len ∧ s.len ≤ 1000 ∧ 1 ≤ s.off ∧ s.off ≤ 65536 ∧ 3 ≤ s.mat ∧ s.mat ≤ 1003
theorem pval_max {l : List Int} (hl : ∀ x ∈ l, 0 ≤ x ∧ x ≤ 1) (p c : Nat) (hc : c ≤ 15) : 1 ≤ (2 : Int) ^ c + pk l p c ∧ (2 : Int) ^ c + pk l p c ≤ 65536 := by
  have a := pk_bound hl p c
  have b := pow_small c 15 hc
  have d : (0 : Int) < 2 ^ c := Int.pow_pos (by omega)
  omega
theorem pone_ok {l : List Int} (hl : ∀ x ∈ l, 0 ≤ x ∧ x ≤ 1) {t0 t1 t2 : Tab} {h : Ph} (hh : PhOk t0 t1 t2 h) : (pone l h).pos ≤ h.pos + 45 ∧ ((pone l h).s.off ≠ 0 → S3Ok (pone l h).s ∧ LastOk (pone l h).last) := by
  obtain ⟨a1, a2, a3, a4, a5, a6⟩ := hh.x0
  obtain ⟨b1, b2, b3, b4, b5, b6⟩ := hh.x1
  obtain ⟨c1, c2, c3, c4, c5, c6⟩ := hh.x2
  have m2 := plen_max' hl (h.pos + h.x1.1.toNat) h.x2.1.toNat (by omega)
  have m0 := plen_max' hl (plen l (h.pos + h.x1.1.toNat) h.x2.1.toNat).2 h.x0.1.toNat (by omega)
  have n2 := plen_nonneg hl (h.pos + h.x1.1.toNat) h.x2.1.toNat
  have n0 := plen_nonneg hl (plen l (h.pos + h.x1.1.toNat) h.x2.1.toNat).2 h.x0.1.toNat
  have vv := pval_max hl h.pos h.x1.1.toNat (by omega)
  have bk := backOf_nonneg hh.last (n := (plen l (plen l (h.pos + h.x1.1.toNat) h.x2.1.toNat).2 h.x0.1.toNat).1) vv.1 vv.2
  refine ⟨?_, fun hz => ⟨?_, ?_⟩⟩
  · show (plen l (plen l (h.pos + h.x1.1.toNat) h.x2.1.toNat).2 h.x0.1.toNat).2 ≤ _
    omega
  · have hz' : (backOf h.last (2 ^ h.x1.1.toNat + pk l h.pos h.x1.1.toNat) (plen l (plen l (h.pos + h.x1.1.toNat) h.x2.1.toNat).2 h.x0.1.toNat).1).1 ≠ 0 := hz
    refine ⟨n0, m0.1, ?_, bk.2, ?_, ?_⟩
    · show 1 ≤ (backOf h.last (2 ^ h.x1.1.toNat + pk l h.pos h.x1.1.toNat) (plen l (plen l (h.pos + h.x1.1.toNat) h.x2.1.toNat).2 h.x0.1.toNat).1).1
      omega
    · show 3 ≤ (plen l (h.pos + h.x1.1.toNat) h.x2.1.toNat).1 + 3
      omega
    · show (plen l (h.pos + h.x1.1.toNat) h.x2.1.toNat).1 + 3 ≤ 1003
      omega
  · have hz' : (backOf h.last (2 ^ h.x1.1.toNat + pk l h.pos h.x1.1.toNat) (plen l (plen l (h.pos + h.x1.1.toNat) h.x2.1.toNat).2 h.x0.1.toNat).1).1 ≠ 0 := hz
    exact backOf_ok hh.last _ _ vv (by omega)
theorem pnext_ok {l : List Int} (hl : ∀ x ∈ l, 0 ≤ x ∧ x ≤ 1) {t0 t1 t2 : Tab} (f0 : TabFine t0) (f1 : TabFine t1) (f2 : TabFine t2) {h : Ph} (hh : PhOk t0 t1 t2 h) {r : P1} (hr : LastOk r.last) : PhOk t0 t1 t2 (pnext l t0 t1 t2 h r) ∧ (pnext l t0 t1 t2 h r).pos ≤ r.pos + 18 := by
  obtain ⟨a1, a2, a3, a4, a5, a6⟩ := hh.x0
  obtain ⟨b1, b2, b3, b4, b5, b6⟩ := hh.x1
  obtain ⟨c1, c2, c3, c4, c5, c6⟩ := hh.x2
  have a := pk_bound hl r.pos h.x0.2.1.toNat
  have b := pk_bound hl (r.pos + h.x0.2.1.toNat + h.x2.2.1.toNat) h.x1.2.1.toNat
  have c := pk_bound hl (r.pos + h.x0.2.1.toNat) h.x2.2.1.toNat
  refine ⟨⟨triAt_fine f0 (by omega) (by omega), triAt_fine f1 (by omega) (by omega), triAt_fine f2 (by omega) (by omega), hr⟩, ?_⟩
  show r.pos + h.x0.2.1.toNat + h.x2.2.1.toNat + h.x1.2.1.toNat ≤ _
  omega
theorem pheads_ok {l : List Int} (hl : ∀ x ∈ l, 0 ≤ x ∧ x ≤ 1) {t0 t1 t2 : Tab} (f0 : TabFine t0) (f1 : TabFine t1) (f2 : TabFine t2) {last : List Int} (hla : LastOk last) : ∀ (k : Nat) {L : List S3} {h : Ph}, pheads l t0 t1 t2 last k = some (L, h) → PhOk t0 t1 t2 h ∧ L.length = k ∧ h.pos ≤ 18 + 63 * k ∧ ∀ s ∈ L, S3Ok s
  | 0, L, h, e => by
    cases e
    refine ⟨pfirst_ok hl f0 f1 f2 hla, rfl, ?_, fun s hs => by cases hs⟩
    show t0.log + t1.log + t2.log ≤ _
    have := f0.2.1
    have := f1.2.1
    have := f2.2.1
    omega
  | k + 1, L, h, e => by
    unfold pheads at e
    cases e' : pheads l t0 t1 t2 last k with
    | none => rw [e'] at e; cases e
    | some r =>
      obtain ⟨L', h'⟩ := r
      rw [e'] at e
      simp only [] at e
      obtain ⟨q1, q2, q3, q4⟩ := pheads_ok hl f0 f1 f2 hla k e'
      obtain ⟨p1, p2⟩ := pone_ok hl q1
      split at e
      · cases e
      · rename_i hz
        obtain ⟨p2, p3⟩ := p2 hz
        injection e with e
        obtain ⟨rfl, rfl⟩ := Prod.mk.inj e
        obtain ⟨n1, n2⟩ := pnext_ok hl f0 f1 f2 q1 p3
        refine ⟨n1, by simp [q2], by omega, fun s hs => ?_⟩
        rcases List.mem_append.1 hs with hs | hs
        · exact q4 s hs
        · rw [List.mem_singleton.1 hs]; exact p2

/-- How far the program has come with k sequences, if it has come so far and all fits. -/
def comp (f : Fr) (l : List Int) (from' : Nat) (lits : Bytes) (k : Nat) : Option (Ph × (Bytes × Bytes)) :=
  match pheads l f.t0 f.t1 f.t2 f.last k with
  | none => none
  | some (L, h) => if l.length < h.pos then none else match fillN f.window L (f.dict ++ f.text, lits) with
    | none => none
    | some x => if from' + 1024 < x.1.length then none else some (h, x)
theorem seq1_of_short {f : Fr} {l : List Int} {from' : Nat} {more : Bool} {q : Sq} (h : q.b.short = true) : seq1 f l from' more q = none := by
  have a := @rd_short l q.b (triAt f.t1.l q.s1).1.toNat h
  have b := @sz_short l _ (triAt f.t2.l q.s2).1.toNat a
  have c := @sz_short l _ (triAt f.t0.l q.s0).1.toNat b
  have d := @rd_short l _ (triAt f.t0.l q.s0).2.1.toNat c
  have e := @rd_short l _ (triAt f.t2.l q.s2).2.1.toNat d
  have g := @rd_short l _ (triAt f.t1.l q.s1).2.1.toNat e
  unfold seq1
  simp only []
  cases more
  · simp only [Bool.false_eq_true, if_false]
    rw [if_pos (.inl c)]
  · simp only [if_true]
    rw [if_pos (.inl g)]
/-- The document's first k sequences against the program's, as long as another one follows. -/
theorem seqs_comp {f : Fr} {s lits : Bytes} (f0 : TabFine f.t0) (f1 : TabFine f.t1) (f2 : TabFine f.t2) (hla : LastOk f.last) {n : Nat} : ∀ k, k < n →
    match comp f (bitsOf s) (f.dict ++ f.text).length lits k with
    | none => ∀ q, seqs f (bitsOf s) (f.dict ++ f.text).length n (seq0 f (bitsOf s) lits) k = some q → q.b.short = true
    | some (h, x) => (f.dict ++ f.text).length ≤ x.1.length ∧ ∃ q, seqs f (bitsOf s) (f.dict ++ f.text).length n (seq0 f (bitsOf s) lits) k = some q ∧ Sync f (bitsOf s) q h x
  | 0, hk => by
    have hl := bitsOf_bound s
    generalize hfr : (f.dict ++ f.text).length = from'
    by_cases hp : (bitsOf s).length < f.t0.log + f.t1.log + f.t2.log
    · have hc : comp f (bitsOf s) from' lits 0 = none := by
        unfold comp pheads
        simp only []
        rw [if_pos (show (bitsOf s).length < (pfirst (bitsOf s) f.t0 f.t1 f.t2 f.last).pos from hp)]
      rw [hc]
      intro q hq
      cases hq
      show (rd (bitsOf s) (rd (bitsOf s) (rd (bitsOf s) ⟨0, false⟩ f.t0.log).2 f.t1.log).2 f.t2.log).2.short = true
      cases es : (rd (bitsOf s) (rd (bitsOf s) (rd (bitsOf s) ⟨0, false⟩ f.t0.log).2 f.t1.log).2 f.t2.log).2.short with
      | true => rfl
      | false =>
        exfalso
        obtain ⟨a1, a2, a3⟩ := rd_false es
        obtain ⟨b1, b2, b3⟩ := rd_false a1
        obtain ⟨c1, c2, c3⟩ := rd_false b1
        simp only [rd_ok _ _ _ c2] at b2 a2
        simp only [rd_ok _ _ _ b2] at a2
        omega
    · have hc : comp f (bitsOf s) from' lits 0 = some (pfirst (bitsOf s) f.t0 f.t1 f.t2 f.last, (f.dict ++ f.text, lits)) := by
        unfold comp pheads
        simp only [fillN]
        rw [if_neg (show ¬ (bitsOf s).length < (pfirst (bitsOf s) f.t0 f.t1 f.t2 f.last).pos from hp), if_neg (by rw [hfr]; omega)]
      rw [hc]
      have r0 := rd_ok (bitsOf s) 0 f.t0.log (by omega)
      have r1 := rd_ok (bitsOf s) (0 + f.t0.log) f.t1.log (by omega)
      have r2 := rd_ok (bitsOf s) (0 + f.t0.log + f.t1.log) f.t2.log (by omega)
      refine ⟨by rw [hfr]; exact Nat.le_refl _, _, rfl, ?_⟩
      have e : seq0 f (bitsOf s) lits = ⟨⟨f.t0.log + f.t1.log + f.t2.log, false⟩, pk (bitsOf s) 0 f.t0.log, pk (bitsOf s) f.t0.log f.t1.log, pk (bitsOf s) (f.t0.log + f.t1.log) f.t2.log, f.dict ++ f.text, lits, f.last⟩ := by
        rw [Nat.zero_add] at r0 r1 r2
        unfold seq0
        simp only [r0, r1, r2]
      rw [e]
      exact ⟨rfl, by show f.t0.log + f.t1.log + f.t2.log ≤ _; omega, rfl, rfl, rfl, rfl, rfl, rfl⟩
  | k + 1, hk => by
    have hl := bitsOf_bound s
    have ih := seqs_comp (s := s) (lits := lits) f0 f1 f2 hla (n := n) k (by omega)
    generalize hfr : (f.dict ++ f.text).length = from' at *
    have hseq : seqs f (bitsOf s) from' n (seq0 f (bitsOf s) lits) (k + 1) = match seqs f (bitsOf s) from' n (seq0 f (bitsOf s) lits) k with
        | none => none
        | some r => seq1 f (bitsOf s) from' true r := by
      show (match seqs f (bitsOf s) from' n (seq0 f (bitsOf s) lits) k with
        | none => none
        | some r => seq1 f (bitsOf s) from' (decide (k + 1 < n)) r) = _
      rw [decide_eq_true hk]
    have hpk : pheads (bitsOf s) f.t0 f.t1 f.t2 f.last (k + 1) = match pheads (bitsOf s) f.t0 f.t1 f.t2 f.last k with
        | none => none
        | some (L, h) => if (pone (bitsOf s) h).s.off = 0 then none else some (L ++ [(pone (bitsOf s) h).s], pnext (bitsOf s) f.t0 f.t1 f.t2 h (pone (bitsOf s) h)) := rfl
    have none_case : comp f (bitsOf s) from' lits (k + 1) = none → (∀ q, seqs f (bitsOf s) from' n (seq0 f (bitsOf s) lits) (k + 1) = some q → q.b.short = true) →
        match comp f (bitsOf s) from' lits (k + 1) with
        | none => ∀ q, seqs f (bitsOf s) from' n (seq0 f (bitsOf s) lits) (k + 1) = some q → q.b.short = true
        | some (h, x) => from' ≤ x.1.length ∧ ∃ q, seqs f (bitsOf s) from' n (seq0 f (bitsOf s) lits) (k + 1) = some q ∧ Sync f (bitsOf s) q h x := by
      intro h1 h2
      rw [h1]
      exact h2
    cases ec : comp f (bitsOf s) from' lits k with
    | none =>
      rw [ec] at ih
      apply none_case
      · unfold comp at ec ⊢
        rw [hpk]
        cases ep : pheads (bitsOf s) f.t0 f.t1 f.t2 f.last k with
        | none => rfl
        | some r =>
          obtain ⟨L, h⟩ := r
          rw [ep] at ec
          simp only [] at ec ⊢
          by_cases hz : (pone (bitsOf s) h).s.off = 0
          · rw [if_pos hz]
          · rw [if_neg hz]
            simp only []
            by_cases hp : (bitsOf s).length < h.pos
            · rw [if_pos (by have := pone_pos (bitsOf s) h; have := pnext_pos (bitsOf s) f.t0 f.t1 f.t2 h (pone (bitsOf s) h); omega)]
            · rw [if_neg hp] at ec
              by_cases hp2 : (bitsOf s).length < (pnext (bitsOf s) f.t0 f.t1 f.t2 h (pone (bitsOf s) h)).pos
              · rw [if_pos hp2]
              · rw [if_neg hp2, fillN_snoc]
                cases ef : fillN f.window L (f.dict ++ f.text, lits) with
                | none => rfl
                | some x =>
                  rw [ef] at ec
                  simp only [] at ec ⊢
                  split at ec
                  · rename_i hx
                    cases e1 : fill1 f.window (pone (bitsOf s) h).s x with
                    | none => rfl
                    | some y =>
                      simp only []
                      rw [if_pos (by have := (fill1_grows e1).1; omega)]
                  · cases ec
      · intro q hq
        rw [hseq] at hq
        cases es : seqs f (bitsOf s) from' n (seq0 f (bitsOf s) lits) k with
        | none => rw [es] at hq; cases hq
        | some r =>
          rw [es] at hq
          simp only [] at hq
          rw [seq1_of_short (ih r es)] at hq
          cases hq
    | some hx =>
      obtain ⟨h, x⟩ := hx
      rw [ec] at ih
      simp only [] at ih
      obtain ⟨hfx, q, hq, hs⟩ := ih
      have hcomp := ec
      unfold comp at hcomp
      cases ep : pheads (bitsOf s) f.t0 f.t1 f.t2 f.last k with
      | none => rw [ep] at hcomp; cases hcomp
      | some r =>
        obtain ⟨L, h'⟩ := r
        rw [ep] at hcomp
        simp only [] at hcomp
        split at hcomp
        · cases hcomp
        · cases ef : fillN f.window L (f.dict ++ f.text, lits) with
          | none => rw [ef] at hcomp; cases hcomp
          | some x' =>
            rw [ef] at hcomp
            simp only [] at hcomp
            split at hcomp
            · cases hcomp
            · injection hcomp with hcomp
              obtain ⟨rfl, rfl⟩ := Prod.mk.inj hcomp
              have hok := (pheads_ok hl f0 f1 f2 hla k ep).1
              rw [hq] at hseq
              simp only [] at hseq
              have hc1 : comp f (bitsOf s) from' lits (k + 1) = if (pone (bitsOf s) h').s.off = 0 then none else if (bitsOf s).length < (pnext (bitsOf s) f.t0 f.t1 f.t2 h' (pone (bitsOf s) h')).pos then none else match fill1 f.window (pone (bitsOf s) h').s x' with
                  | none => none
                  | some y => if from' + 1024 < y.1.length then none else some (pnext (bitsOf s) f.t0 f.t1 f.t2 h' (pone (bitsOf s) h'), y) := by
                unfold comp
                rw [hpk, ep]
                simp only []
                by_cases hz : (pone (bitsOf s) h').s.off = 0
                · rw [if_pos hz, if_pos hz]
                · rw [if_neg hz, if_neg hz]
                  simp only []
                  rw [fillN_snoc, ef]
              rcases seq1_sync hl (from' := from') hs hok.last hfx with ⟨hn, hwhy⟩ | ⟨y, q', hy, hyl, hz, hq', hsy⟩
              · apply none_case
                · rw [hc1]
                  rcases hwhy with hz | hp | hf | ⟨y, hf, hy⟩
                  · rw [if_pos hz]
                  · rw [if_pos hp]; split <;> rfl
                  · rw [hf]; split
                    · rfl
                    · split <;> rfl
                  · rw [hf]
                    simp only [if_pos hy]
                    split
                    · rfl
                    · split <;> rfl
                · intro q2 h2
                  rw [hseq, hn] at h2
                  cases h2
              · have hp : ¬ (bitsOf s).length < (pnext (bitsOf s) f.t0 f.t1 f.t2 h' (pone (bitsOf s) h')).pos := by have := hsy.le; omega
                rw [hc1, if_neg hz, if_neg hp, hy]
                simp only []
                rw [if_neg (by omega)]
                refine ⟨by have := (fill1_grows hy).1; omega, q', by rw [hseq, hq'], hsy⟩
end Go.Proofs.YtbhemchnjpajiaaGreatDoor.RD

/- The content of a block with sequences, as the program makes it, is the document's. Plain lemmas. -/
namespace Go.Proofs.YtbhemchnjpajiaaGreatDoor.RD
open Go
set_option linter.unusedVariables false

/-- The last sequence. -/
theorem seq1_end {f : Fr} {l : List Int} (hl : ∀ x ∈ l, 0 ≤ x ∧ x ≤ 1) {from' : Nat} {q : Sq} {h : Ph} {x : Bytes × Bytes} (hs : Sync f l q h x) (hla : LastOk h.last) (hfr : from' ≤ x.1.length) :
    (seq1 f l from' false q = none ∧ ((pone l h).s.off = 0 ∨ l.length < (pone l h).pos ∨ fill1 f.window (pone l h).s x = none ∨ ∃ y, fill1 f.window (pone l h).s x = some y ∧ from' + 1024 < y.1.length)) ∨
    ∃ y s0 s1 s2, fill1 f.window (pone l h).s x = some y ∧ y.1.length ≤ from' + 1024 ∧ (pone l h).s.off ≠ 0 ∧ (pone l h).pos ≤ l.length ∧ seq1 f l from' false q = some ⟨⟨(pone l h).pos, false⟩, s0, s1, s2, y.1, y.2, (pone l h).last⟩ := by
  have e : seq1 f l from' false q = seqEnd f from' q (2 ^ h.x1.1.toNat + (rd l q.b h.x1.1.toNat).1) (sz l (rd l q.b h.x1.1.toNat).2 h.x2.1.toNat).1 (sz l (sz l (rd l q.b h.x1.1.toNat).2 h.x2.1.toNat).2 h.x0.1.toNat).1
      (sz l (sz l (rd l q.b h.x1.1.toNat).2 h.x2.1.toNat).2 h.x0.1.toNat).2 q.s0 q.s1 q.s2 := by
    unfold seq1
    rw [hs.x0, hs.x1, hs.x2]
    rfl
  rw [e]
  by_cases hp : l.length < (pone l h).pos
  · left
    refine ⟨seqEnd_short ?_, .inr (.inl hp)⟩
    cases es : (sz l (sz l (rd l q.b h.x1.1.toNat).2 h.x2.1.toNat).2 h.x0.1.toNat).2.short with
    | true => rfl
    | false =>
      exfalso
      have i1 := rd_i l q.b h.x1.1.toNat (by rw [hs.b]; exact hs.le)
      have i2 := sz_i l (rd l q.b h.x1.1.toNat).2 h.x2.1.toNat i1
      obtain ⟨d1, d2, d3⟩ := sz_false es i2
      obtain ⟨k1, k2, k3⟩ := sz_false d1 i1
      obtain ⟨m1, m2, m3⟩ := rd_false k1
      simp only [hs.b] at m2 k2 d2
      simp only [rd_ok l _ _ m2] at k2 d2
      simp only [sz_ok l _ _ k2] at d2
      have hp' : l.length < (plen l (plen l (h.pos + h.x1.1.toNat) h.x2.1.toNat).2 h.x0.1.toNat).2 := hp
      omega
  · have hp' : (plen l (plen l (h.pos + h.x1.1.toNat) h.x2.1.toNat).2 h.x0.1.toNat).2 ≤ l.length := Nat.le_of_not_lt hp
    have g1 := plen_ge l (h.pos + h.x1.1.toNat) h.x2.1.toNat
    have g2 := plen_ge l (plen l (h.pos + h.x1.1.toNat) h.x2.1.toNat).2 h.x0.1.toNat
    have r1 := rd_ok l h.pos h.x1.1.toNat (by omega)
    have r2 := sz_ok l (h.pos + h.x1.1.toNat) h.x2.1.toNat (by omega)
    have r3 := sz_ok l (plen l (h.pos + h.x1.1.toNat) h.x2.1.toNat).2 h.x0.1.toNat (by omega)
    rw [hs.b]
    simp only [r1, r2, r3]
    rw [seqEnd_fill hs hla hfr (plen_nonneg hl _ _) (plen_nonneg hl _ _) (pval_pos hl _ _)]
    have goal : ((if (pone l h).s.off = 0 then none else match fill1 f.window (pone l h).s x with
        | none => none
        | some y => if from' + 1024 < y.1.length then none else some (⟨⟨(pone l h).pos, false⟩, q.s0, q.s1, q.s2, y.1, y.2, (pone l h).last⟩ : Sq)) = none ∧ ((pone l h).s.off = 0 ∨ l.length < (pone l h).pos ∨ fill1 f.window (pone l h).s x = none ∨ ∃ y, fill1 f.window (pone l h).s x = some y ∧ from' + 1024 < y.1.length)) ∨
      ∃ y s0 s1 s2, fill1 f.window (pone l h).s x = some y ∧ y.1.length ≤ from' + 1024 ∧ (pone l h).s.off ≠ 0 ∧ (pone l h).pos ≤ l.length ∧ (if (pone l h).s.off = 0 then none else match fill1 f.window (pone l h).s x with
        | none => none
        | some y => if from' + 1024 < y.1.length then none else some (⟨⟨(pone l h).pos, false⟩, q.s0, q.s1, q.s2, y.1, y.2, (pone l h).last⟩ : Sq)) = some ⟨⟨(pone l h).pos, false⟩, s0, s1, s2, y.1, y.2, (pone l h).last⟩ := by
      by_cases hz : (pone l h).s.off = 0
      · exact .inl ⟨by rw [if_pos hz], .inl hz⟩
      cases ef : fill1 f.window (pone l h).s x with
      | none => exact .inl ⟨by rw [if_neg hz], .inr (.inr (.inl rfl))⟩
      | some y =>
        by_cases hy : from' + 1024 < y.1.length
        · exact .inl ⟨by simp only [if_neg hz, if_pos hy], .inr (.inr (.inr ⟨y, rfl, hy⟩))⟩
        · exact .inr ⟨y, q.s0, q.s1, q.s2, rfl, by omega, hz, hp', by simp only [if_neg hz, if_neg hy]⟩
    exact goal

/-- The content of a block as the program makes it: the sequences are read, then the content is filled. -/
def pcontent (f : Fr) (lits s : Bytes) (n : Nat) : Option (Bytes × List Int) :=
  match plast (bitsOf s) f.t0 f.t1 f.t2 f.last (n - 1) with
  | none => none
  | some (L, pos, la) =>
    if pos ≤ (bitsOf s).length ∧ rest (bitsOf s) pos = true then
      match fillN f.window L (f.dict ++ f.text, lits) with
      | none => none
      | some x => if 1024 < (x.1.drop (f.dict ++ f.text).length ++ x.2).length then none else some (x.1.drop (f.dict ++ f.text).length ++ x.2, la)
    else none
theorem pcontent_is {f : Fr} {lits s : Bytes} {n : Nat} (f0 : TabFine f.t0) (f1 : TabFine f.t1) (f2 : TabFine f.t2) (hla : LastOk f.last) (hn : 1 ≤ n) (r : Bytes × List Int) :
    pcontent f lits s n = some r ↔ content f lits s n = some r ∧ r.1.length ≤ 1024 := by
  have hl := bitsOf_bound s
  obtain ⟨m, rfl⟩ : ∃ m, n = m + 1 := ⟨n - 1, by omega⟩
  have hc := seqs_comp (s := s) (lits := lits) f0 f1 f2 hla (n := m + 1) m (by omega)
  have hseq : seqs f (bitsOf s) (f.dict ++ f.text).length (m + 1) (seq0 f (bitsOf s) lits) (m + 1) = match seqs f (bitsOf s) (f.dict ++ f.text).length (m + 1) (seq0 f (bitsOf s) lits) m with
      | none => none
      | some r => seq1 f (bitsOf s) (f.dict ++ f.text).length false r := by
    show (match seqs f (bitsOf s) (f.dict ++ f.text).length (m + 1) (seq0 f (bitsOf s) lits) m with
      | none => none
      | some r => seq1 f (bitsOf s) (f.dict ++ f.text).length (decide (m + 1 < m + 1)) r) = _
    rw [decide_eq_false (by omega)]
  unfold pcontent content plast
  rw [Nat.add_sub_cancel, hseq]
  generalize hfr : (f.dict ++ f.text).length = from' at *
  cases ep : pheads (bitsOf s) f.t0 f.t1 f.t2 f.last m with
  | none =>
    have e : comp f (bitsOf s) from' lits m = none := by unfold comp; rw [ep]
    rw [e] at hc
    simp only [reduceCtorEq, false_iff, not_and]
    intro h
    exfalso
    cases es : seqs f (bitsOf s) from' (m + 1) (seq0 f (bitsOf s) lits) m with
    | none => rw [es] at h; cases h
    | some q => rw [es] at h; simp only [seq1_of_short (hc q es)] at h; cases h
  | some Lh =>
    obtain ⟨L, h⟩ := Lh
    simp only []
    obtain ⟨hok, hlen, hpos, hall⟩ := pheads_ok hl f0 f1 f2 hla m ep
    constructor
    · intro hr
      by_cases hz : (pone (bitsOf s) h).s.off = 0
      · rw [if_pos hz] at hr; cases hr
      rw [if_neg hz] at hr
      simp only [] at hr
      split at hr
      · rename_i hpr
        rw [fillN_snoc] at hr
        cases ef : fillN f.window L (f.dict ++ f.text, lits) with
        | none => rw [ef] at hr; cases hr
        | some x =>
          rw [ef] at hr
          simp only [] at hr
          cases e1 : fill1 f.window (pone (bitsOf s) h).s x with
          | none => rw [e1] at hr; cases hr
          | some y =>
            rw [e1] at hr
            simp only [] at hr
            split at hr
            · cases hr
            · rename_i hlong
              injection hr with hr
              subst hr
              have hg := fill1_grows e1
              have hlong' : y.1.length - from' + y.2.length ≤ 1024 := by simpa using hlong
              have hc0 : comp f (bitsOf s) from' lits m = some (h, x) := by
                unfold comp
                rw [ep]
                simp only []
                have := pone_pos (bitsOf s) h
                rw [if_neg (by omega), ef]
                simp only []
                rw [if_neg (by omega)]
              rw [hc0] at hc
              simp only [] at hc
              obtain ⟨hfx, q, hq, hs⟩ := hc
              rw [hq]
              simp only []
              rcases seq1_end hl (from' := from') hs hok.last hfx with ⟨hn, hwhy⟩ | ⟨y', s0, s1, s2, hy, hyl, hz', hpl, hq'⟩
              · exfalso
                rcases hwhy with hw | hw | hw | ⟨y', hw, hy'⟩
                · exact hz hw
                · omega
                · rw [e1] at hw; cases hw
                · rw [e1] at hw
                  cases hw
                  omega
              · rw [e1] at hy
                cases hy
                rw [hq']
                simp only []
                rw [if_pos hpr.2]
                exact ⟨rfl, by simpa using hlong⟩
      · cases hr
    · rintro ⟨hr, hr2⟩
      cases es : seqs f (bitsOf s) from' (m + 1) (seq0 f (bitsOf s) lits) m with
      | none => rw [es] at hr; cases hr
      | some q =>
        rw [es] at hr
        simp only [] at hr
        have hsh : q.b.short = false := by
          cases e : q.b.short with
          | false => rfl
          | true => rw [seq1_of_short e] at hr; cases hr
        cases ec : comp f (bitsOf s) from' lits m with
        | none =>
          rw [ec] at hc
          rw [hc q es] at hsh
          cases hsh
        | some hx =>
          obtain ⟨h', x⟩ := hx
          have hc' := ec
          unfold comp at hc'
          rw [ep] at hc'
          simp only [] at hc'
          split at hc'
          · cases hc'
          · cases ef : fillN f.window L (f.dict ++ f.text, lits) with
            | none => rw [ef] at hc'; cases hc'
            | some x' =>
              rw [ef] at hc'
              simp only [] at hc'
              split at hc'
              · cases hc'
              · injection hc' with hc'
                obtain ⟨rfl, rfl⟩ := Prod.mk.inj hc'
                rw [ec] at hc
                simp only [] at hc
                obtain ⟨hfx, q', hq', hs⟩ := hc
                rw [es] at hq'
                cases hq'
                rcases seq1_end hl (from' := from') hs hok.last hfx with ⟨hn, hwhy⟩ | ⟨y, s0, s1, s2, hy, hyl, hz, hpl, hq'⟩
                · rw [hn] at hr; cases hr
                · rw [hq'] at hr
                  simp only [] at hr
                  split at hr
                  · rename_i hrest
                    injection hr with hr
                    subst hr
                    rw [if_neg hz]
                    simp only []
                    rw [if_pos ⟨hpl, hrest⟩, fillN_snoc, ef]
                    simp only [hy]
                    simp only [] at hr2
                    rw [if_neg (by omega)]
                  · cases hr
end Go.Proofs.YtbhemchnjpajiaaGreatDoor.RD

/- The list of sequences (package sequences, readList), walked. -/
namespace Go.Proofs.YtbhemchnjpajiaaGreatDoor
open Go.RowKit
set_option linter.unusedVariables false

/-- Sequences as cells. -/
def sqCells (L : List RD.S3) : List Value := L.flatMap fun s => [.int .i64 s.len, .int .i64 s.off, .int .i64 s.mat]
theorem sqCells_snoc (L : List RD.S3) (s : RD.S3) : sqCells (L ++ [s]) = sqCells L ++ [.int .i64 s.len, .int .i64 s.off, .int .i64 s.mat] := by simp [sqCells]
theorem sqCells_length (L : List RD.S3) : (sqCells L).length = L.length * 3 := by
  induction L with
  | nil => rfl
  | cons a l ih => simp only [sqCells, List.flatMap_cons, List.length_append, List.length_cons, List.length_nil] at *; omega
theorem infoSq : (Tryz.prog.info? 264).map (fun i => (i.zero, i.size, i.bytes)) = some (some (.agg #[.int .i64 0, .int .i64 0, .int .i64 0]), 3, 24) := by kernel_rfl

/-- The last offsets of a reader have been turned, nothing else of its cells. -/
structure Rec (gs gs' : List Value) (o : Nat) (a b c : Int) : Prop where
  len : gs'.length = gs.length
  a : gs'[o + 7]? = some (.int .i64 a)
  b : gs'[o + 8]? = some (.int .i64 b)
  c : gs'[o + 9]? = some (.int .i64 c)
  rest : ∀ j, j ≠ o + 7 → j ≠ o + 8 → j ≠ o + 9 → gs'[j]? = gs[j]?
theorem Rec.sets {gs : List Value} {o : Nat} {v : Value} (h : gs[o + 9]? = some v) (a b c : Int) : Rec gs (((gs.set (o + 7) (.int .i64 a)).set (o + 8) (.int .i64 b)).set (o + 9) (.int .i64 c)) o a b c := by
  obtain ⟨hl, -⟩ := List.getElem?_eq_some_iff.1 h
  refine ⟨by simp, ?_, ?_, ?_, fun j h1 h2 h3 => ?_⟩
  · rw [List.getElem?_set_ne (by omega), List.getElem?_set_ne (by omega), List.getElem?_set_self (by omega)]
  · rw [List.getElem?_set_ne (by omega), List.getElem?_set_self (by simp; omega)]
  · rw [List.getElem?_set_self (by simp; omega)]
  · rw [List.getElem?_set_ne (by omega), List.getElem?_set_ne (by omega), List.getElem?_set_ne (by omega)]
theorem Rec.trans {gs gs' gs'' : List Value} {o : Nat} {a b c a' b' c' : Int} (h : Rec gs gs' o a b c) (k : Rec gs' gs'' o a' b' c') : Rec gs gs'' o a' b' c' :=
  ⟨k.len.trans h.len, k.a, k.b, k.c, fun j h1 h2 h3 => (k.rest j h1 h2 h3).trans (h.rest j h1 h2 h3)⟩
theorem Rec.refl {gs : List Value} {o : Nat} {a b c : Int} (h1 : gs[o + 7]? = some (.int .i64 a)) (h2 : gs[o + 8]? = some (.int .i64 b)) (h3 : gs[o + 9]? = some (.int .i64 c)) : Rec gs gs o a b c := ⟨rfl, h1, h2, h3, fun _ _ _ _ => rfl⟩
theorem Rec.tab {gs gs' : List Value} {o : Nat} {a b c : Int} (h : Rec gs gs' o a b c) {j : Nat} (hj : j ≤ 6) : gs'[o + j]? = gs[o + j]? := h.rest _ (by omega) (by omega) (by omega)
theorem Tris.only {G : Nat → Prop} {w w' : World} {v : Value} {l : List CM.Tri} (h : Tris w v l) (ho : Only G w w') (hn : ∀ a d n c, v = .slice (some ⟨a, d, none⟩) n c → ¬ G a) : Tris w' v l := by
  obtain ⟨a, c, rfl, h⟩ := h
  refine ⟨a, c, rfl, ?_⟩
  rcases h with h | ⟨b, rfl, hb, h⟩
  · exact .inl h
  · have hnb := hn b 0 _ _ rfl
    refine .inr ⟨b, rfl, Nat.lt_of_lt_of_le hb ho.size, fun i hi => ?_⟩
    obtain ⟨h1, h2, h3⟩ := h i hi
    exact ⟨ho.cell h1 hb hnb, ho.cell h2 hb hnb, ho.cell h3 hb hnb⟩
theorem TabsAt.only {G : Nat → Prop} {w w' : World} {gs gs' : List Value} {o : Nat} {t0 t1 t2 : RD.Tab} (h : TabsAt w gs o t0 t1 t2) (ho : Only G w w') (hn : ∀ a, lives' w gs o a → ¬ G a) (hg : ∀ j, 1 ≤ j → j ≤ 6 → gs'[o + j]? = gs[o + j]?) : TabsAt w' gs' o t0 t1 t2 := by
  obtain ⟨v0, v1, v2, g1, g2, g3, g4, g5, g6, T0, T1, T2⟩ := h.ex
  refine ⟨v0, v1, v2, by rw [hg 1 (by omega) (by omega)]; exact g1, by rw [hg 2 (by omega) (by omega)]; exact g2, by rw [hg 3 (by omega) (by omega)]; exact g3, by rw [hg 4 (by omega) (by omega)]; exact g4, by rw [hg 5 (by omega) (by omega)]; exact g5, by rw [hg 6 (by omega) (by omega)]; exact g6, ?_, ?_, ?_⟩
  · exact T0.only ho (fun a d n c e => hn a ⟨d, n, c, .inl (by rw [g2, e])⟩)
  · exact T1.only ho (fun a d n c e => hn a ⟨d, n, c, .inr (.inl (by rw [g4, e]))⟩)
  · exact T2.only ho (fun a d n c e => hn a ⟨d, n, c, .inr (.inr (by rw [g6, e]))⟩)
theorem lives_same {w w' : World} {gs gs' : List Value} {o a : Nat} (hg : ∀ j, 1 ≤ j → j ≤ 6 → gs'[o + j]? = gs[o + j]?) (h : lives' w' gs' o a) : lives' w gs o a := by
  obtain ⟨d, n, c, h⟩ := h
  rw [hg 2 (by omega) (by omega), hg 4 (by omega) (by omega), hg 6 (by omega) (by omega)] at h
  exact ⟨d, n, c, h⟩

theorem only_low {G : Nat → Prop} {B : Nat} {a w w' : World} (h : Only G a w) (hb : Below B w w') (hB : a.heap.size ≤ B) : Only G a w' :=
  ⟨hb.os.trans h.os, hb.tape.trans h.tape, hb.output.trans h.output, Nat.le_trans h.size hb.size, fun k hk hn => (hb.block k (by omega)).trans (h.block k hk hn)⟩
theorem pheads_up {l : List Int} {t0 t1 t2 : RD.Tab} {last : List Int} {k : Nat} (h : RD.pheads l t0 t1 t2 last k = none) : ∀ j, RD.pheads l t0 t1 t2 last (k + j) = none
  | 0 => h
  | j + 1 => by
    show RD.pheads l t0 t1 t2 last (k + j + 1) = none
    unfold RD.pheads
    rw [pheads_up h j]
theorem plast_off {l : List Int} {t0 t1 t2 : RD.Tab} {last : List Int} {k n : Nat} {L : List RD.S3} {h : RD.Ph} (hk : k < n) (hp : RD.pheads l t0 t1 t2 last k = some (L, h)) (ho : (RD.pone l h).s.off = 0) : RD.plast l t0 t1 t2 last (n - 1) = none := by
  by_cases e : k = n - 1
  · unfold RD.plast
    rw [← e, hp]
    simp only [if_pos ho]
  · have h1 : RD.pheads l t0 t1 t2 last (k + 1) = none := by
      unfold RD.pheads
      rw [hp]
      simp only [if_pos ho]
    have h2 := pheads_up h1 (n - 1 - (k + 1))
    rw [show k + 1 + (n - 1 - (k + 1)) = n - 1 by omega] at h2
    unfold RD.plast
    rw [h2]
theorem pheads_next {l : List Int} {t0 t1 t2 : RD.Tab} {last : List Int} {k : Nat} {L : List RD.S3} {h : RD.Ph} (hp : RD.pheads l t0 t1 t2 last k = some (L, h)) (ho : (RD.pone l h).s.off ≠ 0) : RD.pheads l t0 t1 t2 last (k + 1) = some (L ++ [(RD.pone l h).s], RD.pnext l t0 t1 t2 h (RD.pone l h)) := by
  rw [RD.pheads, hp]
  simp only [if_neg ho]
theorem plast_here {l : List Int} {t0 t1 t2 : RD.Tab} {last : List Int} {k : Nat} {L : List RD.S3} {h : RD.Ph} (hp : RD.pheads l t0 t1 t2 last k = some (L, h)) (ho : (RD.pone l h).s.off ≠ 0) : RD.plast l t0 t1 t2 last k = some (L ++ [(RD.pone l h).s], (RD.pone l h).pos, (RD.pone l h).last) := by
  rw [RD.plast, hp]
  simp only [if_neg ho]
def RLPost (x : Fx) (g o p n : Nat) (t : TypeId) (gs : List Value) (t0 t1 t2 : RD.Tab) (last : List Int) (s : RD.Bytes) (w : World) (e : Ending) (w' : World) : Prop :=
  Only (fun b => b = p ∨ b = g) w w' ∧ ((RD.plast (RD.bitsOf s) t0 t1 t2 last (n - 1) = none ∧ e = .returned (.tuple #[.slice none 0 0, errV x.f]) ∧ ∃ gs' a b c, Blk w' g t gs' ∧ Rec gs gs' o a b c) ∨
    ∃ L pos a b c v gs', RD.plast (RD.bitsOf s) t0 t1 t2 last (n - 1) = some (L, pos, [a, b, c]) ∧ e = .returned (.tuple #[v, .nilIface]) ∧ L.length = n ∧ pos ≤ 20000 ∧ (∀ q ∈ L, RD.S3Ok q) ∧ RD.LastOk [a, b, c] ∧ w'.ownsRow w.heap.size 264 3 v n (sqCells L) ∧ BAt w' p s pos ∧ Blk w' g t gs' ∧ Rec gs gs' o a b c)

set_option maxRecDepth 100000 in
set_option maxHeartbeats 4000000 in
theorem readList_any (x : Fx) (g o p n : Nat) (t : TypeId) (gs : List Value) (t0 t1 t2 : RD.Tab) (r0 r1 r2 : Int) (s : RD.Bytes) (w : World) (hG : Blk w g t gs) (hT : TabsAt w gs o t0 t1 t2) (f0 : RD.TabFine t0) (f1 : RD.TabFine t1) (f2 : RD.TabFine t2) (h : BAt w p s 0) (hs : s.length ≤ 1048576) (hn : 1 ≤ n ∧ n ≤ 255)
    (hr0 : gs[o + 7]? = some (.int .i64 r0)) (hr1 : gs[o + 8]? = some (.int .i64 r1)) (hr2 : gs[o + 9]? = some (.int .i64 r2)) (hla : RD.LastOk [r0, r1, r2])
    (hp0 : ∀ a, lives' w gs o a → ¬ (a = p ∨ a = g)) (hgp : g ≠ p) (hV : VarsAt x w) (hpb : x.base ≤ p) (hgb : x.base ≤ g) :
    Calls Tryz.prog 139 #[.pointer (some ⟨g, o, none⟩), .int .i64 n, .pointer (some ⟨p, 0, none⟩)] w (RLPost x g o p n t gs t0 t1 t2 [r0, r1, r2] s w) := by
  obtain ⟨i0, hi0, hz0, hz1, hz2⟩ := info_parts infoSq
  have hbb := RD.bitsOf_bound s
  have hgl := hG.lt
  have hpl := Blk.lt h
  have hph0 : RD.pheads (RD.bitsOf s) t0 t1 t2 [r0, r1, r2] 0 = some ([], RD.pfirst (RD.bitsOf s) t0 t1 t2 [r0, r1, r2]) := rfl
  go_enter Tryz.func139, Tryz.ntmps139
  go_wp2_with fail
  refine (firstStates_any g o p t gs t0 t1 t2 s _ hG hT f0 f1 f2 h hs (fun a ha e => hp0 a ha (.inl e))).mono ?_
  rintro e w1 ⟨rfl, hb1, ho1⟩
  have hpf : Hid (RD.pfirst (RD.bitsOf s) t0 t1 t2 [r0, r1, r2] = ⟨t0.log + t1.log + t2.log, RD.triAt t0.l (RD.pk (RD.bitsOf s) 0 t0.log), RD.triAt t1.l (RD.pk (RD.bitsOf s) t0.log t1.log), RD.triAt t2.l (RD.pk (RD.bitsOf s) (t0.log + t1.log) t2.log), [r0, r1, r2]⟩) := rfl
  generalize RD.triAt t0.l (RD.pk (RD.bitsOf s) 0 t0.log) = y0 at *
  generalize RD.triAt t1.l (RD.pk (RD.bitsOf s) t0.log t1.log) = y1 at *
  generalize RD.triAt t2.l (RD.pk (RD.bitsOf s) (t0.log + t1.log) t2.log) = y2 at *
  rw [hpf.out] at hph0
  unfold stL
  go_wp2_with fail
  have hba := (Below.refl w1.heap.size w1).alloc (Nat.le_refl _) (.cells #[.int .i64 y0.1, .int .i64 y0.2.1, .int .i64 y0.2.2, .int .i64 y1.1, .int .i64 y1.2.1, .int .i64 y1.2.2, .int .i64 y2.1, .int .i64 y2.2.1, .int .i64 y2.2.2] 275)
  have hN1 : Blk (w1.alloc (.cells #[.int .i64 y0.1, .int .i64 y0.2.1, .int .i64 y0.2.2, .int .i64 y1.1, .int .i64 y1.2.1, .int .i64 y1.2.2, .int .i64 y2.1, .int .i64 y2.2.1, .int .i64 y2.2.2] 275)) w1.heap.size 275 (stL y0 y1 y2) := Blk.new _ _ _
  generalize w1.alloc (.cells #[.int .i64 y0.1, .int .i64 y0.2.1, .int .i64 y0.2.2, .int .i64 y1.1, .int .i64 y1.2.1, .int .i64 y1.2.2, .int .i64 y2.1, .int .i64 y2.2.1, .int .i64 y2.2.2] 275) = w2 at *
  have hb2 : BAt w2 p s (t0.log + t1.log + t2.log) := Blk.below hb1 hba (Blk.lt hb1)
  have hO2 : Only (fun b => b = p ∨ b = g) w w2 := (ho1.weaken (fun _ _ e => .inl e)).below hba
  have hG2 : Blk w2 g t gs := (hG.only ho1 hgp).below hba (by have := ho1.size; omega)
  have hNl := hN1.lt
  have hsz1 := ho1.size
  obtain ⟨N, hNe⟩ : ∃ N, N = w1.heap.size := ⟨_, rfl⟩
  rw [← hNe] at hN1 hNl hsz1
  rw [← hNe]
  replace hNe := hid' hNe
  clear hba hpf
  have hinit : ∃ hd : RD.Ph, RD.pheads (RD.bitsOf s) t0 t1 t2 [r0, r1, r2] 0 = some ([], hd) ∧ BAt w2 p s hd.pos ∧ Blk w2 N 275 (stL hd.x0 hd.x1 hd.x2) ∧ hd.last = [r0, r1, r2] := ⟨_, hph0, hb2, hN1, rfl⟩
  clear hph0 hb2 hN1
  go_loopg [8] n (fun gh v wr => ∃ (k : Nat) (L : List RD.S3) (hd : RD.Ph) (a b c : Int) (gs' : List Value), gh = n - k ∧ k < n ∧ RD.pheads (RD.bitsOf s) t0 t1 t2 [r0, r1, r2] k = some (L, hd) ∧ hd.last = [a, b, c] ∧
      BAt wr p s hd.pos ∧ Blk wr N 275 (stL hd.x0 hd.x1 hd.x2) ∧ Blk wr g t gs' ∧ Rec gs gs' o a b c ∧ wr.ownsRow (N + 1) 264 3 v k (sqCells L) ∧ Only (fun b => b = p ∨ b = g) w wr)
  case atStart =>
    obtain ⟨hd, q1, q2, q3, q4⟩ := hinit
    exact ⟨0, [], hd, r0, r1, r2, gs, rfl, by omega, q1, q4, q2, q3, hG2, Rec.refl hr0 hr1 hr2, World.ownsRow_nil _ _ _ _, hO2⟩
  case round =>
    obtain ⟨k, L, hd, a, b, c, gs', rfl, hk, hph, hlast, hbi, hN, hGk, hRec, hown, hO⟩ := hrel
    obtain ⟨hok, hLl, hpos, hall⟩ := RD.pheads_ok hbb f0 f1 f2 hla k hph
    have hok0 := hok
    obtain ⟨hx0, hx1, hx2, hlk⟩ := hok0
    obtain ⟨A0, B0, C0, e0, hA0, hB0, hC0⟩ := StOk.nat (t := t0) hx0
    obtain ⟨A1, B1, C1, e1, hA1, hB1, hC1⟩ := StOk.nat (t := t1) hx1
    obtain ⟨A2, B2, C2, e2, hA2, hB2, hC2⟩ := StOk.nat (t := t2) hx2
    obtain ⟨hpos0, hd0, hd1, hd2, hdl⟩ := hd
    simp only [] at e0 e1 e2 hlast hbi hN hpos hlk
    subst e0 e1 e2 hlast
    have hNlt := hN.lt
    have hVk := hV.only hO (fun k e => by omega)
    have ha : 1 ≤ a ∧ a ≤ 65536 := by
      obtain ⟨x', y', z', e, q1, q2, q3⟩ := hlk
      injection e with e _
      omega
    have hNp : N ≠ p := by omega
    have hNg : N ≠ g := by omega
    have m0 := hN.cell (j := 0) rfl
    have m1 := hN.cell (j := 1) rfl
    have m2 := hN.cell (j := 2) rfl
    have m3 := hN.cell (j := 3) rfl
    have m4 := hN.cell (j := 4) rfl
    have m5 := hN.cell (j := 5) rfl
    have m6 := hN.cell (j := 6) rfl
    have m7 := hN.cell (j := 7) rfl
    have m8 := hN.cell (j := 8) rfl
    simp only [] at m0 m1 m2 m3 m4 m5 m6 m7 m8
    replace hown := hid' hown
    replace hph := hid' hph
    replace hC0 := hid' hC0
    replace hC1 := hid' hC1
    replace hC2 := hid' hC2
    go_wp2_with fail
    refine (readSequence_any x g o p t gs' A0 B0 C0 A1 B1 C1 A2 B2 C2 hpos0 a b c s _ hGk hRec.a hRec.b hRec.c hA0 hA1 hA2 ha hbi hVk hs (by omega) hgp hpb hgb).mono ?_
    rintro e w3 ⟨ho3, ⟨hoff, rfl, ae, be, ce, hGe⟩ | ⟨hoff, rfl, hb3, a', b', c', hlast', hG3⟩⟩
    · have hON : Hid (Only (fun b => b = p ∨ b = g) w w3) := hO.trans ho3
      go_wp2_with fail
      go_ret2
      refine ⟨hON.out.alloc _, .inl ⟨?_, rfl, _, ae, be, ce, hGe.alloc _, hRec.trans (Rec.sets hRec.c ae be ce)⟩⟩
      exact plast_off hk hph.out hoff
    · obtain ⟨hpp, hs3⟩ := RD.pone_ok hbb hok
      obtain ⟨hs3, hl3⟩ := hs3 hoff
      have hph' := hid' (pheads_next hph.out hoff)
      have hpl' := hid' (plast_here hph.out hoff)
      obtain ⟨hnx, hnp⟩ := RD.pnext_ok hbb f0 f1 f2 hok hl3
      rw [hlast'] at hl3 hpl'
      have hown3 := ownsRow_only hown.out ho3 (fun j hj e => by omega)
      have hN3 := hN.only ho3 (by omega)
      have hO3 : Only (fun b => b = p ∨ b = g) w w3 := hO.trans ho3
      have hRec3 := hRec.trans (Rec.sets hRec.c a' b' c')
      have hsz3 := ho3.size
      generalize ((gs'.set (o + 7) (.int .i64 a')).set (o + 8) (.int .i64 b')).set (o + 9) (.int .i64 c') = gs3 at *
      generalize hpe : RD.pone (RD.bitsOf s) ⟨hpos0, ((A0 : Int), (B0 : Int), (C0 : Int)), ((A1 : Int), (B1 : Int), (C1 : Int)), ((A2 : Int), (B2 : Int), (C2 : Int)), [a, b, c]⟩ = P1 at *
      replace hpe := hid' hpe
      obtain ⟨q1, q2, q3, q4, q5, q6⟩ := hs3
      have hs3' : Hid (RD.S3Ok P1.s) := ⟨q1, q2, q3, q4, q5, q6⟩
      have hbd : Below w3.heap.size w3 (w3.alloc (.cells #[.int .i64 P1.s.len, .int .i64 P1.s.off, .int .i64 P1.s.mat] 264)) := (Below.refl _ w3).alloc (Nat.le_refl _) _
      replace hO3 := hid' hO3
      replace hRec3 := hid' hRec3
      have hkn : (k : Int) + 1 = (n : Int) ∨ ¬ ((k : Int) + 1 = (n : Int)) := by omega
      go_wp2_with (at_builtin; refine wpList_append_own _ rfl _ _ 239 rfl (N + 1) 264 i0 _ 3 24 Tryz.underlying239 hi0 hz0 hz1 hz2 rfl (by decide) _ _ _ rfl (World.ownsRow.alloc (World.ownsRow.alloc hown3 _) _) ⟨w3.heap.size + 1, 0, none⟩ 1 1 [.int .i64 P1.s.len, .int .i64 P1.s.off, .int .i64 P1.s.mat] rfl rfl (by have := three_new (w3.alloc (.cells #[.int .i64 P1.s.len, .int .i64 P1.s.off, .int .i64 P1.s.mat] 264)) 264 (.int .i64 P1.s.len) (.int .i64 P1.s.off) (.int .i64 P1.s.mat); simpa using this) (three_one _ _ _) (by unfold maxLen; omega) (by omega) (by simp; omega) ?_)
      intro v' w5 hown5 hgrow _
      have hbel5 : Below (N + 1) w3 w5 := (((Below.refl (N + 1) w3).alloc (by omega) (.cells #[.int .i64 P1.s.len, .int .i64 P1.s.off, .int .i64 P1.s.mat] 264)).alloc (by simp; omega) (.cells #[.int .i64 P1.s.len, .int .i64 P1.s.off, .int .i64 P1.s.mat] 264)).grown hgrow (by simp; omega) (fun j hj => (World.ownsRow.lt hown3 j hj).1)
      have hN5 := hN3.below hbel5 (by omega)
      have hb5 : BAt w5 p s P1.pos := Blk.below hb3 hbel5 (by omega)
      have hG5 := hG3.below hbel5 (by omega)
      have hO5 : Only (fun b => b = p ∨ b = g) w w5 := only_low hO3.out hbel5 (by omega)
      have hcells : Hid (sqCells L ++ [.int .i64 P1.s.len, .int .i64 P1.s.off, .int .i64 P1.s.mat] = sqCells (L ++ [P1.s])) := (sqCells_snoc L P1.s).symm
      rw [hcells.out] at hown5
      obtain ⟨g5, c5, rest5, rfl, hg5, -, -, -, -⟩ := owns_slice hown5 (by omega)
      replace hown5 := hid' hown5
      clear hgrow hown3 hbd hcells
      have m0 := hN5.cell (j := 0) rfl
      have m1 := hN5.cell (j := 1) rfl
      have m2 := hN5.cell (j := 2) rfl
      have m3 := hN5.cell (j := 3) rfl
      have m4 := hN5.cell (j := 4) rfl
      have m5 := hN5.cell (j := 5) rfl
      have m6 := hN5.cell (j := 6) rfl
      have m7 := hN5.cell (j := 7) rfl
      have m8 := hN5.cell (j := 8) rfl
      simp only [] at m0 m1 m2 m3 m4 m5 m6 m7 m8
      have hallL : Hid (∀ q ∈ L ++ [P1.s], RD.S3Ok q) := by
        intro q hq
        rcases List.mem_append.1 hq with hq | hq
        · exact hall q hq
        · rw [List.mem_singleton.1 hq]; exact hs3'.out
      by_cases hend : k + 1 = n
      · have hend' : ((k : Int) + 1 == (n : Int)) = true := by simp; omega
        have hend'' : (((k + 1 : Nat) : Int) == (n : Int)) = true := by simp; omega
        have hO5' := hid' hO5
        go_wp2_with fail
        go_ret2
        refine ⟨hO5'.out, .inr ⟨L ++ [P1.s], P1.pos, a', b', c', _, gs3, ?_, rfl, by simp; omega, by omega, hallL.out, hl3, ?_, hb5, hG5, hRec3.out⟩⟩
        · rw [← hend, Nat.add_sub_cancel]
          exact hpl'.out
        · have := ownsRow_base hown5.out (show w.heap.size ≤ N + 1 by omega)
          show w5.ownsRow w.heap.size _ 3 (.slice (some ⟨g5, 0, none⟩) (k + 1) c5) n (sqCells (L ++ [P1.s]))
          rw [← hend]
          exact this
      · have hend' : ((k : Int) + 1 == (n : Int)) = false := by simp; omega
        have hend'' : (((k + 1 : Nat) : Int) == (n : Int)) = false := by simp; omega
        have hT5 : TabsAt w5 gs3 o t0 t1 t2 := hT.only hO5 hp0 (fun j h1 h2 => hRec3.out.tab h2)
        have hO5' := hid' hO5
        have hx5 : ∀ y, lives' w5 gs3 o y → y ≠ p := fun y hy e => hp0 y (lives_same (fun j h1 h2 => hRec3.out.tab h2) hy) (.inl e)
        have st0 : StOk t0 ((A0 : Int), (B0 : Int), (C0 : Int)) := hok.x0
        have st1 : StOk t1 ((A1 : Int), (B1 : Int), (C1 : Int)) := hok.x1
        have st2 : StOk t2 ((A2 : Int), (B2 : Int), (C2 : Int)) := hok.x2
        have fzN := hN5.free
        replace hN5 := hid' hN5
        have hnp' : Hid (P1.pos ≤ 1099511627) := by rw [Hid]; omega
        go_wp2_with fail
        refine (nextStates_any g o p P1.pos t gs3 t0 t1 t2 ((A0 : Int), (B0 : Int), (C0 : Int)) ((A1 : Int), (B1 : Int), (C1 : Int)) ((A2 : Int), (B2 : Int), (C2 : Int)) s _ hG5 hT5 f0 f1 f2 st0 st1 st2 hb5 hs hnp'.out hx5 hgp).mono ?_
        rintro e w6 ⟨rfl, hb6, ho6⟩
        simp only [Int.toNat_natCast] at hb6 ⊢
        have hpn : RD.pnext (RD.bitsOf s) t0 t1 t2 ⟨hpos0, ((A0 : Int), (B0 : Int), (C0 : Int)), ((A1 : Int), (B1 : Int), (C1 : Int)), ((A2 : Int), (B2 : Int), (C2 : Int)), [a, b, c]⟩ P1 =
            ⟨P1.pos + B0 + B2 + B1, RD.triAt t0.l ((C0 : Int) + RD.pk (RD.bitsOf s) P1.pos B0), RD.triAt t1.l ((C1 : Int) + RD.pk (RD.bitsOf s) (P1.pos + B0 + B2) B1), RD.triAt t2.l ((C2 : Int) + RD.pk (RD.bitsOf s) (P1.pos + B0) B2), [a', b', c']⟩ := by
          rw [← hlast']
          rfl
        rw [hpn] at hph'
        generalize RD.triAt t0.l ((C0 : Int) + RD.pk (RD.bitsOf s) P1.pos B0) = z0 at *
        generalize RD.triAt t1.l ((C1 : Int) + RD.pk (RD.bitsOf s) (P1.pos + B0 + B2) B1) = z1 at *
        generalize RD.triAt t2.l ((C2 : Int) + RD.pk (RD.bitsOf s) (P1.pos + B0) B2) = z2 at *
        clear hpn
        have hN6 := hN5.out.only ho6 hNp
        have hG6 := hG5.only ho6 hgp
        have hO6 : Only (fun b => b = p ∨ b = g) w w6 := hO5'.out.trans (ho6.weaken (fun _ _ e => .inl e))
        have hown6 := ownsRow_only hown5.out ho6 (fun j hj e => by omega)
        have hno : N < w.heap.size → N = p ∨ N = g := fun e => absurd e (by omega)
        have hnb : ∀ j, N + 1 ≤ j → ¬ j = N := fun j hj e => by omega
        have k0 := hN6.cell (j := 0) rfl
        have k1 := hN6.cell (j := 1) rfl
        have k2 := hN6.cell (j := 2) rfl
        have k3 := hN6.cell (j := 3) rfl
        have k4 := hN6.cell (j := 4) rfl
        have k5 := hN6.cell (j := 5) rfl
        have k6 := hN6.cell (j := 6) rfl
        have k7 := hN6.cell (j := 7) rfl
        have k8 := hN6.cell (j := 8) rfl
        have fz6 := hN6.free
        have gN : Hid (Blk (((((((((w6.setCell ⟨N, 0, none⟩ (.int .i64 z0.1)).setCell ⟨N, 1, none⟩ (.int .i64 z0.2.1)).setCell ⟨N, 2, none⟩ (.int .i64 z0.2.2)).setCell ⟨N, 3, none⟩ (.int .i64 z1.1)).setCell ⟨N, 4, none⟩ (.int .i64 z1.2.1)).setCell ⟨N, 5, none⟩ (.int .i64 z1.2.2)).setCell ⟨N, 6, none⟩ (.int .i64 z2.1)).setCell ⟨N, 7, none⟩ (.int .i64 z2.2.1)).setCell ⟨N, 8, none⟩ (.int .i64 z2.2.2)) N 275 (stL z0 z1 z2)) := (((((((((hN6.put 0 (.int .i64 z0.1)).put 1 (.int .i64 z0.2.1)).put 2 (.int .i64 z0.2.2)).put 3 (.int .i64 z1.1)).put 4 (.int .i64 z1.2.1)).put 5 (.int .i64 z1.2.2)).put 6 (.int .i64 z2.1)).put 7 (.int .i64 z2.2.1)).put 8 (.int .i64 z2.2.2))
        have gb : Hid (BAt (((((((((w6.setCell ⟨N, 0, none⟩ (.int .i64 z0.1)).setCell ⟨N, 1, none⟩ (.int .i64 z0.2.1)).setCell ⟨N, 2, none⟩ (.int .i64 z0.2.2)).setCell ⟨N, 3, none⟩ (.int .i64 z1.1)).setCell ⟨N, 4, none⟩ (.int .i64 z1.2.1)).setCell ⟨N, 5, none⟩ (.int .i64 z1.2.2)).setCell ⟨N, 6, none⟩ (.int .i64 z2.1)).setCell ⟨N, 7, none⟩ (.int .i64 z2.2.1)).setCell ⟨N, 8, none⟩ (.int .i64 z2.2.2)) p s (P1.pos + B0 + B2 + B1)) := (Blk.other (Blk.other (Blk.other (Blk.other (Blk.other (Blk.other (Blk.other (Blk.other (Blk.other hb6 ⟨N, 0, none⟩ (.int .i64 z0.1) (fun e => hNp e.symm)) ⟨N, 1, none⟩ (.int .i64 z0.2.1) (fun e => hNp e.symm)) ⟨N, 2, none⟩ (.int .i64 z0.2.2) (fun e => hNp e.symm)) ⟨N, 3, none⟩ (.int .i64 z1.1) (fun e => hNp e.symm)) ⟨N, 4, none⟩ (.int .i64 z1.2.1) (fun e => hNp e.symm)) ⟨N, 5, none⟩ (.int .i64 z1.2.2) (fun e => hNp e.symm)) ⟨N, 6, none⟩ (.int .i64 z2.1) (fun e => hNp e.symm)) ⟨N, 7, none⟩ (.int .i64 z2.2.1) (fun e => hNp e.symm)) ⟨N, 8, none⟩ (.int .i64 z2.2.2) (fun e => hNp e.symm))
        have gg : Hid (Blk (((((((((w6.setCell ⟨N, 0, none⟩ (.int .i64 z0.1)).setCell ⟨N, 1, none⟩ (.int .i64 z0.2.1)).setCell ⟨N, 2, none⟩ (.int .i64 z0.2.2)).setCell ⟨N, 3, none⟩ (.int .i64 z1.1)).setCell ⟨N, 4, none⟩ (.int .i64 z1.2.1)).setCell ⟨N, 5, none⟩ (.int .i64 z1.2.2)).setCell ⟨N, 6, none⟩ (.int .i64 z2.1)).setCell ⟨N, 7, none⟩ (.int .i64 z2.2.1)).setCell ⟨N, 8, none⟩ (.int .i64 z2.2.2)) g t gs3) := (Blk.other (Blk.other (Blk.other (Blk.other (Blk.other (Blk.other (Blk.other (Blk.other (Blk.other hG6 ⟨N, 0, none⟩ (.int .i64 z0.1) (fun e => hNg e.symm)) ⟨N, 1, none⟩ (.int .i64 z0.2.1) (fun e => hNg e.symm)) ⟨N, 2, none⟩ (.int .i64 z0.2.2) (fun e => hNg e.symm)) ⟨N, 3, none⟩ (.int .i64 z1.1) (fun e => hNg e.symm)) ⟨N, 4, none⟩ (.int .i64 z1.2.1) (fun e => hNg e.symm)) ⟨N, 5, none⟩ (.int .i64 z1.2.2) (fun e => hNg e.symm)) ⟨N, 6, none⟩ (.int .i64 z2.1) (fun e => hNg e.symm)) ⟨N, 7, none⟩ (.int .i64 z2.2.1) (fun e => hNg e.symm)) ⟨N, 8, none⟩ (.int .i64 z2.2.2) (fun e => hNg e.symm))
        have gO : Hid (Only (fun b => b = p ∨ b = g) w (((((((((w6.setCell ⟨N, 0, none⟩ (.int .i64 z0.1)).setCell ⟨N, 1, none⟩ (.int .i64 z0.2.1)).setCell ⟨N, 2, none⟩ (.int .i64 z0.2.2)).setCell ⟨N, 3, none⟩ (.int .i64 z1.1)).setCell ⟨N, 4, none⟩ (.int .i64 z1.2.1)).setCell ⟨N, 5, none⟩ (.int .i64 z1.2.2)).setCell ⟨N, 6, none⟩ (.int .i64 z2.1)).setCell ⟨N, 7, none⟩ (.int .i64 z2.2.1)).setCell ⟨N, 8, none⟩ (.int .i64 z2.2.2))) := (((((((((hO6.setCell ⟨N, 0, none⟩ (.int .i64 z0.1) hno).setCell ⟨N, 1, none⟩ (.int .i64 z0.2.1) hno).setCell ⟨N, 2, none⟩ (.int .i64 z0.2.2) hno).setCell ⟨N, 3, none⟩ (.int .i64 z1.1) hno).setCell ⟨N, 4, none⟩ (.int .i64 z1.2.1) hno).setCell ⟨N, 5, none⟩ (.int .i64 z1.2.2) hno).setCell ⟨N, 6, none⟩ (.int .i64 z2.1) hno).setCell ⟨N, 7, none⟩ (.int .i64 z2.2.1) hno).setCell ⟨N, 8, none⟩ (.int .i64 z2.2.2) hno)
        have gw : Hid ((((((((((w6.setCell ⟨N, 0, none⟩ (.int .i64 z0.1)).setCell ⟨N, 1, none⟩ (.int .i64 z0.2.1)).setCell ⟨N, 2, none⟩ (.int .i64 z0.2.2)).setCell ⟨N, 3, none⟩ (.int .i64 z1.1)).setCell ⟨N, 4, none⟩ (.int .i64 z1.2.1)).setCell ⟨N, 5, none⟩ (.int .i64 z1.2.2)).setCell ⟨N, 6, none⟩ (.int .i64 z2.1)).setCell ⟨N, 7, none⟩ (.int .i64 z2.2.1)).setCell ⟨N, 8, none⟩ (.int .i64 z2.2.2)).ownsRow (N + 1) 264 3 (.slice (some ⟨g5, 0, none⟩) (k + 1) c5) (k + 1) (sqCells (L ++ [P1.s]))) := (ownsRow_only (ownsRow_only (ownsRow_only (ownsRow_only (ownsRow_only (ownsRow_only (ownsRow_only (ownsRow_only (ownsRow_only hown6 ((Only.refl (· = N) _).setCell ⟨N, 0, none⟩ (.int .i64 z0.1) (fun _ => rfl)) hnb) ((Only.refl (· = N) _).setCell ⟨N, 1, none⟩ (.int .i64 z0.2.1) (fun _ => rfl)) hnb) ((Only.refl (· = N) _).setCell ⟨N, 2, none⟩ (.int .i64 z0.2.2) (fun _ => rfl)) hnb) ((Only.refl (· = N) _).setCell ⟨N, 3, none⟩ (.int .i64 z1.1) (fun _ => rfl)) hnb) ((Only.refl (· = N) _).setCell ⟨N, 4, none⟩ (.int .i64 z1.2.1) (fun _ => rfl)) hnb) ((Only.refl (· = N) _).setCell ⟨N, 5, none⟩ (.int .i64 z1.2.2) (fun _ => rfl)) hnb) ((Only.refl (· = N) _).setCell ⟨N, 6, none⟩ (.int .i64 z2.1) (fun _ => rfl)) hnb) ((Only.refl (· = N) _).setCell ⟨N, 7, none⟩ (.int .i64 z2.2.1) (fun _ => rfl)) hnb) ((Only.refl (· = N) _).setCell ⟨N, 8, none⟩ (.int .i64 z2.2.2) (fun _ => rfl)) hnb)
        unfold stL
        go_wp2_with fail
        go_roundg (n - (k + 1))
        case rel => exact ⟨k + 1, L ++ [P1.s], _, a', b', c', gs3, rfl, by omega, hph'.out, rfl, gb.out, gN.out, gg.out, hRec3.out, gw.out, gO.out⟩
        case measure => omega
end Go.Proofs.YtbhemchnjpajiaaGreatDoor

/- Counts with noughts behind them make the same table. Plain lemmas. -/
namespace Go.Proofs.YtbhemchnjpajiaaGreatDoor
open Go
namespace TM
def padL (z : List Int) (m : Nat) : List Int := z ++ List.replicate m 0
theorem padL_length (z : List Int) (m : Nat) : (padL z m).length = z.length + m := by simp [padL]
theorem padL_getD (z : List Int) (m k : Nat) : (padL z m).getD k 0 = z.getD k 0 := by
  unfold padL
  rw [List.getD_eq_getElem?_getD, List.getD_eq_getElem?_getD]
  by_cases h : k < z.length
  · rw [List.getElem?_append_left h]
  · rw [List.getElem?_append_right (by omega), List.getElem?_eq_none (l := z) (by omega), List.getElem?_replicate]
    split <;> rfl
theorem sum_pad (z : List Int) (m k : Nat) : sum (padL z m) k = sum z k := by
  induction k with
  | zero => rfl
  | succ k ih => simp only [sum, ih, padL_getD]
theorem tb_pad (z : List Int) (m S k : Nat) : tb (padL z m) S k = tb z S k := by
  induction k with
  | zero => rfl
  | succ k ih => simp only [tb, ih, padL_getD]
theorem base_pad (z : List Int) (m k : Nat) : base (padL z m) k = base z k := by
  induction k with
  | zero => rfl
  | succ k ih => simp only [base, ih, padL_getD]
theorem item_pad (z : List Int) (m j k : Nat) : item (padL z m) j k = item z j k := by
  induction k with
  | zero => rfl
  | succ k ih => simp only [item, ih, base_pad]
theorem getD_behind (z : List Int) (k : Nat) (h : z.length ≤ k) : z.getD k 0 = 0 := by
  rw [List.getD_eq_getElem?_getD, List.getElem?_eq_none h]
  rfl
theorem sum_behind (z : List Int) (m : Nat) : sum z (z.length + m) = sum z z.length := by
  induction m with
  | zero => rfl
  | succ m ih =>
    show sum z (z.length + m) + pl (z.getD (z.length + m) 0) = _
    rw [ih, getD_behind z _ (by omega)]
    simp [pl]
theorem tb_behind (z : List Int) (S m : Nat) : tb z S (z.length + m) = tb z S z.length := by
  induction m with
  | zero => rfl
  | succ m ih =>
    show (if z.getD (z.length + m) 0 = -1 then _ else tb z S (z.length + m)) = _
    rw [getD_behind z _ (by omega), if_neg (by decide), ih]
theorem base_behind (z : List Int) (m : Nat) : base z (z.length + m) = base z z.length := by
  induction m with
  | zero => rfl
  | succ m ih =>
    show base z (z.length + m) + (z.getD (z.length + m) 0).toNat = _
    rw [ih, getD_behind z _ (by omega)]
    rfl
theorem item_behind (z : List Int) (j m : Nat) (h : j < base z z.length) : item z j (z.length + m) = item z j z.length := by
  induction m with
  | zero => rfl
  | succ m ih =>
    have e := base_behind z (m + 1)
    show item z j (z.length + m) + (if base z (z.length + m + 1) ≤ j then 1 else 0) = _
    rw [show z.length + m + 1 = z.length + (m + 1) by omega, e, if_neg (by omega), ih]
    rfl
theorem fits_pad (z : List Int) (m : Nat) (S : Int) (hS : 0 ≤ S) : fitsB (padL z m) S = fitsB z S := by
  unfold fitsB padL
  rw [List.all_append]
  have : (List.replicate m (0 : Int)).all (fun x => decide (-1 ≤ x) && decide (x ≤ S)) = true := by
    rw [List.all_eq_true]
    intro x hx
    rw [(List.mem_replicate.1 hx).2]
    simp [hS]
  rw [this, Bool.and_true]
theorem fill_pad (z : List Int) (m : Nat) (S : Int) (hS : 0 ≤ S) (h1 : 1 ≤ z.length) (h2 : z.length + m ≤ 16) : fillB (padL z m) S = fillB z S := by
  unfold fillB
  rw [padL_length, fits_pad z m S hS, sum_pad, sum_behind]
  have a : decide (1 ≤ z.length + m) = decide (1 ≤ z.length) := by rw [decide_eq_true (by omega), decide_eq_true h1]
  have b : decide (z.length + m ≤ 16) = decide (z.length ≤ 16) := by rw [decide_eq_true h2, decide_eq_true (by omega)]
  rw [a, b]
theorem F_pad (z : List Int) (m S : Nat) (hS : Size S) (h : Fits z S) (hs : sum z z.length = S) (p : Nat) (hp : p < S) : F (padL z m) S (z.length + m) p = F z S z.length p := by
  have hS1 : 1 ≤ S := by rcases hS with rfl | rfl <;> omega
  have hfr := tb_free z S h hS1 z.length (by omega)
  have hfb := free_is z S z.length hS1 h hs
  unfold F fK
  rw [tb_pad, tb_behind]
  by_cases e : (tb z S z.length).2 ≤ p
  · rw [if_pos e, if_pos e]
  · rw [if_neg e, if_neg e, if_pos (idx_lt hS p), if_pos (idx_lt hS p), item_pad, item_behind]
    have hc := cf_low hS hfr.2 p hp (by omega)
    omega
end TM
theorem goodT_pad (lg : Int) (z : List Int) (m : Nat) (h1 : 1 ≤ z.length) (h2 : z.length + m ≤ 16) : goodT lg (TM.padL z m) = goodT lg z := by
  unfold goodT
  rw [TM.fill_pad z m 32 (by omega) h1 h2, TM.fill_pad z m 64 (by omega) h1 h2]
theorem goodT_log {lg : Int} {z : List Int} (h : goodT lg z = true) : ∃ n : Nat, lg = (n : Int) ∧ (n = 5 ∨ n = 6) ∧ TM.fillB z (2 ^ n : Nat) = true := by
  unfold goodT at h
  simp only [Bool.or_eq_true, Bool.and_eq_true, decide_eq_true_eq] at h
  rcases h with ⟨rfl, h⟩ | ⟨rfl, h⟩
  · exact ⟨5, rfl, .inl rfl, h⟩
  · exact ⟨6, rfl, .inr rfl, h⟩
theorem table_pad {n : Nat} {z : List Int} (m : Nat) (hn : n = 5 ∨ n = 6) (hf : TM.fillB z (2 ^ n : Nat) = true) : table n (TM.padL z m) = table n z := by
  obtain ⟨f1, f2, f3, f4⟩ := TM.fillB_parts hf
  have hS : TM.Size (2 ^ n) := by rcases hn with rfl | rfl; exact .inl rfl; exact .inr rfl
  unfold table
  apply TM.tab_congr
  intro p hp
  have hF : ∀ q, q < 2 ^ n → TM.F (TM.padL z m) (2 ^ n) (TM.padL z m).length q = TM.F z (2 ^ n) z.length q := fun q hq => by
    rw [TM.padL_length]
    exact TM.F_pad z m (2 ^ n) hS f1 f4 q hq
  have hc : ∀ v q, q ≤ 2 ^ n → TM.cntEq (TM.F (TM.padL z m) (2 ^ n) (TM.padL z m).length) v q = TM.cntEq (TM.F z (2 ^ n) z.length) v q := by
    intro v q
    induction q with
    | zero => intro _; rfl
    | succ q ih =>
      intro hq
      simp only [TM.cntEq, ih (by omega), hF q (by omega)]
  have hX : TM.X (TM.padL z m) (TM.F (TM.padL z m) (2 ^ n) (TM.padL z m).length) p = TM.X z (TM.F z (2 ^ n) z.length) p := by
    unfold TM.X
    rw [hF p hp, hc _ p (by omega), TM.padL_getD]
  unfold TM.st
  rw [hF p hp, hX]
end Go.Proofs.YtbhemchnjpajiaaGreatDoor

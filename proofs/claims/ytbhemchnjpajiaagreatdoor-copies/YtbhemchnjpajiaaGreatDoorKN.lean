/- Several texts in one: PrNx. -/
import Derived.Test.YtbhemchnjpajiaaGreatDoorKM
/- The next states of the three tables (package sequences), walked. Written by mkns.py. -/
namespace Go.Proofs.YtbhemchnjpajiaaGreatDoor
open Go.RowKit
set_option linter.unusedVariables false

/-- A state of a table. -/
def StOk (t : RD.Tab) (x : CM.Tri) : Prop := 0 ≤ x.1 ∧ x.1 ≤ 15 ∧ 0 ≤ x.2.1 ∧ x.2.1 ≤ 6 ∧ 0 ≤ x.2.2 ∧ x.2.2 + 2 ^ x.2.1.toNat ≤ 2 ^ t.log
def NSPost (p i : Nat) (t0 t1 t2 : RD.Tab) (x0 x1 x2 : CM.Tri) (s : RD.Bytes) (w : World) (e : Ending) (w' : World) : Prop :=
  e = .returned (.agg (stL (RD.triAt t0.l (x0.2.2 + RD.pk (RD.bitsOf s) i x0.2.1.toNat)) (RD.triAt t1.l (x1.2.2 + RD.pk (RD.bitsOf s) (i + x0.2.1.toNat + x2.2.1.toNat) x1.2.1.toNat)) (RD.triAt t2.l (x2.2.2 + RD.pk (RD.bitsOf s) (i + x0.2.1.toNat) x2.2.1.toNat))).toArray) ∧
    BAt w' p s (i + x0.2.1.toNat + x2.2.1.toNat + x1.2.1.toNat) ∧ Only (fun b => b = p) w w'
theorem StOk.nat {t : RD.Tab} {x : CM.Tri} (h : StOk t x) : ∃ A B C : Nat, x = ((A : Int), (B : Int), (C : Int)) ∧ A ≤ 15 ∧ B ≤ 6 ∧ (C : Int) + 2 ^ B ≤ 2 ^ t.log := by
  obtain ⟨a, b, c⟩ := x
  obtain ⟨h1, h2, h3, h4, h5, h6⟩ := h
  simp only [] at h1 h2 h3 h4 h5 h6
  obtain ⟨A, rfl⟩ := Int.eq_ofNat_of_zero_le h1
  obtain ⟨B, rfl⟩ := Int.eq_ofNat_of_zero_le h3
  obtain ⟨C, rfl⟩ := Int.eq_ofNat_of_zero_le h5
  exact ⟨A, B, C, rfl, by omega, by omega, by simpa using h6⟩
theorem ixP0 (a b c : Value) (W : World) : (Instr.index 135 (.agg #[a, b, c]) (.int .i64 0)).run Tryz.prog W = .ok a W := by kernel_rfl
theorem ixP1 (a b c : Value) (W : World) : (Instr.index 135 (.agg #[a, b, c]) (.int .i64 1)).run Tryz.prog W = .ok b W := by kernel_rfl
theorem ixP2 (a b c : Value) (W : World) : (Instr.index 135 (.agg #[a, b, c]) (.int .i64 2)).run Tryz.prog W = .ok c W := by kernel_rfl

set_option maxRecDepth 100000 in
set_option maxHeartbeats 4000000 in
theorem nextStates_any (g o p i : Nat) (t : TypeId) (gs : List Value) (t0 t1 t2 : RD.Tab) (x0 x1 x2 : CM.Tri) (s : RD.Bytes) (w : World) (hG : Blk w g t gs) (hT : TabsAt w gs o t0 t1 t2) (f0 : RD.TabFine t0) (f1 : RD.TabFine t1) (f2 : RD.TabFine t2)
    (e0 : StOk t0 x0) (e1 : StOk t1 x1) (e2 : StOk t2 x2) (h : BAt w p s i) (hs : s.length ≤ 1048576) (hi : i ≤ 1099511627) (hp0 : ∀ a, lives' w gs o a → a ≠ p) (hgp : g ≠ p) :
    Calls Tryz.prog 150 #[.pointer (some ⟨g, o, none⟩), .agg (stL x0 x1 x2).toArray, .pointer (some ⟨p, 0, none⟩)] w (NSPost p i t0 t1 t2 x0 x1 x2 s w) := by
  obtain ⟨v0, v1, v2, g1, g2, g3, g4, g5, g6, ⟨a0, k0, rfl, T0⟩, ⟨a1, k1, rfl, T1⟩, ⟨a2, k2, rfl, T2⟩⟩ := hT.ex
  have l0 := f0.pos
  have l1 := f1.pos
  have l2 := f2.pos
  obtain ⟨b0, rfl, hb0, T0⟩ := T0.resolve_left (by omega)
  obtain ⟨b1, rfl, hb1, T1⟩ := T1.resolve_left (by omega)
  obtain ⟨b2, rfl, hb2, T2⟩ := T2.resolve_left (by omega)
  have n0 : b0 ≠ p := hp0 b0 ⟨_, _, _, .inl g2⟩
  have n1 : b1 ≠ p := hp0 b1 ⟨_, _, _, .inr (.inl g4)⟩
  have n2 : b2 ≠ p := hp0 b2 ⟨_, _, _, .inr (.inr g6)⟩
  have hgl := hG.lt
  have hpl := Blk.lt h
  have c2 := hG.cell g2
  have c4 := hG.cell g4
  have c6 := hG.cell g6
  obtain ⟨A0, B0, C0, rfl, hA0, hB0, hC0⟩ := e0.nat
  obtain ⟨A1, B1, C1, rfl, hA1, hB1, hC1⟩ := e1.nat
  obtain ⟨A2, B2, C2, rfl, hA2, hB2, hC2⟩ := e2.nat
  have hbb := RD.bitsOf_bound s
  have m0 := RD.pk_bound hbb i B0
  have m2 := RD.pk_bound hbb (i + B0) B2
  have m1 := RD.pk_bound hbb (i + B0 + B2) B1
  obtain ⟨P0, hP0⟩ := Int.eq_ofNat_of_zero_le m0.1
  obtain ⟨P1, hP1⟩ := Int.eq_ofNat_of_zero_le m1.1
  obtain ⟨P2, hP2⟩ := Int.eq_ofNat_of_zero_le m2.1
  have z0 : C0 + P0 < t0.l.length := by rw [f0.1]; have e : ((2 ^ t0.log : Nat) : Int) = 2 ^ t0.log := by simp
                                        omega
  have z1 : C1 + P1 < t1.l.length := by rw [f1.1]; have e : ((2 ^ t1.log : Nat) : Int) = 2 ^ t1.log := by simp
                                        omega
  have z2 : C2 + P2 < t2.l.length := by rw [f2.1]; have e : ((2 ^ t2.log : Nat) : Int) = 2 ^ t2.log := by simp
                                        omega
  have L0 : t0.l.length ≤ 64 := by rw [f0.1]; exact Nat.pow_le_pow_right (by omega) f0.2.1
  have L1 : t1.l.length ≤ 64 := by rw [f1.1]; exact Nat.pow_le_pow_right (by omega) f1.2.1
  have L2 : t2.l.length ≤ 64 := by rw [f2.1]; exact Nat.pow_le_pow_right (by omega) f2.2.1
  obtain ⟨ce00, ce01, ce02⟩ := tri_cells T0 z0
  obtain ⟨ce10, ce11, ce12⟩ := tri_cells T1 z1
  obtain ⟨ce20, ce21, ce22⟩ := tri_cells T2 z2
  have hfin : Hid (∀ e w', (e = .returned (.agg (stL (RD.triAt t0.l ((C0 + P0 : Nat) : Int)) (RD.triAt t1.l ((C1 + P1 : Nat) : Int)) (RD.triAt t2.l ((C2 + P2 : Nat) : Int))).toArray) ∧ BAt w' p s (i + B0 + B2 + B1) ∧ Only (fun b => b = p) w w') → NSPost p i t0 t1 t2 ((A0 : Int), (B0 : Int), (C0 : Int)) ((A1 : Int), (B1 : Int), (C1 : Int)) ((A2 : Int), (B2 : Int), (C2 : Int)) s w e w') := by
    intro e w' hh
    unfold NSPost
    simp only [Int.toNat_natCast, hP0, hP1, hP2]
    simpa using hh
  have tk0 : ∀ W, BAt W p s i → Calls Tryz.prog 164 #[.pointer (some ⟨p, 0, none⟩), .int .i64 (B0 : Int)] W fun e w' => e = .returned (.int .i64 (P0 : Int)) ∧ BAt w' p s (i + B0) ∧ Only (· = p) W w' := fun W hW => by
    have := btake p s i B0 W hW hs (by omega) (by omega)
    rw [hP0] at this
    exact this
  have tk2 : ∀ W, BAt W p s (i + B0) → Calls Tryz.prog 164 #[.pointer (some ⟨p, 0, none⟩), .int .i64 (B2 : Int)] W fun e w' => e = .returned (.int .i64 (P2 : Int)) ∧ BAt w' p s (i + B0 + B2) ∧ Only (· = p) W w' := fun W hW => by
    have := btake p s (i + B0) B2 W hW hs (by omega) (by omega)
    rw [hP2] at this
    exact this
  have tk1 : ∀ W, BAt W p s (i + B0 + B2) → Calls Tryz.prog 164 #[.pointer (some ⟨p, 0, none⟩), .int .i64 (B1 : Int)] W fun e w' => e = .returned (.int .i64 (P1 : Int)) ∧ BAt w' p s (i + B0 + B2 + B1) ∧ Only (· = p) W w' := fun W hW => by
    have := btake p s (i + B0 + B2) B1 W hW hs (by omega) (by omega)
    rw [hP1] at this
    exact this
  clear m0 m1 m2 hP0 hP1 hP2 T0 T1 T2 hbb hC0 hC1 hC2 e0 e1 e2
  generalize RD.triAt t0.l ((C0 + P0 : Nat) : Int) = y0 at *
  generalize RD.triAt t1.l ((C1 + P1 : Nat) : Int) = y1 at *
  generalize RD.triAt t2.l ((C2 + P2 : Nat) : Int) = y2 at *
  have iw0 : IntKind.i64.wrap ((C0 : Int) + (P0 : Int)) = (C0 : Int) + (P0 : Int) := by rw [IntKind.wrap_i64]; omega
  have ia0 : (0 : Int) ≤ (C0 : Int) + (P0 : Int) := by omega
  have ib0 : (C0 : Int) + (P0 : Int) < (t0.l.length : Int) := by omega
  have ic0 : ((C0 : Int) + (P0 : Int)).toNat = C0 + P0 := by omega
  have iw1 : IntKind.i64.wrap ((C1 : Int) + (P1 : Int)) = (C1 : Int) + (P1 : Int) := by rw [IntKind.wrap_i64]; omega
  have ia1 : (0 : Int) ≤ (C1 : Int) + (P1 : Int) := by omega
  have ib1 : (C1 : Int) + (P1 : Int) < (t1.l.length : Int) := by omega
  have ic1 : ((C1 : Int) + (P1 : Int)).toNat = C1 + P1 := by omega
  have iw2 : IntKind.i64.wrap ((C2 : Int) + (P2 : Int)) = (C2 : Int) + (P2 : Int) := by rw [IntKind.wrap_i64]; omega
  have ia2 : (0 : Int) ≤ (C2 : Int) + (P2 : Int) := by omega
  have ib2 : (C2 : Int) + (P2 : Int) < (t2.l.length : Int) := by omega
  have ic2 : ((C2 : Int) + (P2 : Int)).toNat = C2 + P2 := by omega
  have ixA := ixP0
  have ixB := ixP1
  have ixC := ixP2
  go_enter Tryz.func150, Tryz.ntmps150
  go_wp2_with fail
  have hF0 : Blk ((w.alloc (.cells (stL ((A0 : Int), (B0 : Int), (C0 : Int)) ((A1 : Int), (B1 : Int), (C1 : Int)) ((A2 : Int), (B2 : Int), (C2 : Int))).toArray 275)).alloc (.cells #[.int .i64 0, .int .i64 0, .int .i64 0, .int .i64 0, .int .i64 0, .int .i64 0, .int .i64 0, .int .i64 0, .int .i64 0] 275)) w.heap.size 275 [.int .i64 (A0 : Int), .int .i64 (B0 : Int), .int .i64 (C0 : Int), .int .i64 (A1 : Int), .int .i64 (B1 : Int), .int .i64 (C1 : Int), .int .i64 (A2 : Int), .int .i64 (B2 : Int), .int .i64 (C2 : Int)] := (Blk.new w 275 (stL ((A0 : Int), (B0 : Int), (C0 : Int)) ((A1 : Int), (B1 : Int), (C1 : Int)) ((A2 : Int), (B2 : Int), (C2 : Int)))).alloc _
  have hR0 : Blk ((w.alloc (.cells (stL ((A0 : Int), (B0 : Int), (C0 : Int)) ((A1 : Int), (B1 : Int), (C1 : Int)) ((A2 : Int), (B2 : Int), (C2 : Int))).toArray 275)).alloc (.cells #[.int .i64 0, .int .i64 0, .int .i64 0, .int .i64 0, .int .i64 0, .int .i64 0, .int .i64 0, .int .i64 0, .int .i64 0] 275)) (w.heap.size + 1) 275 [.int .i64 0, .int .i64 0, .int .i64 0, .int .i64 0, .int .i64 0, .int .i64 0, .int .i64 0, .int .i64 0, .int .i64 0] := by
    have := Blk.new (w.alloc (.cells (stL ((A0 : Int), (B0 : Int), (C0 : Int)) ((A1 : Int), (B1 : Int), (C1 : Int)) ((A2 : Int), (B2 : Int), (C2 : Int))).toArray 275)) 275 [.int .i64 0, .int .i64 0, .int .i64 0, .int .i64 0, .int .i64 0, .int .i64 0, .int .i64 0, .int .i64 0, .int .i64 0]
    simpa using this
  have hb0' : Below w.heap.size w ((w.alloc (.cells (stL ((A0 : Int), (B0 : Int), (C0 : Int)) ((A1 : Int), (B1 : Int), (C1 : Int)) ((A2 : Int), (B2 : Int), (C2 : Int))).toArray 275)).alloc (.cells #[.int .i64 0, .int .i64 0, .int .i64 0, .int .i64 0, .int .i64 0, .int .i64 0, .int .i64 0, .int .i64 0, .int .i64 0] 275)) := ((Below.refl _ w).alloc (Nat.le_refl _) _).alloc (by simp) _
  generalize ((w.alloc (.cells (stL ((A0 : Int), (B0 : Int), (C0 : Int)) ((A1 : Int), (B1 : Int), (C1 : Int)) ((A2 : Int), (B2 : Int), (C2 : Int))).toArray 275)).alloc (.cells #[.int .i64 0, .int .i64 0, .int .i64 0, .int .i64 0, .int .i64 0, .int .i64 0, .int .i64 0, .int .i64 0, .int .i64 0] 275)) = w2 at *
  have hi0 : BAt w2 p s i := Blk.below h hb0' hpl
  have hO0 : Only (fun b => b = p) w w2 := below_only hb0'
  obtain ⟨S, hS⟩ : ∃ S, S = w.heap.size := ⟨_, rfl⟩
  rw [← hS] at hF0 hR0 hpl hgl hb0 hb1 hb2
  rw [← hS]
  replace hS := hid' hS
  clear hb0'
  go_loopg [11] 4 (fun gh kv wr => ∃ (k j : Nat) (cs : List Value), gh = 4 - k ∧ k ≤ 3 ∧ kv = .int .i64 (k : Int) ∧ Hid ((k = 0 ∧ j = i ∧ cs = [.int .i64 (A0 : Int), .int .i64 (B0 : Int), .int .i64 (C0 : Int), .int .i64 (A1 : Int), .int .i64 (B1 : Int), .int .i64 (C1 : Int), .int .i64 (A2 : Int), .int .i64 (B2 : Int), .int .i64 (C2 : Int)]) ∨ (k = 1 ∧ j = (i + B0) ∧ cs = [.int .i64 y0.1, .int .i64 y0.2.1, .int .i64 y0.2.2, .int .i64 (A1 : Int), .int .i64 (B1 : Int), .int .i64 (C1 : Int), .int .i64 (A2 : Int), .int .i64 (B2 : Int), .int .i64 (C2 : Int)]) ∨ (k = 2 ∧ j = (i + B0 + B2) ∧ cs = [.int .i64 y0.1, .int .i64 y0.2.1, .int .i64 y0.2.2, .int .i64 (A1 : Int), .int .i64 (B1 : Int), .int .i64 (C1 : Int), .int .i64 y2.1, .int .i64 y2.2.1, .int .i64 y2.2.2]) ∨ (k = 3 ∧ j = (i + B0 + B2 + B1) ∧ cs = [.int .i64 y0.1, .int .i64 y0.2.1, .int .i64 y0.2.2, .int .i64 y1.1, .int .i64 y1.2.1, .int .i64 y1.2.2, .int .i64 y2.1, .int .i64 y2.2.1, .int .i64 y2.2.2])) ∧
      BAt wr p s j ∧ Blk wr S 275 cs ∧ (∃ rs, Blk wr (S + 1) 275 rs ∧ rs.length = 9) ∧ Only (fun b => b = p) w wr)
  case atStart => exact ⟨0, i, _, by omega, by omega, rfl, .inl ⟨rfl, rfl, rfl⟩, hi0, hF0, ⟨_, hR0, rfl⟩, hO0⟩
  case round =>
    obtain ⟨k, j, cs, rfl, hk, rfl, hA, hbi, hF, ⟨rs, hR, hrl⟩, hO⟩ := hrel
    have hsz := hO.size
    rw [← hS.out] at hsz
    have hFl := hF.lt
    have hRl := hR.lt
    rcases hA.out with ⟨rfl, hj0, rfl⟩ | ⟨rfl, rfl, rfl⟩ | ⟨rfl, rfl, rfl⟩ | ⟨rfl, rfl, rfl⟩
    · rw [hj0] at hbi
      have w0 := hO.cell ce00 (by have := hS.out; omega) n0
      have w1 := hO.cell ce01 (by have := hS.out; omega) n0
      have w2 := hO.cell ce02 (by have := hS.out; omega) n0
      have cg := hO.cell c2 (by have := hS.out; omega) hgp
      have t0' := hF.cell (j := 0) rfl
      have t1' := hF.cell (j := 1) rfl
      have t2' := hF.cell (j := 2) rfl
      have hOa : Only (fun b => b = p) w (wr.alloc (.cells #[.int .i64 (A0 : Int), .int .i64 (B0 : Int), .int .i64 (C0 : Int)] 226)) := hO.alloc _
      have hba : Below wr.heap.size wr (wr.alloc (.cells #[.int .i64 (A0 : Int), .int .i64 (B0 : Int), .int .i64 (C0 : Int)] 226)) := (Below.refl _ wr).alloc (Nat.le_refl _) _
      have hN : Blk (wr.alloc (.cells #[.int .i64 (A0 : Int), .int .i64 (B0 : Int), .int .i64 (C0 : Int)] 226)) wr.heap.size 226 [.int .i64 (A0 : Int), .int .i64 (B0 : Int), .int .i64 (C0 : Int)] := Blk.new _ _ _
      go_wp2_with fail
      have hbi' : BAt _ p s i := Blk.below hbi hba (Blk.lt hbi)
      have hF' := hF.below hba hFl
      have hR' := hR.below hba hR.lt
      have v0' := (World.cell?_of_block (w := wr) (a := ⟨b0, (C0 + P0) * 3, none⟩) (hba.block b0 (by omega))).trans w0
      have v1' := (World.cell?_of_block (w := wr) (a := ⟨b0, (C0 + P0) * 3 + 1, none⟩) (hba.block b0 (by omega))).trans w1
      have v2' := (World.cell?_of_block (w := wr) (a := ⟨b0, (C0 + P0) * 3 + 2, none⟩) (hba.block b0 (by omega))).trans w2
      have cg' := (World.cell?_of_block (w := wr) (a := ⟨g, o + 2, none⟩) (hba.block g (by omega))).trans cg
      have hbl := hba.size
      generalize (wr.alloc (.cells #[.int .i64 (A0 : Int), .int .i64 (B0 : Int), .int .i64 (C0 : Int)] 226)) = w4 at *
      have hNl := hN.lt
      have hNp : ¬ wr.heap.size = p := by omega
      have hFp : ¬ S = p := by omega
      have hRp : ¬ S + 1 = p := by omega
      have yy0 := hN.cell (j := 0) rfl
      have yy1 := hN.cell (j := 1) rfl
      have yy2 := hN.cell (j := 2) rfl
      have hbw : b0 < w4.heap.size := by omega
      have hgw : g < w4.heap.size := by omega
      have cgA : w4.cell? ⟨g, o + 1 + 0 + 1, none⟩ = some (.slice (some ⟨b0, 0, none⟩) t0.l.length k0) := cg'
      have cgB : w4.cell? ⟨g, o + 1 + 1, none⟩ = some (.slice (some ⟨b0, 0, none⟩) t0.l.length k0) := cg'
      clear hA hbi hF hR hO w0 w1 w2 hba t0' t1' t2' cg
      replace hN := hid' hN
      replace hF' := hid' hF'
      replace hR' := hid' hR'
      replace hOa := hid' hOa
      generalize wr.heap.size = M at *
      go_region_with (go_at_call 164; refine (tk0 w4.drew hbi').mono ?_; rintro e w5 ⟨rfl, hb5, ho5x⟩; (have ho5 := undrewO ho5x); (have yy0' := ho5.cell yy0 hNl hNp); (have yy1' := ho5.cell yy1 hNl hNp); (have yy2' := ho5.cell yy2 hNl hNp); (have cg5 := ho5.cell cg' hgw hgp); (have cg5A := ho5.cell cgA hgw hgp); (have cg5B := ho5.cell cgB hgw hgp); (have v0'' := ho5.cell v0' hbw n0); (have v1'' := ho5.cell v1' hbw n0); (have v2'' := ho5.cell v2' hbw n0); (have hF5 := hF'.out.only ho5 hFp); (have fz := hF5.free); (have d0 := hF5.cell (j := 0) rfl); (have d1 := hF5.cell (j := 1) rfl); (have d2 := hF5.cell (j := 2) rfl); (replace hF5 := hid' hF5))
      all_goals
        have hF6 := ((hF5.out.put 0 (.int .i64 y0.1)).put 1 (.int .i64 y0.2.1)).put 2 (.int .i64 y0.2.2)
        have hb6 : BAt (((w5.setCell ⟨S, 0, none⟩ (.int .i64 y0.1)).setCell ⟨S, 1, none⟩ (.int .i64 y0.2.1)).setCell ⟨S, 2, none⟩ (.int .i64 y0.2.2)) p s (i + B0) := Blk.other (Blk.other (Blk.other hb5 ⟨S, 0, none⟩ _ (fun e => hFp e.symm)) ⟨S, 1, none⟩ _ (fun e => hFp e.symm)) ⟨S, 2, none⟩ _ (fun e => hFp e.symm)
        have hR6 := (((hR'.out.only ho5 hRp).other ⟨S, 0, none⟩ (.int .i64 y0.1) (by show S + 1 ≠ S; omega)).other ⟨S, 1, none⟩ (.int .i64 y0.2.1) (by show S + 1 ≠ S; omega)).other ⟨S, 2, none⟩ (.int .i64 y0.2.2) (by show S + 1 ≠ S; omega)
        have hO6 : Only (fun b => b = p) w (((w5.setCell ⟨S, 0, none⟩ (.int .i64 y0.1)).setCell ⟨S, 1, none⟩ (.int .i64 y0.2.1)).setCell ⟨S, 2, none⟩ (.int .i64 y0.2.2)) :=
          (((hOa.out.trans ho5).setCell _ _ (fun e => absurd e (by have := hS.out; show ¬ (S < _); omega))).setCell _ _ (fun e => absurd e (by have := hS.out; show ¬ (S < _); omega))).setCell _ _ (fun e => absurd e (by have := hS.out; show ¬ (S < _); omega))
        replace hF6 := hid' hF6
        replace hb6 := hid' hb6
        replace hR6 := hid' hR6
        replace hO6 := hid' hO6
        go_wp2_with fail
        go_roundg (4 - 1)
        case rel => exact ⟨1, (i + B0), _, by omega, by omega, by go_num, .inr (.inl ⟨rfl, rfl, rfl⟩), hb6.out, hF6.out, ⟨rs, hR6.out, hrl⟩, hO6.out⟩
        case measure => omega
    · skip
      have w0 := hO.cell ce20 (by have := hS.out; omega) n2
      have w1 := hO.cell ce21 (by have := hS.out; omega) n2
      have w2 := hO.cell ce22 (by have := hS.out; omega) n2
      have cg := hO.cell c6 (by have := hS.out; omega) hgp
      have t0' := hF.cell (j := 6) rfl
      have t1' := hF.cell (j := 7) rfl
      have t2' := hF.cell (j := 8) rfl
      have hOa : Only (fun b => b = p) w (wr.alloc (.cells #[.int .i64 (A2 : Int), .int .i64 (B2 : Int), .int .i64 (C2 : Int)] 226)) := hO.alloc _
      have hba : Below wr.heap.size wr (wr.alloc (.cells #[.int .i64 (A2 : Int), .int .i64 (B2 : Int), .int .i64 (C2 : Int)] 226)) := (Below.refl _ wr).alloc (Nat.le_refl _) _
      have hN : Blk (wr.alloc (.cells #[.int .i64 (A2 : Int), .int .i64 (B2 : Int), .int .i64 (C2 : Int)] 226)) wr.heap.size 226 [.int .i64 (A2 : Int), .int .i64 (B2 : Int), .int .i64 (C2 : Int)] := Blk.new _ _ _
      go_wp2_with fail
      have hbi' : BAt _ p s (i + B0) := Blk.below hbi hba (Blk.lt hbi)
      have hF' := hF.below hba hFl
      have hR' := hR.below hba hR.lt
      have v0' := (World.cell?_of_block (w := wr) (a := ⟨b2, (C2 + P2) * 3, none⟩) (hba.block b2 (by omega))).trans w0
      have v1' := (World.cell?_of_block (w := wr) (a := ⟨b2, (C2 + P2) * 3 + 1, none⟩) (hba.block b2 (by omega))).trans w1
      have v2' := (World.cell?_of_block (w := wr) (a := ⟨b2, (C2 + P2) * 3 + 2, none⟩) (hba.block b2 (by omega))).trans w2
      have cg' := (World.cell?_of_block (w := wr) (a := ⟨g, o + 6, none⟩) (hba.block g (by omega))).trans cg
      have hbl := hba.size
      generalize (wr.alloc (.cells #[.int .i64 (A2 : Int), .int .i64 (B2 : Int), .int .i64 (C2 : Int)] 226)) = w4 at *
      have hNl := hN.lt
      have hNp : ¬ wr.heap.size = p := by omega
      have hFp : ¬ S = p := by omega
      have hRp : ¬ S + 1 = p := by omega
      have yy0 := hN.cell (j := 0) rfl
      have yy1 := hN.cell (j := 1) rfl
      have yy2 := hN.cell (j := 2) rfl
      have hbw : b2 < w4.heap.size := by omega
      have hgw : g < w4.heap.size := by omega
      have cgA : w4.cell? ⟨g, o + 1 + 4 + 1, none⟩ = some (.slice (some ⟨b2, 0, none⟩) t2.l.length k2) := cg'
      have cgB : w4.cell? ⟨g, o + 1 + 5, none⟩ = some (.slice (some ⟨b2, 0, none⟩) t2.l.length k2) := cg'
      clear hA hbi hF hR hO w0 w1 w2 hba t0' t1' t2' cg
      replace hN := hid' hN
      replace hF' := hid' hF'
      replace hR' := hid' hR'
      replace hOa := hid' hOa
      generalize wr.heap.size = M at *
      go_region_with (go_at_call 164; refine (tk2 w4.drew hbi').mono ?_; rintro e w5 ⟨rfl, hb5, ho5x⟩; (have ho5 := undrewO ho5x); (have yy0' := ho5.cell yy0 hNl hNp); (have yy1' := ho5.cell yy1 hNl hNp); (have yy2' := ho5.cell yy2 hNl hNp); (have cg5 := ho5.cell cg' hgw hgp); (have cg5A := ho5.cell cgA hgw hgp); (have cg5B := ho5.cell cgB hgw hgp); (have v0'' := ho5.cell v0' hbw n2); (have v1'' := ho5.cell v1' hbw n2); (have v2'' := ho5.cell v2' hbw n2); (have hF5 := hF'.out.only ho5 hFp); (have fz := hF5.free); (have d0 := hF5.cell (j := 6) rfl); (have d1 := hF5.cell (j := 7) rfl); (have d2 := hF5.cell (j := 8) rfl); (replace hF5 := hid' hF5))
      all_goals
        have hF6 := ((hF5.out.put 6 (.int .i64 y2.1)).put 7 (.int .i64 y2.2.1)).put 8 (.int .i64 y2.2.2)
        have hb6 : BAt (((w5.setCell ⟨S, 6, none⟩ (.int .i64 y2.1)).setCell ⟨S, 7, none⟩ (.int .i64 y2.2.1)).setCell ⟨S, 8, none⟩ (.int .i64 y2.2.2)) p s (i + B0 + B2) := Blk.other (Blk.other (Blk.other hb5 ⟨S, 6, none⟩ _ (fun e => hFp e.symm)) ⟨S, 7, none⟩ _ (fun e => hFp e.symm)) ⟨S, 8, none⟩ _ (fun e => hFp e.symm)
        have hR6 := (((hR'.out.only ho5 hRp).other ⟨S, 6, none⟩ (.int .i64 y2.1) (by show S + 1 ≠ S; omega)).other ⟨S, 7, none⟩ (.int .i64 y2.2.1) (by show S + 1 ≠ S; omega)).other ⟨S, 8, none⟩ (.int .i64 y2.2.2) (by show S + 1 ≠ S; omega)
        have hO6 : Only (fun b => b = p) w (((w5.setCell ⟨S, 6, none⟩ (.int .i64 y2.1)).setCell ⟨S, 7, none⟩ (.int .i64 y2.2.1)).setCell ⟨S, 8, none⟩ (.int .i64 y2.2.2)) :=
          (((hOa.out.trans ho5).setCell _ _ (fun e => absurd e (by have := hS.out; show ¬ (S < _); omega))).setCell _ _ (fun e => absurd e (by have := hS.out; show ¬ (S < _); omega))).setCell _ _ (fun e => absurd e (by have := hS.out; show ¬ (S < _); omega))
        replace hF6 := hid' hF6
        replace hb6 := hid' hb6
        replace hR6 := hid' hR6
        replace hO6 := hid' hO6
        go_wp2_with fail
        go_roundg (4 - 2)
        case rel => exact ⟨2, (i + B0 + B2), _, by omega, by omega, by go_num, .inr (.inr (.inl ⟨rfl, rfl, rfl⟩)), hb6.out, hF6.out, ⟨rs, hR6.out, hrl⟩, hO6.out⟩
        case measure => omega
    · skip
      have w0 := hO.cell ce10 (by have := hS.out; omega) n1
      have w1 := hO.cell ce11 (by have := hS.out; omega) n1
      have w2 := hO.cell ce12 (by have := hS.out; omega) n1
      have cg := hO.cell c4 (by have := hS.out; omega) hgp
      have t0' := hF.cell (j := 3) rfl
      have t1' := hF.cell (j := 4) rfl
      have t2' := hF.cell (j := 5) rfl
      have hOa : Only (fun b => b = p) w (wr.alloc (.cells #[.int .i64 (A1 : Int), .int .i64 (B1 : Int), .int .i64 (C1 : Int)] 226)) := hO.alloc _
      have hba : Below wr.heap.size wr (wr.alloc (.cells #[.int .i64 (A1 : Int), .int .i64 (B1 : Int), .int .i64 (C1 : Int)] 226)) := (Below.refl _ wr).alloc (Nat.le_refl _) _
      have hN : Blk (wr.alloc (.cells #[.int .i64 (A1 : Int), .int .i64 (B1 : Int), .int .i64 (C1 : Int)] 226)) wr.heap.size 226 [.int .i64 (A1 : Int), .int .i64 (B1 : Int), .int .i64 (C1 : Int)] := Blk.new _ _ _
      go_wp2_with fail
      have hbi' : BAt _ p s (i + B0 + B2) := Blk.below hbi hba (Blk.lt hbi)
      have hF' := hF.below hba hFl
      have hR' := hR.below hba hR.lt
      have v0' := (World.cell?_of_block (w := wr) (a := ⟨b1, (C1 + P1) * 3, none⟩) (hba.block b1 (by omega))).trans w0
      have v1' := (World.cell?_of_block (w := wr) (a := ⟨b1, (C1 + P1) * 3 + 1, none⟩) (hba.block b1 (by omega))).trans w1
      have v2' := (World.cell?_of_block (w := wr) (a := ⟨b1, (C1 + P1) * 3 + 2, none⟩) (hba.block b1 (by omega))).trans w2
      have cg' := (World.cell?_of_block (w := wr) (a := ⟨g, o + 4, none⟩) (hba.block g (by omega))).trans cg
      have hbl := hba.size
      generalize (wr.alloc (.cells #[.int .i64 (A1 : Int), .int .i64 (B1 : Int), .int .i64 (C1 : Int)] 226)) = w4 at *
      have hNl := hN.lt
      have hNp : ¬ wr.heap.size = p := by omega
      have hFp : ¬ S = p := by omega
      have hRp : ¬ S + 1 = p := by omega
      have yy0 := hN.cell (j := 0) rfl
      have yy1 := hN.cell (j := 1) rfl
      have yy2 := hN.cell (j := 2) rfl
      have hbw : b1 < w4.heap.size := by omega
      have hgw : g < w4.heap.size := by omega
      have cgA : w4.cell? ⟨g, o + 1 + 2 + 1, none⟩ = some (.slice (some ⟨b1, 0, none⟩) t1.l.length k1) := cg'
      have cgB : w4.cell? ⟨g, o + 1 + 3, none⟩ = some (.slice (some ⟨b1, 0, none⟩) t1.l.length k1) := cg'
      clear hA hbi hF hR hO w0 w1 w2 hba t0' t1' t2' cg
      replace hN := hid' hN
      replace hF' := hid' hF'
      replace hR' := hid' hR'
      replace hOa := hid' hOa
      generalize wr.heap.size = M at *
      go_region_with (go_at_call 164; refine (tk1 w4.drew hbi').mono ?_; rintro e w5 ⟨rfl, hb5, ho5x⟩; (have ho5 := undrewO ho5x); (have yy0' := ho5.cell yy0 hNl hNp); (have yy1' := ho5.cell yy1 hNl hNp); (have yy2' := ho5.cell yy2 hNl hNp); (have cg5 := ho5.cell cg' hgw hgp); (have cg5A := ho5.cell cgA hgw hgp); (have cg5B := ho5.cell cgB hgw hgp); (have v0'' := ho5.cell v0' hbw n1); (have v1'' := ho5.cell v1' hbw n1); (have v2'' := ho5.cell v2' hbw n1); (have hF5 := hF'.out.only ho5 hFp); (have fz := hF5.free); (have d0 := hF5.cell (j := 3) rfl); (have d1 := hF5.cell (j := 4) rfl); (have d2 := hF5.cell (j := 5) rfl); (replace hF5 := hid' hF5))
      all_goals
        have hF6 := ((hF5.out.put 3 (.int .i64 y1.1)).put 4 (.int .i64 y1.2.1)).put 5 (.int .i64 y1.2.2)
        have hb6 : BAt (((w5.setCell ⟨S, 3, none⟩ (.int .i64 y1.1)).setCell ⟨S, 4, none⟩ (.int .i64 y1.2.1)).setCell ⟨S, 5, none⟩ (.int .i64 y1.2.2)) p s (i + B0 + B2 + B1) := Blk.other (Blk.other (Blk.other hb5 ⟨S, 3, none⟩ _ (fun e => hFp e.symm)) ⟨S, 4, none⟩ _ (fun e => hFp e.symm)) ⟨S, 5, none⟩ _ (fun e => hFp e.symm)
        have hR6 := (((hR'.out.only ho5 hRp).other ⟨S, 3, none⟩ (.int .i64 y1.1) (by show S + 1 ≠ S; omega)).other ⟨S, 4, none⟩ (.int .i64 y1.2.1) (by show S + 1 ≠ S; omega)).other ⟨S, 5, none⟩ (.int .i64 y1.2.2) (by show S + 1 ≠ S; omega)
        have hO6 : Only (fun b => b = p) w (((w5.setCell ⟨S, 3, none⟩ (.int .i64 y1.1)).setCell ⟨S, 4, none⟩ (.int .i64 y1.2.1)).setCell ⟨S, 5, none⟩ (.int .i64 y1.2.2)) :=
          (((hOa.out.trans ho5).setCell _ _ (fun e => absurd e (by have := hS.out; show ¬ (S < _); omega))).setCell _ _ (fun e => absurd e (by have := hS.out; show ¬ (S < _); omega))).setCell _ _ (fun e => absurd e (by have := hS.out; show ¬ (S < _); omega))
        replace hF6 := hid' hF6
        replace hb6 := hid' hb6
        replace hR6 := hid' hR6
        replace hO6 := hid' hO6
        go_wp2_with fail
        go_roundg (4 - 3)
        case rel => exact ⟨3, (i + B0 + B2 + B1), _, by omega, by omega, by go_num, .inr (.inr (.inr ⟨rfl, rfl, rfl⟩)), hb6.out, hF6.out, ⟨rs, hR6.out, hrl⟩, hO6.out⟩
        case measure => omega
    · have fzF := hF.free
      have fzR := hR.free
      have d0 := hF.cell (j := 0) rfl
      have d1 := hF.cell (j := 1) rfl
      have d2 := hF.cell (j := 2) rfl
      have d3 := hF.cell (j := 3) rfl
      have d4 := hF.cell (j := 4) rfl
      have d5 := hF.cell (j := 5) rfl
      have d6 := hF.cell (j := 6) rfl
      have d7 := hF.cell (j := 7) rfl
      have d8 := hF.cell (j := 8) rfl
      obtain ⟨r0, r1, r2, r3, r4, r5, r6, r7, r8, rfl⟩ : ∃ r0 r1 r2 r3 r4 r5 r6 r7 r8, rs = [r0, r1, r2, r3, r4, r5, r6, r7, r8] := by
        match rs, hrl with
        | [r0, r1, r2, r3, r4, r5, r6, r7, r8], _ => exact ⟨r0, r1, r2, r3, r4, r5, r6, r7, r8, rfl⟩
      have f0' := hR.cell (j := 0) rfl
      have f1' := hR.cell (j := 1) rfl
      have f2' := hR.cell (j := 2) rfl
      have f3' := hR.cell (j := 3) rfl
      have f4' := hR.cell (j := 4) rfl
      have f5' := hR.cell (j := 5) rfl
      have f6' := hR.cell (j := 6) rfl
      have f7' := hR.cell (j := 7) rfl
      have f8' := hR.cell (j := 8) rfl
      have hpS : p ≠ S + 1 := by omega
      have hno : S + 1 < w.heap.size → S + 1 = p := fun e => absurd e (by have := hS.out; omega)
      have hRf : Blk (((((((((wr.setCell ⟨S + 1, 0, none⟩ (.int .i64 y0.1)).setCell ⟨S + 1, 1, none⟩ (.int .i64 y0.2.1)).setCell ⟨S + 1, 2, none⟩ (.int .i64 y0.2.2)).setCell ⟨S + 1, 3, none⟩ (.int .i64 y1.1)).setCell ⟨S + 1, 4, none⟩ (.int .i64 y1.2.1)).setCell ⟨S + 1, 5, none⟩ (.int .i64 y1.2.2)).setCell ⟨S + 1, 6, none⟩ (.int .i64 y2.1)).setCell ⟨S + 1, 7, none⟩ (.int .i64 y2.2.1)).setCell ⟨S + 1, 8, none⟩ (.int .i64 y2.2.2)) (S + 1) 275 (stL y0 y1 y2) := (((((((((hR.put 0 (.int .i64 y0.1)).put 1 (.int .i64 y0.2.1)).put 2 (.int .i64 y0.2.2)).put 3 (.int .i64 y1.1)).put 4 (.int .i64 y1.2.1)).put 5 (.int .i64 y1.2.2)).put 6 (.int .i64 y2.1)).put 7 (.int .i64 y2.2.1)).put 8 (.int .i64 y2.2.2))
      have hbf : BAt (((((((((wr.setCell ⟨S + 1, 0, none⟩ (.int .i64 y0.1)).setCell ⟨S + 1, 1, none⟩ (.int .i64 y0.2.1)).setCell ⟨S + 1, 2, none⟩ (.int .i64 y0.2.2)).setCell ⟨S + 1, 3, none⟩ (.int .i64 y1.1)).setCell ⟨S + 1, 4, none⟩ (.int .i64 y1.2.1)).setCell ⟨S + 1, 5, none⟩ (.int .i64 y1.2.2)).setCell ⟨S + 1, 6, none⟩ (.int .i64 y2.1)).setCell ⟨S + 1, 7, none⟩ (.int .i64 y2.2.1)).setCell ⟨S + 1, 8, none⟩ (.int .i64 y2.2.2)) p s (i + B0 + B2 + B1) := (Blk.other (Blk.other (Blk.other (Blk.other (Blk.other (Blk.other (Blk.other (Blk.other (Blk.other hbi ⟨S + 1, 0, none⟩ (.int .i64 y0.1) hpS) ⟨S + 1, 1, none⟩ (.int .i64 y0.2.1) hpS) ⟨S + 1, 2, none⟩ (.int .i64 y0.2.2) hpS) ⟨S + 1, 3, none⟩ (.int .i64 y1.1) hpS) ⟨S + 1, 4, none⟩ (.int .i64 y1.2.1) hpS) ⟨S + 1, 5, none⟩ (.int .i64 y1.2.2) hpS) ⟨S + 1, 6, none⟩ (.int .i64 y2.1) hpS) ⟨S + 1, 7, none⟩ (.int .i64 y2.2.1) hpS) ⟨S + 1, 8, none⟩ (.int .i64 y2.2.2) hpS)
      have hOf : Only (fun b => b = p) w (((((((((wr.setCell ⟨S + 1, 0, none⟩ (.int .i64 y0.1)).setCell ⟨S + 1, 1, none⟩ (.int .i64 y0.2.1)).setCell ⟨S + 1, 2, none⟩ (.int .i64 y0.2.2)).setCell ⟨S + 1, 3, none⟩ (.int .i64 y1.1)).setCell ⟨S + 1, 4, none⟩ (.int .i64 y1.2.1)).setCell ⟨S + 1, 5, none⟩ (.int .i64 y1.2.2)).setCell ⟨S + 1, 6, none⟩ (.int .i64 y2.1)).setCell ⟨S + 1, 7, none⟩ (.int .i64 y2.2.1)).setCell ⟨S + 1, 8, none⟩ (.int .i64 y2.2.2)) := (((((((((hO.setCell ⟨S + 1, 0, none⟩ (.int .i64 y0.1) hno).setCell ⟨S + 1, 1, none⟩ (.int .i64 y0.2.1) hno).setCell ⟨S + 1, 2, none⟩ (.int .i64 y0.2.2) hno).setCell ⟨S + 1, 3, none⟩ (.int .i64 y1.1) hno).setCell ⟨S + 1, 4, none⟩ (.int .i64 y1.2.1) hno).setCell ⟨S + 1, 5, none⟩ (.int .i64 y1.2.2) hno).setCell ⟨S + 1, 6, none⟩ (.int .i64 y2.1) hno).setCell ⟨S + 1, 7, none⟩ (.int .i64 y2.2.1) hno).setCell ⟨S + 1, 8, none⟩ (.int .i64 y2.2.2) hno)
      go_wp2_with fail
      generalize (((((((((wr.setCell ⟨S + 1, 0, none⟩ (.int .i64 y0.1)).setCell ⟨S + 1, 1, none⟩ (.int .i64 y0.2.1)).setCell ⟨S + 1, 2, none⟩ (.int .i64 y0.2.2)).setCell ⟨S + 1, 3, none⟩ (.int .i64 y1.1)).setCell ⟨S + 1, 4, none⟩ (.int .i64 y1.2.1)).setCell ⟨S + 1, 5, none⟩ (.int .i64 y1.2.2)).setCell ⟨S + 1, 6, none⟩ (.int .i64 y2.1)).setCell ⟨S + 1, 7, none⟩ (.int .i64 y2.2.1)).setCell ⟨S + 1, 8, none⟩ (.int .i64 y2.2.2)) = wF at *
      have h0' := hRf.cell (j := 0) rfl
      have h1' := hRf.cell (j := 1) rfl
      have h2' := hRf.cell (j := 2) rfl
      have h3' := hRf.cell (j := 3) rfl
      have h4' := hRf.cell (j := 4) rfl
      have h5' := hRf.cell (j := 5) rfl
      have h6' := hRf.cell (j := 6) rfl
      have h7' := hRf.cell (j := 7) rfl
      have h8' := hRf.cell (j := 8) rfl
      exact bodyPost_ret (v := .agg (stL y0 y1 y2).toArray) (by simp [results, Tryz.results150, go_sem, stL, *]) rfl (hfin.out _ _ ⟨rfl, hbf, hOf⟩)
end Go.Proofs.YtbhemchnjpajiaaGreatDoor

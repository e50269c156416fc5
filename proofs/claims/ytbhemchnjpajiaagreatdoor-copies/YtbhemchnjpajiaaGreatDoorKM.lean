/- Several texts in one: PrSt. -/
import Derived.Test.YtbhemchnjpajiaaGreatDoorKL
/- The states of the three tables (package sequences), walked. -/
namespace Go.Proofs.YtbhemchnjpajiaaGreatDoor
open Go.RowKit
set_option linter.unusedVariables false

theorem _root_.Go.Proofs.YtbhemchnjpajiaaGreatDoor.RD.TabFine.pos {t : RD.Tab} (h : RD.TabFine t) : 0 < t.l.length := by rw [h.1]; exact Nat.two_pow_pos _
/-- Three states, one of each table. -/
def stL (x0 x1 x2 : CM.Tri) : List Value := [.int .i64 x0.1, .int .i64 x0.2.1, .int .i64 x0.2.2, .int .i64 x1.1, .int .i64 x1.2.1, .int .i64 x1.2.2, .int .i64 x2.1, .int .i64 x2.2.1, .int .i64 x2.2.2]
/-- The tables of a reader of sequences, at their place in memory. -/
structure TabsAt (w : World) (gs : List Value) (o : Nat) (t0 t1 t2 : RD.Tab) : Prop where
  ex : ∃ v0 v1 v2, gs[o + 1]? = some (.int .i64 t0.log) ∧ gs[o + 2]? = some v0 ∧ gs[o + 3]? = some (.int .i64 t1.log) ∧ gs[o + 4]? = some v1 ∧ gs[o + 5]? = some (.int .i64 t2.log) ∧ gs[o + 6]? = some v2 ∧ Tris w v0 t0.l ∧ Tris w v1 t1.l ∧ Tris w v2 t2.l

/-- The block in which a list of states of a reader lies. -/
def lives' (w : World) (gs : List Value) (o a : Nat) : Prop := ∃ (d n c : Nat), gs[o + 2]? = some (.slice (some ⟨a, d, none⟩) n c) ∨ gs[o + 4]? = some (.slice (some ⟨a, d, none⟩) n c) ∨ gs[o + 6]? = some (.slice (some ⟨a, d, none⟩) n c)
theorem undrewO {G : Nat → Prop} {w w' : World} (h : Only G w.drew w') : Only G w w' := ⟨h.os, h.tape, h.output, h.size, h.block⟩
def FSPost (p : Nat) (t0 t1 t2 : RD.Tab) (s : RD.Bytes) (w : World) (e : Ending) (w' : World) : Prop :=
  e = .returned (.agg (stL (RD.triAt t0.l (RD.pk (RD.bitsOf s) 0 t0.log)) (RD.triAt t1.l (RD.pk (RD.bitsOf s) t0.log t1.log)) (RD.triAt t2.l (RD.pk (RD.bitsOf s) (t0.log + t1.log) t2.log))).toArray) ∧
    BAt w' p s (t0.log + t1.log + t2.log) ∧ Only (fun b => b = p) w w'
theorem tri_cells {w : World} {b : Nat} {l : List CM.Tri} (h : ∀ i, i < l.length → w.cell? ⟨b, i * 3, none⟩ = some (.int .i64 (l.getD i (0, 0, 0)).1) ∧ w.cell? ⟨b, i * 3 + 1, none⟩ = some (.int .i64 (l.getD i (0, 0, 0)).2.1) ∧ w.cell? ⟨b, i * 3 + 2, none⟩ = some (.int .i64 (l.getD i (0, 0, 0)).2.2)) {P : Nat} (hP : P < l.length) :
    w.cell? ⟨b, P * 3, none⟩ = some (.int .i64 (RD.triAt l (P : Int)).1) ∧ w.cell? ⟨b, P * 3 + 1, none⟩ = some (.int .i64 (RD.triAt l (P : Int)).2.1) ∧ w.cell? ⟨b, P * 3 + 2, none⟩ = some (.int .i64 (RD.triAt l (P : Int)).2.2) := by
  have := h P hP
  unfold RD.triAt
  rw [Int.toNat_natCast]
  exact this

set_option maxRecDepth 100000 in
set_option maxHeartbeats 4000000 in
theorem firstStates_any (g o p : Nat) (t : TypeId) (gs : List Value) (t0 t1 t2 : RD.Tab) (s : RD.Bytes) (w : World) (hG : Blk w g t gs) (hT : TabsAt w gs o t0 t1 t2) (f0 : RD.TabFine t0) (f1 : RD.TabFine t1) (f2 : RD.TabFine t2) (h : BAt w p s 0) (hs : s.length ≤ 1048576)
    (hp0 : ∀ a, lives' w gs o a → a ≠ p) :
    Calls Tryz.prog 148 #[.pointer (some ⟨g, o, none⟩), .pointer (some ⟨p, 0, none⟩)] w (FSPost p t0 t1 t2 s w) := by
  obtain ⟨v0, v1, v2, g1, g2, g3, g4, g5, g6, ⟨a0, k0, rfl, T0⟩, ⟨a1, k1, rfl, T1⟩, ⟨a2, k2, rfl, T2⟩⟩ := hT.ex
  have l0 := f0.pos
  have l1 := f1.pos
  have l2 := f2.pos
  obtain ⟨b0, rfl, hb0, T0⟩ := T0.resolve_left (by omega)
  obtain ⟨b1, rfl, hb1, T1⟩ := T1.resolve_left (by omega)
  obtain ⟨b2, rfl, hb2, T2⟩ := T2.resolve_left (by omega)
  have n0 : b0 ≠ p := hp0 b0 ⟨_, _, _, .inl g2⟩
  have n1 : b1 ≠ p := hp0 b1 ⟨_, _, _, .inr (.inl g4)⟩
  have n2 : b2 ≠ p := hp0 b2 ⟨_, _, _, .inr (.inr g6)⟩
  have hgl := hG.lt
  have hpl := Blk.lt h
  have c1 := hG.cell g1
  have c2 : w.cell? ⟨g, o + 1 + 1, none⟩ = _ := hG.cell g2
  have c3 : w.cell? ⟨g, o + 1 + 2, none⟩ = _ := hG.cell g3
  have c4 : w.cell? ⟨g, o + 1 + 3, none⟩ = _ := hG.cell g4
  have c5 : w.cell? ⟨g, o + 1 + 4, none⟩ = _ := hG.cell g5
  have c6 : w.cell? ⟨g, o + 1 + 5, none⟩ = _ := hG.cell g6
  have q0 := f0.2.1
  have q1 := f1.2.1
  have q2 := f2.2.1
  have hbb := RD.bitsOf_bound s
  have m0 := RD.pk_bound hbb 0 t0.log
  have m1 := RD.pk_bound hbb t0.log t1.log
  have m2 := RD.pk_bound hbb (t0.log + t1.log) t2.log
  obtain ⟨P0, hP0⟩ := Int.eq_ofNat_of_zero_le m0.1
  obtain ⟨P1, hP1⟩ := Int.eq_ofNat_of_zero_le m1.1
  obtain ⟨P2, hP2⟩ := Int.eq_ofNat_of_zero_le m2.1
  have z0 : P0 < t0.l.length := by rw [f0.1]; have e : ((2 ^ t0.log : Nat) : Int) = 2 ^ t0.log := by simp
                                   omega
  have z1 : P1 < t1.l.length := by rw [f1.1]; have e : ((2 ^ t1.log : Nat) : Int) = 2 ^ t1.log := by simp
                                   omega
  have z2 : P2 < t2.l.length := by rw [f2.1]; have e : ((2 ^ t2.log : Nat) : Int) = 2 ^ t2.log := by simp
                                   omega
  obtain ⟨ce00, ce01, ce02⟩ := tri_cells T0 z0
  obtain ⟨ce10, ce11, ce12⟩ := tri_cells T1 z1
  obtain ⟨ce20, ce21, ce22⟩ := tri_cells T2 z2
  have hfin : Hid (∀ e w', (e = .returned (.agg (stL (RD.triAt t0.l P0) (RD.triAt t1.l P1) (RD.triAt t2.l P2)).toArray) ∧ BAt w' p s (t0.log + t1.log + t2.log) ∧ Only (fun b => b = p) w w') → FSPost p t0 t1 t2 s w e w') := by
    intro e w' hh
    unfold FSPost
    rw [hP0, hP1, hP2]
    exact hh
  have tk0 : ∀ W, BAt W p s 0 → Calls Tryz.prog 164 #[.pointer (some ⟨p, 0, none⟩), .int .i64 t0.log] W fun e w' => e = .returned (.int .i64 (P0 : Int)) ∧ BAt w' p s t0.log ∧ Only (· = p) W w' := fun W hW => by
    have := btake p s 0 t0.log W hW hs (by omega) (by omega)
    rw [hP0, Nat.zero_add] at this
    exact this
  have tk1 : ∀ W, BAt W p s t0.log → Calls Tryz.prog 164 #[.pointer (some ⟨p, 0, none⟩), .int .i64 t1.log] W fun e w' => e = .returned (.int .i64 (P1 : Int)) ∧ BAt w' p s (t0.log + t1.log) ∧ Only (· = p) W w' := fun W hW => by
    have := btake p s t0.log t1.log W hW hs (by omega) (by omega)
    rw [hP1] at this
    exact this
  have tk2 : ∀ W, BAt W p s (t0.log + t1.log) → Calls Tryz.prog 164 #[.pointer (some ⟨p, 0, none⟩), .int .i64 t2.log] W fun e w' => e = .returned (.int .i64 (P2 : Int)) ∧ BAt w' p s (t0.log + t1.log + t2.log) ∧ Only (· = p) W w' := fun W hW => by
    have := btake p s (t0.log + t1.log) t2.log W hW hs (by omega) (by omega)
    rw [hP2] at this
    exact this
  clear m0 m1 m2 hP0 hP1 hP2 T0 T1 T2 hbb
  generalize RD.triAt t0.l P0 = x0 at *
  generalize RD.triAt t1.l P1 = x1 at *
  generalize RD.triAt t2.l P2 = x2 at *
  have zi0 : (P0 : Int) < (t0.l.length : Int) := by omega
  have zi1 : (P1 : Int) < (t1.l.length : Int) := by omega
  have zi2 : (P2 : Int) < (t2.l.length : Int) := by omega
  have ixA := ixT0
  have ixB := ixT1
  have ixC := ixT2
  go_enter Tryz.func148, Tryz.ntmps148
  go_wp2_with fail
  have hF0 : Blk ((w.alloc (.cells #[.int .i64 0, .int .i64 0, .int .i64 0, .int .i64 0, .int .i64 0, .int .i64 0, .int .i64 0, .int .i64 0, .int .i64 0] 275)).alloc (.cells #[.int .i64 0, .int .i64 0, .int .i64 0, .int .i64 0, .int .i64 0, .int .i64 0, .int .i64 0, .int .i64 0, .int .i64 0] 275)) (w.heap.size + 1) 275 [.int .i64 0, .int .i64 0, .int .i64 0, .int .i64 0, .int .i64 0, .int .i64 0, .int .i64 0, .int .i64 0, .int .i64 0] := by
    have := Blk.new (w.alloc (.cells #[.int .i64 0, .int .i64 0, .int .i64 0, .int .i64 0, .int .i64 0, .int .i64 0, .int .i64 0, .int .i64 0, .int .i64 0] 275)) 275 [.int .i64 0, .int .i64 0, .int .i64 0, .int .i64 0, .int .i64 0, .int .i64 0, .int .i64 0, .int .i64 0, .int .i64 0]
    simpa using this
  have hR0 : Blk ((w.alloc (.cells #[.int .i64 0, .int .i64 0, .int .i64 0, .int .i64 0, .int .i64 0, .int .i64 0, .int .i64 0, .int .i64 0, .int .i64 0] 275)).alloc (.cells #[.int .i64 0, .int .i64 0, .int .i64 0, .int .i64 0, .int .i64 0, .int .i64 0, .int .i64 0, .int .i64 0, .int .i64 0] 275)) w.heap.size 275 [.int .i64 0, .int .i64 0, .int .i64 0, .int .i64 0, .int .i64 0, .int .i64 0, .int .i64 0, .int .i64 0, .int .i64 0] := (Blk.new w 275 [.int .i64 0, .int .i64 0, .int .i64 0, .int .i64 0, .int .i64 0, .int .i64 0, .int .i64 0, .int .i64 0, .int .i64 0]).alloc _
  have hb0' : Below w.heap.size w ((w.alloc (.cells #[.int .i64 0, .int .i64 0, .int .i64 0, .int .i64 0, .int .i64 0, .int .i64 0, .int .i64 0, .int .i64 0, .int .i64 0] 275)).alloc (.cells #[.int .i64 0, .int .i64 0, .int .i64 0, .int .i64 0, .int .i64 0, .int .i64 0, .int .i64 0, .int .i64 0, .int .i64 0] 275)) := ((Below.refl _ w).alloc (Nat.le_refl _) _).alloc (by simp) _
  generalize (w.alloc (.cells #[.int .i64 0, .int .i64 0, .int .i64 0, .int .i64 0, .int .i64 0, .int .i64 0, .int .i64 0, .int .i64 0, .int .i64 0] 275)).alloc (.cells #[.int .i64 0, .int .i64 0, .int .i64 0, .int .i64 0, .int .i64 0, .int .i64 0, .int .i64 0, .int .i64 0, .int .i64 0] 275) = w2 at *
  have hi0 : BAt w2 p s 0 := Blk.below h hb0' hpl
  have hO0 : Only (fun b => b = p) w w2 := below_only hb0'
  obtain ⟨S, hS⟩ : ∃ S, S = w.heap.size := ⟨_, rfl⟩
  rw [← hS] at hF0 hR0 hpl hgl hb0 hb1 hb2
  rw [← hS]
  replace hS := hid' hS
  clear hb0'
  go_loopg [12] 4 (fun gh kv wr => ∃ (k i : Nat) (cs : List Value), gh = 4 - k ∧ k ≤ 3 ∧ kv = .int .i64 (k : Int) ∧ Hid ((k = 0 ∧ i = 0 ∧ cs = [.int .i64 0, .int .i64 0, .int .i64 0, .int .i64 0, .int .i64 0, .int .i64 0, .int .i64 0, .int .i64 0, .int .i64 0]) ∨ (k = 1 ∧ i = t0.log ∧ cs = [.int .i64 x0.1, .int .i64 x0.2.1, .int .i64 x0.2.2, .int .i64 0, .int .i64 0, .int .i64 0, .int .i64 0, .int .i64 0, .int .i64 0]) ∨ (k = 2 ∧ i = t0.log + t1.log ∧ cs = [.int .i64 x0.1, .int .i64 x0.2.1, .int .i64 x0.2.2, .int .i64 x1.1, .int .i64 x1.2.1, .int .i64 x1.2.2, .int .i64 0, .int .i64 0, .int .i64 0]) ∨ (k = 3 ∧ i = t0.log + t1.log + t2.log ∧ cs = [.int .i64 x0.1, .int .i64 x0.2.1, .int .i64 x0.2.2, .int .i64 x1.1, .int .i64 x1.2.1, .int .i64 x1.2.2, .int .i64 x2.1, .int .i64 x2.2.1, .int .i64 x2.2.2])) ∧
      BAt wr p s i ∧ Blk wr (S + 1) 275 cs ∧ (∃ rs, Blk wr S 275 rs ∧ rs.length = 9) ∧ Only (fun b => b = p) w wr)
  case atStart => exact ⟨0, 0, _, by omega, by omega, rfl, .inl ⟨rfl, rfl, rfl⟩, hi0, hF0, ⟨_, hR0, rfl⟩, hO0⟩
  case round =>
    obtain ⟨k, i, cs, rfl, hk, rfl, hA, hbi, hF, ⟨rs, hR, hrl⟩, hO⟩ := hrel
    have hsz := hO.size
    rw [← hS.out] at hsz
    have hFl := hF.lt
    rcases hA.out with ⟨rfl, rfl, rfl⟩ | ⟨rfl, rfl, rfl⟩ | ⟨rfl, rfl, rfl⟩ | ⟨rfl, rfl, rfl⟩
    · have w0 := hO.cell ce00 (by have := hS.out; omega) n0
      have w1 := hO.cell ce01 (by have := hS.out; omega) n0
      have w2 := hO.cell ce02 (by have := hS.out; omega) n0
      have hOa : Only (fun b => b = p) w (wr.alloc (.cells #[.int .i64 t0.log, .slice (some ⟨b0, 0, none⟩) t0.l.length k0] 133)) := hO.alloc _
      have hba : Below wr.heap.size wr (wr.alloc (.cells #[.int .i64 t0.log, .slice (some ⟨b0, 0, none⟩) t0.l.length k0] 133)) := (Below.refl _ wr).alloc (Nat.le_refl _) _
      have hN : Blk (wr.alloc (.cells #[.int .i64 t0.log, .slice (some ⟨b0, 0, none⟩) t0.l.length k0] 133)) wr.heap.size 133 [.int .i64 t0.log, .slice (some ⟨b0, 0, none⟩) t0.l.length k0] := Blk.new _ _ _
      go_wp2_with fail
      have hbi' : BAt _ p s 0 := Blk.below hbi hba (Blk.lt hbi)
      have hF' := hF.below hba hFl
      have hR' := hR.below hba hR.lt
      have v0' := (World.cell?_of_block (w := wr) (a := ⟨b0, P0 * 3, none⟩) (hba.block b0 (by omega))).trans w0
      have v1' := (World.cell?_of_block (w := wr) (a := ⟨b0, P0 * 3 + 1, none⟩) (hba.block b0 (by omega))).trans w1
      have v2' := (World.cell?_of_block (w := wr) (a := ⟨b0, P0 * 3 + 2, none⟩) (hba.block b0 (by omega))).trans w2
      have hbl := hba.size
      generalize wr.alloc (.cells #[.int .i64 t0.log, .slice (some ⟨b0, 0, none⟩) t0.l.length k0] 133) = w4 at *
      have hNl := hN.lt
      have hNp : ¬ wr.heap.size = p := by omega
      have hFp : ¬ S + 1 = p := by omega
      have hRp : ¬ S = p := by omega
      have hNF : ¬ wr.heap.size = S + 1 := by omega
      have y0 := hN.cell (j := 0) rfl
      have y1 := hN.cell (j := 1) rfl
      have hbw : b0 < w4.heap.size := by omega
      clear hA hbi hF hR hO w0 w1 w2 hba
      replace hN := hid' hN
      replace hF' := hid' hF'
      replace hR' := hid' hR'
      replace hOa := hid' hOa
      generalize wr.heap.size = M at *
      go_region_with (go_at_call 164; refine (tk0 w4.drew hbi').mono ?_; rintro e w5 ⟨rfl, hb5, ho5x⟩; (have ho5 := undrewO ho5x); (have y0' := ho5.cell y0 hNl hNp); (have y1' := ho5.cell y1 hNl hNp); (have v0'' := ho5.cell v0' hbw n0); (have v1'' := ho5.cell v1' hbw n0); (have v2'' := ho5.cell v2' hbw n0); (have hF5 := hF'.out.only ho5 hFp); (have fz := hF5.free); (have e0 := hF5.cell (j := 0) rfl); (have e1 := hF5.cell (j := 1) rfl); (have e2 := hF5.cell (j := 2) rfl); (replace hF5 := hid' hF5))
      all_goals
        have hF6 := ((hF5.out.put 0 (.int .i64 x0.1)).put 1 (.int .i64 x0.2.1)).put 2 (.int .i64 x0.2.2)
        have hb6 : BAt (((w5.setCell ⟨S + 1, 0, none⟩ (.int .i64 x0.1)).setCell ⟨S + 1, 1, none⟩ (.int .i64 x0.2.1)).setCell ⟨S + 1, 2, none⟩ (.int .i64 x0.2.2)) p s t0.log := Blk.other (Blk.other (Blk.other hb5 ⟨S + 1, 0, none⟩ _ (fun e => hFp e.symm)) ⟨S + 1, 1, none⟩ _ (fun e => hFp e.symm)) ⟨S + 1, 2, none⟩ _ (fun e => hFp e.symm)
        have hR6 := (((hR'.out.only ho5 hRp).other ⟨S + 1, 0, none⟩ (.int .i64 x0.1) (by show S ≠ S + 1; omega)).other ⟨S + 1, 1, none⟩ (.int .i64 x0.2.1) (by show S ≠ S + 1; omega)).other ⟨S + 1, 2, none⟩ (.int .i64 x0.2.2) (by show S ≠ S + 1; omega)
        have hO6 : Only (fun b => b = p) w (((w5.setCell ⟨S + 1, 0, none⟩ (.int .i64 x0.1)).setCell ⟨S + 1, 1, none⟩ (.int .i64 x0.2.1)).setCell ⟨S + 1, 2, none⟩ (.int .i64 x0.2.2)) :=
          (((hOa.out.trans ho5).setCell _ _ (fun e => absurd e (by have := hS.out; show ¬ (S + 1 < _); omega))).setCell _ _ (fun e => absurd e (by have := hS.out; show ¬ (S + 1 < _); omega))).setCell _ _ (fun e => absurd e (by have := hS.out; show ¬ (S + 1 < _); omega))
        replace hF6 := hid' hF6
        replace hb6 := hid' hb6
        replace hR6 := hid' hR6
        replace hO6 := hid' hO6
        go_wp2_with fail
        go_roundg (4 - 1)
        case rel => exact ⟨1, t0.log, _, by omega, by omega, by go_num, .inr (.inl ⟨rfl, rfl, rfl⟩), hb6.out, hF6.out, ⟨rs, hR6.out, hrl⟩, hO6.out⟩
        case measure => omega
    · have w0 := hO.cell ce10 (by have := hS.out; omega) n1
      have w1 := hO.cell ce11 (by have := hS.out; omega) n1
      have w2 := hO.cell ce12 (by have := hS.out; omega) n1
      have hOa : Only (fun b => b = p) w (wr.alloc (.cells #[.int .i64 t1.log, .slice (some ⟨b1, 0, none⟩) t1.l.length k1] 133)) := hO.alloc _
      have hba : Below wr.heap.size wr (wr.alloc (.cells #[.int .i64 t1.log, .slice (some ⟨b1, 0, none⟩) t1.l.length k1] 133)) := (Below.refl _ wr).alloc (Nat.le_refl _) _
      have hN : Blk (wr.alloc (.cells #[.int .i64 t1.log, .slice (some ⟨b1, 0, none⟩) t1.l.length k1] 133)) wr.heap.size 133 [.int .i64 t1.log, .slice (some ⟨b1, 0, none⟩) t1.l.length k1] := Blk.new _ _ _
      go_wp2_with fail
      have hbi' : BAt _ p s t0.log := Blk.below hbi hba (Blk.lt hbi)
      have hF' := hF.below hba hFl
      have hR' := hR.below hba hR.lt
      have v0' := (World.cell?_of_block (w := wr) (a := ⟨b1, P1 * 3, none⟩) (hba.block b1 (by omega))).trans w0
      have v1' := (World.cell?_of_block (w := wr) (a := ⟨b1, P1 * 3 + 1, none⟩) (hba.block b1 (by omega))).trans w1
      have v2' := (World.cell?_of_block (w := wr) (a := ⟨b1, P1 * 3 + 2, none⟩) (hba.block b1 (by omega))).trans w2
      have hbl := hba.size
      generalize wr.alloc (.cells #[.int .i64 t1.log, .slice (some ⟨b1, 0, none⟩) t1.l.length k1] 133) = w4 at *
      have hNl := hN.lt
      have hNp : ¬ wr.heap.size = p := by omega
      have hFp : ¬ S + 1 = p := by omega
      have hRp : ¬ S = p := by omega
      have hNF : ¬ wr.heap.size = S + 1 := by omega
      have y0 := hN.cell (j := 0) rfl
      have y1 := hN.cell (j := 1) rfl
      have hbw : b1 < w4.heap.size := by omega
      clear hA hbi hF hR hO w0 w1 w2 hba
      replace hN := hid' hN
      replace hF' := hid' hF'
      replace hR' := hid' hR'
      replace hOa := hid' hOa
      generalize wr.heap.size = M at *
      go_region_with (go_at_call 164; refine (tk1 w4.drew hbi').mono ?_; rintro e w5 ⟨rfl, hb5, ho5x⟩; (have ho5 := undrewO ho5x); (have y0' := ho5.cell y0 hNl hNp); (have y1' := ho5.cell y1 hNl hNp); (have v0'' := ho5.cell v0' hbw n1); (have v1'' := ho5.cell v1' hbw n1); (have v2'' := ho5.cell v2' hbw n1); (have hF5 := hF'.out.only ho5 hFp); (have fz := hF5.free); (have e0 := hF5.cell (j := 3) rfl); (have e1 := hF5.cell (j := 4) rfl); (have e2 := hF5.cell (j := 5) rfl); (replace hF5 := hid' hF5))
      all_goals
        have hF6 := ((hF5.out.put 3 (.int .i64 x1.1)).put 4 (.int .i64 x1.2.1)).put 5 (.int .i64 x1.2.2)
        have hb6 : BAt (((w5.setCell ⟨S + 1, 3, none⟩ (.int .i64 x1.1)).setCell ⟨S + 1, 4, none⟩ (.int .i64 x1.2.1)).setCell ⟨S + 1, 5, none⟩ (.int .i64 x1.2.2)) p s (t0.log + t1.log) := Blk.other (Blk.other (Blk.other hb5 ⟨S + 1, 3, none⟩ _ (fun e => hFp e.symm)) ⟨S + 1, 4, none⟩ _ (fun e => hFp e.symm)) ⟨S + 1, 5, none⟩ _ (fun e => hFp e.symm)
        have hR6 := (((hR'.out.only ho5 hRp).other ⟨S + 1, 3, none⟩ (.int .i64 x1.1) (by show S ≠ S + 1; omega)).other ⟨S + 1, 4, none⟩ (.int .i64 x1.2.1) (by show S ≠ S + 1; omega)).other ⟨S + 1, 5, none⟩ (.int .i64 x1.2.2) (by show S ≠ S + 1; omega)
        have hO6 : Only (fun b => b = p) w (((w5.setCell ⟨S + 1, 3, none⟩ (.int .i64 x1.1)).setCell ⟨S + 1, 4, none⟩ (.int .i64 x1.2.1)).setCell ⟨S + 1, 5, none⟩ (.int .i64 x1.2.2)) :=
          (((hOa.out.trans ho5).setCell _ _ (fun e => absurd e (by have := hS.out; show ¬ (S + 1 < _); omega))).setCell _ _ (fun e => absurd e (by have := hS.out; show ¬ (S + 1 < _); omega))).setCell _ _ (fun e => absurd e (by have := hS.out; show ¬ (S + 1 < _); omega))
        replace hF6 := hid' hF6
        replace hb6 := hid' hb6
        replace hR6 := hid' hR6
        replace hO6 := hid' hO6
        go_wp2_with fail
        go_roundg (4 - 2)
        case rel => exact ⟨2, (t0.log + t1.log), _, by omega, by omega, by go_num, .inr (.inr (.inl ⟨rfl, rfl, rfl⟩)), hb6.out, hF6.out, ⟨rs, hR6.out, hrl⟩, hO6.out⟩
        case measure => omega
    · have w0 := hO.cell ce20 (by have := hS.out; omega) n2
      have w1 := hO.cell ce21 (by have := hS.out; omega) n2
      have w2 := hO.cell ce22 (by have := hS.out; omega) n2
      have hOa : Only (fun b => b = p) w (wr.alloc (.cells #[.int .i64 t2.log, .slice (some ⟨b2, 0, none⟩) t2.l.length k2] 133)) := hO.alloc _
      have hba : Below wr.heap.size wr (wr.alloc (.cells #[.int .i64 t2.log, .slice (some ⟨b2, 0, none⟩) t2.l.length k2] 133)) := (Below.refl _ wr).alloc (Nat.le_refl _) _
      have hN : Blk (wr.alloc (.cells #[.int .i64 t2.log, .slice (some ⟨b2, 0, none⟩) t2.l.length k2] 133)) wr.heap.size 133 [.int .i64 t2.log, .slice (some ⟨b2, 0, none⟩) t2.l.length k2] := Blk.new _ _ _
      go_wp2_with fail
      have hbi' : BAt _ p s (t0.log + t1.log) := Blk.below hbi hba (Blk.lt hbi)
      have hF' := hF.below hba hFl
      have hR' := hR.below hba hR.lt
      have v0' := (World.cell?_of_block (w := wr) (a := ⟨b2, P2 * 3, none⟩) (hba.block b2 (by omega))).trans w0
      have v1' := (World.cell?_of_block (w := wr) (a := ⟨b2, P2 * 3 + 1, none⟩) (hba.block b2 (by omega))).trans w1
      have v2' := (World.cell?_of_block (w := wr) (a := ⟨b2, P2 * 3 + 2, none⟩) (hba.block b2 (by omega))).trans w2
      have hbl := hba.size
      generalize wr.alloc (.cells #[.int .i64 t2.log, .slice (some ⟨b2, 0, none⟩) t2.l.length k2] 133) = w4 at *
      have hNl := hN.lt
      have hNp : ¬ wr.heap.size = p := by omega
      have hFp : ¬ S + 1 = p := by omega
      have hRp : ¬ S = p := by omega
      have hNF : ¬ wr.heap.size = S + 1 := by omega
      have y0 := hN.cell (j := 0) rfl
      have y1 := hN.cell (j := 1) rfl
      have hbw : b2 < w4.heap.size := by omega
      clear hA hbi hF hR hO w0 w1 w2 hba
      replace hN := hid' hN
      replace hF' := hid' hF'
      replace hR' := hid' hR'
      replace hOa := hid' hOa
      generalize wr.heap.size = M at *
      go_region_with (go_at_call 164; refine (tk2 w4.drew hbi').mono ?_; rintro e w5 ⟨rfl, hb5, ho5x⟩; (have ho5 := undrewO ho5x); (have y0' := ho5.cell y0 hNl hNp); (have y1' := ho5.cell y1 hNl hNp); (have v0'' := ho5.cell v0' hbw n2); (have v1'' := ho5.cell v1' hbw n2); (have v2'' := ho5.cell v2' hbw n2); (have hF5 := hF'.out.only ho5 hFp); (have fz := hF5.free); (have e0 := hF5.cell (j := 6) rfl); (have e1 := hF5.cell (j := 7) rfl); (have e2 := hF5.cell (j := 8) rfl); (replace hF5 := hid' hF5))
      all_goals
        have hF6 := ((hF5.out.put 6 (.int .i64 x2.1)).put 7 (.int .i64 x2.2.1)).put 8 (.int .i64 x2.2.2)
        have hb6 : BAt (((w5.setCell ⟨S + 1, 6, none⟩ (.int .i64 x2.1)).setCell ⟨S + 1, 7, none⟩ (.int .i64 x2.2.1)).setCell ⟨S + 1, 8, none⟩ (.int .i64 x2.2.2)) p s (t0.log + t1.log + t2.log) := Blk.other (Blk.other (Blk.other hb5 ⟨S + 1, 6, none⟩ _ (fun e => hFp e.symm)) ⟨S + 1, 7, none⟩ _ (fun e => hFp e.symm)) ⟨S + 1, 8, none⟩ _ (fun e => hFp e.symm)
        have hR6 := (((hR'.out.only ho5 hRp).other ⟨S + 1, 6, none⟩ (.int .i64 x2.1) (by show S ≠ S + 1; omega)).other ⟨S + 1, 7, none⟩ (.int .i64 x2.2.1) (by show S ≠ S + 1; omega)).other ⟨S + 1, 8, none⟩ (.int .i64 x2.2.2) (by show S ≠ S + 1; omega)
        have hO6 : Only (fun b => b = p) w (((w5.setCell ⟨S + 1, 6, none⟩ (.int .i64 x2.1)).setCell ⟨S + 1, 7, none⟩ (.int .i64 x2.2.1)).setCell ⟨S + 1, 8, none⟩ (.int .i64 x2.2.2)) :=
          (((hOa.out.trans ho5).setCell _ _ (fun e => absurd e (by have := hS.out; show ¬ (S + 1 < _); omega))).setCell _ _ (fun e => absurd e (by have := hS.out; show ¬ (S + 1 < _); omega))).setCell _ _ (fun e => absurd e (by have := hS.out; show ¬ (S + 1 < _); omega))
        replace hF6 := hid' hF6
        replace hb6 := hid' hb6
        replace hR6 := hid' hR6
        replace hO6 := hid' hO6
        go_wp2_with fail
        go_roundg (4 - 3)
        case rel => exact ⟨3, (t0.log + t1.log + t2.log), _, by omega, by omega, by go_num, .inr (.inr (.inr (⟨rfl, rfl, rfl⟩))), hb6.out, hF6.out, ⟨rs, hR6.out, hrl⟩, hO6.out⟩
        case measure => omega
    · have fzF := hF.free
      have fzR := hR.free
      have d0 := hF.cell (j := 0) rfl
      have d1 := hF.cell (j := 1) rfl
      have d2 := hF.cell (j := 2) rfl
      have d3 := hF.cell (j := 3) rfl
      have d4 := hF.cell (j := 4) rfl
      have d5 := hF.cell (j := 5) rfl
      have d6 := hF.cell (j := 6) rfl
      have d7 := hF.cell (j := 7) rfl
      have d8 := hF.cell (j := 8) rfl
      obtain ⟨r0, r1, r2, r3, r4, r5, r6, r7, r8, rfl⟩ : ∃ r0 r1 r2 r3 r4 r5 r6 r7 r8, rs = [r0, r1, r2, r3, r4, r5, r6, r7, r8] := by
        match rs, hrl with
        | [r0, r1, r2, r3, r4, r5, r6, r7, r8], _ => exact ⟨r0, r1, r2, r3, r4, r5, r6, r7, r8, rfl⟩
      have f0' := hR.cell (j := 0) rfl
      have f1' := hR.cell (j := 1) rfl
      have f2' := hR.cell (j := 2) rfl
      have f3' := hR.cell (j := 3) rfl
      have f4' := hR.cell (j := 4) rfl
      have f5' := hR.cell (j := 5) rfl
      have f6' := hR.cell (j := 6) rfl
      have f7' := hR.cell (j := 7) rfl
      have f8' := hR.cell (j := 8) rfl
      have hpS : p ≠ S := by omega
      have hno : S < w.heap.size → S = p := fun e => absurd e (by have := hS.out; omega)
      have hRf : Blk (((((((((wr.setCell ⟨S, 0, none⟩ (.int .i64 x0.1)).setCell ⟨S, 1, none⟩ (.int .i64 x0.2.1)).setCell ⟨S, 2, none⟩ (.int .i64 x0.2.2)).setCell ⟨S, 3, none⟩ (.int .i64 x1.1)).setCell ⟨S, 4, none⟩ (.int .i64 x1.2.1)).setCell ⟨S, 5, none⟩ (.int .i64 x1.2.2)).setCell ⟨S, 6, none⟩ (.int .i64 x2.1)).setCell ⟨S, 7, none⟩ (.int .i64 x2.2.1)).setCell ⟨S, 8, none⟩ (.int .i64 x2.2.2)) S 275 (stL x0 x1 x2) := (((((((((hR.put 0 (.int .i64 x0.1)).put 1 (.int .i64 x0.2.1)).put 2 (.int .i64 x0.2.2)).put 3 (.int .i64 x1.1)).put 4 (.int .i64 x1.2.1)).put 5 (.int .i64 x1.2.2)).put 6 (.int .i64 x2.1)).put 7 (.int .i64 x2.2.1)).put 8 (.int .i64 x2.2.2))
      have hbf : BAt (((((((((wr.setCell ⟨S, 0, none⟩ (.int .i64 x0.1)).setCell ⟨S, 1, none⟩ (.int .i64 x0.2.1)).setCell ⟨S, 2, none⟩ (.int .i64 x0.2.2)).setCell ⟨S, 3, none⟩ (.int .i64 x1.1)).setCell ⟨S, 4, none⟩ (.int .i64 x1.2.1)).setCell ⟨S, 5, none⟩ (.int .i64 x1.2.2)).setCell ⟨S, 6, none⟩ (.int .i64 x2.1)).setCell ⟨S, 7, none⟩ (.int .i64 x2.2.1)).setCell ⟨S, 8, none⟩ (.int .i64 x2.2.2)) p s (t0.log + t1.log + t2.log) := (Blk.other (Blk.other (Blk.other (Blk.other (Blk.other (Blk.other (Blk.other (Blk.other (Blk.other hbi ⟨S, 0, none⟩ (.int .i64 x0.1) hpS) ⟨S, 1, none⟩ (.int .i64 x0.2.1) hpS) ⟨S, 2, none⟩ (.int .i64 x0.2.2) hpS) ⟨S, 3, none⟩ (.int .i64 x1.1) hpS) ⟨S, 4, none⟩ (.int .i64 x1.2.1) hpS) ⟨S, 5, none⟩ (.int .i64 x1.2.2) hpS) ⟨S, 6, none⟩ (.int .i64 x2.1) hpS) ⟨S, 7, none⟩ (.int .i64 x2.2.1) hpS) ⟨S, 8, none⟩ (.int .i64 x2.2.2) hpS)
      have hOf : Only (fun b => b = p) w (((((((((wr.setCell ⟨S, 0, none⟩ (.int .i64 x0.1)).setCell ⟨S, 1, none⟩ (.int .i64 x0.2.1)).setCell ⟨S, 2, none⟩ (.int .i64 x0.2.2)).setCell ⟨S, 3, none⟩ (.int .i64 x1.1)).setCell ⟨S, 4, none⟩ (.int .i64 x1.2.1)).setCell ⟨S, 5, none⟩ (.int .i64 x1.2.2)).setCell ⟨S, 6, none⟩ (.int .i64 x2.1)).setCell ⟨S, 7, none⟩ (.int .i64 x2.2.1)).setCell ⟨S, 8, none⟩ (.int .i64 x2.2.2)) := (((((((((hO.setCell ⟨S, 0, none⟩ (.int .i64 x0.1) hno).setCell ⟨S, 1, none⟩ (.int .i64 x0.2.1) hno).setCell ⟨S, 2, none⟩ (.int .i64 x0.2.2) hno).setCell ⟨S, 3, none⟩ (.int .i64 x1.1) hno).setCell ⟨S, 4, none⟩ (.int .i64 x1.2.1) hno).setCell ⟨S, 5, none⟩ (.int .i64 x1.2.2) hno).setCell ⟨S, 6, none⟩ (.int .i64 x2.1) hno).setCell ⟨S, 7, none⟩ (.int .i64 x2.2.1) hno).setCell ⟨S, 8, none⟩ (.int .i64 x2.2.2) hno)
      go_wp2_with fail
      generalize (((((((((wr.setCell ⟨S, 0, none⟩ (.int .i64 x0.1)).setCell ⟨S, 1, none⟩ (.int .i64 x0.2.1)).setCell ⟨S, 2, none⟩ (.int .i64 x0.2.2)).setCell ⟨S, 3, none⟩ (.int .i64 x1.1)).setCell ⟨S, 4, none⟩ (.int .i64 x1.2.1)).setCell ⟨S, 5, none⟩ (.int .i64 x1.2.2)).setCell ⟨S, 6, none⟩ (.int .i64 x2.1)).setCell ⟨S, 7, none⟩ (.int .i64 x2.2.1)).setCell ⟨S, 8, none⟩ (.int .i64 x2.2.2)) = wF at *
      have h0' := hRf.cell (j := 0) rfl
      have h1' := hRf.cell (j := 1) rfl
      have h2' := hRf.cell (j := 2) rfl
      have h3' := hRf.cell (j := 3) rfl
      have h4' := hRf.cell (j := 4) rfl
      have h5' := hRf.cell (j := 5) rfl
      have h6' := hRf.cell (j := 6) rfl
      have h7' := hRf.cell (j := 7) rfl
      have h8' := hRf.cell (j := 8) rfl
      exact bodyPost_ret (v := .agg (stL x0 x1 x2).toArray) (by simp [results, Tryz.results148, go_sem, stL, *]) rfl (hfin.out _ _ ⟨rfl, hbf, hOf⟩)
end Go.Proofs.YtbhemchnjpajiaaGreatDoor

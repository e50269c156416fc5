/- Several texts in one: QNew. -/
import Derived.Test.YtbhemchnjpajiaaGreatDoorLE
import Derived.Carry
/- A stream that is made, and one that ends (package frames): New, Close, walked. -/
namespace Go.Proofs.YtbhemchnjpajiaaGreatDoor
open Go.RowKit
set_option linter.unusedVariables false

def newCells (lim : Int) (dv : Value) (M : Nat) : List Value := [.int .i64 lim, dv, .map (some M), .int .i64 0, .int .i64 0, .int .i64 0, .slice none 0 0, .int .i64 0] ++ (zeroFr ++ [.bool false, .int .i64 0, .int .i64 0])
set_option maxRecDepth 100000 in
set_option maxHeartbeats 2000000 in
theorem strNew_any (lim : Int) (da : Option Addr) (dn dc : Nat) (w : World) :
    Calls Tryz.prog 39 #[.int .i64 lim, .slice da dn dc] w fun e w' => ∃ S M, e = .returned (.pointer (some ⟨S, 0, none⟩)) ∧ w.heap.size ≤ M ∧ M < S ∧ w'.heap[M]? = some (.map #[] 0) ∧ Blk w' S 146 (newCells lim (.slice da dn dc) M) ∧ Below w.heap.size w w' := by
  have hmm := @run_makeMap Tryz.prog
  go_enter Tryz.func39, Tryz.ntmps39
  go_wp2_with fail
  go_ret
  have h0 : (w.alloc (.map #[] 0)).heap[w.heap.size]? = some (.map #[] 0) := heap_alloc_new w _
  have hh : ((w.alloc (.map #[] 0)).alloc (.cells (newCells lim (.slice da dn dc) w.heap.size).toArray 146)).heap[w.heap.size]? = some (.map #[] 0) := by
    rw [(((Below.refl (w.heap.size + 1) (w.alloc (.map #[] 0))).alloc (by simp) _).block w.heap.size (by omega))]
    exact h0
  exact ⟨w.heap.size + 1, w.heap.size, rfl, Nat.le_refl _, by omega, hh, by have := Blk.new (w.alloc (.map #[] 0)) 146 (newCells lim (.slice da dn dc) w.heap.size); rw [show (w.alloc (.map #[] 0)).heap.size = w.heap.size + 1 by simp] at this; exact this, ((Below.refl _ w).alloc (Nat.le_refl _) _).alloc (by simp) _⟩
/-- A stream of which nothing has come. -/
theorem StrAt.start {x : Fx} {c : RD.Cfg} {S M : Nat} {dv : Value} {w : World} (hb : Blk w S 146 (newCells c.limit dv M)) (hM : w.heap[M]? = some (.map #[] 0)) (hMS : M < S) (hd : DictsAt w dv c.dicts) (hk : ∀ k, dv.ownBlock = some k → k < M) (hV : VarsAt x w) (hS : x.base ≤ M) :
    StrAt x (fun k => k = S ∨ k = M) c MS.start S (newCells c.limit dv M) (.slice none 0 0) w ∧ cntAt w S = 0 := by
  have hN : tabN w M = 0 := by unfold tabN; rw [hM]; rfl
  have hT : TabsM w M (tabN w M) := ⟨#[], 0, hM, ⟨Nat.zero_le _, ⟨fun e he => (by cases he), by simp, by simp⟩, fun e he => (by cases he)⟩, Nat.zero_le _, fun e he => by cases he⟩
  refine ⟨⟨hb, rfl, rfl, ⟨dv, rfl, hd, fun k hk' => ⟨fun e => by have := hk k hk'; omega, by have := hk k hk'; omega⟩⟩, ⟨M, rfl, .inr rfl, hT, fun e => by have : 4 ≤ 0 := e; omega⟩, fun k hk' => ?_, rfl, rfl, rfl, rfl, Row8.nil 0 w, rfl, rfl, rfl, rfl, by show 0 < 7; omega, ⟨by show 0 ≤ 1024; omega, by show 0 ≤ 1099511627776; omega, by show ([] : RD.Bytes).length ≤ _; simp⟩, ⟨.inl rfl, fun k e => by cases e⟩, hV, fun k e => by omega, fun _ => rfl, fun e => by have : 4 ≤ 0 := e; omega⟩, by rw [cnt_is hb rfl, hN]⟩
  rcases hk' with e | e
  · rw [e]; exact ⟨hb.lt, NoTab.of_blk hb (by decide) (by decide)⟩
  · rw [e]; exact ⟨hT.lt, NoTab.of_map hT⟩

def ClPost (x : Fx) (m : MS) (w : World) (e : Ending) (w' : World) : Prop :=
  e = .returned (.iface 106 (.pointer (some ⟨w.heap.size, 0, none⟩))) ∧ Blk w' w.heap.size 111 [.int .i64 (m.fr : Nat), .int .i64 (m.f.blocks : Nat), errV (errA x (if m.nx = 0 ∧ m.bg = [] then 2 else 7))] ∧ Below w.heap.size w w'
set_option maxRecDepth 100000 in
set_option maxHeartbeats 2000000 in
theorem strClose_any (x : Fx) (G : Nat → Prop) (c : RD.Cfg) (m : MS) (S : Nat) (ss : List Value) (v6 : Value) (w : World) (h : StrAt x G c m S ss v6 w) :
    Calls Tryz.prog 44 #[.pointer (some ⟨S, 0, none⟩)] w (ClPost x m w) := by
  have c5 := h.blk.cell h.nx
  have c6 := h.blk.cell h.bg
  obtain ⟨ad, cc, rfl, q1, q2, q3⟩ := h.row.form
  have cE := h.vars.cE
  have cS := h.vars.cS
  have hft := fun z => strFault_any S 146 ss m.fr m.f.blocks w h.blk h.fr h.bl z
  have hn7 := h.nx7
  obtain ⟨nx, hnx⟩ : ∃ n, n = m.nx := ⟨_, rfl⟩
  rw [← hnx] at c5 hn7
  obtain ⟨L, hL⟩ : ∃ L, L = m.bg.length := ⟨_, rfl⟩
  rw [← hL] at c6
  have hq : L ≤ 1048576 := by rw [hL]; exact h.nmb.2.2
  by_cases h0 : nx = 0
  · by_cases h1 : L = 0
    · have he : errA x (if m.nx = 0 ∧ m.bg = [] then 2 else 7) = x.e := by
        rw [if_pos ⟨by rw [← hnx]; exact h0, List.length_eq_zero_iff.1 (by rw [← hL]; exact h1)⟩]; rfl
      replace he := hid' he
      replace hnx := hid' hnx
      replace hL := hid' hL
      subst h0 h1
      go_enter Tryz.func44, Tryz.ntmps44
      go_wp2_with fail
      refine (hft _).mono ?_
      rintro e w1 ⟨rfl, hB, hb⟩
      go_wp2_with fail
      go_ret
      exact ⟨rfl, by rw [he.out]; exact hB, hb⟩
    · have he : errA x (if m.nx = 0 ∧ m.bg = [] then 2 else 7) = x.s := by
        rw [if_neg (fun e => h1 (by rw [hL, e.2]; rfl))]; rfl
      replace he := hid' he
      replace hnx := hid' hnx
      replace hL := hid' hL
      subst h0
      have h1' : ((L : Int) == 0) = false := by simpa using h1
      go_enter Tryz.func44, Tryz.ntmps44
      go_wp2_with fail
      refine (hft _).mono ?_
      rintro e w1 ⟨rfl, hB, hb⟩
      go_wp2_with fail
      go_ret
      exact ⟨rfl, by rw [he.out]; exact hB, hb⟩
  · have he : errA x (if m.nx = 0 ∧ m.bg = [] then 2 else 7) = x.s := by
      rw [if_neg (fun e => h0 (by rw [hnx]; exact e.1))]; rfl
    replace he := hid' he
    replace hnx := hid' hnx
    replace hL := hid' hL
    have h0' : ((nx : Int) == 0) = false := by simpa using h0
    go_enter Tryz.func44, Tryz.ntmps44
    go_wp2_with fail
    refine (hft _).mono ?_
    rintro e w1 ⟨rfl, hB, hb⟩
    go_wp2_with fail
    go_ret
    exact ⟨rfl, by rw [he.out]; exact hB, hb⟩
end Go.Proofs.YtbhemchnjpajiaaGreatDoor

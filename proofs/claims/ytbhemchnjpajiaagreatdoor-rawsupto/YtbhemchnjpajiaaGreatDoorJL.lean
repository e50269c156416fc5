/- Several texts in one: PrSmall, PrMem, PrRead. -/
import Derived.Test.YtbhemchnjpajiaaGreatDoorJH
import Derived.Test.YtbhemchnjpajiaaGreatDoorJK
/- How far a stream's numbers go. Plain. -/
namespace Go.Proofs.YtbhemchnjpajiaaGreatDoor
open Go
set_option linter.unusedVariables false

/-- Frames and blocks are fewer than bytes; a frame's text is part of the text. -/
theorem reach_small {c : RD.Cfg} {fed : RD.Bytes} {a : RD.St} (h : RD.Reach c (RD.St.start fed) a) : a.frames + a.left.length ≤ fed.length ∧ a.f.blocks + a.left.length ≤ fed.length ∧ a.f.text.length ≤ a.text.length ∧ a.text.length + 1024 * a.left.length ≤ 1024 * fed.length := by
  refine ⟨?_, ?_, ?_, ?_⟩
  case refine_4 =>
    have := (RD.Reach.less h).2.2
    simpa [RD.St.start] using this
  all_goals
    generalize hs : RD.St.start fed = s at h
    induction h with
    | refl => subst hs; simp [RD.St.start, RD.Fr.new]
    | tail hr hst ih =>
      have hl := RD.step_less hst
      rename_i t u
      obtain ⟨fr, ph, f, left, text⟩ := t
      unfold RD.step at hst
      cases ph with
      | letters =>
        simp only [] at hst
        split at hst
        · cases hst
        · split at hst
          · cases hst; simp only [] at ih hl ⊢; omega
          · split at hst
            · cases hst; simp only [] at ih hl ⊢; omega
            · cases hst
      | skip =>
        simp only [] at hst
        split at hst
        · cases hst
        · cases hst; simp only [RD.Fr.new, List.length_nil] at ih hl ⊢; omega
      | header =>
        simp only [] at hst
        cases hx : RD.header c left with
        | wants => rw [hx] at hst; cases hst
        | err e => rw [hx] at hst; cases hst
        | ok r =>
          rw [hx] at hst
          cases hst
          have hn : r.1.blocks = 0 ∧ r.1.text = [] := by
            unfold RD.header at hx
            repeat' (first | split at hx | (simp only [] at hx))
            all_goals first | (cases hx; done) | (cases hx; exact ⟨rfl, rfl⟩)
          simp only [hn.1, hn.2, List.length_nil] at ih hl ⊢
          omega
      | blocks =>
        simp only [] at hst
        cases hx : RD.block f left with
        | wants => rw [hx] at hst; cases hst
        | err e => rw [hx] at hst; cases hst
        | ok r =>
          rw [hx] at hst
          have hbl := RD.block_less hx
          obtain ⟨last, f', l', t'⟩ := r
          simp only [] at hst hbl
          split at hst
          · cases hst
            simp only [hbl.2.2.1, hbl.2.2.2, List.length_append] at ih hl ⊢
            omega
          · split at hst
            · cases hst
              simp only [hbl.2.2.1, hbl.2.2.2, List.length_append] at ih hl ⊢
              omega
            · cases hst
              simp only [RD.Fr.new, List.length_nil, List.length_append] at ih hl ⊢
              omega
      | sum =>
        simp only [] at hst
        split at hst
        · cases hst
        · split at hst
          · cases hst
          · cases hst; simp only [RD.Fr.new, List.length_nil] at ih hl ⊢; omega
end Go.Proofs.YtbhemchnjpajiaaGreatDoor

/- A stream in memory (package frames): what its cells hold, at each unit; how it is carried along. -/
namespace Go.Proofs.YtbhemchnjpajiaaGreatDoor
open Go.RowKit
set_option linter.unusedVariables false

/-- The error of a number. -/
def errA (x : Fx) (e : Nat) : Addr := if e = 4 then x.f else if e = 5 then x.l else if e = 6 then x.d else if e = 8 then x.u else if e = 7 then x.s else x.e

/-- The cells of a frame whose blocks are being read. -/
structure FrM (f : RD.Fr) (ss : List Value) (v : Value) (W8 : RD.Bytes) (w : World) : Prop where
  summed : ss[8]? = some (.bool f.summed)
  sized : ss[9]? = some (.bool (decide (0 ≤ f.size)))
  size : ∃ n : Nat, ss[10]? = some (.int .i64 n) ∧ (0 ≤ f.size → (n : Int) = f.size) ∧ n ≤ 16777216
  len : ss[11]? = some (.int .i64 (f.text.length : Nat))
  sum : f.summed = true → ∀ j, j < 6 → ss[12 + j]? = (sumCells (RD.bs f.text))[j]?
  win : ss[29]? = some (.int .i64 (f.window : Nat))
  bytes : ss[30]? = some v
  row : Row8 0 w v W8
  tail : ∃ p, f.dict ++ f.text = p ++ W8 ∧ (p = [] ∨ f.window ≤ W8.length)
  small : W8.length ≤ 1048576 ∧ 0 < f.window ∧ f.window ≤ 1048576
theorem FrM.turn {f : RD.Fr} {ss ss' : List Value} {v : Value} {W8 : RD.Bytes} {w w' : World} {G : Nat → Prop} (h : FrM f ss v W8 w) (hs : ∀ j, 8 ≤ j → j < 31 → ss'[j]? = ss[j]?) (ho : Only G w w') (hv : ∀ k, v.ownBlock = some k → ¬ G k) : FrM f ss' v W8 w' := by
  obtain ⟨n, h1, h2⟩ := h.size
  exact ⟨by rw [hs 8 (by omega) (by omega)]; exact h.summed, by rw [hs 9 (by omega) (by omega)]; exact h.sized, ⟨n, by rw [hs 10 (by omega) (by omega)]; exact h1, h2⟩, by rw [hs 11 (by omega) (by omega)]; exact h.len,
    fun e j hj => by rw [hs (12 + j) (by omega) (by omega)]; exact h.sum e j hj, by rw [hs 29 (by omega) (by omega)]; exact h.win, by rw [hs 30 (by omega) (by omega)]; exact h.bytes, h.row.only ho hv, h.tail, h.small⟩
theorem sumCells_length (s : ByteArray) : (sumCells s).length = 6 := rfl
/-- A list, parted about six of its cells. -/
theorem parted {ss cs : List Value} (hl : ss.length = 34) (hc : cs.length = 6) (h : ∀ j, j < 6 → ss[12 + j]? = cs[j]?) : ss = ss.take 12 ++ (cs ++ ss.drop 18) ∧ (ss.take 12).length = 12 := by
  refine ⟨?_, by rw [List.length_take]; omega⟩
  apply List.ext_getElem?
  intro i
  by_cases h1 : i < 12
  · rw [List.getElem?_append_left (by rw [List.length_take]; omega), List.getElem?_take, if_pos h1]
  · by_cases h2 : i < 18
    · rw [List.getElem?_append_right (by rw [List.length_take]; omega), List.length_take, Nat.min_eq_left (by omega), List.getElem?_append_left (by omega), ← h (i - 12) (by omega), show 12 + (i - 12) = i by omega]
    · rw [List.getElem?_append_right (by rw [List.length_take]; omega), List.length_take, Nat.min_eq_left (by omega), List.getElem?_append_right (by omega), hc, List.getElem?_drop, show 18 + (i - 12 - 6) = i by omega]
theorem unparted {ss cs post : List Value} (hl : ss.length = 34) (hc : cs.length = 6) (post' : List Value) (e : post' = ss.drop 18) : (∀ j, j < 6 → (ss.take 12 ++ (cs ++ post'))[12 + j]? = cs[j]?) ∧ (∀ j, j < 12 ∨ 18 ≤ j → (ss.take 12 ++ (cs ++ post'))[j]? = ss[j]?) ∧ (ss.take 12 ++ (cs ++ post')).length = 34 := by
  subst e
  have h12 : (ss.take 12).length = 12 := by rw [List.length_take]; omega
  refine ⟨fun j hj => ?_, fun j hj => ?_, by rw [List.length_append, List.length_append, h12, hc, List.length_drop]; omega⟩
  · rw [List.getElem?_append_right (by omega), h12, Nat.add_sub_cancel_left, List.getElem?_append_left (by omega)]
  · rcases hj with hj | hj
    · rw [List.getElem?_append_left (by omega), List.getElem?_take, if_pos hj]
    · rw [List.getElem?_append_right (by omega), h12, List.getElem?_append_right (by omega), hc, List.getElem?_drop, show 18 + (j - 12 - 6) = j by omega]

/-- A stream in memory. -/
structure StrAt (x : Fx) (G : Nat → Prop) (c : RD.Cfg) (m : MS) (S : Nat) (ss : List Value) (v6 : Value) (w : World) : Prop where
  blk : Blk w S 146 ss
  len : ss.length = 34
  lim : ss[0]? = some (.int .i64 c.limit)
  dic : ∃ v, ss[1]? = some v ∧ DictsAt w v c.dicts ∧ ∀ k, v.ownBlock = some k → ¬ G k ∧ k < S
  tabs : ∃ M, ss[2]? = some (.map (some M))
  fr : ss[3]? = some (.int .i64 (m.fr : Nat))
  bl : ss[4]? = some (.int .i64 (m.f.blocks : Nat))
  nx : ss[5]? = some (.int .i64 (m.nx : Nat))
  bg : ss[6]? = some v6
  row : Row8 0 w v6 m.bg
  lf : ss[7]? = some (.int .i64 (m.lf : Nat))
  lk : ss[31]? = some (.bool m.lk)
  kd : ss[32]? = some (.int .i64 (m.kd : Nat))
  nm : ss[33]? = some (.int .i64 (m.nm : Nat))
  nx7 : m.nx < 7
  nmb : m.nm ≤ 1024 ∧ m.lf ≤ 1099511627776 ∧ m.bg.length ≤ 1048576
  inG : G S ∧ ∀ k, v6.ownBlock = some k → G k
  vars : VarsAt x w
  base : ∀ k, G k → x.base ≤ k
  early : m.nx < 4 → m.f.blocks = 0
  frame : 4 ≤ m.nx → ∃ v W8, FrM m.f ss v W8 w ∧ (∀ k, v.ownBlock = some k → G k ∧ v6.ownBlock ≠ some k) ∧ (m.nx = 6 → m.f.summed = true)
/-- Settings that are right. -/
structure CfgOk (c : RD.Cfg) : Prop where
  lim : 64 ≤ c.limit ∧ c.limit ≤ 8192
  few : c.dicts.length ≤ 4
  text : ∀ d ∈ c.dicts, 1 ≤ d.2.length ∧ d.2.length ≤ 256
  ids : (c.dicts.map (·.1)).Nodup
theorem StrAt.ne {x : Fx} {G : Nat → Prop} {c : RD.Cfg} {m : MS} {S : Nat} {ss : List Value} {v6 : Value} {w : World} (h : StrAt x G c m S ss v6 w) {k : Nat} (hk : v6.ownBlock = some k) : k ≠ S := (h.row.blk hk).2.ne h.blk (by decide)
theorem FrM.ne {f : RD.Fr} {ss : List Value} {v : Value} {W8 : RD.Bytes} {w : World} (h : FrM f ss v W8 w) {S : Nat} {cs : List Value} (hb : Blk w S 146 cs) {k : Nat} (hk : v.ownBlock = some k) : k ≠ S := (h.row.blk hk).2.ne hb (by decide)
/-- Its own cells turned, and nothing else. -/
theorem StrAt.turn {x : Fx} {G : Nat → Prop} {c : RD.Cfg} {m m' : MS} {S : Nat} {ss ss' : List Value} {v6 : Value} {w w' : World} (h : StrAt x G c m S ss v6 w) (hb : Blk w' S 146 ss') (hO : Only (· = S) w w') (hl : ss'.length = 34)
    (k0 : ∀ j, j < 3 → ss'[j]? = ss[j]?) (k3 : ss'[3]? = some (.int .i64 (m'.fr : Nat))) (k4 : ss'[4]? = some (.int .i64 (m'.f.blocks : Nat))) (k5 : ss'[5]? = some (.int .i64 (m'.nx : Nat))) (k6 : ss'[6]? = ss[6]?) (hbg : m'.bg = m.bg) (k7 : ss'[7]? = some (.int .i64 (m'.lf : Nat)))
    (k31 : ss'[31]? = some (.bool m'.lk)) (k32 : ss'[32]? = some (.int .i64 (m'.kd : Nat))) (k33 : ss'[33]? = some (.int .i64 (m'.nm : Nat))) (h7 : m'.nx < 7) (hn : m'.nm ≤ 1024 ∧ m'.lf ≤ 1099511627776) (he : m'.nx < 4 → m'.f.blocks = 0)
    (hf : 4 ≤ m'.nx → ∃ v W8, FrM m'.f ss' v W8 w' ∧ (∀ k, v.ownBlock = some k → G k ∧ v6.ownBlock ≠ some k) ∧ (m'.nx = 6 → m'.f.summed = true)) : StrAt x G c m' S ss' v6 w' := by
  obtain ⟨v, d1, d2, d3⟩ := h.dic
  obtain ⟨M, hM⟩ := h.tabs
  exact ⟨hb, hl, by rw [k0 0 (by omega)]; exact h.lim, ⟨v, by rw [k0 1 (by omega)]; exact d1, d2.only hO (fun k hk e => (d3 k hk).1 (e ▸ h.inG.1)), d3⟩, ⟨M, by rw [k0 2 (by omega)]; exact hM⟩, k3, k4, k5, by rw [k6]; exact h.bg,
    by rw [hbg]; exact h.row.only hO (fun k hk e => h.ne hk e), k7, k31, k32, k33, h7, ⟨hn.1, hn.2, by rw [hbg]; exact h.nmb.2.2⟩, h.inG, h.vars.only hO (fun k e => e ▸ h.base S h.inG.1), h.base, he, hf⟩
/-- Blocks that are none of its own turned. -/
theorem StrAt.apart {x : Fx} {G K : Nat → Prop} {c : RD.Cfg} {m : MS} {S : Nat} {ss : List Value} {v6 : Value} {w w' : World} (h : StrAt x G c m S ss v6 w) (hO : Only K w w') (hK : ∀ k, k < w.heap.size → K k → ¬ G k ∧ S < k) : StrAt x G c m S ss v6 w' := by
  obtain ⟨v, d1, d2, d3⟩ := h.dic
  have hSlt := h.blk.lt
  have hS : ¬ K S := fun e => (hK S hSlt e).1 h.inG.1
  have hdb : ∀ k, v.ownBlock = some k → ¬ (k < w.heap.size ∧ K k) := fun k hk e => by have := (hK k e.1 e.2).2; have := (d3 k hk).2; omega
  have hO' : Only (fun k => k < w.heap.size ∧ K k) w w' := ⟨hO.os, hO.tape, hO.output, hO.size, fun k hk hn => hO.block k hk (fun e => hn ⟨hk, e⟩)⟩
  refine ⟨h.blk.only hO hS, h.len, h.lim, ⟨v, d1, d2.only hO' hdb, d3⟩, h.tabs, h.fr, h.bl, h.nx, h.bg, h.row.only hO' (fun k hk e => (hK k e.1 e.2).1 (h.inG.2 k hk)), h.lf, h.lk, h.kd, h.nm, h.nx7, h.nmb, h.inG, h.vars.only hO' (fun k e => by have := (hK k e.1 e.2).2; have := h.base S h.inG.1; omega), h.base, h.early, fun e => ?_⟩
  obtain ⟨u, W8, h1, h2, h6⟩ := h.frame e
  exact ⟨u, W8, h1.turn (fun _ _ _ => rfl) hO' (fun k hk e => (hK k e.1 e.2).1 (h2 k hk).1), h2, h6⟩
theorem StrAt.below {x : Fx} {G : Nat → Prop} {c : RD.Cfg} {m : MS} {S : Nat} {ss : List Value} {v6 : Value} {w w' : World} (h : StrAt x G c m S ss v6 w) (hb : Below w.heap.size w w') : StrAt x G c m S ss v6 w' :=
  h.apart (K := fun _ => False) (below_only hb) (fun _ _ e => e.elim)
/-- More blocks of its own, new ones. -/
theorem StrAt.widen {x : Fx} {G G' : Nat → Prop} {c : RD.Cfg} {m : MS} {S : Nat} {ss : List Value} {v6 : Value} {w : World} (h : StrAt x G c m S ss v6 w) (h1 : ∀ k, G k → G' k) (h2 : ∀ k, G' k → G k ∨ w.heap.size ≤ k) : StrAt x G' c m S ss v6 w := by
  obtain ⟨v, d1, d2, d3⟩ := h.dic
  refine ⟨h.blk, h.len, h.lim, ⟨v, d1, d2, fun k hk => ⟨fun e => ?_, (d3 k hk).2⟩⟩, h.tabs, h.fr, h.bl, h.nx, h.bg, h.row, h.lf, h.lk, h.kd, h.nm, h.nx7, h.nmb, ⟨h1 _ h.inG.1, fun k hk => h1 _ (h.inG.2 k hk)⟩, h.vars, fun k hk => ?_, h.early, fun e => ?_⟩
  · rcases h2 k e with e | e
    · exact (d3 k hk).1 e
    · have := (d3 k hk).2; have := h.blk.lt; omega
  · rcases h2 k hk with e | e
    · exact h.base k e
    · exact Nat.le_trans h.vars.size e
  · obtain ⟨u, W8, g1, g2, g3⟩ := h.frame e
    exact ⟨u, W8, g1, fun k hk => ⟨h1 k (g2 k hk).1, (g2 k hk).2⟩, g3⟩
theorem StrAt.un {x : Fx} {G : Nat → Prop} {c : RD.Cfg} {m : MS} {S : Nat} {ss : List Value} {v6 : Value} {w : World} (h : StrAt x G c m S ss v6 w) : UnAt 0 S 146 ss m.nx v6 m.bg m.lk m.kd m.nm w :=
  ⟨h.blk, h.nx, h.bg, h.row, h.lk, h.kd, h.nm, h.nx7, h.nmb.2.2, by have := h.nmb.1; omega⟩
end Go.Proofs.YtbhemchnjpajiaaGreatDoor

/- Units that are read (package frames): read at letters, at the length of a skipped frame, behind it, at the header of a block, at a sum, walked. -/
namespace Go.Proofs.YtbhemchnjpajiaaGreatDoor
open Go.RowKit
attribute [local irreducible] setsAt
set_option linter.unusedVariables false

/-- What reading a unit comes to. -/
def RdPost (x : Fx) (G : Nat → Prop) (c : RD.Cfg) (m : MS) (b : RD.Bytes) (S : Nat) (v6 : Value) (w : World) (e : Ending) (w' : World) : Prop :=
  Only G w w' ∧ match m.unit c b with
    | .err n => e = .returned (.tuple #[.string ⟨#[]⟩, errV (errA x n)]) ∧ VarsAt x w' ∧ ∃ ss', Blk w' S 146 ss' ∧ ss'[3]? = some (.int .i64 (m.fr : Nat)) ∧ ss'[4]? = some (.int .i64 (m.f.blocks : Nat))
    | .ok m' p => e = .returned (.tuple #[.string (RD.bs p), .nilIface]) ∧ ∃ G' ss', StrAt x G' c m' S ss' v6 w' ∧ ∀ k, G' k → G k ∨ w.heap.size ≤ k
theorem RdPost.bad {x : Fx} {G : Nat → Prop} {c : RD.Cfg} {m : MS} {b : RD.Bytes} {S : Nat} {ss : List Value} {v6 : Value} {w w' : World} {n : Nat} (h : StrAt x G c m S ss v6 w) (hu : m.unit c b = .err n) (hb : Below w.heap.size w w') : RdPost x G c m b S v6 w (.returned (.tuple #[.string ⟨#[]⟩, errV (errA x n)])) w' := by
  refine ⟨below_only hb, ?_⟩
  rw [hu]
  exact ⟨rfl, h.vars.below hb, ss, h.blk.below hb h.blk.lt, h.fr, h.bl⟩
theorem RdPost.good {x : Fx} {G : Nat → Prop} {c : RD.Cfg} {m m' : MS} {b p : RD.Bytes} {S : Nat} {ss ss' : List Value} {v6 : Value} {w w' : World} (h : StrAt x G c m S ss v6 w) (hu : m.unit c b = .ok m' p) (ho : Only (· = S) w w') (h' : StrAt x G c m' S ss' v6 w') : RdPost x G c m b S v6 w (.returned (.tuple #[.string (RD.bs p), .nilIface])) w' := by
  refine ⟨ho.weaken (fun k _ e => e ▸ h.inG.1), ?_⟩
  rw [hu]
  exact ⟨rfl, G, ss', h', fun k hk => .inl hk⟩

theorem set_ne' {ss : List Value} {i j : Nat} {v : Value} (h : i ≠ j) : (ss.set i v)[j]? = ss[j]? := List.getElem?_set_ne h
theorem set_eq' {ss : List Value} {i : Nat} {v : Value} (hl : ss.length = 34) (h : i < 34) : (ss.set i v)[i]? = some v := List.getElem?_set_self (by omega)
/-- The next unit is another one. -/
theorem StrAt.next {x : Fx} {G : Nat → Prop} {c : RD.Cfg} {m : MS} {S : Nat} {ss : List Value} {v6 : Value} {w w' : World} (h : StrAt x G c m S ss v6 w) (n : Nat) (hb : Blk w' S 146 (ss.set 5 (.int .i64 (n : Nat)))) (hO : Only (· = S) w w') (h4 : n < 4) (h0 : m.nx < 4) :
    StrAt x G c { m with nx := n } S (ss.set 5 (.int .i64 (n : Nat))) v6 w' := by
  refine h.turn hb hO (by rw [List.length_set]; exact h.len) (fun j hj => set_ne' (by omega)) (by rw [set_ne' (by omega)]; exact h.fr) (by rw [set_ne' (by omega)]; exact h.bl) (set_eq' h.len (by omega)) (set_ne' (by omega)) rfl (by rw [set_ne' (by omega)]; exact h.lf)
    (by rw [set_ne' (by omega)]; exact h.lk) (by rw [set_ne' (by omega)]; exact h.kd) (by rw [set_ne' (by omega)]; exact h.nm) (by show n < 7; omega) ⟨h.nmb.1, h.nmb.2.1⟩ (fun _ => h.early h0) (fun e => ?_)
  have : 4 ≤ n := e
  omega
theorem endCells_facts {ss : List Value} (hl : ss.length = 34) (fr : Nat) : (endCells ss fr).length = 34 ∧ (∀ j, j < 3 ∨ (5 < j ∧ j < 8) ∨ 30 < j → (endCells ss fr)[j]? = ss[j]?) ∧ (endCells ss fr)[3]? = some (.int .i64 ((fr + 1 : Nat) : Int)) ∧ (endCells ss fr)[4]? = some (.int .i64 ((0 : Nat) : Int)) ∧ (endCells ss fr)[5]? = some (.int .i64 ((0 : Nat) : Int)) := by
  have hz : zeroFr.length = 23 := rfl
  have h1 : (setsAt ss 8 zeroFr).length = 34 := by rw [setsAt_length]; exact hl
  refine ⟨by simp [endCells, h1], fun j hj => ?_, ?_, ?_, ?_⟩
  · unfold endCells
    rw [set_ne' (by omega), set_ne' (by omega), set_ne' (by omega), setsAt_out _ _ _ _ (by omega)]
  · unfold endCells
    rw [set_ne' (by omega), set_ne' (by omega), set_eq' h1 (by omega)]
    rfl
  · unfold endCells
    rw [set_ne' (by omega), set_eq' (by rw [List.length_set]; exact h1) (by omega)]
    rfl
  · unfold endCells
    rw [set_eq' (by rw [List.length_set, List.length_set]; exact h1) (by omega)]
    rfl
theorem StrAt.ended {x : Fx} {G : Nat → Prop} {c : RD.Cfg} {m : MS} {S : Nat} {ss : List Value} {v6 : Value} {w w' : World} (h : StrAt x G c m S ss v6 w) (hb : Blk w' S 146 (endCells ss m.fr)) (hO : Only (· = S) w w') : StrAt x G c m.ended S (endCells ss m.fr) v6 w' := by
  obtain ⟨e1, e2, e3, e4, e5⟩ := endCells_facts h.len m.fr
  exact h.turn hb hO e1 (fun j hj => e2 j (.inl hj)) e3 e4 e5 (e2 6 (by omega)) rfl (by rw [e2 7 (by omega)]; exact h.lf) (by rw [e2 31 (by omega)]; exact h.lk) (by rw [e2 32 (by omega)]; exact h.kd) (by rw [e2 33 (by omega)]; exact h.nm)
    (by show 0 < 7; omega) ⟨h.nmb.1, h.nmb.2.1⟩ (fun _ => rfl) (fun e => by have : 4 ≤ 0 := e; omega)

set_option maxRecDepth 100000 in
set_option maxHeartbeats 2000000 in
theorem read_0 (x : Fx) (G : Nat → Prop) (c : RD.Cfg) (m : MS) (b : RD.Bytes) (S : Nat) (ss : List Value) (v6 : Value) (w : World) (h : StrAt x G c m S ss v6 w) (h0 : m.nx = 0) :
    Calls Tryz.prog 58 #[.pointer (some ⟨S, 0, none⟩), .string (RD.bs b)] w (RdPost x G c m b S v6 w) := by
  have c5 := h.blk.cell h.nx
  have hp := readLetters_any x S 146 ss b w h.blk _ h.nx h.vars
  rw [h0] at c5
  have hu : m.unit c b = if b = RD.skipW then .ok { m with nx := 1 } [] else if b = RD.readW then .ok { m with nx := 3 } [] else .err 4 := by unfold MS.unit; rw [if_pos h0]
  replace hu := hid' hu
  replace h0 := hid' h0
  go_enter Tryz.func58, Tryz.ntmps58
  go_wp2_with fail
  refine hp.mono ?_
  rintro e w1 (⟨hb, rfl, hB, hO⟩ | ⟨hb, rfl, hB, hO⟩ | ⟨h1, h2, rfl, hbl⟩)
  · go_wp2_with fail
    go_ret2
    exact RdPost.good h (by rw [hu.out, if_pos hb]) hO (h.next 1 hB hO (by omega) (by have := h0.out; omega))
  · go_wp2_with fail
    go_ret2
    exact RdPost.good h (by rw [hu.out, if_neg (by rw [hb]; decide), if_pos hb]) hO (h.next 3 hB hO (by omega) (by have := h0.out; omega))
  · go_wp2_with fail
    go_ret2
    exact RdPost.bad (n := 4) h (by rw [hu.out, if_neg h1, if_neg h2]) hbl

set_option maxRecDepth 100000 in
set_option maxHeartbeats 2000000 in
theorem read_1 (x : Fx) (G : Nat → Prop) (c : RD.Cfg) (m : MS) (b : RD.Bytes) (S : Nat) (ss : List Value) (v6 : Value) (w : World) (h : StrAt x G c m S ss v6 w) (h0 : m.nx = 1) (hb : b.length = 3) :
    Calls Tryz.prog 58 #[.pointer (some ⟨S, 0, none⟩), .string (RD.bs b)] w (RdPost x G c m b S v6 w) := by
  have c5 := h.blk.cell h.nx
  have c7 := h.blk.cell h.lf
  have fz := h.blk.free
  rw [h0] at c5
  have hu : m.unit c b = .ok { m with nx := 2, lf := RD.num b } [] := by unfold MS.unit; rw [if_neg (by omega), if_pos h0]
  have hn := snum_any b w (by omega)
  have hN4 := num_small b 3 (by omega)
  rw [List.take_of_length_le (by omega)] at hN4
  obtain ⟨N, hN⟩ : ∃ N, N = RD.num b := ⟨_, rfl⟩
  rw [← hN] at hn hN4 hu
  replace hu := hid' hu
  replace h0 := hid' h0
  replace hN := hid' hN
  go_enter Tryz.func58, Tryz.ntmps58
  go_wp2_with fail
  refine hn.mono ?_
  rintro e w1 ⟨rfl, rfl⟩
  go_wp2_with fail
  go_ret2
  have hB := (h.blk.put 7 (.int .i64 (N : Nat))).put 5 (.int .i64 ((2 : Nat) : Int))
  have hO : Only (· = S) w1 ((w1.setCell ⟨S, 7, none⟩ (.int .i64 (N : Nat))).setCell ⟨S, 5, none⟩ (.int .i64 ((2 : Nat) : Int))) := ((Only.refl (· = S) w1).setCell ⟨S, 7, none⟩ _ (fun _ => rfl)).setCell ⟨S, 5, none⟩ _ (fun _ => rfl)
  refine RdPost.good h hu.out hO (h.turn hB hO (by rw [List.length_set, List.length_set]; exact h.len) (fun j hj => by rw [set_ne' (by omega), set_ne' (by omega)]) (by rw [set_ne' (by omega), set_ne' (by omega)]; exact h.fr) (by rw [set_ne' (by omega), set_ne' (by omega)]; exact h.bl) (set_eq' (by rw [List.length_set]; exact h.len) (by omega))
    (by rw [set_ne' (by omega), set_ne' (by omega)]) rfl (by rw [set_ne' (by omega), set_eq' h.len (by omega)]) (by rw [set_ne' (by omega), set_ne' (by omega)]; exact h.lk) (by rw [set_ne' (by omega), set_ne' (by omega)]; exact h.kd) (by rw [set_ne' (by omega), set_ne' (by omega)]; exact h.nm) (by show 2 < 7; omega) ⟨h.nmb.1, ?_⟩ (fun _ => h.early (by have := h0.out; omega)) (fun e => ?_))
  · show N ≤ _; omega
  · have : 4 ≤ 2 := e
    omega

set_option maxRecDepth 100000 in
set_option maxHeartbeats 2000000 in
theorem read_2 (x : Fx) (G : Nat → Prop) (c : RD.Cfg) (m : MS) (b : RD.Bytes) (S : Nat) (ss : List Value) (v6 : Value) (w : World) (h : StrAt x G c m S ss v6 w) (h0 : m.nx = 2) (hf : m.fr ≤ 1099511627776) :
    Calls Tryz.prog 58 #[.pointer (some ⟨S, 0, none⟩), .string (RD.bs b)] w (RdPost x G c m b S v6 w) := by
  have c5 := h.blk.cell h.nx
  have hp := strEnd_any S 146 ss m.fr w h.blk h.len h.fr hf
  rw [h0] at c5
  have hu : m.unit c b = .ok m.ended [] := by unfold MS.unit; rw [if_neg (by omega), if_neg (by omega), if_pos h0]
  replace hu := hid' hu
  replace h0 := hid' h0
  go_enter Tryz.func58, Tryz.ntmps58
  go_wp2_with fail
  refine hp.mono ?_
  rintro e w1 ⟨rfl, hB, hO⟩
  go_wp2_with fail
  go_ret2
  exact RdPost.good h hu.out hO (h.ended hB hO)

set_option maxRecDepth 100000 in
set_option maxHeartbeats 2000000 in
theorem read_4 (x : Fx) (G : Nat → Prop) (c : RD.Cfg) (m : MS) (b : RD.Bytes) (S : Nat) (ss : List Value) (v6 : Value) (w : World) (h : StrAt x G c m S ss v6 w) (h0 : m.nx = 4) (hb : b.length = 2) :
    Calls Tryz.prog 58 #[.pointer (some ⟨S, 0, none⟩), .string (RD.bs b)] w (RdPost x G c m b S v6 w) := by
  have c5 := h.blk.cell h.nx
  have hp := readBlockHeader_any x S 146 ss b w h.blk h.len hb h.vars
  rw [h0] at c5
  have hu : m.unit c b = if RD.num b / 2 % 4 = 3 ∨ 1024 < RD.num b / 8 then .err 4 else .ok { m with nx := 5, lk := decide (RD.num b % 2 = 1), kd := RD.num b / 2 % 4, nm := RD.num b / 8 } [] := by unfold MS.unit; rw [if_neg (by omega), if_neg (by omega), if_neg (by omega), if_neg (by omega), if_pos h0]
  have h4 : 4 ≤ m.nx := by omega
  replace hu := hid' hu
  replace h0 := hid' h0
  replace h4 := hid' h4
  go_enter Tryz.func58, Tryz.ntmps58
  go_wp2_with fail
  refine hp.mono ?_
  rintro e w1 (⟨hbad, rfl, hbl⟩ | ⟨hgood, rfl, hB, hO⟩)
  · go_wp2_with fail
    go_ret2
    exact RdPost.bad (n := 4) h (by rw [hu.out, if_pos hbad]) hbl
  · go_wp2_with fail
    go_ret2
    generalize RD.num b = N at *
    have hL : (setsAt ss 31 [.bool (decide (N % 2 = 1)), .int .i64 ((N / 2 % 4 : Nat)), .int .i64 ((N / 8 : Nat))]).length = 34 := by rw [setsAt_length]; exact h.len
    have hin := fun j hj => setsAt_in [.bool (decide (N % 2 = 1)), .int .i64 ((N / 2 % 4 : Nat)), .int .i64 ((N / 8 : Nat))] ss 31 j (by rw [h.len]; show 31 + 3 ≤ 34; omega) hj
    have hout : ∀ j, j < 31 → (setsAt ss 31 [.bool (decide (N % 2 = 1)), .int .i64 ((N / 2 % 4 : Nat)), .int .i64 ((N / 8 : Nat))])[j]? = ss[j]? := fun j hj => setsAt_out _ _ _ _ (.inl hj)
    refine RdPost.good (m' := { m with nx := 5, lk := decide (N % 2 = 1), kd := N / 2 % 4, nm := N / 8 }) h (by rw [hu.out, if_neg hgood]) hO (h.turn hB hO (by rw [List.length_set]; exact hL) (fun j hj => by rw [set_ne' (by omega), hout j (by omega)]) (by rw [set_ne' (by omega), hout _ (by omega)]; exact h.fr) (by rw [set_ne' (by omega), hout _ (by omega)]; exact h.bl) (set_eq' hL (by omega))
      (by rw [set_ne' (by omega), hout _ (by omega)]) rfl (by rw [set_ne' (by omega), hout _ (by omega)]; exact h.lf) (by rw [set_ne' (by omega)]; exact hin 0 (by simp)) (by rw [set_ne' (by omega)]; exact hin 1 (by simp)) (by rw [set_ne' (by omega)]; exact hin 2 (by simp)) (by show 5 < 7; omega) ⟨?_, h.nmb.2.1⟩ (fun e => by have : 5 < 4 := e; omega) (fun e => ?_))
    · show N / 8 ≤ 1024
      omega
    · obtain ⟨v, W8, h1, h2, -⟩ := h.frame h4.out
      exact ⟨v, W8, h1.turn (fun j _ hj => by rw [set_ne' (by omega), hout j hj]) hO (fun k hk e => h1.ne h.blk hk e), h2, fun e => by cases e⟩

set_option maxRecDepth 100000 in
set_option maxHeartbeats 2000000 in
theorem read_6 (x : Fx) (G : Nat → Prop) (c : RD.Cfg) (m : MS) (b : RD.Bytes) (S : Nat) (ss : List Value) (v6 : Value) (w : World) (h : StrAt x G c m S ss v6 w) (h0 : m.nx = 6) (hb : b.length = 4) (hf : m.fr ≤ 1099511627776) (ht : m.f.text.length ≤ 1099511627776) :
    Calls Tryz.prog 58 #[.pointer (some ⟨S, 0, none⟩), .string (RD.bs b)] w (RdPost x G c m b S v6 w) := by
  have c5 := h.blk.cell h.nx
  obtain ⟨v, W8, h1, h2, h6⟩ := h.frame (by omega)
  have hsm := h6 h0
  obtain ⟨hpart, h12⟩ := parted h.len (sumCells_length _) (h1.sum hsm)
  have hp := readSum_any x S 146 (ss.take 12) (ss.drop 18) m.fr m.f.text b w (by rw [← hpart]; exact h.blk) h12 (by rw [← hpart]; exact h.len) (by rw [← hpart]; exact h.fr) hf hb ht h.vars
  rw [← hpart] at hp
  clear hpart
  rw [h0] at c5
  have hu : m.unit c b = if (RD.num b : Int) ≠ SM.sum m.f.text then .err 8 else .ok m.ended [] := by unfold MS.unit; rw [if_neg (by omega), if_neg (by omega), if_neg (by omega), if_neg (by omega), if_neg (by omega), if_neg (by omega)]
  replace hu := hid' hu
  replace h0 := hid' h0
  replace hsm := hid' hsm
  clear h6
  replace h1 := hid' h1
  go_enter Tryz.func58, Tryz.ntmps58
  go_wp2_with fail
  refine hp.mono ?_
  rintro e w1 (⟨hbad, rfl, hbl⟩ | ⟨hgood, rfl, hB, hO⟩)
  · go_wp2_with fail
    go_ret2
    exact RdPost.bad (n := 8) h (by rw [hu.out, if_pos hbad]) hbl
  · go_wp2_with fail
    go_ret2
    exact RdPost.good h (by rw [hu.out, if_neg (fun e => e hgood)]) hO (h.ended hB hO)
end Go.Proofs.YtbhemchnjpajiaaGreatDoor

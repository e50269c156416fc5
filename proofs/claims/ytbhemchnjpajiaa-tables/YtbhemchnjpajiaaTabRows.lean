/- The rows of places that the document's tables are made of, in memory: each row done or nil; what stays of them behind new blocks, appends and stores elsewhere. -/
import Derived.Test.YtbhemchnjpajiaaTabNum
import Derived.Test.YtbhemchnjpajiaaTabRefMath
import Derived.Test.YtbhemchnjpajiaaCodeWalks
import Derived.Maps.AppendAt
namespace Go.Proofs.Ytbhemchnjpajiaa
open Go.RowKit
set_option linter.unusedVariables false

/-- Blocks that are not bad stand as they were. -/
def Keeps (bad : Nat → Prop) (w w' : World) : Prop := w.heap.size ≤ w'.heap.size ∧ ∀ b, b < w.heap.size → ¬ bad b → w'.heap[b]? = w.heap[b]?
theorem Keeps.refl (bad : Nat → Prop) (w : World) : Keeps bad w w := ⟨Nat.le_refl _, fun _ _ _ => rfl⟩
theorem Keeps.trans {bad : Nat → Prop} {a b c : World} (h : Keeps bad a b) (k : Keeps bad b c) : Keeps bad a c :=
  ⟨Nat.le_trans h.1 k.1, fun x hx hb => (k.2 x (Nat.lt_of_lt_of_le hx h.1) hb).trans (h.2 x hx hb)⟩
theorem Keeps.alloc {bad : Nat → Prop} {a w : World} (h : Keeps bad a w) (o : Obj) : Keeps bad a (w.alloc o) :=
  h.trans ⟨by simp, fun b hb _ => Below.heap_alloc w o b hb⟩
theorem Keeps.setCell {bad : Nat → Prop} {a w : World} (h : Keeps bad a w) (p : Addr) (v : Value) (hp : bad p.block) : Keeps bad a (w.setCell p v) :=
  h.trans ⟨by simp, fun b hb hn => Below.heap_setCell w p v b (fun e => hn (e ▸ hp))⟩
theorem Keeps.drewN {bad : Nat → Prop} {a w : World} (h : Keeps bad a w) (q : Nat) : Keeps bad a (w.drewN q) := h
theorem Keeps.grown {bad : Nat → Prop} {a w w' : World} {row : Option Nat} (h : Keeps bad a w) (hg : w.grownBy w' row) (hr : ∀ k, row = some k → k < a.heap.size → bad k) : Keeps bad a w' :=
  ⟨Nat.le_trans h.1 hg.size, fun b hb hn => (hg.block b (Nat.lt_of_lt_of_le hb h.1) (fun e => hn (hr b e.symm hb))).trans (h.2 b hb hn)⟩
theorem Keeps.weaken {bad bad' : Nat → Prop} {w w' : World} (h : Keeps bad w w') (hb : ∀ b, b < w.heap.size → bad b → bad' b) : Keeps bad' w w' :=
  ⟨h.1, fun b hb' hn => h.2 b hb' (fun e => hn (hb b hb' e))⟩
theorem Keeps.blk {bad : Nat → Prop} {w w' : World} (h : Keeps bad w w') {g : Nat} {t : TypeId} {cs : List Value} (hb : Blk w g t cs) (hn : ¬ bad g) : Blk w' g t cs := by
  unfold Blk
  rw [h.2 g hb.lt hn]
  exact hb
theorem Keeps.ints {bad : Nat → Prop} {w w' : World} (h : Keeps bad w w') {a : Option Addr} {n : Nat} {z : List Int} (hI : Ints w a n z) (hn : ∀ b off, a = some ⟨b, off, none⟩ → ¬ bad b) : Ints w' a n z := by
  obtain ⟨h1, h2, h3⟩ := hI
  refine ⟨h1, h2, ?_⟩
  rcases h3 with h3 | ⟨b, off, ha, hlt, hc⟩
  · exact .inl h3
  · exact .inr ⟨b, off, ha, Nat.lt_of_lt_of_le hlt h.1, fun i hi => by
      rw [← hc i hi]
      exact World.cell?_of_block (w := w) (h.2 b hlt (hn b off ha))⟩
theorem Below.keeps {B : Nat} {w w' : World} (h : Below B w w') : Keeps (fun b => B ≤ b) w w' := ⟨h.size, fun b hb hn => h.block b (by omega)⟩

theorem owns_form {w : World} {base : Nat} {e : TypeId} {size : Nat} {v : Value} {n : Nat} {xs : List Value} (h : w.ownsRow base e size v n xs) :
    (v = .slice none 0 0 ∧ n = 0) ∨ ∃ g c, v = .slice (some ⟨g, 0, none⟩) n c ∧ base ≤ g := by
  obtain ⟨h1, h2⟩ := h
  rcases h2 with h2 | ⟨g, c, cur, rfl, hg1, r⟩
  · exact .inl h2
  · exact .inr ⟨g, c, rfl, hg1⟩
/-- A row of the call's own, read. -/
theorem owns_ints {w : World} {base : Nat} {v : Value} {L : List Int} (h : w.ownsRow base 3 1 v L.length (intCells L)) (hL : L.length ≤ 64) :
    ∃ a c, v = .slice a L.length c ∧ Ints w a L.length L ∧ (∀ b off, a = some ⟨b, off, none⟩ → base ≤ b) := by
  rcases owns_form h with ⟨rfl, h0⟩ | ⟨g, c, rfl, hg⟩
  · exact ⟨none, 0, by rw [h0], ⟨rfl, by omega, .inl h0⟩, fun b off e => by cases e⟩
  · refine ⟨some ⟨g, 0, none⟩, c, rfl, ?_, fun b off e => by cases e; exact hg⟩
    by_cases h0 : L.length = 0
    · exact ⟨rfl, by omega, .inl h0⟩
    · obtain ⟨g', c', rest, hv, h1, h2, -⟩ := owns_slice h (by omega)
      injection hv with x1 _ x3
      injection x1 with x1
      injection x1 with x1
      subst x1
      exact Ints.of_blk h2 (by omega)

/-- The row of a symbol's places: nil, or done. -/
def RowV (z : List Int) (S n : Nat) (w : World) (bad : Nat → Prop) (t : Nat) (d : Prop) (v : Value) : Prop :=
  (¬ d ∧ v = .slice none 0 0) ∨ (d ∧ ∃ L a c, v = .slice a L.length c ∧ Ints w a L.length L ∧ (∀ b off, a = some ⟨b, off, none⟩ → ¬ bad b ∧ b < w.heap.size) ∧ TM.Good z S n t L)
theorem RowV.keep {z : List Int} {S n : Nat} {w w' : World} {bad bad' : Nat → Prop} {t : Nat} {d : Prop} {v : Value} (h : RowV z S n w bad t d v) (hk : Keeps bad w w') (hb : ∀ b, b < w.heap.size → bad' b → bad b) : RowV z S n w' bad' t d v := by
  rcases h with h | ⟨hd, L, a, c, rfl, hI, hn, hg⟩
  · exact .inl h
  · exact .inr ⟨hd, L, a, c, rfl, hk.ints hI (fun b off e => (hn b off e).1), fun b off e => ⟨fun h => (hn b off e).1 (hb b (hn b off e).2 h), Nat.lt_of_lt_of_le (hn b off e).2 hk.1⟩, hg⟩
/-- All rows. -/
def Rows' (z : List Int) (S n : Nat) (w : World) (bad : Nat → Prop) (D : Nat → Prop) (vs : List Value) : Prop := vs.length = n ∧ ∀ t, t < n → ∃ v, vs[t]? = some v ∧ RowV z S n w bad t (D t) v
theorem Rows'.keep {z : List Int} {S n : Nat} {w w' : World} {bad bad' : Nat → Prop} {D : Nat → Prop} {vs : List Value} (h : Rows' z S n w bad D vs) (hk : Keeps bad w w') (hb : ∀ b, b < w.heap.size → bad' b → bad b) : Rows' z S n w' bad' D vs :=
  ⟨h.1, fun t ht => by obtain ⟨v, a, b⟩ := h.2 t ht; exact ⟨v, a, b.keep hk hb⟩⟩
/-- A row is put: the others stand. -/
theorem Rows'.put {z : List Int} {S n : Nat} {w : World} {bad : Nat → Prop} {D D' : Nat → Prop} {vs : List Value} (h : Rows' z S n w bad D vs) (k : Nat) (v : Value) (hv : RowV z S n w bad k (D' k) v) (hk : k < n) (hD : ∀ t, t ≠ k → (D t ↔ D' t)) : Rows' z S n w bad D' (vs.set k v) := by
  refine ⟨by simp [h.1], fun t ht => ?_⟩
  by_cases e : t = k
  · subst e
    exact ⟨v, by rw [List.getElem?_set_self (by rw [h.1]; exact ht)], hv⟩
  · obtain ⟨u, a, b⟩ := h.2 t ht
    refine ⟨u, by rw [List.getElem?_set_ne (fun e' => e e'.symm)]; exact a, ?_⟩
    rcases b with ⟨b1, b2⟩ | ⟨b1, b2⟩
    · exact .inl ⟨fun x => b1 ((hD t e).2 x), b2⟩
    · exact .inr ⟨(hD t e).1 b1, b2⟩
theorem Rows'.same {z : List Int} {S n : Nat} {w : World} {bad : Nat → Prop} {D D' : Nat → Prop} {vs : List Value} (h : Rows' z S n w bad D vs) (hD : ∀ t, t < n → (D t ↔ D' t)) : Rows' z S n w bad D' vs := by
  refine ⟨h.1, fun t ht => ?_⟩
  obtain ⟨u, a, b⟩ := h.2 t ht
  refine ⟨u, a, ?_⟩
  rcases b with ⟨b1, b2⟩ | ⟨b1, b2⟩
  · exact .inl ⟨fun x => b1 ((hD t ht).2 x), b2⟩
  · exact .inr ⟨(hD t ht).1 b1, b2⟩

theorem owns_not {w : World} {base : Nat} {e : TypeId} {size : Nat} {v : Value} {n : Nat} {xs : List Value} (h : w.ownsRow base e size v n xs) (g : Nat) (hg : g < base) : v.ownBlock ≠ some g := by
  rcases owns_form h with ⟨rfl, -⟩ | ⟨g', c, rfl, hb⟩
  · simp [Value.ownBlock]
  · simp [Value.ownBlock]; omega
/-- Behind an append to one row of the call's own the others stand, and keep out of it. -/
theorem rows_append {z : List Int} {S n : Nat} {wr w1 : World} {X : Obj} {G : Nat} {v v' : Value} {D : Nat → Prop} {vs : List Value}
    (h : Rows' z S n wr (fun b => b = G ∨ v.ownBlock = some b) D vs) (hg : (wr.alloc X).grownBy w1 v.ownBlock) (hat : v'.ownBlock = v.ownBlock ∨ v'.ownBlock = some (wr.heap.size + 1)) :
    Rows' z S n w1 (fun b => b = G ∨ v'.ownBlock = some b) D vs := by
  refine h.keep (((Keeps.refl _ wr).alloc X).grown hg (fun k e _ => .inr e)) ?_
  intro b hb hbad
  rcases hbad with rfl | hbad
  · exact .inl rfl
  · rcases hat with e | e
    · exact .inr (by rw [← e]; exact hbad)
    · rw [e] at hbad
      injection hbad with hbad
      omega
/-- A row of one place is laid. -/
theorem rows_lay {z : List Int} {S n : Nat} {w1 : World} {G k : Nat} {v' : Value} {D D' : Nat → Prop} {vs : List Value} {x : Int}
    (h : Rows' z S n w1 (fun b => b = G ∨ v'.ownBlock = some b) D vs) (hv : ∀ g, v'.ownBlock = some g → g < w1.heap.size) (hG : G < w1.heap.size) (hk : k < n) (hD : ∀ t, t ≠ k → (D t ↔ D' t)) (hDk : D' k) (hgood : TM.Good z S n k [x]) :
    Rows' z S n ((w1.alloc (.cells #[.int .i64 x] 3)).setCell ⟨G, k, none⟩ (.slice (some ⟨w1.heap.size, 0, none⟩) 1 1)) (fun b => b = G ∨ v'.ownBlock = some b) D' (vs.set k (.slice (some ⟨w1.heap.size, 0, none⟩) 1 1)) := by
  have hk1 : Keeps (fun b => b = G ∨ v'.ownBlock = some b) w1 ((w1.alloc (.cells #[.int .i64 x] 3)).setCell ⟨G, k, none⟩ (.slice (some ⟨w1.heap.size, 0, none⟩) 1 1)) :=
    ((Keeps.refl _ w1).alloc _).setCell _ _ (.inl rfl)
  refine (h.keep hk1 (fun b _ e => e)).put k _ ?_ hk hD
  refine .inr ⟨hDk, [x], some ⟨w1.heap.size, 0, none⟩, 1, rfl, ?_, ?_, hgood⟩
  · have hb : Blk ((w1.alloc (.cells #[.int .i64 x] 3)).setCell ⟨G, k, none⟩ (.slice (some ⟨w1.heap.size, 0, none⟩) 1 1)) w1.heap.size 3 (intCells [x] ++ []) :=
      (Blk.new w1 3 [.int .i64 x]).other _ _ (by simp only; omega)
    exact Ints.of_blk hb (by simp)
  · intro b off e
    injection e with e
    injection e with e1
    subst e1
    refine ⟨?_, by simp⟩
    rintro (e | e)
    · omega
    · have := hv _ e
      omega
theorem owns_lt {w : World} {base : Nat} {e : TypeId} {size : Nat} {v : Value} {n : Nat} {xs : List Value} (h : w.ownsRow base e size v n xs) : ∀ g, v.ownBlock = some g → g < w.heap.size := fun g hg => (h.lt g hg).2

/-- How many states each symbol has had: behind p places, and s symbols of the next. -/
def sRow (F : Nat → Int) (n p s : Nat) : List Value := (List.range n).map fun t : Nat => .int .i64 ((TM.cntEq F (t : Int) p : Int) + if F p = (t : Int) ∧ t < s then 1 else 0)
theorem sRow_length (F : Nat → Int) (n p s : Nat) : (sRow F n p s).length = n := by simp [sRow]
theorem sRow_at (F : Nat → Int) (n p s : Nat) (h : s < n) : (sRow F n p s)[s]? = some (.int .i64 (TM.cntEq F (s : Int) p : Int)) := by
  simp [sRow, h]
theorem sRow_put (F : Nat → Int) (n p s : Nat) (hF : F p = (s : Int)) (h : s < n) : (sRow F n p s).set s (.int .i64 ((TM.cntEq F (s : Int) p : Int) + 1)) = sRow F n p (s + 1) := by
  apply List.ext_getElem
  · simp [sRow]
  · intro t h1 h2
    simp only [sRow, List.getElem_set, List.getElem_map, List.getElem_range]
    by_cases e : s = t
    · subst e
      rw [if_pos rfl, if_pos ⟨hF, by omega⟩]
    · rw [if_neg e, if_neg (by rw [hF]; omega), if_neg (by rw [hF]; omega)]
theorem sRow_skip (F : Nat → Int) (n p s : Nat) (hF : F p ≠ (s : Int)) : sRow F n p s = sRow F n p (s + 1) := by
  unfold sRow
  apply List.map_congr_left
  intro t ht
  congr 2
  by_cases e : F p = (t : Int)
  · have : t ≠ s := by rintro rfl; exact hF e
    by_cases e2 : t < s
    · rw [if_pos ⟨e, e2⟩, if_pos ⟨e, by omega⟩]
    · rw [if_neg (fun h => e2 h.2), if_neg (fun h => e2 (by omega))]
  · rw [if_neg (fun h => e h.1), if_neg (fun h => e h.1)]
theorem sRow_next (F : Nat → Int) (n p : Nat) : sRow F n p n = sRow F n (p + 1) 0 := by
  unfold sRow
  apply List.map_congr_left
  intro t ht
  have ht' : t < n := by simpa using ht
  congr 1
  rw [if_neg (show ¬ (F (p + 1) = (t : Int) ∧ t < 0) by omega)]
  simp only [TM.cntEq]
  by_cases e : F p = (t : Int)
  · rw [if_pos ⟨e, ht'⟩, if_pos e]; omega
  · rw [if_neg (fun h => e h.1), if_neg e]; omega
theorem sRow_zero (F : Nat → Int) (n : Nat) : zeroRow n = sRow F n 0 0 := by
  apply List.ext_getElem
  · simp [sRow, zeroRow]
  · intro t h1 h2
    simp [sRow, zeroRow, TM.cntEq]
/-- The states so far: those of p places, and the next one where its symbol has been met. -/
def outL (f : Nat → CM.Tri) (F : Nat → Int) (p s : Nat) : List CM.Tri := TM.tab p f ++ if F p < (s : Int) then [f p] else []
theorem tab_succ (f : Nat → CM.Tri) (p : Nat) : TM.tab (p + 1) f = TM.tab p f ++ [f p] := by unfold TM.tab; rw [List.range_succ, List.map_append]; rfl
theorem outL_zero (f : Nat → CM.Tri) (F : Nat → Int) (p : Nat) (h : 0 ≤ F p) : outL f F p 0 = TM.tab p f := by unfold outL; rw [if_neg (by omega), List.append_nil]
theorem outL_end (f : Nat → CM.Tri) (F : Nat → Int) (p n : Nat) (h : F p < (n : Int)) : outL f F p n = TM.tab (p + 1) f := by unfold outL; rw [if_pos h, tab_succ]
theorem outL_skip (f : Nat → CM.Tri) (F : Nat → Int) (p s : Nat) (h : F p ≠ (s : Int)) : outL f F p s = outL f F p (s + 1) := by
  unfold outL
  by_cases e : F p < (s : Int)
  · rw [if_pos e, if_pos (by omega)]
  · rw [if_neg e, if_neg (by omega)]
theorem outL_put (f : Nat → CM.Tri) (F : Nat → Int) (p s : Nat) (h : F p = (s : Int)) : outL f F p (s + 1) = outL f F p s ++ [f p] := by
  unfold outL
  rw [if_neg (show ¬ F p < (s : Int) by omega), if_pos (by omega), List.append_nil]
theorem outL_length (f : Nat → CM.Tri) (F : Nat → Int) (p s : Nat) : (outL f F p s).length ≤ p + 1 := by
  unfold outL
  rw [List.length_append, TM.tab_length]
  split <;> simp

theorem infoInts : (Try.prog.info? 25).map (fun i => (i.zero, i.size, i.bytes)) = some (some (.slice none 0 0), 1, 24) := by kernel_rfl
def nilRow (n : Nat) : List Value := List.replicate n (Value.slice none 0 0)
theorem made_nils (n : Nat) : madeCells #[.slice none 0 0] n = (nilRow n).toArray := by
  apply Array.ext
  · simp [madeCells, nilRow]
  · intro i h1 h2
    simp [madeCells, nilRow, Nat.mod_one]
/-- make([][]int, n): nothing but nil. -/
theorem make_rows (w : World) (n : Nat) (hn : n ≤ 16) :
    (Instr.makeSlice 56 (.int .i64 (n : Int)) (.int .i64 (n : Int))).run Try.prog w =
      .ok (.slice (some ⟨w.heap.size, 0, none⟩) n n) (w.alloc (.cells (nilRow n).toArray 25)) := by
  obtain ⟨i0, hi, hz0, hz1, hz2⟩ := info_parts infoInts
  have h := run_make (P := Try.prog) w 56 25 i0 (.slice none 0 0) Try.underlying56 hi hz0 .i64 .i64 (n : Int) (n : Int) (by omega) (Int.le_refl _) (by rw [hz2]; omega) (by omega)
  rw [h, Int.toNat_natCast, hz1, Nat.mul_one, ← made_nils n]
  rfl
theorem rows_start (z : List Int) (S n : Nat) (w : World) (bad D : Nat → Prop) (hD : ∀ t, ¬ D t) : Rows' z S n w bad D (nilRow n) :=
  ⟨by simp [nilRow], fun t ht => ⟨_, by rw [nilRow, List.getElem?_replicate, if_pos ht], .inl ⟨hD t, rfl⟩⟩⟩

set_option maxHeartbeats 400000 in
theorem has_any (a : Option Addr) (n cap : Nat) (L : List Int) (p : Int) (w : World) (hI : Ints w a n L) :
    Calls Try.prog 30 #[.slice a n cap, .int .i64 p] w fun e w' => e = .returned (.bool (decide (p ∈ L))) ∧ w = w' := by
  obtain ⟨hl, hbig, hc⟩ := hI
  go_enter Try.func30, Try.ntmps30
  go_wp2_with fail
  go_loopg [5] n (fun g iv wr => ∃ i : Nat, g = n - i ∧ i ≤ n ∧ iv = .int .i64 (i : Int) ∧ Hid (∀ x ∈ L.take i, x ≠ p) ∧ wr = w)
  case atStart => exact ⟨0, by omega, by omega, rfl, by simp [Hid], rfl⟩
  case round =>
    obtain ⟨i, rfl, hi, rfl, hno, hwr⟩ := hrel
    subst hwr
    by_cases hin : i < n
    · obtain ⟨b, off, rfl, -, hc'⟩ := hc.resolve_left (by omega)
      have c1 := hc' i hin
      have hx := hid' (show L.take (i + 1) = L.take i ++ [L.getD i 0] by rw [List.take_succ_eq_append_getElem (by omega), List.getD_eq_getElem?_getD, List.getElem?_eq_getElem (by omega)]; rfl)
      have hm := hid' (show L.getD i 0 ∈ L by rw [List.getD_eq_getElem?_getD, List.getElem?_eq_getElem (by omega)]; exact List.getElem_mem _)
      clear hc'
      generalize L.getD i 0 = x at *
      by_cases hxp : x = p
      · subst hxp
        have hd := hid' (show decide (x ∈ L) = true from decide_eq_true hm.out)
        clear hc
        go_wp2
        go_ret
        exact ⟨rt_bool hd.out.symm, rfl⟩
      · have hb : (x == p) = false := by simpa using hxp
        go_wp2
        go_roundg (n - (i + 1))
        case rel =>
          refine ⟨i + 1, rfl, by omega, by go_num, ?_, rfl⟩
          rw [Hid, hx.out]
          intro y hy
          simp at hy
          rcases hy with hy | rfl
          · exact hno.out y hy
          · exact hxp
        case measure => omega
    · have hd := hid' (show decide (p ∈ L) = false by
        have := hno.out
        rw [List.take_of_length_le (by omega)] at this
        exact decide_eq_false fun h => this p h rfl)
      clear hc
      go_wp2
      go_ret
      exact ⟨rt_bool hd.out.symm, rfl⟩
end Go.Proofs.Ytbhemchnjpajiaa

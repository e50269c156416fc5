/- Families of rows: a caller writes its mark into lists of structs of three integers, and appends to them: whatever block an append chooses, every list of a family shows the family's mark alone. -/
import Derived.Test.YtbhemchnjpajiaaKit
import Derived.ArgAppend
namespace Go.Proofs.Ytbhemchnjpajiaa
open Go.RowKit
set_option linter.unusedVariables false

theorem hid {p : Prop} (h : p) : Hid p := h

/-- The element j of a row is the mark m. -/
def Mk (cs : List Value) (j : Nat) (m : Int) : Prop := cs[j * 3]? = some (.int .i64 m) ∧ cs[j * 3 + 1]? = some (.int .i64 0) ∧ cs[j * 3 + 2]? = some (.int .i64 0)
def markCells (m : Int) : List Value := [.int .i64 m, .int .i64 0, .int .i64 0]

/-- A list of n structs, nil or a row of its family's, the first i of which are marks. -/
def Gr (w : World) (B : Nat) (T : TypeId) (F : Nat → Int) (m : Int) (v : Value) (n i : Nat) : Prop :=
  (v = .slice none 0 0 ∧ n = 0 ∧ i = 0) ∨
  ∃ g c cs, v = .slice (some ⟨g, 0, none⟩) n c ∧ B ≤ g ∧ Blk w g T cs ∧ cs.length = c * 3 ∧ n ≤ c ∧ c ≤ maxLen ∧ n ≤ 5000 ∧ F g = m ∧ i ≤ n ∧ ∀ j, j < i → Mk cs j m

def put3 (cs : List Value) (q : Nat) (m : Int) : List Value := ((cs.set (q * 3) (.int .i64 m)).set (q * 3 + 1) (.int .i64 0)).set (q * 3 + 2) (.int .i64 0)
theorem put3_length (cs : List Value) (q : Nat) (m : Int) : (put3 cs q m).length = cs.length := by simp [put3]
theorem put3_same (cs : List Value) (q : Nat) (m : Int) (h : q * 3 + 2 < cs.length) : Mk (put3 cs q m) q m := by
  unfold Mk put3
  refine ⟨?_, ?_, ?_⟩
  · simp [List.getElem?_set]; omega
  · simp [List.getElem?_set]; omega
  · simp [List.getElem?_set]; omega
theorem put3_other (cs : List Value) (q j : Nat) (m m' : Int) (hne : j ≠ q) (h : Mk cs j m') : Mk (put3 cs q m) j m' := by
  unfold Mk put3 at *
  obtain ⟨a, b, c⟩ := h
  refine ⟨?_, ?_, ?_⟩
  · rw [List.getElem?_set_ne (by omega), List.getElem?_set_ne (by omega), List.getElem?_set_ne (by omega)]; exact a
  · rw [List.getElem?_set_ne (by omega), List.getElem?_set_ne (by omega), List.getElem?_set_ne (by omega)]; exact b
  · rw [List.getElem?_set_ne (by omega), List.getElem?_set_ne (by omega), List.getElem?_set_ne (by omega)]; exact c

def mark3 (w : World) (g q : Nat) (m : Int) : World := ((w.setCell ⟨g, q * 3, none⟩ (.int .i64 m)).setCell ⟨g, q * 3 + 1, none⟩ (.int .i64 0)).setCell ⟨g, q * 3 + 2, none⟩ (.int .i64 0)
theorem mark3_blk {w : World} {g : Nat} {T : TypeId} {cs : List Value} (h : Blk w g T cs) (q : Nat) (m : Int) : Blk (mark3 w g q m) g T (put3 cs q m) := ((h.put _ _).put _ _).put _ _
theorem mark3_other {w : World} {g g' : Nat} {T : TypeId} {cs : List Value} (h : Blk w g' T cs) (q : Nat) (m : Int) (hne : g' ≠ g) : Blk (mark3 w g q m) g' T cs :=
  ((h.other _ _ hne).other _ _ hne).other _ _ hne
theorem mark3_below {B : Nat} {w0 w : World} (h : Below B w0 w) (g q : Nat) (m : Int) (hg : B ≤ g) : Below B w0 (mark3 w g q m) := ((h.setCell hg _).setCell hg _).setCell hg _
theorem mark3_size (w : World) (g q : Nat) (m : Int) : (mark3 w g q m).heap.size = w.heap.size := by simp [mark3]
theorem blk_inj {w : World} {g : Nat} {T T' : TypeId} {cs cs' : List Value} (h : Blk w g T cs) (h' : Blk w g T' cs') : T = T' ∧ cs = cs' := by
  unfold Blk at h h'
  rw [h] at h'
  injection h' with h'
  injection h' with a b c
  exact ⟨b, by simpa using a⟩

/-- A mark is written into a row of its own family: every list stays what it was. -/
theorem Gr.marked {w : World} {B : Nat} {T : TypeId} {F : Nat → Int} {m' : Int} {v : Value} {n i : Nat} (h : Gr w B T F m' v n i) {g : Nat} {m : Int} (hF : F g = m) (q : Nat) {c : Nat} {cs : List Value} (hg : Blk w g T cs) (hq : q * 3 + 2 < cs.length) : Gr (mark3 w g q m) B T F m' v n i := by
  rcases h with h | ⟨g', c', cs', rfl, a1, a2, a3, a4, a5, a6, a7, a8, a9⟩
  · exact .inl h
  · right
    by_cases e : g' = g
    · subst e
      obtain ⟨-, rfl⟩ := blk_inj a2 hg
      obtain rfl : m' = m := by rw [← a7, hF]
      refine ⟨g', c', put3 cs' q m', rfl, a1, mark3_blk a2 q m', by rw [put3_length]; exact a3, a4, a5, a6, a7, a8, ?_⟩
      intro j hj
      by_cases e : j = q
      · subst e; exact put3_same _ _ _ hq
      · exact put3_other _ _ _ _ _ e (a9 j hj)
    · exact ⟨g', c', cs', rfl, a1, mark3_other a2 q m e, a3, a4, a5, a6, a7, a8, a9⟩
/-- Nothing of a list's has turned where its blocks have not. -/
theorem Gr.keep {w w' : World} {B : Nat} {T : TypeId} {F F' : Nat → Int} {m : Int} {v : Value} {n i : Nat} (h : Gr w B T F m v n i) (hb : ∀ g cs, Blk w g T cs → Blk w' g T cs) (hF : ∀ g, g < w.heap.size → F' g = F g) : Gr w' B T F' m v n i := by
  rcases h with h | ⟨g, c, cs, rfl, a1, a2, a3, a4, a5, a6, a7, a8, a9⟩
  · exact .inl h
  · exact .inr ⟨g, c, cs, rfl, a1, hb g cs a2, a3, a4, a5, a6, by rw [hF g a2.lt]; exact a7, a8, a9⟩
theorem Gr.alloc {w : World} {B : Nat} {T : TypeId} {F : Nat → Int} {m : Int} {v : Value} {n i : Nat} (h : Gr w B T F m v n i) (o : Obj) : Gr (w.alloc o) B T F m v n i := h.keep (fun g cs hb => hb.alloc o) (fun _ _ => rfl)
theorem Gr.drew {w : World} {B : Nat} {T : TypeId} {F : Nat → Int} {m : Int} {v : Value} {n i : Nat} (h : Gr w B T F m v n i) : Gr w.drew B T F m v n i := h
theorem Gr.drewN {w : World} {B : Nat} {T : TypeId} {F : Nat → Int} {m : Int} {v : Value} {n i : Nat} (h : Gr w B T F m v n i) (q : Nat) : Gr (w.drewN q) B T F m v n i := h

theorem grown_blk {w w' : World} {row : Option Nat} (hg : w.grownBy w' row) {g : Nat} {t : TypeId} {cs : List Value} (h : Blk w g t cs) (hne : row ≠ some g) : Blk w' g t cs := by
  unfold Blk
  rw [hg.block g h.lt (fun e => hne e.symm)]
  exact h

theorem owns_keep {w w' : World} {base : Nat} {e : TypeId} {size : Nat} {v : Value} {n : Nat} {xs : List Value} (h : w.ownsRow base e size v n xs) (hk : ∀ g cs, Blk w g e cs → Blk w' g e cs) : w'.ownsRow base e size v n xs := by
  obtain ⟨h1, h2⟩ := h
  refine ⟨h1, ?_⟩
  rcases h2 with h2 | ⟨g, cap, cur, hv, hg, hh, r⟩
  · exact .inl h2
  · refine .inr ⟨g, cap, cur, hv, hg, ?_, r⟩
    have := hk g cur.toList (by unfold Blk; simpa using hh)
    unfold Blk at this
    simpa using this

theorem mk_cells {cs : List Value} {n : Nat} {m : Int} (hn : n * 3 ≤ cs.length) (h : ∀ j, j < n → Mk cs j m) (rest : List Value) : ∀ j, j < n + 1 → Mk (cs.take (n * 3) ++ markCells m ++ rest) j m := by
  intro j hj
  have hl : (cs.take (n * 3)).length = n * 3 := by simp; omega
  by_cases e : j = n
  · subst e
    unfold Mk markCells
    rw [List.append_assoc]
    refine ⟨?_, ?_, ?_⟩
    · rw [List.getElem?_append_right (by omega), hl, show j * 3 - j * 3 = 0 by omega]; rfl
    · rw [List.getElem?_append_right (by omega), hl, show j * 3 + 1 - j * 3 = 1 by omega]; rfl
    · rw [List.getElem?_append_right (by omega), hl, show j * 3 + 2 - j * 3 = 2 by omega]; rfl
  · obtain ⟨a, b, c⟩ := h j (by omega)
    unfold Mk
    rw [List.append_assoc]
    refine ⟨?_, ?_, ?_⟩
    · rw [List.getElem?_append_left (by omega), List.getElem?_take_of_lt (by omega)]; exact a
    · rw [List.getElem?_append_left (by omega), List.getElem?_take_of_lt (by omega)]; exact b
    · rw [List.getElem?_append_left (by omega), List.getElem?_take_of_lt (by omega)]; exact c

/-- What an append to a list of a family leaves. -/
def FamStep (w : World) (B : Nat) (T : TypeId) (F : Nat → Int) (m : Int) (n : Nat) (v' : Value) (w' : World) : Prop :=
  ∃ F' : Nat → Int, Gr w' B T F' m v' (n + 1) (n + 1) ∧ (∀ m0 v0 n0 i0, Gr w B T F m0 v0 n0 i0 → Gr w' B T F' m0 v0 n0 i0) ∧ (∀ g t cs, t ≠ T → Blk w g t cs → Blk w' g t cs) ∧ Below B w w' ∧ w.heap.size ≤ w'.heap.size

theorem fam_fresh {w w' : World} {B : Nat} {T : TypeId} {F : Nat → Int} {m : Int} {n : Nat} {v' : Value} {cs : List Value} (hB : B ≤ w.heap.size) (hn : n + 1 ≤ 5000) (hc : n * 3 ≤ cs.length) (hm : ∀ j, j < n → Mk cs j m)
    (r1 : w'.ownsRow w.heap.size T 3 v' (n + 1) (cs.take (n * 3) ++ markCells m)) (r2 : w.grownBy w' none) : FamStep w B T F m n v' w' := by
  obtain ⟨g, c, rest, rfl, hg, hblk, h1, h2, h3⟩ := owns_slice r1 (by omega)
  have hkeep : ∀ g t cs, Blk w g t cs → Blk w' g t cs := fun g t cs h => grown_blk r2 h (by simp)
  refine ⟨fun x => if x = g then m else F x, ?_, ?_, fun g t cs _ h => hkeep g t cs h, ?_, r2.size⟩
  · exact .inr ⟨g, c, _, rfl, by omega, hblk, h3, h1, h2, by omega, by simp, Nat.le_refl _, mk_cells hc hm rest⟩
  · intro m0 v0 n0 i0 h
    exact h.keep (fun g cs h => hkeep g T cs h) (fun x hx => by rw [if_neg (by omega)])
  · exact (Below.refl B w).grown r2 hB (fun k hk => by cases hk)

theorem wpList_append_fam {P : Program} (w : World) {ops : Array Oper} {rest : List Oper} {o : Oper} {a : Act} {Q : Exit → Act → World → Prop}
    (hg : o.guard = none) (s x : Operand) (t : TypeId) (hop : o.op = Op.call { callee := Callee.builtin Builtin.append, args := #[s, x], argTypes := #[t, t] })
    (T : TypeId) (i : TypeInfo) (z : Value) (h1 : P.underlying t = some (.slice T)) (h2 : P.info? T = some i) (h3 : i.zero = some z) (h4 : i.size = 3) (h5 : i.bytes = 24) (h6 : z.cells.size = 3)
    (B : Nat) (F : Nat → Int) (m : Int) (v : Value) (n : Nat) (hs : a.eval s = v) (hv : Gr w B T F m v n n) (hn : n + 1 ≤ 5000) (hB : B ≤ w.heap.size)
    (ad : Addr) (c : Nat) (hx : a.eval x = .slice (some ad) 1 c) (hc : ∀ j u, (markCells m)[j]? = some u → w.cell? (ad.add j) = some u)
    (hK : ∀ v' w', FamStep w B T F m n v' w' → wpList P ops Q rest (a.put o.dst v') w') :
    wpList P ops Q (o :: rest) a w := by
  have h1c : ∀ u ∈ markCells m, u.oneCell' = true := by intro u hu; simp [markCells] at hu; rcases hu with rfl | rfl <;> rfl
  rcases hv with ⟨rfl, rfl, -⟩ | ⟨g, cap, cs, rfl, a1, a2, a3, a4, a5, a6, a7, a8, a9⟩
  · refine wpList_append_grows w hg s x t hop T i z 3 24 h1 h2 h3 h4 h5 h6 (by decide) none 0 0 [] hs (fun _ => ⟨rfl, rfl⟩) rfl (fun b hb => by cases hb) ad 1 c (markCells m) hx rfl hc h1c (by decide) (by unfold maxLen; decide) (by decide) ?_
    intro v' w' r1 r2
    exact hK v' w' (fam_fresh (cs := []) hB hn (by simp) (fun j hj => by omega) r1 r2)
  · have hl : (cs.take (n * 3)).length = n * 3 := by simp; omega
    refine wpList_append_arg w hg s x t hop T i z 3 24 h1 h2 h3 h4 h5 h6 (by decide) g 0 n cap (cs.take (n * 3)) hs hl ?_ ad 1 c (markCells m) hx rfl hc h1c ?_ (by unfold maxLen; omega) (by omega) ?_ ?_
    · intro j u hj
      rw [Nat.zero_add]
      apply a2.cell
      rw [List.getElem?_take] at hj
      split at hj
      · exact hj
      · cases hj
    · intro hr j hj
      have hj3 : j < 3 := hj
      rw [Nat.zero_add]
      refine ⟨?_, a2.free _⟩
      have : n * 3 + j < cs.length := by omega
      rw [a2.cell (List.getElem?_eq_getElem this)]
      rfl
    · intro hr
      apply hK
      have hlen : n * 3 + 2 < cs.length := by omega
      have e : w.setCells g (0 + n * 3) (markCells m) = mark3 w g n m := by
        rw [Nat.zero_add]
        rfl
      rw [e]
      refine ⟨F, ?_, ?_, ?_, mark3_below (Below.refl _ _) g n m a1, by rw [mark3_size]; exact Nat.le_refl _⟩
      · refine .inr ⟨g, cap, put3 cs n m, rfl, a1, mark3_blk a2 n m, by rw [put3_length]; exact a3, hr, a5, hn, a7, Nat.le_refl _, ?_⟩
        intro j hj
        by_cases e : j = n
        · subst e; exact put3_same _ _ _ hlen
        · exact put3_other _ _ _ _ _ e (a9 j (by omega))
      · intro m0 v0 n0 i0 h
        exact h.marked (c := cap) a7 n a2 hlen
      · intro g' t' cs' hne h
        refine mark3_other h n m ?_
        rintro rfl
        exact hne (blk_inj h a2).1
    · intro hr v' w' r1 r2
      exact hK v' w' (fam_fresh hB hn (by omega) a9 r1 r2)

theorem Gr.next {w : World} {B : Nat} {T : TypeId} {F : Nat → Int} {m : Int} {g n c i : Nat} (h : Gr w B T F m (.slice (some ⟨g, 0, none⟩) n c) n i) (hi : i < n) : Gr (mark3 w g i m) B T F m (.slice (some ⟨g, 0, none⟩) n c) n (i + 1) := by
  rcases h with ⟨h, -⟩ | ⟨g', c', cs, he, a1, a2, a3, a4, a5, a6, a7, a8, a9⟩
  · cases h
  · injection he with e1 e2 e3
    injection e1 with e1
    injection e1 with e1
    subst e1 e3
    refine .inr ⟨g, c, put3 cs i m, rfl, a1, mark3_blk a2 i m, by rw [put3_length]; exact a3, a4, a5, a6, a7, by omega, ?_⟩
    intro j hj
    by_cases e : j = i
    · subst e; exact put3_same _ _ _ (by omega)
    · exact put3_other _ _ _ _ _ e (a9 j (by omega))
/-- A list that is not empty: where it lies. -/
theorem Gr.row {w : World} {B : Nat} {T : TypeId} {F : Nat → Int} {m : Int} {v : Value} {n i : Nat} (h : Gr w B T F m v n i) (hn : 0 < n) :
    ∃ g c cs, v = .slice (some ⟨g, 0, none⟩) n c ∧ B ≤ g ∧ Blk w g T cs ∧ cs.length = c * 3 ∧ n ≤ c ∧ F g = m ∧ ∀ j, j < i → Mk cs j m := by
  rcases h with ⟨-, h, -⟩ | ⟨g, c, cs, rfl, a1, a2, a3, a4, a5, a6, a7, a8, a9⟩
  · omega
  · exact ⟨g, c, cs, rfl, a1, a2, a3, a4, a7, a9⟩
theorem Gr.form {w : World} {B : Nat} {T : TypeId} {F : Nat → Int} {m : Int} {v : Value} {n i : Nat} (h : Gr w B T F m v n i) : ∃ a c, v = .slice a n c := by
  rcases h with ⟨rfl, rfl, -⟩ | ⟨g, c, cs, rfl, r⟩
  · exact ⟨_, _, rfl⟩
  · exact ⟨_, _, rfl⟩
theorem Gr.cells3 {cs : List Value} {c n i : Nat} (h3 : cs.length = c * 3) (hn : n ≤ c) (hi : i < n) : ∃ u0 u1 u2, cs[i * 3]? = some u0 ∧ cs[i * 3 + 1]? = some u1 ∧ cs[i * 3 + 2]? = some u2 :=
  ⟨_, _, _, List.getElem?_eq_getElem (by omega), List.getElem?_eq_getElem (by omega), List.getElem?_eq_getElem (by omega)⟩

/-- The lists that the caller holds, each with its mark and its length. -/
abbrev Ent := Value × Int × Nat
def entCells (E : List Ent) : List Value := E.flatMap fun e => [e.1, .int .i64 e.2.1]
theorem entCells_length (E : List Ent) : (entCells E).length = E.length * 2 := by
  induction E with
  | nil => rfl
  | cons e E ih => simp only [entCells, List.flatMap_cons, List.length_append, List.length_cons, List.length_nil] at *; omega
theorem entCells_snoc (E : List Ent) (e : Ent) : entCells (E ++ [e]) = entCells E ++ [e.1, .int .i64 e.2.1] := by simp [entCells]
theorem entCells_at (E : List Ent) (k : Nat) (e : Ent) (h : E[k]? = some e) : (entCells E)[k * 2]? = some e.1 ∧ (entCells E)[k * 2 + 1]? = some (.int .i64 e.2.1) := by
  induction E generalizing k with
  | nil => simp at h
  | cons x E ih =>
    cases k with
    | zero => simp at h; subst h; simp [entCells]
    | succ k =>
      have := ih k (by simpa using h)
      have e : entCells (x :: E) = x.1 :: .int .i64 x.2.1 :: entCells E := by simp [entCells]
      rw [e, show (k + 1) * 2 = k * 2 + 1 + 1 by omega]
      simpa using this

theorem two_new (w : World) (t : TypeId) (x y : Value) : ∀ j u, [x, y][j]? = some u → (w.alloc (.cells #[x, y] t)).cell? ((⟨w.heap.size, 0, none⟩ : Addr).add j) = some u := by
  intro j u hj
  match j, hj with
  | 0, hj => simp at hj; subst hj; simp [Addr.add]
  | 1, hj => simp at hj; subst hj; simp [Addr.add]
theorem two_one (a : Option Addr) (n c : Nat) (y : Int) : ∀ u ∈ [Value.slice a n c, .int .i64 y], u.oneCell' = true := by
  intro u hu; simp at hu; rcases hu with rfl | rfl <;> rfl
/-- The cells of an entry, as they lie. -/
theorem ent_cells {w : World} {base : Nat} {t : TypeId} {ga ca : Nat} {E : List Ent} (hown : w.ownsRow base t 2 (.slice (some ⟨ga, 0, none⟩) E.length ca) E.length (entCells E)) {k : Nat} {e : Ent} (he : E[k]? = some e) :
    w.cell? ⟨ga, k * 2, none⟩ = some e.1 ∧ w.cell? ⟨ga, k * 2 + 1, none⟩ = some (.int .i64 e.2.1) ∧ ∃ cs, Blk w ga t cs := by
  have hk : k < E.length := by
    rcases Nat.lt_or_ge k E.length with h | h
    · exact h
    · rw [List.getElem?_eq_none h] at he; cases he
  obtain ⟨g, c, rest, hv, h1, h2, h3, h4, h5⟩ := owns_slice hown (by omega)
  injection hv with x1 _ x3
  injection x1 with x1
  injection x1 with x1
  subst x1 x3
  obtain ⟨p0, p1⟩ := entCells_at E k e he
  have hcl := entCells_length E
  exact ⟨h2.cell (by rw [List.getElem?_append_left (by omega)]; exact p0), h2.cell (by rw [List.getElem?_append_left (by omega)]; exact p1), _, h2⟩
end Go.Proofs.Ytbhemchnjpajiaa

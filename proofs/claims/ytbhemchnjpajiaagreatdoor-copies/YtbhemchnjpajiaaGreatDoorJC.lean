/- Several texts in one: RefSeq, CodeSpan, SpanMath, PrMath, PrSeq. -/
import Derived.Test.YtbhemchnjpajiaaGreatDoorJA
/- The sequences of a block: bounds of what is read, and what holds from one sequence to the next. Plain lemmas. -/
namespace Go.Proofs.YtbhemchnjpajiaaGreatDoor.RD
open Go

theorem worth_some {l : List Int} {i n : Nat} {v : Int} (h : worth l i n = some v) : i + n ≤ l.length ∧ v = val ((l.drop i).take n) := by
  unfold worth at h
  split at h
  · cases h
  · cases h
    exact ⟨by omega, rfl⟩
theorem rd_lt (l : List Int) (h : ∀ x ∈ l, 0 ≤ x ∧ x ≤ 1) (b : B) (n : Nat) : 0 ≤ (rd l b n).1 ∧ (rd l b n).1 < 2 ^ n := by
  have hp : (0 : Int) < 2 ^ n := Int.pow_pos (by omega)
  unfold rd
  cases e : worth l b.i n with
  | none => simpa using hp
  | some v =>
    obtain ⟨h1, rfl⟩ := worth_some e
    have := val_bound ((l.drop b.i).take n) (fun x hx => h x (List.mem_of_mem_drop (List.mem_of_mem_take hx)))
    have hl : ((l.drop b.i).take n).length = n := by simp; omega
    rw [hl] at this
    exact this
theorem rd_i (l : List Int) (b : B) (n : Nat) (h : b.i ≤ l.length) : (rd l b n).2.i ≤ l.length := by
  unfold rd
  cases e : worth l b.i n with
  | none => exact h
  | some v => exact (worth_some e).1
theorem pow_small (n k : Nat) (h : n ≤ k) : (2 : Int) ^ n ≤ 2 ^ k := by
  have : 2 ^ n ≤ 2 ^ k := Nat.pow_le_pow_right (by omega) h
  exact_mod_cast this
theorem sz_lt (l : List Int) (h : ∀ x ∈ l, 0 ≤ x ∧ x ≤ 1) (b : B) (n : Nat) (hn : n ≤ 15) : 0 ≤ (sz l b n).1 ∧ (sz l b n).1 ≤ 600 := by
  unfold sz
  split
  · simp; omega
  · have a := rd_lt l h b (n - 7)
    have c := pow_small (n - 7) 8 (by omega)
    have d : (0 : Int) < 2 ^ (n - 7) := Int.pow_pos (by omega)
    simp only []
    omega
theorem sz_i (l : List Int) (b : B) (n : Nat) (h : b.i ≤ l.length) : (sz l b n).2.i ≤ l.length := by
  unfold sz
  split
  · exact h
  · exact rd_i l b _ h

/-- A table whose states are all there. -/
def TabFine (t : Tab) : Prop := t.l.length = 2 ^ t.log ∧ t.log ≤ 6 ∧ ∀ x ∈ t.l, 0 ≤ x.1 ∧ x.1 ≤ 15 ∧ 0 ≤ x.2.1 ∧ x.2.1 ≤ 6 ∧ 0 ≤ x.2.2 ∧ x.2.2 + 2 ^ x.2.1.toNat ≤ 2 ^ t.log
theorem triAt_ok {t : Tab} (h : TabFine t) {i : Int} (h0 : 0 ≤ i) (h1 : i < 2 ^ t.log) : i.toNat < t.l.length ∧ 0 ≤ (triAt t.l i).1 ∧ (triAt t.l i).1 ≤ 15 ∧ 0 ≤ (triAt t.l i).2.1 ∧ (triAt t.l i).2.1 ≤ 6 ∧ 0 ≤ (triAt t.l i).2.2 ∧ (triAt t.l i).2.2 + 2 ^ (triAt t.l i).2.1.toNat ≤ 2 ^ t.log := by
  have e : ((2 ^ t.log : Nat) : Int) = 2 ^ t.log := by simp
  have hl : i.toNat < t.l.length := by rw [h.1]; omega
  refine ⟨hl, h.2.2 _ ?_⟩
  unfold triAt
  rw [List.getD_eq_getElem?_getD, List.getElem?_eq_getElem hl]
  exact List.getElem_mem hl

/-- Three last offsets, each one that may be. -/
def LastOk (l : List Int) : Prop := ∃ x y z, l = [x, y, z] ∧ (1 ≤ x ∧ x ≤ 65536) ∧ (1 ≤ y ∧ y ≤ 65536) ∧ (1 ≤ z ∧ z ≤ 65536)
theorem backOf_ok {l : List Int} (h : LastOk l) (v len : Int) (hv : 1 ≤ v ∧ v ≤ 65536) (h1 : 1 ≤ (backOf l v len).1) : LastOk (backOf l v len).2 := by
  obtain ⟨x, y, z, rfl, hx, hy, hz⟩ := h
  unfold backOf at *
  by_cases h3 : 3 < v
  · rw [if_pos h3] at h1 ⊢
    exact ⟨_, _, _, rfl, ⟨h1, by omega⟩, hx, hy⟩
  · rw [if_neg h3] at h1 ⊢
    simp only [] at h1 ⊢
    generalize (if len = 0 then v + 1 else v) = i at *
    by_cases h4 : i = 4
    · rw [if_pos h4] at h1 ⊢
      exact ⟨_, _, _, rfl, ⟨h1, by show x - 1 ≤ 65536; omega⟩, hx, hy⟩
    rw [if_neg h4]
    by_cases h4 : i = 1
    · rw [if_pos h4]
      exact ⟨_, _, _, rfl, hx, hy, hz⟩
    rw [if_neg h4]
    by_cases h4 : i = 2
    · rw [if_pos h4]
      exact ⟨_, _, _, rfl, hy, hx, hz⟩
    rw [if_neg h4]
    exact ⟨_, _, _, rfl, hz, hx, hy⟩

theorem copyN_length (past : Bytes) (k m : Nat) : (copyN past k m).length = past.length + m := by
  induction m with
  | zero => rfl
  | succ m ih => simp only [copyN, List.length_append, List.length_cons, List.length_nil, ih]; omega

/-- What holds between two sequences. -/
structure SqOk (f : Fr) (l : List Int) (from' : Nat) (q : Sq) : Prop where
  i : q.b.i ≤ l.length
  s0 : 0 ≤ q.s0 ∧ q.s0 < 2 ^ f.t0.log
  s1 : 0 ≤ q.s1 ∧ q.s1 < 2 ^ f.t1.log
  s2 : 0 ≤ q.s2 ∧ q.s2 < 2 ^ f.t2.log
  past : from' ≤ q.past.length ∧ q.past.length ≤ from' + 1024
  lits : q.lits.length ≤ 1048576
  last : LastOk q.last
theorem seq1_ok {f : Fr} {l : List Int} {from' : Nat} {more : Bool} {q r : Sq} (hl : ∀ x ∈ l, 0 ≤ x ∧ x ≤ 1) (h0 : TabFine f.t0) (h1 : TabFine f.t1) (h2 : TabFine f.t2) (hq : SqOk f l from' q) (h : seq1 f l from' more q = some r) : SqOk f l from' r := by
  obtain ⟨i0, a0, b0, c0, d0, e0, g0⟩ := triAt_ok h0 hq.s0.1 hq.s0.2
  obtain ⟨i1, a1, b1, c1, d1, e1, g1⟩ := triAt_ok h1 hq.s1.1 hq.s1.2
  obtain ⟨i2, a2, b2, c2, d2, e2, g2⟩ := triAt_ok h2 hq.s2.1 hq.s2.2
  unfold seq1 at h
  simp only [] at h
  generalize triAt f.t0.l q.s0 = x0 at *
  generalize triAt f.t1.l q.s1 = x1 at *
  generalize triAt f.t2.l q.s2 = x2 at *
  have k1 := rd_lt l hl q.b x1.1.toNat
  have j1 := rd_i l q.b x1.1.toNat hq.i
  have p1 := pow_small x1.1.toNat 15 (by omega)
  have p1' : (0 : Int) < 2 ^ x1.1.toNat := Int.pow_pos (by omega)
  generalize rd l q.b x1.1.toNat = r1 at *
  have k2 := sz_lt l hl r1.2 x2.1.toNat (by omega)
  have j2 := sz_i l r1.2 x2.1.toNat j1
  generalize sz l r1.2 x2.1.toNat = r2 at *
  have k0 := sz_lt l hl r2.2 x0.1.toNat (by omega)
  have j0 := sz_i l r2.2 x0.1.toNat j2
  generalize sz l r2.2 x0.1.toNat = r0 at *
  have m0 := rd_lt l hl r0.2 x0.2.1.toNat
  have n0 := rd_i l r0.2 x0.2.1.toNat j0
  generalize rd l r0.2 x0.2.1.toNat = y0 at *
  have m2 := rd_lt l hl y0.2 x2.2.1.toNat
  have n2 := rd_i l y0.2 x2.2.1.toNat n0
  generalize rd l y0.2 x2.2.1.toNat = y2 at *
  have m1 := rd_lt l hl y2.2 x1.2.1.toNat
  have n1 := rd_i l y2.2 x1.2.1.toNat n2
  generalize rd l y2.2 x1.2.1.toNat = y1 at *
  have tail : ∀ (b : B) (s0 s1 s2 : Int), b.i ≤ l.length → (0 ≤ s0 ∧ s0 < 2 ^ f.t0.log) → (0 ≤ s1 ∧ s1 < 2 ^ f.t1.log) → (0 ≤ s2 ∧ s2 < 2 ^ f.t2.log) →
      (if b.short = true ∨ (q.lits.length : Int) < r0.1 then none
        else if (backOf q.last (2 ^ x1.1.toNat + r1.1) r0.1).1 < 1 ∨ (f.window : Int) < (backOf q.last (2 ^ x1.1.toNat + r1.1) r0.1).1 ∨ ((q.past ++ q.lits.take r0.1.toNat).length : Int) < (backOf q.last (2 ^ x1.1.toNat + r1.1) r0.1).1 ∨ 1024 < ((q.past ++ q.lits.take r0.1.toNat).length : Int) + (3 + r2.1) - from' then none
        else some (⟨b, s0, s1, s2, copyN (q.past ++ q.lits.take r0.1.toNat) (backOf q.last (2 ^ x1.1.toNat + r1.1) r0.1).1.toNat (3 + r2.1).toNat, q.lits.drop r0.1.toNat, (backOf q.last (2 ^ x1.1.toNat + r1.1) r0.1).2⟩ : Sq)) = some r → SqOk f l from' r := by
    intro b s0 s1 s2 hb hs0 hs1 hs2 h
    split at h
    · cases h
    · rename_i hn1
      split at h
      · cases h
      · rename_i hn2
        injection h with h
        subst h
        have hlen : (q.past ++ q.lits.take r0.1.toNat).length = q.past.length + r0.1.toNat := by
          simp only [List.length_append, List.length_take]
          omega
        refine ⟨hb, hs0, hs1, hs2, ?_, ?_, ?_⟩
        · simp only [copyN_length]
          have := hq.past
          omega
        · simp only [List.length_drop]
          have := hq.lits
          omega
        · exact backOf_ok hq.last _ _ ⟨by omega, by omega⟩ (by omega)
  cases more
  · exact tail _ _ _ _ j0 hq.s0 hq.s1 hq.s2 h
  · exact tail y1.2 (x0.2.2 + y0.1) (x1.2.2 + y1.1) (x2.2.2 + y2.1) n1 (by omega) (by omega) (by omega) h
theorem seqs_ok {f : Fr} {l : List Int} {from' n : Nat} {q : Sq} (hl : ∀ x ∈ l, 0 ≤ x ∧ x ≤ 1) (h0 : TabFine f.t0) (h1 : TabFine f.t1) (h2 : TabFine f.t2) (hq : SqOk f l from' q) : ∀ (i : Nat) {r : Sq}, seqs f l from' n q i = some r → SqOk f l from' r
  | 0, r, h => by cases h; exact hq
  | i + 1, r, h => by
    unfold seqs at h
    cases e : seqs f l from' n q i with
    | none => rw [e] at h; cases h
    | some r' =>
      rw [e] at h
      exact seq1_ok hl h0 h1 h2 (seqs_ok hl h0 h1 h2 hq i e) h
theorem seqs_none {f : Fr} {l : List Int} {from' n : Nat} {q : Sq} {i : Nat} (h : seqs f l from' n q i = none) : ∀ k, seqs f l from' n q (i + k) = none
  | 0 => h
  | k + 1 => by
    show seqs f l from' n q (i + k + 1) = none
    unfold seqs
    rw [seqs_none h k]
theorem seq0_ok {f : Fr} {l : List Int} (hl : ∀ x ∈ l, 0 ≤ x ∧ x ≤ 1) {lits : Bytes} (hlits : lits.length ≤ 1048576) (hlast : LastOk f.last) : SqOk f l (f.dict ++ f.text).length (seq0 f l lits) := by
  unfold seq0
  simp only []
  have m0 := rd_lt l hl ⟨0, false⟩ f.t0.log
  have n0 := rd_i l ⟨0, false⟩ f.t0.log (Nat.zero_le _)
  generalize rd l ⟨0, false⟩ f.t0.log = y0 at *
  have m1 := rd_lt l hl y0.2 f.t1.log
  have n1 := rd_i l y0.2 f.t1.log n0
  generalize rd l y0.2 f.t1.log = y1 at *
  have m2 := rd_lt l hl y1.2 f.t2.log
  have n2 := rd_i l y1.2 f.t2.log n1
  exact ⟨n2, m0, m1, m2, ⟨Nat.le_refl _, by simp⟩, hlits, hlast⟩
theorem content_none {f : Fr} {lits s : Bytes} {n i : Nat} (hi : i ≤ n) (h : seqs f (bitsOf s) (f.dict ++ f.text).length n (seq0 f (bitsOf s) lits) i = none) : content f lits s n = none := by
  have := seqs_none h (n - i)
  rw [show i + (n - i) = n by omega] at this
  unfold content
  rw [this]
/-- The end of a sequence, when all its bits have been read. -/
def seqEnd (f : Fr) (from' : Nat) (q : Sq) (v m len : Int) (b : B) (s0 s1 s2 : Int) : Option Sq :=
  if b.short = true ∨ (q.lits.length : Int) < len then none
  else if (backOf q.last v len).1 < 1 ∨ (f.window : Int) < (backOf q.last v len).1 ∨ ((q.past ++ q.lits.take len.toNat).length : Int) < (backOf q.last v len).1 ∨ 1024 < ((q.past ++ q.lits.take len.toNat).length : Int) + (3 + m) - from' then none
  else some ⟨b, s0, s1, s2, copyN (q.past ++ q.lits.take len.toNat) (backOf q.last v len).1.toNat (3 + m).toNat, q.lits.drop len.toNat, (backOf q.last v len).2⟩
theorem seq1_more {f : Fr} {l : List Int} {from' : Nat} {q : Sq} {A0 B0 C0 A1 B1 C1 A2 B2 C2 : Nat} (h0 : triAt f.t0.l q.s0 = ((A0 : Int), (B0 : Int), (C0 : Int))) (h1 : triAt f.t1.l q.s1 = ((A1 : Int), (B1 : Int), (C1 : Int))) (h2 : triAt f.t2.l q.s2 = ((A2 : Int), (B2 : Int), (C2 : Int))) :
    seq1 f l from' true q = seqEnd f from' q (2 ^ A1 + (rd l q.b A1).1) (sz l (rd l q.b A1).2 A2).1 (sz l (sz l (rd l q.b A1).2 A2).2 A0).1
      (rd l (rd l (rd l (sz l (sz l (rd l q.b A1).2 A2).2 A0).2 B0).2 B2).2 B1).2 ((C0 : Int) + (rd l (sz l (sz l (rd l q.b A1).2 A2).2 A0).2 B0).1)
      ((C1 : Int) + (rd l (rd l (rd l (sz l (sz l (rd l q.b A1).2 A2).2 A0).2 B0).2 B2).2 B1).1) ((C2 : Int) + (rd l (rd l (sz l (sz l (rd l q.b A1).2 A2).2 A0).2 B0).2 B2).1) := by
  unfold seq1
  rw [h0, h1, h2]
  rfl
theorem seq1_last {f : Fr} {l : List Int} {from' : Nat} {q : Sq} {A0 B0 C0 A1 B1 C1 A2 B2 C2 : Nat} (h0 : triAt f.t0.l q.s0 = ((A0 : Int), (B0 : Int), (C0 : Int))) (h1 : triAt f.t1.l q.s1 = ((A1 : Int), (B1 : Int), (C1 : Int))) (h2 : triAt f.t2.l q.s2 = ((A2 : Int), (B2 : Int), (C2 : Int))) :
    seq1 f l from' false q = seqEnd f from' q (2 ^ A1 + (rd l q.b A1).1) (sz l (rd l q.b A1).2 A2).1 (sz l (sz l (rd l q.b A1).2 A2).2 A0).1
      (sz l (sz l (rd l q.b A1).2 A2).2 A0).2 q.s0 q.s1 q.s2 := by
  unfold seq1
  rw [h0, h1, h2]
  rfl
theorem tri_nat {x : CM.Tri} (h : 0 ≤ x.1 ∧ 0 ≤ x.2.1 ∧ 0 ≤ x.2.2) : x = ((x.1.toNat : Int), (x.2.1.toNat : Int), (x.2.2.toNat : Int)) := by
  obtain ⟨a, b, c⟩ := x
  simp only [] at h ⊢
  rw [Int.toNat_of_nonneg h.1, Int.toNat_of_nonneg h.2.1, Int.toNat_of_nonneg h.2.2]
end Go.Proofs.YtbhemchnjpajiaaGreatDoor.RD

/- Plain mathematics of the codes that are given out: where the weights may be, each value that has a weight stands once, its bits and its weight add up to the same, its number stands where the spans ahead of it end, and all spans together are 2 to the greatest length. -/
namespace Go.Proofs.YtbhemchnjpajiaaGreatDoor.CM
open Go

theorem pw_all : ∀ r : Fin 257, r.val ≠ 0 → pw (r.val : Int) = true → (r.val : Int) = 2 ^ (Lib.bitLen r.val - 1) := by decide +kernel
theorem pw_is (r : Int) (h0 : 1 ≤ r) (h1 : r ≤ 256) (h : pw r = true) : sp (len r) = r ∧ 1 ≤ len r := by
  have e := pw_all ⟨r.toNat, by omega⟩ (by simp only; omega) (by simp only [Int.toNat_of_nonneg (show 0 ≤ r by omega)]; exact h)
  simp only [Int.toNat_of_nonneg (show 0 ≤ r by omega)] at e
  obtain ⟨a, b⟩ := bitLen_spec r.toNat (by omega)
  obtain ⟨c, d⟩ := b (by omega)
  unfold sp len
  rw [if_neg (show ¬ ((Lib.bitLen r.toNat : Int) = 0) by omega), show ((Lib.bitLen r.toNat : Int) - 1).toNat = Lib.bitLen r.toNat - 1 by omega]
  exact ⟨e.symm, by omega⟩

abbrev val (ws : List Int) (v : Nat) : Int := ws.getD v 0

def lowK (ws : List Int) (wt : Int) : Nat → Int
  | 0 => 0
  | k + 1 => lowK ws wt k + if val ws k = wt then sp wt else 0
def low (ws : List Int) (n : Int) : Nat → Int
  | 0 => 0
  | k + 1 => low ws n k + if val ws k ≤ n then sp (val ws k) else 0

theorem gk_snd (ws : List Int) (b wt : Int) (c : List Tri × Int) (k : Nat) : (gk ws b wt c k).2 = c.2 + lowK ws wt k := by
  induction k with
  | zero => simp [gk, lowK]
  | succ k ih =>
    simp only [gk, lowK, val]
    split
    · simp only [ih]; omega
    · rw [ih]; omega
theorem low_succ (ws : List Int) (n : Int) (k : Nat) : low ws (n + 1) k = low ws n k + lowK ws (n + 1) k := by
  induction k with
  | zero => simp [low, lowK]
  | succ k ih =>
    simp only [low, lowK, ih]
    by_cases h1 : val ws k ≤ n
    · rw [if_pos (by omega), if_pos h1, if_neg (by omega)]; omega
    · by_cases h2 : val ws k = n + 1
      · rw [if_pos (by omega), if_neg h1, if_pos h2, h2]; omega
      · rw [if_neg (by omega), if_neg h1, if_neg h2]; omega
theorem low_zero (ws : List Int) (h : Fits ws) (k : Nat) : low ws 0 k = 0 := by
  induction k with
  | zero => rfl
  | succ k ih =>
    simp only [low, ih]
    have := fits_getD ws h k
    by_cases h1 : val ws k ≤ 0
    · rw [if_pos h1, show val ws k = 0 by unfold val at *; omega]; rfl
    · rw [if_neg h1]; rfl
theorem gs_snd (ws : List Int) (b : Int) (h : Fits ws) (n : Nat) : (gs ws b n).2 = low ws n ws.length := by
  induction n with
  | zero => rw [show ((0 : Nat) : Int) = 0 from rfl, low_zero ws h]; rfl
  | succ n ih =>
    simp only [gs]
    rw [gk_snd, ih, show ((n + 1 : Nat) : Int) = (n : Int) + 1 by omega, low_succ]
theorem low_all (ws : List Int) (n : Int) (h : ∀ v, val ws v ≤ n) (k : Nat) : low ws n k = tot ws k := by
  induction k with
  | zero => rfl
  | succ k ih => simp only [low, tot, ih]; rw [if_pos (h k)]

theorem pow_dvd (a b : Nat) (h : a ≤ b) : (2 : Int) ^ b % 2 ^ a = 0 := by
  have e : (2 : Int) ^ b = 2 ^ a * 2 ^ (b - a) := by rw [← Int.pow_add]; congr 1; omega
  rw [e]
  exact Int.mul_emod_right _ _
theorem high_dvd (ws : List Int) (h : Fits ws) (n : Nat) (k : Nat) : (tot ws k - low ws n k) % 2 ^ n = 0 := by
  induction k with
  | zero => simp [tot, low]
  | succ k ih =>
    simp only [tot, low]
    have hf := fits_getD ws h k
    by_cases h1 : val ws k ≤ n
    · rw [if_pos h1, show tot ws k + sp (val ws k) - (low ws n k + sp (val ws k)) = tot ws k - low ws n k by omega]
      exact ih
    · rw [if_neg h1, show tot ws k + sp (val ws k) - (low ws n k + 0) = (tot ws k - low ws n k) + sp (val ws k) by omega]
      have : sp (val ws k) % 2 ^ n = 0 := by
        unfold sp
        rw [if_neg (by unfold val at *; omega)]
        exact pow_dvd _ _ (by unfold val at *; omega)
      rw [Int.add_emod, ih, this]
      rfl
theorem lowK_dvd (ws : List Int) (n : Nat) (k : Nat) : lowK ws ((n : Int) + 1) k % 2 ^ n = 0 := by
  induction k with
  | zero => rfl
  | succ k ih =>
    simp only [lowK]
    have : (if val ws k = (n : Int) + 1 then sp ((n : Int) + 1) else 0) % 2 ^ n = 0 := by
      split
      · unfold sp
        rw [if_neg (by omega)]
        exact pow_dvd _ _ (by omega)
      · rfl
    rw [Int.add_emod, ih, this]
    rfl
/-- Where the total is 2 to the b, the spans of the lower weights end at a multiple of a weight's own. -/
theorem gk_dvd (ws : List Int) (h : Fits ws) (b : Nat) (ht : tot ws ws.length = 2 ^ b) (n : Nat) (hn : n ≤ b) (k : Nat) :
    (gk ws b ((n : Int) + 1) (gs ws b n) k).2 % 2 ^ n = 0 := by
  rw [gk_snd, gs_snd ws b h]
  have h1 := high_dvd ws h n ws.length
  rw [ht] at h1
  have h2 := pow_dvd n b hn
  have h3 : low ws n ws.length % 2 ^ n = 0 := by
    have e : low ws n ws.length = 2 ^ b - (2 ^ b - low ws n ws.length) := by omega
    rw [e, Int.sub_emod, h1, h2]
    rfl
  rw [Int.add_emod, h3, lowK_dvd]
  rfl

def sumB (B : Int) : List Tri → Int
  | [] => 0
  | c :: L => 2 ^ (B - c.2.1).toNat + sumB B L
theorem sumB_append (B : Int) (L M : List Tri) : sumB B (L ++ M) = sumB B L + sumB B M := by
  induction L with
  | nil => simp [sumB]
  | cons c L ih => simp only [List.cons_append, sumB, ih]; omega

/-- What is true of the codes that have been given out, up to the value k of weight wt. -/
structure Ok (ws : List Int) (B wt : Int) (k : Nat) (L : List Tri) (st : Int) : Prop where
  sum : st = sumB B L
  each : ∀ i, i < L.length → ∃ v : Nat, (L.getD i (0, 0, 0)).1 = (v : Int) ∧ v < ws.length ∧ 1 ≤ val ws v ∧ val ws v ≤ wt ∧ (L.getD i (0, 0, 0)).2.1 = B + 1 - val ws v ∧
    (L.getD i (0, 0, 0)).2.2 * 2 ^ (val ws v - 1).toNat = sumB B (L.take i)
  mem : ∀ v : Nat, (v : Int) ∈ L.map (·.1) ↔ v < ws.length ∧ 1 ≤ val ws v ∧ (val ws v < wt ∨ (val ws v = wt ∧ v < k))
  nodup : (L.map (·.1)).Nodup

theorem ok_gk (ws : List Int) (h : Fits ws) (b : Nat) (ht : tot ws ws.length = 2 ^ b) (n : Nat) (hn : n < b) (h0 : Ok ws b ((n : Int) + 1) 0 (gs ws b n).1 (gs ws b n).2) (k : Nat) (hk : k ≤ ws.length) :
    Ok ws b ((n : Int) + 1) k (gk ws b ((n : Int) + 1) (gs ws b n) k).1 (gk ws b ((n : Int) + 1) (gs ws b n) k).2 := by
  induction k with
  | zero => exact h0
  | succ k ih =>
    have ih := ih (by omega)
    have hd := gk_dvd ws h b ht n (by omega) k
    simp only [gk]
    generalize gk ws b ((n : Int) + 1) (gs ws b n) k = G at *
    obtain ⟨L, st⟩ := G
    simp only at ih hd ⊢
    by_cases hv : ws.getD k 0 = (n : Int) + 1
    · rw [if_pos hv]
      have hp : ((n : Int) + 1 - 1).toNat = n := by omega
      refine ⟨?_, ?_, ?_, ?_⟩
      · rw [sumB_append, ← ih.sum]
        simp only [sumB, sp]
        rw [if_neg (by omega), hp, show ((b : Int) - ((b : Int) + 1 - ((n : Int) + 1))).toNat = n by omega]
        omega
      · intro i hi
        simp only [List.length_append, List.length_singleton] at hi
        by_cases hiL : i < L.length
        · obtain ⟨v, a1, a2, a3, a4, a5, a6⟩ := ih.each i hiL
          have e : (L ++ [((k : Int), (b : Int) + 1 - ((n : Int) + 1), st / 2 ^ ((n : Int) + 1 - 1).toNat)]).getD i (0, 0, 0) = L.getD i (0, 0, 0) := by
            rw [List.getD_eq_getElem?_getD, List.getElem?_append_left hiL, ← List.getD_eq_getElem?_getD]
          rw [e, List.take_append_of_le_length (by omega)]
          exact ⟨v, a1, a2, a3, a4, a5, a6⟩
        · obtain rfl : i = L.length := by omega
          have e : (L ++ [((k : Int), (b : Int) + 1 - ((n : Int) + 1), st / 2 ^ ((n : Int) + 1 - 1).toNat)]).getD L.length (0, 0, 0) = ((k : Int), (b : Int) + 1 - ((n : Int) + 1), st / 2 ^ ((n : Int) + 1 - 1).toNat) := by
            rw [List.getD_eq_getElem?_getD, List.getElem?_append_right (Nat.le_refl _)]
            simp
          rw [e, List.take_append_of_le_length (Nat.le_refl _), List.take_length]
          have hvv : val ws k = (n : Int) + 1 := hv
          refine ⟨k, rfl, by omega, by omega, by omega, by rw [hvv], ?_⟩
          rw [hvv, hp, ← ih.sum]
          have := Int.mul_ediv_add_emod st (2 ^ n)
          rw [hd, Int.add_zero, Int.mul_comm] at this
          exact this
      · intro v
        rw [List.map_append, List.mem_append]
        constructor
        · rintro (hm | hm)
          · obtain ⟨a1, a2, a3⟩ := (ih.mem v).1 hm
            exact ⟨a1, a2, by omega⟩
          · simp at hm
            have : v = k := by omega
            subst this
            have hvv : val ws v = (n : Int) + 1 := hv
            exact ⟨by omega, by omega, .inr ⟨hvv, by omega⟩⟩
        · rintro ⟨a1, a2, a3⟩
          by_cases hvk : v = k
          · subst hvk; right; simp
          · left; exact (ih.mem v).2 ⟨a1, a2, by omega⟩
      · rw [List.map_append, List.nodup_append]
        refine ⟨ih.nodup, by simp, ?_⟩
        intro x hx y hy
        simp at hy
        subst hy
        rintro rfl
        have := (ih.mem k).1 hx
        have hvv : val ws k = (n : Int) + 1 := hv
        omega
    · rw [if_neg hv]
      refine ⟨ih.sum, ih.each, ?_, ih.nodup⟩
      intro v
      rw [ih.mem v]
      have hvv : ¬ val ws k = (n : Int) + 1 := hv
      constructor
      · rintro ⟨a1, a2, a3⟩; exact ⟨a1, a2, by omega⟩
      · rintro ⟨a1, a2, a3⟩
        refine ⟨a1, a2, ?_⟩
        rcases a3 with a3 | ⟨a3, a4⟩
        · exact .inl a3
        · by_cases hvk : v = k
          · subst hvk; omega
          · exact .inr ⟨a3, by omega⟩
theorem ok_gs (ws : List Int) (h : Fits ws) (b : Nat) (ht : tot ws ws.length = 2 ^ b) (n : Nat) (hn : n ≤ b) :
    Ok ws b ((n : Int) + 1) 0 (gs ws b n).1 (gs ws b n).2 := by
  induction n with
  | zero =>
    refine ⟨rfl, fun i hi => by simp [gs] at hi, ?_, by simp [gs]⟩
    intro v
    simp only [gs, List.map_nil, List.not_mem_nil, false_iff]
    omega
  | succ n ih =>
    have k := ok_gk ws h b ht n (by omega) (ih (by omega)) ws.length (Nat.le_refl _)
    simp only [gs]
    generalize gk ws b ((n : Int) + 1) (gs ws b n) ws.length = G at *
    refine ⟨k.sum, ?_, ?_, k.nodup⟩
    · intro i hi
      obtain ⟨v, a1, a2, a3, a4, a5, a6⟩ := k.each i hi
      exact ⟨v, a1, a2, a3, by omega, a5, a6⟩
    · intro v
      rw [k.mem v]
      constructor
      · rintro ⟨a1, a2, a3⟩; exact ⟨a1, a2, .inl (by omega)⟩
      · rintro ⟨a1, a2, a3⟩
        refine ⟨a1, a2, ?_⟩
        rcases a3 with a3 | ⟨a3, a4⟩
        · omega
        · omega

theorem tot_append (z : List Int) (x : Int) (k : Nat) (hk : k ≤ z.length) : tot (z ++ [x]) k = tot z k := by
  induction k with
  | zero => rfl
  | succ k ih =>
    simp only [tot]
    rw [ih (by omega)]
    congr 2
    rw [List.getD_eq_getElem?_getD, List.getElem?_append_left (by omega), ← List.getD_eq_getElem?_getD]
theorem all_length (z : List Int) : (all z).length = z.length + 1 := by simp [all]
theorem all_at (z : List Int) (v : Nat) (h : v < z.length) : val (all z) v = z.getD v 0 := by
  unfold val all
  rw [List.getD_eq_getElem?_getD, List.getElem?_append_left h, ← List.getD_eq_getElem?_getD]
theorem all_last (z : List Int) : val (all z) z.length = len (rest z) := by
  unfold val all
  rw [List.getD_eq_getElem?_getD, List.getElem?_append_right (Nat.le_refl _)]
  simp
theorem tot_mono (z : List Int) (h : Fits z) (v k : Nat) (hv : v < k) : sp (z.getD v 0) ≤ tot z k := by
  induction k with
  | zero => omega
  | succ k ih =>
    have a := sp_bound _ (fits_getD z h k)
    have b := tot_bound z h k
    simp only [tot]
    by_cases e : v = k
    · subst e; omega
    · have := ih (by omega); omega
theorem sp_small (x : Int) (h : 0 ≤ x ∧ x ≤ 8) (b : Nat) (hb : sp x < 2 ^ b ∨ sp x ≤ 2 ^ (b - 1) ∧ 1 ≤ b) : x ≤ b := by
  by_cases h0 : x = 0
  · omega
  · unfold sp at hb
    rw [if_neg h0] at hb
    rcases Nat.lt_or_ge b (x - 1).toNat with g | g
    · exfalso
      have h1 := pow_le b (x - 1).toNat (by omega)
      have h2 := pow_le (b - 1) b (by omega)
      rcases hb with hb | ⟨hb, hb1⟩
      · omega
      · have h3 := pow_le b (x - 1).toNat (by omega)
        have h4 : (2 : Int) ^ b = 2 * 2 ^ (b - 1) := by
          rw [← Int.pow_succ']; congr 1; omega
        have := pow_pos (b - 1)
        omega
    · rcases Nat.lt_or_ge (x - 1).toNat b with g' | g'
      · omega
      · exfalso
        have e : (x - 1).toNat = b := by omega
        rw [e] at hb
        rcases hb with hb | ⟨hb, hb1⟩
        · omega
        · have h4 : (2 : Int) ^ b = 2 * 2 ^ (b - 1) := by
            rw [← Int.pow_succ']; congr 1; omega
          have := pow_pos (b - 1)
          omega

/-- The weight that follows, as the document's answer looks for it. -/
def lastF (r : Int) : Nat → Int
  | 0 => 0
  | t + 1 => if r = 2 ^ t then (t : Int) + 1 else lastF r t
theorem lastF_all : ∀ r : Fin 129, r.val ≠ 0 → (pw (r.val : Int) = true → lastF (r.val : Int) 8 = (Lib.bitLen r.val : Int) ∧ lastF (r.val : Int) 8 ≠ 0) ∧ (pw (r.val : Int) = false → lastF (r.val : Int) 8 = 0) := by decide +kernel
theorem lastF_bound (r : Int) (t : Nat) : 0 ≤ lastF r t ∧ lastF r t ≤ t := by
  induction t with
  | zero => simp [lastF]
  | succ t ih => simp only [lastF]; split <;> omega
theorem lastF_is (r : Int) (h0 : 1 ≤ r) (h1 : r ≤ 128) : (pw r = true → lastF r 8 = len r ∧ (lastF r 8 == 0) = false) ∧ (pw r = false → (lastF r 8 == 0) = true) := by
  have e := lastF_all ⟨r.toNat, by omega⟩ (by simp only; omega)
  simp only [Int.toNat_of_nonneg (show 0 ≤ r by omega)] at e
  refine ⟨fun h => ?_, fun h => ?_⟩
  · obtain ⟨a, b⟩ := e.1 h
    exact ⟨a, by simpa using b⟩
  · simpa using e.2 h
/-- No code has a weight above the greatest length. -/
theorem gk_none (ws : List Int) (b wt : Int) (c : List Tri × Int) (h : ∀ v, val ws v < wt) (k : Nat) : gk ws b wt c k = c := by
  induction k with
  | zero => rfl
  | succ k ih =>
    simp only [gk]
    rw [if_neg (by have := h k; unfold val at this; omega)]
    exact ih
theorem gs_more (ws : List Int) (B : Nat) (h : ∀ v, val ws v ≤ B) (n : Nat) (hn : B ≤ n) : gs ws B n = gs ws B B := by
  induction n with
  | zero => obtain rfl : B = 0 := by omega
            rfl
  | succ n ih =>
    by_cases e : B = n + 1
    · rw [e]
    · simp only [gs]
      rw [gk_none ws B _ _ (fun v => by have := h v; omega)]
      exact ih (by omega)

/-- All of it, of weights that are good. -/
theorem good_all {z : List Int} (hin : inB z = true) (h0 : total z ≠ 0) (h8 : len (total z) ≤ 8) (hp : pw (rest z) = true) :
    Fits (all z) ∧ tot (all z) (all z).length = 2 ^ (len (total z)).toNat ∧ 1 ≤ len (rest z) ∧ ∀ v, val (all z) v ≤ len (total z) := by
  obtain ⟨hf, n1, n2⟩ := inB_fits hin
  have ht := total_bound hin
  obtain ⟨r1, r2, r3, r4, r5⟩ := rest_bound hin
  have r2 := r2 h0
  have hL : 0 ≤ len (total z) := by unfold len; omega
  have hpl := pow_le (len (total z)).toNat 8 (by omega)
  have hr256 : rest z ≤ 256 := by
    have : rest z = 2 ^ (len (total z)).toNat - total z := rfl
    omega
  obtain ⟨q1, q2⟩ := pw_is (rest z) r1 hr256 hp
  have hb1 := len_bound (rest z) (by omega) (by omega)
  obtain ⟨s1, s2⟩ := bitLen_spec (total z).toNat (by omega)
  obtain ⟨s3, s4⟩ := s2 (by omega)
  have hB : (len (total z)).toNat = Lib.bitLen (total z).toNat := by unfold len; omega
  generalize hBB : (len (total z)).toNat = B at *
  rw [← hB] at s1 s3 s4
  have c1 : ((2 ^ B : Nat) : Int) = (2 : Int) ^ B := by simp
  have c2 : ((2 ^ (B - 1) : Nat) : Int) = (2 : Int) ^ (B - 1) := by simp
  have c3 : (2 : Int) ^ B = 2 * 2 ^ (B - 1) := by rw [← Int.pow_succ']; congr 1; omega
  have hr : rest z = 2 ^ B - total z := by unfold rest; rw [hBB]
  have hlast : len (rest z) ≤ B := sp_small _ (by
    refine ⟨hb1.1, ?_⟩
    obtain ⟨a, b⟩ := bitLen_spec (rest z).toNat (by omega)
    obtain ⟨c, d⟩ := b (by omega)
    unfold len
    rcases Nat.lt_or_ge (Lib.bitLen (rest z).toNat) 9 with g | g
    · omega
    · exfalso
      have h4 := pow_le B 8 (by omega)
      have := Nat.pow_le_pow_right (n := 2) (by omega) (show 8 ≤ Lib.bitLen (rest z).toNat - 1 by omega)
      omega) B (.inr ⟨by rw [q1]; omega, s4⟩)
  refine ⟨?_, ?_, q2, ?_⟩
  · intro x hx
    unfold all at hx
    rw [List.mem_append] at hx
    rcases hx with hx | hx
    · exact hf x hx
    · simp at hx; subst hx; omega
  · rw [all_length]
    simp only [tot]
    have e1 : (all z).getD z.length 0 = len (rest z) := all_last z
    have e2 : tot (all z) z.length = tot z z.length := tot_append z _ _ (Nat.le_refl _)
    rw [e1, e2, q1, hr]
    show total z + _ = _
    omega
  · intro v
    by_cases h1 : v < z.length
    · rw [all_at z v h1]
      have a := tot_mono z hf v z.length h1
      have := sp_small _ (fits_getD z hf v) B (.inl (by
        have : tot z z.length = total z := rfl
        omega))
      omega
    · by_cases h2 : v = z.length
      · subst h2; rw [all_last]; omega
      · unfold val
        rw [List.getD_eq_getElem?_getD, List.getElem?_eq_none (by rw [all_length]; omega)]
        simp; omega
end Go.Proofs.YtbhemchnjpajiaaGreatDoor.CM

/- Plain mathematics for the law Spans: the longest code, the sum of a weight and its code's bits, where a code begins, and which values have been seen. -/
namespace Go.Proofs.YtbhemchnjpajiaaGreatDoor.CM
open Go

def bit (L : List Tri) (i : Nat) : Int := (L.getD i (0, 0, 0)).2.1
def vl (L : List Tri) (i : Nat) : Int := (L.getD i (0, 0, 0)).1
def nm (L : List Tri) (i : Nat) : Int := (L.getD i (0, 0, 0)).2.2
/-- The greatest bits of the first i codes. -/
def mb (L : List Tri) : Nat → Int
  | 0 => 0
  | i + 1 => if mb L i < bit L i then bit L i else mb L i
/-- The sum of a weight and its bits, as the loop keeps it. -/
def sm (L : List Tri) (n : Nat) (S : Int) : Nat → Int
  | 0 => 0
  | i + 1 => if vl L i < n then S else sm L n S i
theorem mb_ge (L : List Tri) (k i : Nat) (h : i < k) : bit L i ≤ mb L k := by
  induction k with
  | zero => omega
  | succ k ih =>
    simp only [mb]
    by_cases e : i = k
    · subst e; split <;> omega
    · have := ih (by omega); split <;> omega
theorem mb_le (L : List Tri) (B : Int) (hB : 0 ≤ B) (k : Nat) (h : ∀ i, i < k → bit L i ≤ B) : 0 ≤ mb L k ∧ mb L k ≤ B := by
  induction k with
  | zero => simp [mb, hB]
  | succ k ih =>
    have := ih (fun i hi => h i (by omega))
    have := h k (by omega)
    simp only [mb]
    split <;> omega
theorem sm_is (L : List Tri) (n : Nat) (S : Int) (k i : Nat) (h : i < k) (hv : vl L i < n) : sm L n S k = S := by
  induction k with
  | zero => omega
  | succ k ih =>
    simp only [sm]
    by_cases e : i = k
    · subst e; rw [if_pos hv]
    · split
      · rfl
      · exact ih (by omega)
theorem sm_bound (L : List Tri) (n : Nat) (S : Int) (hS : 0 ≤ S ∧ S ≤ 16) (k : Nat) : 0 ≤ sm L n S k ∧ sm L n S k ≤ 16 := by
  induction k with
  | zero => simp [sm]
  | succ k ih => simp only [sm]; split <;> omega

/-- All that the law asks of the codes L of weights z (n of them), greatest length B. -/
structure Told (z : List Int) (B : Int) (L : List Tri) : Prop where
  hB : 1 ≤ B ∧ B ≤ 8
  each : ∀ i, i < L.length → ∃ v : Nat, vl L i = (v : Int) ∧ v ≤ z.length ∧ (v < z.length → bit L i = B + 1 - z.getD v 0 ∧ z.getD v 0 ≠ 0) ∧ 1 ≤ bit L i ∧ bit L i ≤ B ∧ nm L i * 2 ^ (B - bit L i).toNat = sumB B (L.take i)
  mem : ∀ v : Nat, v ≤ z.length → ((v : Int) ∈ L.map (·.1) ↔ (v = z.length ∨ z.getD v 0 ≠ 0))
  nodup : (L.map (·.1)).Nodup
  sum : sumB B L = 2 ^ B.toNat
  pos : 0 < L.length
  few : L.length ≤ 1032

theorem told {z : List Int} (hin : inB z = true) (h0 : total z ≠ 0) (h8 : len (total z) ≤ 8) (hp : pw (rest z) = true) : Told z (len (total z)) (codes z) := by
  obtain ⟨hf, n1, n2⟩ := inB_fits hin
  obtain ⟨g1, g2, g3, g4⟩ := good_all hin h0 h8 hp
  obtain ⟨r1, r2, r3, r4, r5⟩ := rest_bound hin
  obtain ⟨b, hb⟩ : ∃ b : Nat, len (total z) = (b : Int) := ⟨_, rfl⟩
  have hcod : codes z = (gs (all z) b b).1 := by unfold codes; rw [hb, Int.toNat_natCast]
  rw [hb, Int.toNat_natCast] at g2
  rw [hb] at g4 h8 r4 ⊢
  have ok := ok_gs (all z) g1 b g2 b (Nat.le_refl _)
  have hbd := gs_bound (all z) b b (by omega)
  have hst := gs_snd (all z) b g1 b
  rw [low_all (all z) b g4, g2] at hst
  rw [hcod]
  have hal := all_length z
  have hbm : b * (all z).length ≤ 8 * 129 := Nat.mul_le_mul (by omega) (by omega)
  have hlast : ((z.length : Nat) : Int) ∈ (gs (all z) b b).1.map (·.1) := (ok.mem z.length).2 ⟨by omega, by rw [all_last]; exact g3, .inl (by have := g4 z.length; omega)⟩
  refine ⟨by omega, ?_, ?_, ok.nodup, ?_, ?_, by omega⟩
  · intro i hi
    obtain ⟨v, a1, a2, a3, a4, a5, a6⟩ := ok.each i hi
    have hv8 := g4 v
    refine ⟨v, a1, by omega, ?_, ?_, ?_, ?_⟩
    · intro hv
      have e := all_at z v hv
      rw [← e]
      exact ⟨a5, by omega⟩
    · show 1 ≤ (List.getD _ i (0, 0, 0)).2.1
      omega
    · show (List.getD _ i (0, 0, 0)).2.1 ≤ _
      omega
    · rw [← a6]
      unfold nm bit
      rw [a5]
      congr 2
      omega
  · intro v hv
    rw [ok.mem v]
    constructor
    · rintro ⟨a1, a2, a3⟩
      by_cases e : v = z.length
      · exact .inl e
      · right
        rw [← all_at z v (by omega)]
        omega
    · intro h
      by_cases e : v = z.length
      · subst e
        exact ⟨by omega, by rw [all_last]; exact g3, .inl (by have := g4 z.length; omega)⟩
      · have h := h.resolve_left e
        rw [← all_at z v (by omega)] at h
        have hfv : 0 ≤ val (all z) v ∧ val (all z) v ≤ 8 := fits_getD (all z) g1 v
        have := g4 v
        exact ⟨by omega, by omega, .inl (by omega)⟩
  · rw [← ok.sum, hst]
    simp
  · rcases Nat.eq_zero_or_pos (gs (all z) b b).1.length with e | e
    · rw [List.eq_nil_of_length_eq_zero e] at hlast
      simp at hlast
    · exact e

theorem sumB_take_succ (B : Int) (L : List Tri) (i : Nat) (h : i < L.length) : sumB B (L.take (i + 1)) = sumB B (L.take i) + 2 ^ (B - bit L i).toNat := by
  rw [List.take_succ_eq_append_getElem h, sumB_append]
  simp only [sumB, bit]
  rw [List.getD_eq_getElem?_getD, List.getElem?_eq_getElem h]
  simp
theorem sumB_scale (B b : Int) (hb : b ≤ B) (L : List Tri) (h : ∀ i, i < L.length → bit L i ≤ b) (k : Nat) (hk : k ≤ L.length) : sumB B (L.take k) = 2 ^ (B - b).toNat * sumB b (L.take k) := by
  induction k with
  | zero => simp [sumB]
  | succ k ih =>
    rw [sumB_take_succ B L k (by omega), sumB_take_succ b L k (by omega), ih (by omega), Int.mul_add, ← Int.pow_add]
    have := h k (by omega)
    rw [show (B - b).toNat + (b - bit L k).toNat = (B - bit L k).toNat by omega]
theorem sumB_bound (b : Int) (hb : b ≤ 8) (L : List Tri) (h : ∀ i, i < L.length → 1 ≤ bit L i) (k : Nat) (hk : k ≤ L.length) : 0 ≤ sumB b (L.take k) ∧ sumB b (L.take k) ≤ 128 * k := by
  induction k with
  | zero => simp [sumB]
  | succ k ih =>
    rw [sumB_take_succ b L k (by omega)]
    have := ih (by omega)
    have := h k (by omega)
    have h1 := pow_le (b - bit L k).toNat 7 (by omega)
    have h2 := pow_pos (b - bit L k).toNat
    omega
/-- A code begins where the spans ahead of it end, and all spans together are all numbers of the longest code's bits. -/
theorem Told.begins {z : List Int} {B : Int} {L : List Tri} (t : Told z B L) (i : Nat) (h : i < L.length) :
    nm L i * 2 ^ (mb L L.length - bit L i).toNat = sumB (mb L L.length) (L.take i) := by
  have hle : ∀ j, j < L.length → bit L j ≤ B := fun j hj => by obtain ⟨v, a1, a2, a3, a4, a5, a6⟩ := t.each j hj; exact a5
  have hm := mb_le L B (by have := t.hB; omega) L.length hle
  have hge : ∀ j, j < L.length → bit L j ≤ mb L L.length := fun j hj => mb_ge L L.length j hj
  obtain ⟨v, a1, a2, a3, a4, a5, a6⟩ := t.each i h
  have s := sumB_scale B (mb L L.length) hm.2 L hge i (by omega)
  rw [← a6] at s
  have e : (2 : Int) ^ (B - bit L i).toNat = 2 ^ (B - mb L L.length).toNat * 2 ^ (mb L L.length - bit L i).toNat := by
    rw [← Int.pow_add]
    congr 1
    have := hge i h
    omega
  rw [e, ← Int.mul_assoc, Int.mul_comm (nm L i), Int.mul_assoc] at s
  exact Int.eq_of_mul_eq_mul_left (by have := pow_pos (B - mb L L.length).toNat; omega) s
theorem Told.ends {z : List Int} {B : Int} {L : List Tri} (t : Told z B L) : sumB (mb L L.length) L = 2 ^ (mb L L.length).toNat := by
  have hle : ∀ j, j < L.length → bit L j ≤ B := fun j hj => by obtain ⟨v, a1, a2, a3, a4, a5, a6⟩ := t.each j hj; exact a5
  have hm := mb_le L B (by have := t.hB; omega) L.length hle
  have hge : ∀ j, j < L.length → bit L j ≤ mb L L.length := fun j hj => mb_ge L L.length j hj
  have s := sumB_scale B (mb L L.length) hm.2 L hge L.length (Nat.le_refl _)
  rw [List.take_length, t.sum] at s
  have e : (2 : Int) ^ B.toNat = 2 ^ (B - mb L L.length).toNat * 2 ^ (mb L L.length).toNat := by
    rw [← Int.pow_add]
    congr 1
    omega
  rw [e] at s
  exact (Int.eq_of_mul_eq_mul_left (by have := pow_pos (B - mb L L.length).toNat; omega) s).symm
theorem Told.longest {z : List Int} {B : Int} {L : List Tri} (t : Told z B L) : 1 ≤ mb L L.length ∧ mb L L.length ≤ B := by
  have hle : ∀ j, j < L.length → bit L j ≤ B := fun j hj => by obtain ⟨v, a1, a2, a3, a4, a5, a6⟩ := t.each j hj; exact a5
  have hm := mb_le L B (by have := t.hB; omega) L.length hle
  obtain ⟨v, a1, a2, a3, a4, a5, a6⟩ := t.each 0 t.pos
  have := mb_ge L L.length 0 t.pos
  omega

/-- Has the value v been seen among the first i codes? -/
def seenB (L : List Tri) (i v : Nat) : Bool := decide ((v : Int) ∈ (L.take i).map (·.1))
theorem take_succ_map (L : List Tri) (i : Nat) (h : i < L.length) : (L.take (i + 1)).map (·.1) = (L.take i).map (·.1) ++ [vl L i] := by
  rw [List.take_succ_eq_append_getElem h, List.map_append]
  simp [vl, List.getElem?_eq_getElem h]
theorem seen_succ (L : List Tri) (i v u : Nat) (h : i < L.length) (hv : vl L i = (v : Int)) : seenB L (i + 1) u = (seenB L i u || decide (u = v)) := by
  unfold seenB
  rw [take_succ_map L i h, hv, Bool.eq_iff_iff]
  simp only [decide_eq_true_eq, Bool.or_eq_true, List.mem_append, List.mem_singleton]
  rw [show ((u : Int) = (v : Int)) ↔ u = v by omega]
theorem seen_new {z : List Int} {B : Int} {L : List Tri} (t : Told z B L) (i v : Nat) (h : i < L.length) (hv : vl L i = (v : Int)) : seenB L i v = false := by
  unfold seenB
  have hn := t.nodup
  have hs : ((L.take (i + 1)).map (·.1)).Nodup := by
    rw [List.map_take]
    exact hn.sublist (List.take_sublist _ _)
  rw [take_succ_map L i h, List.nodup_append] at hs
  rw [decide_eq_false_iff_not]
  intro hm
  exact hs.2.2 _ hm _ (by simp) hv.symm
theorem seen_all {z : List Int} {B : Int} {L : List Tri} (t : Told z B L) (v : Nat) (hv : v ≤ z.length) : seenB L L.length v = (decide (v = z.length) || (z.getD v 0 != 0)) := by
  unfold seenB
  rw [List.take_length, Bool.eq_iff_iff]
  simp only [decide_eq_true_eq, Bool.or_eq_true, bne_iff_ne]
  exact t.mem v hv
end Go.Proofs.YtbhemchnjpajiaaGreatDoor.CM

/- Bits behind the end of some bytes are noughts: numbers that the program reads so, held against those of the document; the table that it keeps of codes. Plain lemmas. -/
namespace Go.Proofs.YtbhemchnjpajiaaGreatDoor.RD
open Go

/-- The number of n bits from i on, noughts behind the end. -/
def pk (l : List Int) (i : Nat) : Nat → Int
  | 0 => 0
  | n + 1 => 2 * pk l i n + l.getD (i + n) 0
theorem pk_val (l : List Int) (i n : Nat) (h : i + n ≤ l.length) : pk l i n = val ((l.drop i).take n) := by
  induction n with
  | zero => simp [pk, val]
  | succ n ih => rw [pk, ih (by omega), val_take _ _ _ (by omega)]
theorem getD_bound {l : List Int} (hl : ∀ x ∈ l, 0 ≤ x ∧ x ≤ 1) (i : Nat) : 0 ≤ l.getD i 0 ∧ l.getD i 0 ≤ 1 := by
  rw [List.getD_eq_getElem?_getD]
  by_cases hk : i < l.length
  · rw [List.getElem?_eq_getElem hk]; exact hl _ (List.getElem_mem hk)
  · rw [List.getElem?_eq_none (by omega)]; simp
theorem pk_bound {l : List Int} (hl : ∀ x ∈ l, 0 ≤ x ∧ x ≤ 1) (i n : Nat) : 0 ≤ pk l i n ∧ pk l i n < 2 ^ n := by
  induction n with
  | zero => simp [pk]
  | succ n ih =>
    have := getD_bound hl (i + n)
    rw [pk, Int.pow_succ]
    omega
theorem pk_small {l : List Int} (hl : ∀ x ∈ l, 0 ≤ x ∧ x ≤ 1) (i n : Nat) (hn : n ≤ 16) : 0 ≤ pk l i n ∧ pk l i n ≤ 65535 := by
  have h := pk_bound hl i n
  have c := pow_small n 16 hn
  omega
theorem worth_pk (l : List Int) (i n : Nat) : worth l i n = if l.length < i + n then none else some (pk l i n) := by
  unfold worth
  split
  · rfl
  · rw [pk_val _ _ _ (by omega)]
theorem pk_split (l : List Int) (i n m : Nat) : pk l i (n + m) = pk l i n * 2 ^ m + pk l (i + n) m := by
  induction m with
  | zero => simp [pk]
  | succ m ih =>
    rw [← Nat.add_assoc, pk, pk, ih, Int.pow_succ, Nat.add_assoc]
    rw [Int.mul_add, ← Int.mul_assoc, Int.mul_comm 2 (pk l i n), Int.mul_assoc, Int.mul_comm 2 (2 ^ m), Int.add_assoc]
theorem rest_pk (l : List Int) (i : Nat) (h : i ≤ l.length) : rest l i = (decide (l.length - i < 8) && (pk l i (l.length - i) == 0)) := by
  unfold rest
  rw [pk_val _ _ _ (by omega), List.take_of_length_le (by simp)]
theorem bitsOf_cons (b : UInt8) (r : Bytes) : bitsOf (b :: r) = byteBits b ++ bitsOf r := by simp [bitsOf]
theorem bitsOf_at (s : Bytes) (i : Nat) (h : i < 8 * s.length) : (bitsOf s).getD i 0 = bit (s.getD (i / 8) 0) (7 - i % 8) := by
  induction s generalizing i with
  | nil => simp at h
  | cons b r ih =>
    rw [bitsOf_cons]
    by_cases h8 : i < 8
    · rw [show i / 8 = 0 by omega, show i % 8 = i by omega]
      rcases (by omega : i = 0 ∨ i = 1 ∨ i = 2 ∨ i = 3 ∨ i = 4 ∨ i = 5 ∨ i = 6 ∨ i = 7) with rfl | rfl | rfl | rfl | rfl | rfl | rfl | rfl <;> rfl
    · have e : (byteBits b).length = 8 := rfl
      simp only [List.length_cons] at h
      have := ih (i - 8) (by omega)
      rw [show (i - 8) % 8 = i % 8 by omega] at this
      rw [List.getD_eq_getElem?_getD, List.getElem?_append_right (by omega), e, ← List.getD_eq_getElem?_getD, this, show i / 8 = (i - 8) / 8 + 1 by omega]
      rfl
theorem bitsOf_behind (s : Bytes) (i : Nat) (h : 8 * s.length ≤ i) : (bitsOf s).getD i 0 = 0 := by
  rw [List.getD_eq_getElem?_getD, List.getElem?_eq_none (by rw [bitsOf_length]; exact h)]
  rfl

/-- The table of 256 entries that the program keeps of codes. -/
def entries (cs : List CM.Tri) : List (Int × Int) := cs.flatMap fun c => List.replicate (2 ^ (8 - c.2.1.toNat)) (c.1, c.2.1)
theorem entries_append (a b : List CM.Tri) : entries (a ++ b) = entries a ++ entries b := by simp [entries]
theorem entries_one (c : CM.Tri) : entries [c] = List.replicate (2 ^ (8 - c.2.1.toNat)) (c.1, c.2.1) := by simp [entries]
/-- Codes that leave no gap among the numbers of 8 bits. -/
structure CodesOk (cs : List CM.Tri) : Prop where
  each : ∀ i (h : i < cs.length), 0 ≤ (cs[i]).1 ∧ (cs[i]).1 ≤ 128 ∧ 1 ≤ (cs[i]).2.1 ∧ (cs[i]).2.1 ≤ 8 ∧ 0 ≤ (cs[i]).2.2 ∧ (cs[i]).2.2 * 2 ^ (8 - (cs[i]).2.1.toNat) = ((entries (cs.take i)).length : Int)
  all : (entries cs).length = 256
  few : cs.length ≤ 1032
theorem entries_sum (L : List CM.Tri) (h : ∀ i, i < L.length → CM.bit L i ≤ 8 ∧ 1 ≤ CM.bit L i) (k : Nat) (hk : k ≤ L.length) : CM.sumB 8 (L.take k) = ((entries (L.take k)).length : Int) := by
  induction k with
  | zero => simp [CM.sumB, entries]
  | succ k ih =>
    have hb := h k (by omega)
    rw [CM.sumB_take_succ 8 L k (by omega), ih (by omega), List.take_succ_eq_append_getElem (by omega), entries_append, entries_one, List.length_append, List.length_replicate]
    have e : CM.bit L k = (L[k]).2.1 := by unfold CM.bit; rw [List.getD_eq_getElem?_getD, List.getElem?_eq_getElem (by omega)]; rfl
    rw [e] at hb ⊢
    rw [show ((8 : Int) - (L[k]).2.1).toNat = 8 - (L[k]).2.1.toNat by omega]
    simp
theorem codesOk {z : List Int} (h : CM.good z = true) : CodesOk (CM.codes z) := by
  unfold CM.good at h
  simp only [Bool.and_eq_true, bne_iff_ne, decide_eq_true_eq] at h
  obtain ⟨⟨⟨hin, h0⟩, h8⟩, hp⟩ := h
  have t := CM.told hin h0 h8 hp
  obtain ⟨hf, n1, n2⟩ := CM.inB_fits hin
  generalize CM.len (CM.total z) = B at *
  generalize CM.codes z = L at *
  have hB := t.hB
  have hb : ∀ i, i < L.length → CM.bit L i ≤ B ∧ 1 ≤ CM.bit L i := fun i hi => by
    obtain ⟨v, a1, a2, a3, a4, a5, a6⟩ := t.each i hi
    exact ⟨a5, a4⟩
  have hb8 : ∀ i, i < L.length → CM.bit L i ≤ 8 ∧ 1 ≤ CM.bit L i := fun i hi => by have := hb i hi; omega
  have hs := fun k (hk : k ≤ L.length) => CM.sumB_scale 8 B (by omega) L (fun i hi => (hb i hi).1) k hk
  refine ⟨fun i hi => ?_, ?_, t.few⟩
  · obtain ⟨v, a1, a2, a3, a4, a5, a6⟩ := t.each i hi
    have eb : CM.bit L i = (L[i]).2.1 := by unfold CM.bit; rw [List.getD_eq_getElem?_getD, List.getElem?_eq_getElem hi]; rfl
    have ev : CM.vl L i = (L[i]).1 := by unfold CM.vl; rw [List.getD_eq_getElem?_getD, List.getElem?_eq_getElem hi]; rfl
    have en : CM.nm L i = (L[i]).2.2 := by unfold CM.nm; rw [List.getD_eq_getElem?_getD, List.getElem?_eq_getElem hi]; rfl
    rw [eb] at a4 a5 a6
    rw [ev] at a1
    rw [en] at a6
    have e8 : (2 : Int) ^ (8 - (L[i]).2.1.toNat) = 2 ^ (8 - B).toNat * 2 ^ (B - (L[i]).2.1).toNat := by
      rw [← Int.pow_add]
      congr 1
      omega
    have hsum : (L[i]).2.2 * 2 ^ (8 - (L[i]).2.1.toNat) = ((entries (L.take i)).length : Int) := by
      rw [← entries_sum L hb8 i (by omega), hs i (by omega), ← a6, e8, ← Int.mul_assoc, ← Int.mul_assoc, Int.mul_comm (2 ^ (8 - B).toNat)]
    refine ⟨by omega, by omega, a4, by omega, ?_, hsum⟩
    rcases (by omega : (L[i]).2.2 < 0 ∨ 0 ≤ (L[i]).2.2) with hn | hn
    · have hp : (0 : Int) < 2 ^ (8 - (L[i]).2.1.toNat) := Int.pow_pos (by omega)
      have := Int.mul_neg_of_neg_of_pos hn hp
      omega
    · exact hn
  · have e := hs L.length (Nat.le_refl _)
    have e' := entries_sum L hb8 L.length (Nat.le_refl _)
    rw [List.take_length] at e e'
    rw [e', t.sum, ← Int.pow_add, show (8 - B).toNat + B.toNat = 8 by omega] at e
    omega

/-- In which code's span a number of 8 bits lies. -/
theorem span_of (cs : List CM.Tri) : ∀ p, p < (entries cs).length → ∃ k, ∃ h : k < cs.length, (entries (cs.take k)).length ≤ p ∧ p < (entries (cs.take k)).length + 2 ^ (8 - (cs[k]).2.1.toNat) ∧ (entries cs).getD p (0, 0) = ((cs[k]).1, (cs[k]).2.1) := by
  suffices H : ∀ n, n ≤ cs.length → ∀ p, p < (entries (cs.take n)).length → ∃ k, ∃ h : k < cs.length, (entries (cs.take k)).length ≤ p ∧ p < (entries (cs.take k)).length + 2 ^ (8 - (cs[k]).2.1.toNat) ∧ (entries (cs.take n)).getD p (0, 0) = ((cs[k]).1, (cs[k]).2.1) by
    have := H cs.length (Nat.le_refl _)
    rwa [List.take_length] at this
  intro n
  induction n with
  | zero => intro _ p hp; simp [entries] at hp
  | succ n ih =>
    intro hn p hp
    have e : entries (cs.take (n + 1)) = entries (cs.take n) ++ List.replicate (2 ^ (8 - (cs[n]).2.1.toNat)) ((cs[n]).1, (cs[n]).2.1) := by
      rw [List.take_succ_eq_append_getElem (by omega), entries_append, entries_one]
    by_cases hlt : p < (entries (cs.take n)).length
    · obtain ⟨k, hk, h1, h2, h3⟩ := ih (by omega) p hlt
      refine ⟨k, hk, h1, h2, ?_⟩
      rw [e, List.getD_eq_getElem?_getD, List.getElem?_append_left hlt, ← List.getD_eq_getElem?_getD, h3]
    · rw [e, List.length_append, List.length_replicate] at hp
      refine ⟨n, by omega, by omega, hp, ?_⟩
      rw [e, List.getD_eq_getElem?_getD, List.getElem?_append_right (by omega), List.getElem?_replicate, if_pos (by omega)]
      rfl
theorem entries_mono (cs : List CM.Tri) {i j : Nat} (h : i ≤ j) : (entries (cs.take i)).length ≤ (entries (cs.take j)).length := by
  obtain ⟨t, ht⟩ : ∃ t, cs.take j = cs.take i ++ t := ⟨(cs.take j).drop i, by have e := List.take_append_drop i (cs.take j); rw [List.take_take, Nat.min_eq_left h] at e; exact e.symm⟩
  rw [ht, entries_append, List.length_append]
  omega
theorem span_one {cs : List CM.Tri} {p k j : Nat} (hk : k < cs.length) (hj : j < cs.length) (h1 : (entries (cs.take k)).length ≤ p) (h2 : p < (entries (cs.take k)).length + 2 ^ (8 - (cs[k]).2.1.toNat)) (h3 : (entries (cs.take j)).length ≤ p) (h4 : p < (entries (cs.take j)).length + 2 ^ (8 - (cs[j]).2.1.toNat)) : k = j := by
  have hs : ∀ n (h : n < cs.length), (entries (cs.take (n + 1))).length = (entries (cs.take n)).length + 2 ^ (8 - (cs[n]).2.1.toNat) := fun n h => by
    rw [List.take_succ_eq_append_getElem h, entries_append, entries_one, List.length_append, List.length_replicate]
  rcases Nat.lt_trichotomy k j with h | h | h
  · have := entries_mono cs (show k + 1 ≤ j from h)
    have := hs k hk
    omega
  · exact h
  · have := entries_mono cs (show j + 1 ≤ k from h)
    have := hs j hj
    omega
/-- The entry that the next 8 bits tell, against the code that stands there. -/
theorem codeAt_entry {cs : List CM.Tri} (hc : CodesOk cs) {l : List Int} (hl : ∀ x ∈ l, 0 ≤ x ∧ x ≤ 1) (i : Nat) : ∃ c : CM.Tri, c ∈ cs ∧ (entries cs).getD (pk l i 8).toNat (0, 0) = (c.1, c.2.1) ∧ (0 ≤ c.1 ∧ c.1 ≤ 128 ∧ 1 ≤ c.2.1 ∧ c.2.1 ≤ 8) ∧ codeAt l i cs = if l.length < i + c.2.1.toNat then none else some c := by
  have hb := pk_bound hl i 8
  obtain ⟨k, hk, h1, h2, h3⟩ := span_of cs (pk l i 8).toNat (by rw [hc.all]; omega)
  obtain ⟨a1, a2, a3, a4, a5, a6⟩ := hc.each k hk
  refine ⟨cs[k], List.getElem_mem hk, h3, ⟨a1, a2, a3, a4⟩, ?_⟩
  have key : ∀ j (hj : j < cs.length), (worth l i (cs[j]).2.1.toNat == some (cs[j]).2.2) = true ↔ (j = k ∧ ¬ l.length < i + (cs[j]).2.1.toNat) := by
    intro j hj
    obtain ⟨b1, b2, b3, b4, b5, b6⟩ := hc.each j hj
    have sp := pk_split l i (cs[j]).2.1.toNat (8 - (cs[j]).2.1.toNat)
    rw [show (cs[j]).2.1.toNat + (8 - (cs[j]).2.1.toNat) = 8 by omega] at sp
    have r1 := pk_bound hl (i + (cs[j]).2.1.toNat) (8 - (cs[j]).2.1.toNat)
    have hpow : ((2 ^ (8 - (cs[j]).2.1.toNat) : Nat) : Int) = 2 ^ (8 - (cs[j]).2.1.toNat) := by simp
    rw [worth_pk]
    by_cases hlen : l.length < i + (cs[j]).2.1.toNat
    · rw [if_pos hlen]
      simp [hlen]
    · rw [if_neg hlen]
      simp only [beq_iff_eq, Option.some.injEq]
      constructor
      · intro e
        refine ⟨(span_one hk hj h1 h2 ?_ ?_).symm, hlen⟩
        · rw [e, b6] at sp; omega
        · rw [e, b6] at sp; omega
      · rintro ⟨rfl, -⟩
        have u1 : (cs[j]).2.2 * 2 ^ (8 - (cs[j]).2.1.toNat) ≤ pk l i 8 := by rw [b6]; omega
        have u2 : pk l i 8 < (cs[j]).2.2 * 2 ^ (8 - (cs[j]).2.1.toNat) + 2 ^ (8 - (cs[j]).2.1.toNat) := by rw [b6]; omega
        rw [sp] at u1 u2
        generalize pk l i (cs[j]).2.1.toNat = x at *
        generalize (cs[j]).2.2 = y at *
        generalize (2 : Int) ^ (8 - (cs[j]).2.1.toNat) = z at *
        rcases Int.lt_trichotomy x y with h | h | h
        · have := Int.mul_le_mul_of_nonneg_right (show x + 1 ≤ y by omega) (show 0 ≤ z by omega)
          rw [Int.add_mul] at this
          omega
        · exact h
        · have := Int.mul_le_mul_of_nonneg_right (show y + 1 ≤ x by omega) (show 0 ≤ z by omega)
          rw [Int.add_mul] at this
          omega
  unfold codeAt
  by_cases hlen : l.length < i + (cs[k]).2.1.toNat
  · rw [if_pos hlen, List.find?_eq_none]
    intro c hcm
    obtain ⟨j, hj, rfl⟩ := List.mem_iff_getElem.1 hcm
    intro e
    obtain ⟨rfl, e2⟩ := (key j hj).1 e
    exact e2 hlen
  · rw [if_neg hlen, List.find?_eq_some_iff_getElem]
    refine ⟨(key k hk).2 ⟨rfl, hlen⟩, k, hk, rfl, fun j hj => ?_⟩
    have : ¬ ((worth l i (cs[j]).2.1.toNat == some (cs[j]).2.2) = true) := fun e => by
      have := ((key j (by omega)).1 e).1
      omega
    simpa using this
end Go.Proofs.YtbhemchnjpajiaaGreatDoor.RD

/- The sequences of a block as the program reads them (all of them first, then the content is filled), held against the document's one by one. Plain lemmas. -/
namespace Go.Proofs.YtbhemchnjpajiaaGreatDoor.RD
open Go
set_option linter.unusedVariables false

/-- A place among the sequences: the next bit, the three states, the last offsets. -/
structure Ph where
  pos : Nat
  x0 : CM.Tri
  x1 : CM.Tri
  x2 : CM.Tri
  last : List Int
/-- A sequence: how many literals, how far back, how long the match. -/
structure S3 where
  len : Int
  off : Int
  mat : Int
/-- A length of a symbol, and the place behind it. -/
def plen (l : List Int) (pos c : Nat) : Int × Nat := if c < 8 then ((c : Int), pos) else (2 ^ (c - 7) + 6 + pk l pos (c - 7), pos + (c - 7))
structure P1 where
  s : S3
  pos : Nat
  last : List Int
/-- One sequence, read. -/
def pone (l : List Int) (h : Ph) : P1 :=
  ⟨⟨(plen l (plen l (h.pos + h.x1.1.toNat) h.x2.1.toNat).2 h.x0.1.toNat).1,
    (backOf h.last (2 ^ h.x1.1.toNat + pk l h.pos h.x1.1.toNat) (plen l (plen l (h.pos + h.x1.1.toNat) h.x2.1.toNat).2 h.x0.1.toNat).1).1,
    (plen l (h.pos + h.x1.1.toNat) h.x2.1.toNat).1 + 3⟩,
    (plen l (plen l (h.pos + h.x1.1.toNat) h.x2.1.toNat).2 h.x0.1.toNat).2,
    (backOf h.last (2 ^ h.x1.1.toNat + pk l h.pos h.x1.1.toNat) (plen l (plen l (h.pos + h.x1.1.toNat) h.x2.1.toNat).2 h.x0.1.toNat).1).2⟩
/-- The next states. -/
def pnext (l : List Int) (t0 t1 t2 : Tab) (h : Ph) (r : P1) : Ph :=
  ⟨r.pos + h.x0.2.1.toNat + h.x2.2.1.toNat + h.x1.2.1.toNat, triAt t0.l (h.x0.2.2 + pk l r.pos h.x0.2.1.toNat),
    triAt t1.l (h.x1.2.2 + pk l (r.pos + h.x0.2.1.toNat + h.x2.2.1.toNat) h.x1.2.1.toNat), triAt t2.l (h.x2.2.2 + pk l (r.pos + h.x0.2.1.toNat) h.x2.2.1.toNat), r.last⟩
def pfirst (l : List Int) (t0 t1 t2 : Tab) (last : List Int) : Ph :=
  ⟨t0.log + t1.log + t2.log, triAt t0.l (pk l 0 t0.log), triAt t1.l (pk l t0.log t1.log), triAt t2.l (pk l (t0.log + t1.log) t2.log), last⟩
/-- The first k sequences, and the place ahead of the next one. -/
def pheads (l : List Int) (t0 t1 t2 : Tab) (last : List Int) : Nat → Option (List S3 × Ph)
  | 0 => some ([], pfirst l t0 t1 t2 last)
  | k + 1 =>
    match pheads l t0 t1 t2 last k with
    | none => none
    | some (L, h) => if (pone l h).s.off = 0 then none else some (L ++ [(pone l h).s], pnext l t0 t1 t2 h (pone l h))
/-- k + 1 sequences, the place behind them, the last offsets. -/
def plast (l : List Int) (t0 t1 t2 : Tab) (last : List Int) (k : Nat) : Option (List S3 × Nat × List Int) :=
  match pheads l t0 t1 t2 last k with
  | none => none
  | some (L, h) => if (pone l h).s.off = 0 then none else some (L ++ [(pone l h).s], (pone l h).pos, (pone l h).last)

/-- One sequence's content: what there is by now, and the literals that are left. -/
def fill1 (size : Nat) (s : S3) (x : Bytes × Bytes) : Option (Bytes × Bytes) :=
  if (x.2.length : Int) < s.len then none
  else if (size : Int) < s.off ∨ ((x.1 ++ x.2.take s.len.toNat).length : Int) < s.off then none
  else some (copyN (x.1 ++ x.2.take s.len.toNat) s.off.toNat s.mat.toNat, x.2.drop s.len.toNat)
def fillN (size : Nat) : List S3 → Bytes × Bytes → Option (Bytes × Bytes)
  | [], x => some x
  | s :: r, x =>
    match fill1 size s x with
    | none => none
    | some y => fillN size r y
theorem fillN_snoc (size : Nat) (L : List S3) (s : S3) (x : Bytes × Bytes) : fillN size (L ++ [s]) x = match fillN size L x with
    | none => none
    | some y => fill1 size s y := by
  induction L generalizing x with
  | nil =>
    simp only [List.nil_append, fillN]
    cases fill1 size s x <;> rfl
  | cons a r ih =>
    simp only [List.cons_append, fillN]
    cases fill1 size a x with
    | none => rfl
    | some y => exact ih y
theorem fill1_grows {size : Nat} {s : S3} {x y : Bytes × Bytes} (h : fill1 size s x = some y) : x.1.length ≤ y.1.length ∧ y.1.length = x.1.length + s.len.toNat + s.mat.toNat := by
  unfold fill1 at h
  split at h
  · cases h
  · rename_i h1
    split at h
    · cases h
    · injection h with h
      subst h
      simp only [copyN_length, List.length_append, List.length_take]
      omega

theorem rd_ok (l : List Int) (p n : Nat) (h : p + n ≤ l.length) : rd l ⟨p, false⟩ n = (pk l p n, ⟨p + n, false⟩) := by
  unfold rd
  simp only [worth_pk]
  rw [if_neg (by omega)]
theorem rd_false {l : List Int} {b : B} {n : Nat} (h : (rd l b n).2.short = false) : b.short = false ∧ b.i + n ≤ l.length ∧ rd l b n = (pk l b.i n, ⟨b.i + n, false⟩) := by
  unfold rd at *
  rw [worth_pk] at *
  by_cases hl : l.length < b.i + n
  · simp [if_pos hl] at h
  · rw [if_neg hl] at h ⊢
    have : b.short = false := h
    exact ⟨this, by omega, by simp [this]⟩
theorem sz_ok (l : List Int) (p c : Nat) (h : (plen l p c).2 ≤ l.length) : sz l ⟨p, false⟩ c = ((plen l p c).1, ⟨(plen l p c).2, false⟩) := by
  unfold sz plen at *
  by_cases hc : c < 8
  · rw [if_pos hc, if_pos (by omega)]
  · rw [if_neg hc] at h ⊢
    rw [if_neg (by omega), rd_ok _ _ _ h]
theorem sz_false {l : List Int} {b : B} {c : Nat} (h : (sz l b c).2.short = false) (hb : b.i ≤ l.length) : b.short = false ∧ (plen l b.i c).2 ≤ l.length ∧ sz l b c = ((plen l b.i c).1, ⟨(plen l b.i c).2, false⟩) := by
  unfold sz plen at *
  by_cases hc : c < 8
  · rw [if_pos (show c ≤ 7 by omega)] at h ⊢
    rw [if_pos hc]
    have h : b.short = false := h
    exact ⟨h, hb, by obtain ⟨i, s⟩ := b; cases h; rfl⟩
  · rw [if_neg (show ¬ c ≤ 7 by omega)] at h ⊢
    obtain ⟨h1, h2, h3⟩ := rd_false h
    rw [if_neg hc]
    exact ⟨h1, h2, by rw [h3]⟩
theorem plen_ge (l : List Int) (p c : Nat) : p ≤ (plen l p c).2 := by
  unfold plen
  split
  · exact Nat.le_refl _
  · exact Nat.le_add_right _ _
theorem pone_pos (l : List Int) (h : Ph) : h.pos ≤ (pone l h).pos := by
  have a := plen_ge l (h.pos + h.x1.1.toNat) h.x2.1.toNat
  have b := plen_ge l (plen l (h.pos + h.x1.1.toNat) h.x2.1.toNat).2 h.x0.1.toNat
  show h.pos ≤ (plen l (plen l (h.pos + h.x1.1.toNat) h.x2.1.toNat).2 h.x0.1.toNat).2
  omega
theorem pnext_pos (l : List Int) (t0 t1 t2 : Tab) (h : Ph) (r : P1) : r.pos ≤ (pnext l t0 t1 t2 h r).pos := by
  show r.pos ≤ r.pos + h.x0.2.1.toNat + h.x2.2.1.toNat + h.x1.2.1.toNat
  omega

/-- The document's place and the program's agree. -/
structure Sync (f : Fr) (l : List Int) (q : Sq) (h : Ph) (x : Bytes × Bytes) : Prop where
  b : q.b = ⟨h.pos, false⟩
  le : h.pos ≤ l.length
  x0 : h.x0 = triAt f.t0.l q.s0
  x1 : h.x1 = triAt f.t1.l q.s1
  x2 : h.x2 = triAt f.t2.l q.s2
  last : q.last = h.last
  past : q.past = x.1
  lits : q.lits = x.2
theorem seqEnd_short {f : Fr} {from' : Nat} {q : Sq} {v m len : Int} {b : B} {s0 s1 s2 : Int} (h : b.short = true) : seqEnd f from' q v m len b s0 s1 s2 = none := by
  unfold seqEnd
  rw [if_pos (.inl h)]
theorem rd_short {l : List Int} {b : B} {n : Nat} (h : b.short = true) : (rd l b n).2.short = true := by
  cases e : (rd l b n).2.short with
  | true => rfl
  | false => rw [(rd_false e).1] at h; cases h
theorem sz_short {l : List Int} {b : B} {n : Nat} (h : b.short = true) : (sz l b n).2.short = true := by
  unfold sz
  split
  · exact h
  · exact rd_short h
/-- The end of a sequence against the program's. -/
theorem seqEnd_fill {f : Fr} {l : List Int} {from' : Nat} {q : Sq} {h : Ph} {x : Bytes × Bytes} (hs : Sync f l q h x) (hla : LastOk h.last) {v m len : Int} {pos : Nat} {s0 s1 s2 : Int} (hfr : from' ≤ x.1.length) (hm : 0 ≤ m) (hl : 0 ≤ len) (hv : 1 ≤ v) :
    seqEnd f from' q v m len ⟨pos, false⟩ s0 s1 s2 = if (backOf h.last v len).1 = 0 then none else
      match fill1 f.window ⟨len, (backOf h.last v len).1, m + 3⟩ x with
      | none => none
      | some y => if from' + 1024 < y.1.length then none else some ⟨⟨pos, false⟩, s0, s1, s2, y.1, y.2, (backOf h.last v len).2⟩ := by
  have h0 : 0 ≤ (backOf h.last v len).1 := by
    obtain ⟨a, b, c, e, ha, hb, hc⟩ := hla
    rw [e]
    unfold backOf
    split
    · show 0 ≤ v - 3; omega
    · simp only []
      generalize (if len = 0 then v + 1 else v) = i
      split
      · show 0 ≤ a - 1; omega
      · split
        · show 0 ≤ a; omega
        · split
          · show 0 ≤ b; omega
          · show 0 ≤ c; omega
  unfold seqEnd
  rw [hs.last, hs.past, hs.lits]
  generalize backOf h.last v len = bk at *
  unfold fill1
  simp only [Bool.false_eq_true, false_or]
  by_cases hz : bk.1 = 0
  · rw [if_pos hz]
    split
    · rfl
    · rw [if_pos (.inl (by omega))]
  rw [if_neg hz]
  by_cases h1 : (x.2.length : Int) < len
  · rw [if_pos h1, if_pos h1]
  rw [if_neg h1, if_neg h1]
  by_cases h2 : (f.window : Int) < bk.1 ∨ ((x.1 ++ x.2.take len.toNat).length : Int) < bk.1
  · rw [if_pos (by omega), if_pos h2]
  rw [if_neg h2]
  simp only [copyN_length]
  by_cases h3 : 1024 < ((x.1 ++ x.2.take len.toNat).length : Int) + (3 + m) - from'
  · rw [if_pos (by omega), if_pos (by omega)]
  · rw [if_neg (by omega), if_neg (by omega), show (3 + m) = m + 3 by omega]
theorem pone_eq (l : List Int) (h : Ph) : (pone l h).s = ⟨(pone l h).s.len, (pone l h).s.off, (pone l h).s.mat⟩ := rfl
theorem plen_nonneg {l : List Int} (hl : ∀ x ∈ l, 0 ≤ x ∧ x ≤ 1) (p c : Nat) : 0 ≤ (plen l p c).1 := by
  unfold plen
  split
  · simp
  · have := pk_bound hl p (c - 7)
    have d : (0 : Int) < 2 ^ (c - 7) := Int.pow_pos (by omega)
    show 0 ≤ 2 ^ (c - 7) + 6 + pk l p (c - 7)
    omega
theorem pval_pos {l : List Int} (hl : ∀ x ∈ l, 0 ≤ x ∧ x ≤ 1) (p c : Nat) : 1 ≤ (2 : Int) ^ c + pk l p c := by
  have := pk_bound hl p c
  have d : (0 : Int) < 2 ^ c := Int.pow_pos (by omega)
  omega

/-- One sequence, another one behind it. -/
theorem seq1_sync {f : Fr} {l : List Int} (hl : ∀ x ∈ l, 0 ≤ x ∧ x ≤ 1) {from' : Nat} {q : Sq} {h : Ph} {x : Bytes × Bytes} (hs : Sync f l q h x) (hla : LastOk h.last) (hfr : from' ≤ x.1.length) :
    (seq1 f l from' true q = none ∧ ((pone l h).s.off = 0 ∨ l.length < (pnext l f.t0 f.t1 f.t2 h (pone l h)).pos ∨ fill1 f.window (pone l h).s x = none ∨ ∃ y, fill1 f.window (pone l h).s x = some y ∧ from' + 1024 < y.1.length)) ∨
    ∃ y q', fill1 f.window (pone l h).s x = some y ∧ y.1.length ≤ from' + 1024 ∧ (pone l h).s.off ≠ 0 ∧ seq1 f l from' true q = some q' ∧ Sync f l q' (pnext l f.t0 f.t1 f.t2 h (pone l h)) y := by
  have e : seq1 f l from' true q = seqEnd f from' q (2 ^ h.x1.1.toNat + (rd l q.b h.x1.1.toNat).1) (sz l (rd l q.b h.x1.1.toNat).2 h.x2.1.toNat).1 (sz l (sz l (rd l q.b h.x1.1.toNat).2 h.x2.1.toNat).2 h.x0.1.toNat).1
      (rd l (rd l (rd l (sz l (sz l (rd l q.b h.x1.1.toNat).2 h.x2.1.toNat).2 h.x0.1.toNat).2 h.x0.2.1.toNat).2 h.x2.2.1.toNat).2 h.x1.2.1.toNat).2 (h.x0.2.2 + (rd l (sz l (sz l (rd l q.b h.x1.1.toNat).2 h.x2.1.toNat).2 h.x0.1.toNat).2 h.x0.2.1.toNat).1)
      (h.x1.2.2 + (rd l (rd l (rd l (sz l (sz l (rd l q.b h.x1.1.toNat).2 h.x2.1.toNat).2 h.x0.1.toNat).2 h.x0.2.1.toNat).2 h.x2.2.1.toNat).2 h.x1.2.1.toNat).1) (h.x2.2.2 + (rd l (rd l (sz l (sz l (rd l q.b h.x1.1.toNat).2 h.x2.1.toNat).2 h.x0.1.toNat).2 h.x0.2.1.toNat).2 h.x2.2.1.toNat).1) := by
    unfold seq1
    rw [hs.x0, hs.x1, hs.x2]
    rfl
  rw [e]
  by_cases hp : l.length < (pnext l f.t0 f.t1 f.t2 h (pone l h)).pos
  · left
    refine ⟨seqEnd_short ?_, .inr (.inl hp)⟩
    cases es : (rd l (rd l (rd l (sz l (sz l (rd l q.b h.x1.1.toNat).2 h.x2.1.toNat).2 h.x0.1.toNat).2 h.x0.2.1.toNat).2 h.x2.2.1.toNat).2 h.x1.2.1.toNat).2.short with
    | true => rfl
    | false =>
      exfalso
      obtain ⟨a1, a2, a3⟩ := rd_false es
      obtain ⟨b1, b2, b3⟩ := rd_false a1
      obtain ⟨c1, c2, c3⟩ := rd_false b1
      have i1 := rd_i l q.b h.x1.1.toNat (by rw [hs.b]; exact hs.le)
      have i2 := sz_i l (rd l q.b h.x1.1.toNat).2 h.x2.1.toNat i1
      obtain ⟨d1, d2, d3⟩ := sz_false c1 i2
      obtain ⟨k1, k2, k3⟩ := sz_false d1 i1
      obtain ⟨m1, m2, m3⟩ := rd_false k1
      simp only [hs.b] at m2 k2 d2 c2 b2 a2
      simp only [rd_ok l _ _ m2] at k2 d2 c2 b2 a2
      simp only [sz_ok l _ _ k2] at d2 c2 b2 a2
      simp only [sz_ok l _ _ d2] at c2 b2 a2
      simp only [rd_ok l _ _ c2] at b2 a2
      simp only [rd_ok l _ _ b2] at a2
      have hp' : l.length < (plen l (plen l (h.pos + h.x1.1.toNat) h.x2.1.toNat).2 h.x0.1.toNat).2 + h.x0.2.1.toNat + h.x2.2.1.toNat + h.x1.2.1.toNat := hp
      omega
  · have hp' : (plen l (plen l (h.pos + h.x1.1.toNat) h.x2.1.toNat).2 h.x0.1.toNat).2 + h.x0.2.1.toNat + h.x2.2.1.toNat + h.x1.2.1.toNat ≤ l.length := Nat.le_of_not_lt hp
    have g1 := plen_ge l (h.pos + h.x1.1.toNat) h.x2.1.toNat
    have g2 := plen_ge l (plen l (h.pos + h.x1.1.toNat) h.x2.1.toNat).2 h.x0.1.toNat
    have r1 := rd_ok l h.pos h.x1.1.toNat (by omega)
    have r2 := sz_ok l (h.pos + h.x1.1.toNat) h.x2.1.toNat (by omega)
    have r3 := sz_ok l (plen l (h.pos + h.x1.1.toNat) h.x2.1.toNat).2 h.x0.1.toNat (by omega)
    have r4 := rd_ok l (plen l (plen l (h.pos + h.x1.1.toNat) h.x2.1.toNat).2 h.x0.1.toNat).2 h.x0.2.1.toNat (by omega)
    have r5 := rd_ok l ((plen l (plen l (h.pos + h.x1.1.toNat) h.x2.1.toNat).2 h.x0.1.toNat).2 + h.x0.2.1.toNat) h.x2.2.1.toNat (by omega)
    have r6 := rd_ok l ((plen l (plen l (h.pos + h.x1.1.toNat) h.x2.1.toNat).2 h.x0.1.toNat).2 + h.x0.2.1.toNat + h.x2.2.1.toNat) h.x1.2.1.toNat (by omega)
    rw [hs.b]
    simp only [r1, r2, r3, r4, r5, r6]
    rw [seqEnd_fill hs hla hfr (plen_nonneg hl _ _) (plen_nonneg hl _ _) (pval_pos hl _ _)]
    obtain ⟨s0, hs0⟩ : ∃ s, s = h.x0.2.2 + pk l (pone l h).pos h.x0.2.1.toNat := ⟨_, rfl⟩
    obtain ⟨s1, hs1⟩ : ∃ s, s = h.x1.2.2 + pk l ((pone l h).pos + h.x0.2.1.toNat + h.x2.2.1.toNat) h.x1.2.1.toNat := ⟨_, rfl⟩
    obtain ⟨s2, hs2⟩ : ∃ s, s = h.x2.2.2 + pk l ((pone l h).pos + h.x0.2.1.toNat) h.x2.2.1.toNat := ⟨_, rfl⟩
    obtain ⟨P, hP⟩ : ∃ P, P = (pnext l f.t0 f.t1 f.t2 h (pone l h)).pos := ⟨_, rfl⟩
    have goal : ∀ (mk : Bytes × Bytes → Sq), (∀ y, mk y = ⟨⟨P, false⟩, s0, s1, s2, y.1, y.2, (pone l h).last⟩) →
        ((if (pone l h).s.off = 0 then none else match fill1 f.window (pone l h).s x with
          | none => none
          | some y => if from' + 1024 < y.1.length then none else some (mk y)) = none ∧ ((pone l h).s.off = 0 ∨ l.length < (pnext l f.t0 f.t1 f.t2 h (pone l h)).pos ∨ fill1 f.window (pone l h).s x = none ∨ ∃ y, fill1 f.window (pone l h).s x = some y ∧ from' + 1024 < y.1.length)) ∨
        ∃ y q', fill1 f.window (pone l h).s x = some y ∧ y.1.length ≤ from' + 1024 ∧ (pone l h).s.off ≠ 0 ∧ (if (pone l h).s.off = 0 then none else match fill1 f.window (pone l h).s x with
          | none => none
          | some y => if from' + 1024 < y.1.length then none else some (mk y)) = some q' ∧ Sync f l q' (pnext l f.t0 f.t1 f.t2 h (pone l h)) y := by
      intro mk hmk
      by_cases hz : (pone l h).s.off = 0
      · exact .inl ⟨by rw [if_pos hz], .inl hz⟩
      cases ef : fill1 f.window (pone l h).s x with
      | none => exact .inl ⟨by rw [if_neg hz], .inr (.inr (.inl rfl))⟩
      | some y =>
        by_cases hy : from' + 1024 < y.1.length
        · exact .inl ⟨by simp only [if_neg hz, if_pos hy], .inr (.inr (.inr ⟨y, rfl, hy⟩))⟩
        · refine .inr ⟨y, mk y, rfl, by omega, hz, by simp only [if_neg hz, if_neg hy], ?_⟩
          rw [hmk, hP, hs0, hs1, hs2]
          exact ⟨rfl, hp', rfl, rfl, rfl, rfl, rfl, rfl⟩
    refine goal (fun y => ⟨⟨_, false⟩, _, _, _, y.1, y.2, _⟩) (fun y => ?_)
    rw [hP, hs0, hs1, hs2]
    rfl
end Go.Proofs.YtbhemchnjpajiaaGreatDoor.RD

/- Plain arithmetic of the document's tables: the lists of places, symbol by symbol, are those of the spread step by step. -/
import Derived.Test.YtbhemchnjpajiaaPartMath
namespace Go.Proofs.Ytbhemchnjpajiaa.TM
open Go
set_option linter.unusedVariables false

/-- The list of the places of a symbol. -/
def Good (z : List Int) (S n t : Nat) (L : List Int) : Prop := (∀ p : Nat, p < S → ((p : Int) ∈ L ↔ F z S n p = (t : Int))) ∧ (L.length : Int) = pl (z.getD t 0)
theorem tb_le (z : List Int) (S a b : Nat) (h : a ≤ b) : (tb z S b).2 ≤ (tb z S a).2 := by
  induction b with
  | zero => obtain rfl : a = 0 := by omega
            exact Nat.le_refl _
  | succ b ih =>
    by_cases e : a = b + 1
    · subst e; exact Nat.le_refl _
    · have := ih (by omega)
      simp only [tb]
      split
      · simp only; omega
      · exact this
theorem tb_place (z : List Int) (S : Nat) (h : Fits z S) (hS : 1 ≤ S) (t : Nat) (ht : z.getD t 0 = -1) (k : Nat) (hk : sum z k ≤ S) (htk : t < k) :
    (tb z S k).2 ≤ (tb z S t).2 - 1 ∧ 1 ≤ (tb z S t).2 ∧ ∀ p, (tb z S k).2 ≤ p → p < S → ((tb z S k).1 p = (t : Int) ↔ p = (tb z S t).2 - 1) := by
  induction k with
  | zero => omega
  | succ k ih =>
    have hb := pl_bound _ (S : Int) (by omega) (fits_getD z S (by omega) h k)
    have hk' := hk
    simp only [sum] at hk
    have hfr := tb_free z S h hS k (by omega)
    by_cases e : t = k
    · subst e
      have e1 : tb z S (t + 1) = (upd (tb z S t).1 ((tb z S t).2 - 1) (t : Int), (tb z S t).2 - 1) := by simp only [tb]; rw [if_pos ht]
      have h1 : pl (-1) = 1 := rfl
      rw [ht, h1] at hk
      rw [e1]
      refine ⟨Nat.le_refl _, by omega, ?_⟩
      intro p h1 h2
      simp only at h1 ⊢
      unfold upd
      by_cases e2 : p = (tb z S t).2 - 1
      · rw [if_pos e2]; simp [e2]
      · rw [if_neg e2]
        refine ⟨fun h3 => ?_, fun h3 => absurd h3 e2⟩
        obtain ⟨s, a, b, c⟩ := tb_sym z S h hS t (by omega) p (by omega) h2
        rw [a] at h3
        omega
    · obtain ⟨i1, i2, i3⟩ := ih (by omega) (by omega)
      by_cases hm : z.getD k 0 = -1
      · have e1 : tb z S (k + 1) = (upd (tb z S k).1 ((tb z S k).2 - 1) (k : Int), (tb z S k).2 - 1) := by simp only [tb]; rw [if_pos hm]
        have h1 : pl (-1) = 1 := rfl
        rw [hm, h1] at hk
        rw [e1]
        refine ⟨by simp only; omega, i2, ?_⟩
        intro p h1 h2
        simp only at h1 ⊢
        unfold upd
        by_cases e2 : p = (tb z S k).2 - 1
        · rw [if_pos e2]
          refine ⟨fun h3 => by omega, fun h3 => by omega⟩
        · rw [if_neg e2]
          exact i3 p (by omega) h2
      · have e1 : tb z S (k + 1) = tb z S k := by simp only [tb]; rw [if_neg hm]
        rw [e1]
        exact ⟨i1, i2, i3⟩
theorem F_low (z : List Int) (S n p : Nat) (hS : Size S) (h : p < (tb z S n).2) : F z S n p = (item z (cf S (tb z S n).2 (idx S p)) n : Int) := by
  unfold F fK
  rw [if_neg (by omega), if_pos (idx_lt hS p)]
theorem F_high (z : List Int) (S n p : Nat) (h : (tb z S n).2 ≤ p) : F z S n p = (tb z S n).1 p := by
  unfold F fK
  rw [if_pos h]
theorem good_behind (z : List Int) (S n t : Nat) (hS : Size S) (h : Fits z S) (hs : sum z n = S) (ht : t < n) (hm : z.getD t 0 = -1) : Good z S n t [((tb z S t).2 : Int) - 1] := by
  have hS1 : 1 ≤ S := by rcases hS with rfl | rfl <;> omega
  have hfr := tb_free z S h hS1 n (by omega)
  have hfb := free_is z S n hS1 h hs
  obtain ⟨a, b, c⟩ := tb_place z S h hS1 t hm n (by omega) ht
  refine ⟨?_, by rw [hm]; rfl⟩
  intro p hp
  rw [List.mem_singleton]
  by_cases e : (tb z S n).2 ≤ p
  · rw [F_high z S n p e, c p e hp]
    omega
  · rw [F_low z S n p hS (by omega)]
    refine ⟨fun h => by omega, fun h => ?_⟩
    exfalso
    have hc := cf_low hS hfr.2 p hp (by omega)
    have := (item_iff z n (cf S (tb z S n).2 (idx S p)) t ht (by omega)).1 (by omega)
    have h2 : base z (t + 1) = base z t + (z.getD t 0).toNat := rfl
    rw [hm] at h2
    simp at h2
    omega

/-- A symbol's turn: K steps have been made. -/
def Turn (z : List Int) (S free n s K : Nat) (L : List Int) : Prop := (∀ p : Nat, p < S → ((p : Int) ∈ L ↔ (p < free ∧ idx S p < K ∧ item z (cf S free (idx S p)) n = s))) ∧ L.length + base z s = cf S free K
theorem cf_step (S free K : Nat) (hS : Size S) (p : Nat) (hp : p < S) (h : p < free) (hK : idx S p < K) : cf S free (idx S p) < cf S free K := by
  have h4 : cf S free (idx S p + 1) = cf S free (idx S p) + if P S (idx S p) < free then 1 else 0 := rfl
  rw [P_idx hS p hp, if_pos h] at h4
  have := cf_mono S free (idx S p + 1) K hK
  omega
theorem turn_start (z : List Int) (S free n s K : Nat) (hS : Size S) (hs : s < n) (hf : free ≤ S) (hb : base z n = free) (h : cf S free K = base z s) : Turn z S free n s K [] := by
  refine ⟨?_, by simp [h]⟩
  intro p hp
  constructor
  · intro h; simp at h
  · rintro ⟨a, b, c⟩
    exfalso
    have h1 := cf_step S free K hS p hp a b
    have h2 := cf_low hS hf p hp a
    have := (item_iff z n _ s hs (by omega)).1 c
    omega
theorem turn_skip (z : List Int) (S free n s K : Nat) (L : List Int) (hS : Size S) (hK : K < S) (h : free ≤ P S K) (ht : Turn z S free n s K L) : Turn z S free n s (K + 1) L := by
  obtain ⟨a, b⟩ := ht
  refine ⟨?_, ?_⟩
  · intro p hp
    rw [a p hp]
    constructor
    · rintro ⟨x, y, z⟩; exact ⟨x, by omega, z⟩
    · rintro ⟨x, y, z⟩
      refine ⟨x, ?_, z⟩
      have : idx S p ≠ K := by
        intro e
        have := P_idx hS p hp
        rw [e] at this
        omega
      omega
  · rw [b]
    simp only [cf]
    rw [if_neg (by omega)]
    rfl
theorem turn_put (z : List Int) (S free n s K : Nat) (L : List Int) (hS : Size S) (hK : K < S) (hs : s < n) (h : P S K < free) (h0 : base z s ≤ cf S free K) (h1 : cf S free K < base z (s + 1)) (ht : Turn z S free n s K L) : Turn z S free n s (K + 1) (L ++ [(P S K : Int)]) := by
  obtain ⟨a, b⟩ := ht
  refine ⟨?_, ?_⟩
  · intro p hp
    rw [List.mem_append, List.mem_singleton, a p hp]
    constructor
    · rintro (⟨x, y, z⟩ | x)
      · exact ⟨x, by omega, z⟩
      · obtain rfl : p = P S K := by omega
        rw [idx_P hS K hK]
        exact ⟨h, by omega, item_is z _ s n hs h0 h1⟩
    · rintro ⟨x, y, z⟩
      by_cases e : idx S p = K
      · right
        have := P_idx hS p hp
        rw [e] at this
        omega
      · exact .inl ⟨x, by omega, z⟩
  · rw [List.length_append, List.length_singleton]
    simp only [cf]
    rw [if_pos h]
    omega
theorem turn_end (z : List Int) (S n s K : Nat) (L : List Int) (hS : Size S) (h : Fits z S) (hsum : sum z n = S) (hs : s < n) (hm : z.getD s 0 ≠ -1) (hc : cf S (tb z S n).2 K = base z (s + 1)) (ht : Turn z S (tb z S n).2 n s K L) : Good z S n s L := by
  obtain ⟨a, b⟩ := ht
  have hS1 : 1 ≤ S := by rcases hS with rfl | rfl <;> omega
  have hfr := tb_free z S h hS1 n (by omega)
  have hfb := free_is z S n hS1 h hsum
  have hf := fits_getD z S (by omega) h s
  have h2 : base z (s + 1) = base z s + (z.getD s 0).toNat := rfl
  refine ⟨?_, ?_⟩
  · intro p hp
    rw [a p hp]
    by_cases e : (tb z S n).2 ≤ p
    · rw [F_high z S n p e]
      obtain ⟨s', x1, x2, x3⟩ := tb_sym z S h hS1 n (by omega) p e hp
      rw [x1]
      refine ⟨fun h => by omega, fun h => ?_⟩
      exfalso
      obtain rfl : s' = s := by omega
      exact hm x3
    · rw [F_low z S n p hS (by omega)]
      refine ⟨fun h => by rw [h.2.2], fun h => ?_⟩
      have hi : item z (cf S (tb z S n).2 (idx S p)) n = s := by omega
      have hl := cf_low hS hfr.2 p hp (by omega)
      have := (item_iff z n _ s hs (by omega)).1 hi
      refine ⟨by omega, ?_, hi⟩
      rcases Nat.lt_or_ge (idx S p) K with g | g
      · exact g
      · have := cf_mono S (tb z S n).2 K (idx S p) g
        omega
  · unfold pl
    rw [if_neg hm]
    omega
/-- The doubling of a state's number ends where the program's shift does. -/
theorem double_more (log : Nat) (hl : log ≤ 6) (x : Int) (h0 : 1 ≤ x) (h1 : x < 2 ^ (log + 1)) (j : Nat) : (j < (bt log x).toNat → x * 2 ^ j < 2 ^ log) ∧ ((bt log x).toNat = j → 2 ^ log ≤ x * 2 ^ j) := by
  obtain ⟨a, b, c, d⟩ := bs_range log hl x h0 h1
  constructor
  · intro hj
    have e1 : (2 : Int) ^ (j + 1) ≤ 2 ^ (bt log x).toNat := CM.pow_le _ _ (by omega)
    have e2 : x * 2 ^ (j + 1) ≤ x * 2 ^ (bt log x).toNat := Int.mul_le_mul_of_nonneg_left e1 (by omega)
    have e3 := CM.pow_pos (bt log x).toNat
    rw [Int.add_mul, Int.pow_succ] at d
    rw [Int.pow_succ, ← Int.mul_assoc] at e2
    omega
  · rintro rfl
    exact c
end Go.Proofs.Ytbhemchnjpajiaa.TM

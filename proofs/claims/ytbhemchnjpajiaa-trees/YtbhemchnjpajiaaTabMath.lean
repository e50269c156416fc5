/- Plain arithmetic of the tables of states: places from behind, places by the step, and the numbers of the states, as the program makes them. -/
import Derived.Test.YtbhemchnjpajiaaCodeMath
namespace Go.Proofs.Ytbhemchnjpajiaa.TM
open Go
set_option linter.unusedVariables false

/-- How many places a count takes. -/
def pl (c : Int) : Int := if c = -1 then 1 else c
def cnt (z : List Int) (s : Nat) : Int := z.getD s 0
def Fits (z : List Int) (S : Int) : Prop := ∀ x ∈ z, -1 ≤ x ∧ x ≤ S
def fitsB (z : List Int) (S : Int) : Bool := z.all fun x => decide (-1 ≤ x) && decide (x ≤ S)
/-- The sum of the places of the first k counts. -/
def sum (z : List Int) : Nat → Int
  | 0 => 0
  | k + 1 => sum z k + pl (z.getD k 0)
def fillB (z : List Int) (S : Int) : Bool := decide (1 ≤ z.length) && decide (z.length ≤ 16) && fitsB z S && (sum z z.length == S)
theorem fits_iff (z : List Int) (S : Int) : fitsB z S = true ↔ Fits z S := by simp [fitsB, Fits]
theorem fits_getD (z : List Int) (S : Int) (hS : 0 ≤ S) (h : Fits z S) (k : Nat) : -1 ≤ z.getD k 0 ∧ z.getD k 0 ≤ S := by
  rw [List.getD_eq_getElem?_getD]
  by_cases hk : k < z.length
  · rw [List.getElem?_eq_getElem hk]; exact h _ (List.getElem_mem hk)
  · rw [List.getElem?_eq_none (by omega)]; simp; omega
theorem fits_take (z : List Int) (S : Int) (k : Nat) (hk : k < z.length) : fitsB (z.take (k + 1)) S = (fitsB (z.take k) S && (decide (-1 ≤ z.getD k 0) && decide (z.getD k 0 ≤ S))) := by
  unfold fitsB
  rw [List.take_succ_eq_append_getElem hk, List.all_append, List.getD_eq_getElem?_getD, List.getElem?_eq_getElem hk]
  simp only [List.all_cons, List.all_nil, Bool.and_true, Option.getD_some]
theorem fits_prefix (z : List Int) (S : Int) (k : Nat) (h : fitsB (z.take k) S = false) : fitsB z S = false := by
  cases e : fitsB z S with
  | false => rfl
  | true =>
    have f := (fits_iff z S).1 e
    have : fitsB (z.take k) S = true := (fits_iff _ S).2 fun x hx => f x (List.mem_of_mem_take hx)
    rw [this] at h; cases h
theorem pl_bound (c S : Int) (hS : 1 ≤ S) (h : -1 ≤ c ∧ c ≤ S) : 0 ≤ pl c ∧ pl c ≤ S := by unfold pl; split <;> omega
theorem sum_bound (z : List Int) (S : Int) (hS : 1 ≤ S) (h : Fits z S) (k : Nat) : 0 ≤ sum z k ∧ sum z k ≤ S * k := by
  induction k with
  | zero => simp [sum]
  | succ k ih =>
    have := pl_bound _ S hS (fits_getD z S (by omega) h k)
    simp only [sum]
    rw [show ((k + 1 : Nat) : Int) = (k : Int) + 1 by omega, Int.mul_add]
    omega
theorem sum_mono (z : List Int) (S : Int) (hS : 1 ≤ S) (h : Fits z S) (a b : Nat) (hab : a ≤ b) : sum z a ≤ sum z b := by
  induction b with
  | zero => obtain rfl : a = 0 := by omega
            exact Int.le_refl _
  | succ b ih =>
    by_cases e : a = b + 1
    · subst e; exact Int.le_refl _
    · have := ih (by omega)
      have := pl_bound _ S hS (fits_getD z S (by omega) h b)
      simp only [sum]
      omega

/-- A table of S states, by a function. -/
def tab (S : Nat) (f : Nat → CM.Tri) : List CM.Tri := (List.range S).map f
theorem tab_length (S : Nat) (f : Nat → CM.Tri) : (tab S f).length = S := by simp [tab]
theorem tab_getD (S : Nat) (f : Nat → CM.Tri) (p : Nat) (h : p < S) : (tab S f).getD p (0, 0, 0) = f p := by
  simp [tab, h]
theorem tab_congr (S : Nat) (f f' : Nat → CM.Tri) (h : ∀ p, p < S → f p = f' p) : tab S f = tab S f' := by
  unfold tab
  apply List.map_congr_left
  intro p hp
  exact h p (by simpa using hp)
def upd {α : Type} (f : Nat → α) (p : Nat) (x : α) : Nat → α := fun q => if q = p then x else f q
theorem cells_set (L : List CM.Tri) (p j : Nat) (t : CM.Tri) (v : Value) (hp : p < L.length) (hj : j < 3)
    (hv : [.int .i64 t.1, .int .i64 t.2.1, .int .i64 t.2.2] = ([.int .i64 (L.getD p (0, 0, 0)).1, .int .i64 (L.getD p (0, 0, 0)).2.1, .int .i64 (L.getD p (0, 0, 0)).2.2] : List Value).set j v) :
    (CM.cellsOf L).set (p * 3 + j) v = CM.cellsOf (L.set p t) := by
  induction L generalizing p with
  | nil => simp at hp
  | cons a L ih =>
    have e : ∀ (a : CM.Tri) (L : List CM.Tri), CM.cellsOf (a :: L) = [.int .i64 a.1, .int .i64 a.2.1, .int .i64 a.2.2] ++ CM.cellsOf L := by intro a L; simp [CM.cellsOf]
    cases p with
    | zero =>
      rw [e]
      simp only [List.set_cons_zero]
      rw [e, List.set_append_left _ _ (by simp; omega)]
      congr 1
      simp at hv
      rw [Nat.zero_mul, Nat.zero_add]
      exact hv.symm
    | succ p =>
      rw [e]
      simp only [List.set_cons_succ]
      rw [e, List.set_append_right _ _ (by simp; omega)]
      congr 1
      rw [show (p + 1) * 3 + j - [Value.int .i64 a.1, .int .i64 a.2.1, .int .i64 a.2.2].length = p * 3 + j by simp; omega]
      exact ih p (by simpa using hp) (by simpa using hv)
theorem tab_set (S : Nat) (f : Nat → CM.Tri) (p : Nat) (t : CM.Tri) : (tab S f).set p t = tab S (upd f p t) := by
  unfold tab upd
  apply List.ext_getElem
  · simp
  · intro i h1 h2
    simp only [List.getElem_set, List.getElem_map, List.getElem_range]
    by_cases e : p = i
    · subst e; simp
    · rw [if_neg e, if_neg (by omega)]

/-- The symbols from behind: behind k counts. -/
def tb (z : List Int) (S : Nat) : Nat → (Nat → Int) × Nat
  | 0 => (fun _ => 0, S)
  | k + 1 => if z.getD k 0 = -1 then (upd (tb z S k).1 ((tb z S k).2 - 1) (k : Int), (tb z S k).2 - 1) else tb z S k
theorem tb_free (z : List Int) (S : Nat) (h : Fits z S) (hS : 1 ≤ S) (k : Nat) (hk : sum z k ≤ S) : ((tb z S k).2 : Int) ≥ S - sum z k ∧ (tb z S k).2 ≤ S := by
  induction k with
  | zero => simp [tb, sum]
  | succ k ih =>
    have hb := pl_bound _ (S : Int) (by omega) (fits_getD z S (by omega) h k)
    simp only [sum] at hk
    have := ih (by omega)
    simp only [tb, sum]
    unfold pl at *
    split <;> simp_all <;> omega

/-- The step, and the place that k steps come to. -/
def step (S : Nat) : Nat := S / 2 + S / 8 + 3
def P (S k : Nat) : Nat := k * step S % S
theorem P_succ (S k : Nat) : (P S k + step S) % S = P S (k + 1) := by
  unfold P
  rw [Nat.add_mul, Nat.one_mul, Nat.mod_add_mod]
/-- How many of the first K places by the step are free. -/
def cf (S free : Nat) : Nat → Nat
  | 0 => 0
  | K + 1 => cf S free K + if P S K < free then 1 else 0
theorem cf_mono (S free a b : Nat) (h : a ≤ b) : cf S free a ≤ cf S free b := by
  induction b with
  | zero => obtain rfl : a = 0 := by omega
            exact Nat.le_refl _
  | succ b ih =>
    by_cases e : a = b + 1
    · subst e; exact Nat.le_refl _
    · have := ih (by omega)
      simp only [cf]
      omega
theorem cf_all32 : ∀ f : Fin 33, cf 32 f.val 32 = f.val := by decide +kernel
theorem cf_all64 : ∀ f : Fin 65, cf 64 f.val 64 = f.val := by decide +kernel
/-- The place that is come to at step k, turned round. -/
def inv (S : Nat) : Nat := if S = 32 then 7 else 3
def idx (S p : Nat) : Nat := p * inv S % S
theorem idx_P32 : ∀ k : Fin 32, idx 32 (P 32 k.val) = k.val := by decide +kernel
theorem idx_P64 : ∀ k : Fin 64, idx 64 (P 64 k.val) = k.val := by decide +kernel
theorem P_idx32 : ∀ p : Fin 32, P 32 (idx 32 p.val) = p.val := by decide +kernel
theorem P_idx64 : ∀ p : Fin 64, P 64 (idx 64 p.val) = p.val := by decide +kernel
def Size (S : Nat) : Prop := S = 32 ∨ S = 64
theorem cf_all {S : Nat} (hS : Size S) (free : Nat) (h : free ≤ S) : cf S free S = free := by
  rcases hS with rfl | rfl
  · exact cf_all32 ⟨free, by omega⟩
  · exact cf_all64 ⟨free, by omega⟩
theorem idx_P {S : Nat} (hS : Size S) (k : Nat) (h : k < S) : idx S (P S k) = k := by
  rcases hS with rfl | rfl
  · exact idx_P32 ⟨k, h⟩
  · exact idx_P64 ⟨k, h⟩
theorem P_idx {S : Nat} (hS : Size S) (p : Nat) (h : p < S) : P S (idx S p) = p := by
  rcases hS with rfl | rfl
  · exact P_idx32 ⟨p, h⟩
  · exact P_idx64 ⟨p, h⟩
theorem P_lt {S : Nat} (hS : Size S) (k : Nat) : P S k < S := by
  unfold P
  rcases hS with rfl | rfl <;> omega
theorem idx_lt {S : Nat} (hS : Size S) (p : Nat) : idx S p < S := by
  unfold idx
  rcases hS with rfl | rfl <;> omega

/-- How many places the first s symbols take by the step. -/
def base (z : List Int) : Nat → Nat
  | 0 => 0
  | s + 1 => base z s + (z.getD s 0).toNat
theorem base_mono (z : List Int) (a b : Nat) (h : a ≤ b) : base z a ≤ base z b := by
  induction b with
  | zero => obtain rfl : a = 0 := by omega
            exact Nat.le_refl _
  | succ b ih =>
    by_cases e : a = b + 1
    · subst e; exact Nat.le_refl _
    · have := ih (by omega)
      simp only [base]
      omega
/-- Whose is the place of the number j. -/
def item (z : List Int) (j : Nat) : Nat → Nat
  | 0 => 0
  | n + 1 => item z j n + if base z (n + 1) ≤ j then 1 else 0
theorem item_is (z : List Int) (j s n : Nat) (hs : s < n) (h0 : base z s ≤ j) (h1 : j < base z (s + 1)) : item z j n = s := by
  have key : ∀ m, m ≤ n → item z j m = if m ≤ s then m else s := by
    intro m
    induction m with
    | zero => intro _; simp [item]
    | succ m ih =>
      intro hm
      have := ih (by omega)
      simp only [item]
      rw [this]
      by_cases e : m + 1 ≤ s
      · have := base_mono z (m + 1) s e
        rw [if_pos (by omega), if_pos (by omega), if_pos e]
      · have := base_mono z (s + 1) (m + 1) (by omega)
        rw [if_neg (show ¬ base z (m + 1) ≤ j by omega), if_neg e]
        split <;> omega
  rw [key n (Nat.le_refl _), if_neg (by omega)]
theorem free_base (z : List Int) (S : Nat) (h : Fits z S) (hS : 1 ≤ S) (k : Nat) (hk : sum z k ≤ S) : ((tb z S k).2 : Int) = S - (sum z k - base z k) := by
  induction k with
  | zero => simp [tb, sum, base]
  | succ k ih =>
    have hf := fits_getD z S (by omega) h k
    have hb := pl_bound _ (S : Int) (by omega) hf
    have hk' := hk
    simp only [sum] at hk
    have e := ih (by omega)
    have hfr := tb_free z S h hS k (by omega)
    simp only [tb, sum, base]
    by_cases hm : z.getD k 0 = -1
    · rw [if_pos hm, hm]
      unfold pl at *
      rw [hm] at hk hb
      simp at hk
      simp
      omega
    · rw [if_neg hm]
      unfold pl
      rw [if_neg hm]
      omega
/-- The symbols behind K steps. -/
def fK (z : List Int) (S free n : Nat) (f0 : Nat → Int) (K : Nat) : Nat → Int := fun p =>
  if free ≤ p then f0 p else if idx S p < K then (item z (cf S free (idx S p)) n : Int) else f0 p
theorem fK_skip {z : List Int} {S free n : Nat} {f0 : Nat → Int} (hS : Size S) (K : Nat) (h : free ≤ P S K) (p : Nat) (hp : p < S) : fK z S free n f0 K p = fK z S free n f0 (K + 1) p := by
  unfold fK
  by_cases e : free ≤ p
  · rw [if_pos e, if_pos e]
  · rw [if_neg e, if_neg e]
    have : idx S p ≠ K := by
      intro h'
      have := P_idx hS p hp
      rw [h'] at this
      omega
    by_cases h1 : idx S p < K
    · rw [if_pos h1, if_pos (by omega)]
    · rw [if_neg h1, if_neg (by omega)]
theorem fK_put {z : List Int} {S free n : Nat} {f0 : Nat → Int} (hS : Size S) (K : Nat) (hK : K < S) (h : P S K < free) (s : Nat) (hs : item z (cf S free K) n = s) (p : Nat) (hp : p < S) :
    upd (fK z S free n f0 K) (P S K) (s : Int) p = fK z S free n f0 (K + 1) p := by
  unfold fK upd
  by_cases e : p = P S K
  · subst e
    rw [if_pos rfl, if_neg (by omega), idx_P hS K hK, if_pos (by omega), hs]
  · rw [if_neg e]
    dsimp only
    have hne : idx S p ≠ K := by
      intro h'
      have := P_idx hS p hp
      rw [h'] at this
      exact e this.symm
    by_cases e1 : free ≤ p
    · rw [if_pos e1, if_pos e1]
    · rw [if_neg e1, if_neg e1]
      by_cases h1 : idx S p < K
      · rw [if_pos h1, if_pos (by omega)]
      · rw [if_neg h1, if_neg (by omega)]
theorem fK_end {z : List Int} {S free n : Nat} {f0 : Nat → Int} (hS : Size S) (hf : free ≤ S) (K : Nat) (hK : K ≤ S) (h : cf S free K = free) (p : Nat) (hp : p < S) : fK z S free n f0 K p = fK z S free n f0 S p := by
  unfold fK
  by_cases e : free ≤ p
  · rw [if_pos e, if_pos e]
  · rw [if_neg e, if_neg e, if_pos (idx_lt hS p)]
    by_cases h1 : idx S p < K
    · rw [if_pos h1]
    · exfalso
      have h2 := cf_mono S free K (idx S p) (by omega)
      have h3 := cf_mono S free (idx S p + 1) S (by have := idx_lt hS p; omega)
      have h4 : cf S free (idx S p + 1) = cf S free (idx S p) + if P S (idx S p) < free then 1 else 0 := rfl
      rw [P_idx hS p hp, if_pos (by omega)] at h4
      have h5 := cf_all hS free hf
      omega
theorem P_next (S K : Nat) : ((P S K : Int) + (step S : Int)) % (S : Int) = (P S (K + 1) : Int) := by
  rw [← P_succ]
  simp
theorem cf_lt {S free : Nat} (hS : Size S) (hf : free ≤ S) (K : Nat) (hK : K ≤ S) (h : cf S free K < free) : K < S := by
  rcases Nat.lt_or_ge K S with h1 | h1
  · exact h1
  · obtain rfl : K = S := by omega
    have := cf_all hS free hf
    omega
theorem fK_zero (z : List Int) (S free n : Nat) (f0 : Nat → Int) (p : Nat) : fK z S free n f0 0 p = f0 p := by
  unfold fK
  split <;> simp

/-- How many of the first p places are v's. -/
def cntEq (f : Nat → Int) (v : Int) : Nat → Nat
  | 0 => 0
  | p + 1 => cntEq f v p + if f p = v then 1 else 0
theorem cntEq_le (f : Nat → Int) (v : Int) (p : Nat) : cntEq f v p ≤ p := by
  induction p with
  | zero => exact Nat.le_refl _
  | succ p ih => simp only [cntEq]; split <;> omega
/-- The number of the state at p, its bits and its base. -/
def X (z : List Int) (f : Nat → Int) (p : Nat) : Int := pl (z.getD (f p).toNat 0) + cntEq f (f p) p
def bt (log : Int) (x : Int) : Int := log + 1 - CM.len x
def bs (log S x : Int) : Int := x * 2 ^ (bt log x).toNat - S
def st (z : List Int) (log S : Int) (f : Nat → Int) (p : Nat) : CM.Tri := (f p, bt log (X z f p), bs log S (X z f p))
theorem len_le (x : Int) (b : Nat) (h0 : 1 ≤ x) (h1 : x < 2 ^ b) (hb : b ≤ 16) : 1 ≤ CM.len x ∧ CM.len x ≤ b := by
  have hp := CM.pow_le b 16 hb
  obtain ⟨a, c⟩ := CM.bitLen_spec x.toNat (by omega)
  obtain ⟨d, e⟩ := c (by omega)
  unfold CM.len
  refine ⟨by omega, ?_⟩
  rcases Nat.lt_or_ge b (Lib.bitLen x.toNat) with g | g
  · exfalso
    have := Nat.pow_le_pow_right (n := 2) (by omega) (show b ≤ Lib.bitLen x.toNat - 1 by omega)
    have c1 : ((2 ^ b : Nat) : Int) = (2 : Int) ^ b := by simp
    omega
  · omega
/-- A state's number, shifted by its bits, is one of those from S to 2 S - 1. -/
theorem bs_range (log : Nat) (hl : log ≤ 6) (x : Int) (h0 : 1 ≤ x) (h1 : x < 2 ^ (log + 1)) : 0 ≤ bt log x ∧ bt log x ≤ log ∧ 2 ^ log ≤ x * 2 ^ (bt log x).toNat ∧ (x + 1) * 2 ^ (bt log x).toNat ≤ 2 ^ (log + 1) := by
  have hp := CM.pow_le (log + 1) 16 (by omega)
  obtain ⟨l1, l2⟩ := len_le x (log + 1) h0 h1 (by omega)
  obtain ⟨a, c⟩ := CM.bitLen_spec x.toNat (by omega)
  obtain ⟨d, e⟩ := c (by omega)
  have hL : CM.len x = (Lib.bitLen x.toNat : Int) := rfl
  unfold bt
  refine ⟨by omega, by omega, ?_, ?_⟩
  · have e1 : (2 : Int) ^ log = 2 ^ (Lib.bitLen x.toNat - 1) * 2 ^ ((log : Int) + 1 - CM.len x).toNat := by
      rw [← Int.pow_add]; congr 1; omega
    rw [e1]
    have c1 : ((2 ^ (Lib.bitLen x.toNat - 1) : Nat) : Int) = (2 : Int) ^ (Lib.bitLen x.toNat - 1) := by simp
    exact Int.mul_le_mul_of_nonneg_right (by omega) (by have := CM.pow_pos ((log : Int) + 1 - CM.len x).toNat; omega)
  · have e1 : (2 : Int) ^ (log + 1) = 2 ^ Lib.bitLen x.toNat * 2 ^ ((log : Int) + 1 - CM.len x).toNat := by
      rw [← Int.pow_add]; congr 1; omega
    rw [e1]
    have c1 : ((2 ^ Lib.bitLen x.toNat : Nat) : Int) = (2 : Int) ^ Lib.bitLen x.toNat := by simp
    exact Int.mul_le_mul_of_nonneg_right (by omega) (by have := CM.pow_pos ((log : Int) + 1 - CM.len x).toNat; omega)
/-- What the walk asks of the symbols. -/
def Syms (z : List Int) (S n : Nat) (f : Nat → Int) : Prop := ∀ p, p < S → ∃ s : Nat, f p = (s : Int) ∧ s < n ∧ 1 ≤ pl (z.getD s 0)
theorem X_bound (z : List Int) (S : Nat) (hS : 1 ≤ S) (h : Fits z S) (f : Nat → Int) (p : Nat) (hp : p < S) (hs : ∃ s : Nat, f p = (s : Int) ∧ 1 ≤ pl (z.getD s 0)) : 1 ≤ X z f p ∧ X z f p ≤ 2 * S - 1 := by
  obtain ⟨s, a, b⟩ := hs
  have := pl_bound _ (S : Int) (by omega) (fits_getD z S (by omega) h s)
  have := cntEq_le f (f p) p
  unfold X
  rw [show (f p).toNat = s by omega]
  omega

theorem tb_sym (z : List Int) (S : Nat) (h : Fits z S) (hS : 1 ≤ S) (k : Nat) (hk : sum z k ≤ S) : ∀ p, (tb z S k).2 ≤ p → p < S → ∃ s : Nat, (tb z S k).1 p = (s : Int) ∧ s < k ∧ z.getD s 0 = -1 := by
  induction k with
  | zero => intro p h1 h2; simp [tb] at h1; omega
  | succ k ih =>
    have hb := pl_bound _ (S : Int) (by omega) (fits_getD z S (by omega) h k)
    simp only [sum] at hk
    have ih := ih (by omega)
    intro p h1 h2
    simp only [tb] at h1 ⊢
    by_cases hm : z.getD k 0 = -1
    · rw [if_pos hm] at h1 ⊢
      simp only at h1 ⊢
      unfold upd
      by_cases e : p = (tb z S k).2 - 1
      · rw [if_pos e]
        exact ⟨k, rfl, by omega, hm⟩
      · rw [if_neg e]
        obtain ⟨s, a, b, c⟩ := ih p (by omega) h2
        exact ⟨s, a, by omega, c⟩
    · rw [if_neg hm] at h1 ⊢
      obtain ⟨s, a, b, c⟩ := ih p h1 h2
      exact ⟨s, a, by omega, c⟩
theorem base_find (z : List Int) (n j : Nat) (h : j < base z n) : ∃ s, s < n ∧ base z s ≤ j ∧ j < base z (s + 1) := by
  induction n with
  | zero => simp [base] at h
  | succ n ih =>
    by_cases e : j < base z n
    · obtain ⟨s, a, b, c⟩ := ih e
      exact ⟨s, by omega, b, c⟩
    · exact ⟨n, by omega, by omega, h⟩
/-- The symbols of a whole table. -/
def F (z : List Int) (S n : Nat) : Nat → Int := fK z S (tb z S n).2 n (tb z S n).1 S
theorem free_is (z : List Int) (S n : Nat) (hS : 1 ≤ S) (h : Fits z S) (hs : sum z n = S) : base z n = (tb z S n).2 := by
  have := free_base z S h hS n (by omega)
  omega
theorem cf_low {S free : Nat} (hS : Size S) (hf : free ≤ S) (p : Nat) (hp : p < S) (h : p < free) : cf S free (idx S p) < free := by
  have h3 := cf_mono S free (idx S p + 1) S (by have := idx_lt hS p; omega)
  have h4 : cf S free (idx S p + 1) = cf S free (idx S p) + if P S (idx S p) < free then 1 else 0 := rfl
  rw [P_idx hS p hp, if_pos h] at h4
  have h5 := cf_all hS free hf
  omega
theorem syms (z : List Int) (S n : Nat) (hS : Size S) (h : Fits z S) (hs : sum z n = S) : Syms z S n (F z S n) := by
  have hS1 : 1 ≤ S := by rcases hS with rfl | rfl <;> omega
  have hfr := tb_free z S h hS1 n (by omega)
  have hfb := free_is z S n hS1 h hs
  intro p hp
  unfold F fK
  by_cases e : (tb z S n).2 ≤ p
  · rw [if_pos e]
    obtain ⟨s, a, b, c⟩ := tb_sym z S h hS1 n (by omega) p e hp
    exact ⟨s, a, b, by rw [c]; decide⟩
  · rw [if_neg e, if_pos (idx_lt hS p)]
    have hc := cf_low hS hfr.2 p hp (by omega)
    obtain ⟨s, a, b, c⟩ := base_find z n (cf S (tb z S n).2 (idx S p)) (by omega)
    refine ⟨s, ?_, a, ?_⟩
    · rw [item_is z _ s n a b c]
    · have : base z (s + 1) = base z s + (z.getD s 0).toNat := rfl
      unfold pl
      split <;> omega
theorem fillB_parts {z : List Int} {S : Int} (h : fillB z S = true) : Fits z S ∧ 1 ≤ z.length ∧ z.length ≤ 16 ∧ sum z z.length = S := by
  simp [fillB] at h
  exact ⟨(fits_iff z S).1 h.1.2, by omega, by omega, h.2⟩
end Go.Proofs.Ytbhemchnjpajiaa.TM
namespace Go.Proofs.Ytbhemchnjpajiaa
open Go
/-- Counts that may be, by their log. -/
def goodT (log : Int) (z : List Int) : Bool := (decide (log = 5) && TM.fillB z 32) || (decide (log = 6) && TM.fillB z 64)
/-- The table of counts that may be. -/
def table (log : Nat) (z : List Int) : List CM.Tri := TM.tab (2 ^ log) (TM.st z log (2 ^ log : Nat) (TM.F z (2 ^ log) z.length))
end Go.Proofs.Ytbhemchnjpajiaa

/- Plain arithmetic of the law Parts: how many places a symbol has, and that the spans of its states are all states just once. -/
import Derived.Test.YtbhemchnjpajiaaTabMath
namespace Go.Proofs.Ytbhemchnjpajiaa.TM
open Go
set_option linter.unusedVariables false

/-- How many of the first n numbers pass. -/
def num (g : Nat → Bool) : Nat → Nat
  | 0 => 0
  | k + 1 => num g k + if g k = true then 1 else 0
theorem num_countP (g : Nat → Bool) (n : Nat) : num g n = (List.range n).countP g := by
  induction n with
  | zero => rfl
  | succ n ih =>
    rw [List.range_succ, List.countP_append, ← ih]
    simp only [num, List.countP_cons, List.countP_nil, Nat.zero_add]
theorem num_congr (g g' : Nat → Bool) (n : Nat) (h : ∀ p, p < n → g p = g' p) : num g n = num g' n := by
  induction n with
  | zero => rfl
  | succ n ih =>
    simp only [num]
    rw [ih fun p hp => h p (by omega), h n (by omega)]
theorem perm32 : ((List.range 32).map (P 32)).isPerm (List.range 32) = true := by decide +kernel
theorem perm64 : ((List.range 64).map (P 64)).isPerm (List.range 64) = true := by decide +kernel
theorem num_P {S : Nat} (hS : Size S) (g : Nat → Bool) : num (fun k => g (P S k)) S = num g S := by
  rw [num_countP, num_countP]
  have h : ((List.range S).map (P S)).Perm (List.range S) := by
    rcases hS with rfl | rfl
    · exact List.isPerm_iff.1 perm32
    · exact List.isPerm_iff.1 perm64
  rw [← h.countP_eq g, List.countP_map]
  rfl
theorem cntEq_num (f : Nat → Int) (v : Int) (n : Nat) : cntEq f v n = num (fun p => decide (f p = v)) n := by
  induction n with
  | zero => rfl
  | succ n ih => simp only [cntEq, num, ih, decide_eq_true_eq]
theorem num_add (g a b : Nat → Bool) (n : Nat) (h : ∀ p, p < n → (if g p = true then 1 else 0) = (if a p = true then 1 else 0) + (if b p = true then 1 else 0)) : num g n = num a n + num b n := by
  induction n with
  | zero => rfl
  | succ n ih =>
    simp only [num]
    have := h n (by omega)
    have := ih fun p hp => h p (by omega)
    omega
theorem num_one (g g' : Nat → Bool) (n q : Nat) (hq : q < n) (h : ∀ p, p < n → p ≠ q → g p = g' p) (h' : g' q = false) : num g n = num g' n + if g q = true then 1 else 0 := by
  induction n with
  | zero => omega
  | succ n ih =>
    simp only [num]
    by_cases e : q = n
    · subst e
      rw [num_congr g g' q (fun p hp => h p (by omega) (by omega)), h']
      simp
    · rw [ih (by omega) (fun p hp hn => h p (by omega) hn), h n (by omega) (by omega)]
      omega
theorem num_none (g : Nat → Bool) (n : Nat) (h : ∀ p, p < n → g p = false) : num g n = 0 := by
  induction n with
  | zero => rfl
  | succ n ih => simp only [num]; rw [ih fun p hp => h p (by omega), h n (by omega)]; rfl

theorem num_tb (z : List Int) (S : Nat) (h : Fits z S) (hS : 1 ≤ S) (s : Nat) (k : Nat) (hk : sum z k ≤ S) :
    num (fun p => decide ((tb z S k).2 ≤ p) && decide ((tb z S k).1 p = (s : Int))) S = if s < k ∧ z.getD s 0 = -1 then 1 else 0 := by
  induction k with
  | zero =>
    rw [if_neg (by omega)]
    apply num_none
    intro p hp
    have : decide ((tb z S 0).2 ≤ p) = false := decide_eq_false (show ¬ S ≤ p by omega)
    simp only [this, Bool.false_and]
  | succ k ih =>
    have hb := pl_bound _ (S : Int) (by omega) (fits_getD z S (by omega) h k)
    simp only [sum] at hk
    have ih := ih (by omega)
    have hfr := tb_free z S h hS k (by omega)
    by_cases hm : z.getD k 0 = -1
    · have e : tb z S (k + 1) = (upd (tb z S k).1 ((tb z S k).2 - 1) (k : Int), (tb z S k).2 - 1) := by simp only [tb]; rw [if_pos hm]
      rw [e]
      have h1 : pl (-1) = 1 := rfl
      rw [hm, h1] at hk
      have hf1 : 1 ≤ (tb z S k).2 := by omega
      rw [num_one _ (fun p => decide ((tb z S k).2 ≤ p) && decide ((tb z S k).1 p = (s : Int))) S ((tb z S k).2 - 1) (by omega), ih]
      · simp only [upd, if_pos, Nat.le_refl, decide_true, Bool.true_and]
        by_cases e2 : s = k
        · subst e2
          rw [if_neg (show ¬ (s < s ∧ z.getD s 0 = -1) by omega), if_pos (by simp), if_pos ⟨by omega, hm⟩]
        · rw [if_neg (show ¬ (decide ((k : Int) = (s : Int)) = true) by simp; omega)]
          by_cases e3 : s < k ∧ z.getD s 0 = -1
          · rw [if_pos e3, if_pos ⟨by omega, e3.2⟩]
          · rw [if_neg e3, if_neg (fun h => e3 ⟨by omega, h.2⟩)]
      · intro p hp hne
        simp only [upd, if_neg hne]
        congr 1
        simp
        omega
      · simp
        omega
    · have e : tb z S (k + 1) = tb z S k := by simp only [tb]; rw [if_neg hm]
      rw [e, ih]
      by_cases e2 : s = k
      · subst e2
        rw [if_neg (by omega), if_neg (fun h => hm h.2)]
      · by_cases e3 : s < k ∧ z.getD s 0 = -1
        · rw [if_pos e3, if_pos ⟨by omega, e3.2⟩]
        · rw [if_neg e3, if_neg (fun h => e3 ⟨by omega, h.2⟩)]

theorem num_cf (S free : Nat) (g : Nat → Bool) (K : Nat) : num (fun k => decide (P S k < free) && g (cf S free k)) K = num g (cf S free K) := by
  induction K with
  | zero => rfl
  | succ K ih =>
    simp only [num, cf]
    rw [ih]
    by_cases e : P S K < free
    · have hd : decide (P S K < free) = true := decide_eq_true e
      simp only [if_pos e, hd, Bool.true_and]
      rfl
    · have hd : decide (P S K < free) = false := decide_eq_false e
      simp only [if_neg e, hd, Bool.false_and]
      rfl
theorem item_iff (z : List Int) (n j s : Nat) (hs : s < n) (hj : j < base z n) : item z j n = s ↔ base z s ≤ j ∧ j < base z (s + 1) := by
  constructor
  · intro h
    obtain ⟨t, a, b, c⟩ := base_find z n j hj
    rw [item_is z j t n a b c] at h
    subst h
    exact ⟨b, c⟩
  · rintro ⟨a, b⟩
    exact item_is z j s n hs a b
theorem num_item (z : List Int) (n s : Nat) (hs : s < n) (m : Nat) (hm : m ≤ base z n) : num (fun j => decide ((item z j n : Int) = (s : Int))) m = min m (base z (s + 1)) - min m (base z s) := by
  have hb : base z (s + 1) = base z s + (z.getD s 0).toNat := rfl
  induction m with
  | zero => simp [num]
  | succ m ih =>
    simp only [num]
    rw [ih (by omega)]
    have := item_iff z n m s hs (by omega)
    by_cases e : base z s ≤ m ∧ m < base z (s + 1)
    · rw [if_pos (by simp; rw [this.2 e])]
      omega
    · rw [if_neg (by simp only [decide_eq_true_eq]; intro h; exact e (this.1 (by omega)))]
      omega

/-- A symbol has as many places as its count says. -/
theorem places (z : List Int) (S n s : Nat) (hS : Size S) (h : Fits z S) (hs : sum z n = S) (hsn : s < n) : (cntEq (F z S n) (s : Int) S : Int) = pl (z.getD s 0) := by
  have hS1 : 1 ≤ S := by rcases hS with rfl | rfl <;> omega
  have hfr := tb_free z S h hS1 n (by omega)
  have hfb := free_is z S n hS1 h hs
  have hf := fits_getD z S (by omega) h s
  rw [cntEq_num, num_add _ (fun p => decide ((tb z S n).2 ≤ p) && decide ((tb z S n).1 p = (s : Int))) (fun p => decide (p < (tb z S n).2) && decide ((item z (cf S (tb z S n).2 (idx S p)) n : Int) = (s : Int)))]
  · rw [num_tb z S h hS1 s n (by omega), ← num_P hS (fun p => decide (p < (tb z S n).2) && decide ((item z (cf S (tb z S n).2 (idx S p)) n : Int) = (s : Int)))]
    rw [num_congr _ (fun k => decide (P S k < (tb z S n).2) && decide ((item z (cf S (tb z S n).2 k) n : Int) = (s : Int))) S (fun k hk => by rw [idx_P hS k hk])]
    rw [show num (fun k => decide (P S k < (tb z S n).2) && decide ((item z (cf S (tb z S n).2 k) n : Int) = (s : Int))) S = num (fun j => decide ((item z j n : Int) = (s : Int))) (cf S (tb z S n).2 S) from num_cf S (tb z S n).2 (fun j => decide ((item z j n : Int) = (s : Int))) S, cf_all hS _ hfr.2, ← hfb, num_item z n s hsn _ (Nat.le_refl _)]
    have h1 := base_mono z (s + 1) n hsn
    have h2 : base z (s + 1) = base z s + (z.getD s 0).toNat := rfl
    unfold pl
    by_cases e : z.getD s 0 = -1
    · rw [if_pos e, if_pos ⟨hsn, e⟩]
      omega
    · rw [if_neg e, if_neg (fun h => e h.2)]
      omega
  · intro p hp
    unfold F fK
    by_cases e : (tb z S n).2 ≤ p
    · rw [if_pos e, decide_eq_true e, decide_eq_false (show ¬ p < (tb z S n).2 by omega)]
      simp
    · rw [if_neg e, if_pos (idx_lt hS p), decide_eq_false e, decide_eq_true (show p < (tb z S n).2 by omega)]
      simp

/-- Of how many states a span is. -/
def wide (log : Nat) (x : Int) : Int := 2 ^ (bt log x).toNat
def inSpan (log : Nat) (S x : Int) (k : Nat) : Bool := decide (bs log S x ≤ (k : Int)) && decide ((k : Int) < bs log S x + wide log x)
/-- Which states are in the spans of the first m numbers from c on. -/
def SN (log : Nat) (S c : Int) : Nat → Nat → Bool
  | 0, _ => false
  | m + 1, k => SN log S c m k || inSpan log S (c + m) k
/-- Of how many states the first m spans are. -/
def T (log : Nat) (c : Int) : Nat → Int
  | 0 => 0
  | m + 1 => T log c m + wide log (c + m)
theorem len_mono (x y : Int) (h0 : 1 ≤ x) (h : x ≤ y) (h1 : y < 65536) : CM.len x ≤ CM.len y := by
  obtain ⟨a, c⟩ := CM.bitLen_spec x.toNat (by omega)
  obtain ⟨a', c'⟩ := CM.bitLen_spec y.toNat (by omega)
  obtain ⟨d, e⟩ := c (by omega)
  unfold CM.len
  rcases Nat.lt_or_ge (Lib.bitLen y.toNat) (Lib.bitLen x.toNat) with g | g
  · exfalso
    have := Nat.pow_le_pow_right (n := 2) (by omega) (show Lib.bitLen y.toNat ≤ Lib.bitLen x.toNat - 1 by omega)
    omega
  · omega
theorem span_apart (log : Nat) (hl : log ≤ 6) (S c x y : Int) (hc : 1 ≤ c) (h1 : c ≤ x) (h2 : x < y) (h3 : y < 2 * c) (h4 : y < 2 ^ (log + 1)) (k : Nat) (ha : inSpan log S x k = true) (hb : inSpan log S y k = true) : False := by
  have hp := CM.pow_le (log + 1) 7 (by omega)
  obtain ⟨bx0, bx1, bx2, bx3⟩ := bs_range log hl x (by omega) (by omega)
  obtain ⟨by0, by1, by2, by3⟩ := bs_range log hl y (by omega) h4
  have hm := len_mono x y (by omega) (by omega) (by omega)
  have hbb : bt log y ≤ bt log x := by unfold bt; omega
  replace ha : bs log S x ≤ (k : Int) ∧ (k : Int) < bs log S x + wide log x := by simpa [inSpan] using ha
  replace hb : bs log S y ≤ (k : Int) ∧ (k : Int) < bs log S y + wide log y := by simpa [inSpan] using hb
  unfold bs wide at ha hb
  have q1 := CM.pow_pos (bt log x).toNat
  have q2 := CM.pow_pos (bt log y).toNat
  rcases Nat.lt_or_ge (bt log y).toNat (bt log x).toNat with g | g
  · have e : (2 : Int) ^ (bt log x).toNat = 2 ^ (bt log y).toNat * 2 ^ ((bt log x).toNat - (bt log y).toNat) := by rw [← Int.pow_add]; congr 1; omega
    have e2 : (2 : Int) ≤ 2 ^ ((bt log x).toNat - (bt log y).toNat) := by
      have := CM.pow_le 1 ((bt log x).toNat - (bt log y).toNat) (by omega)
      simpa using this
    have e3 : (2 : Int) ^ (bt log y).toNat * 2 ≤ 2 ^ (bt log x).toNat := by
      rw [e]
      exact Int.mul_le_mul_of_nonneg_left e2 (by omega)
    have e4 : x * (2 ^ (bt log y).toNat * 2) ≤ x * 2 ^ (bt log x).toNat := Int.mul_le_mul_of_nonneg_left e3 (by omega)
    have e5 : (y + 1) * 2 ^ (bt log y).toNat ≤ (2 * x) * 2 ^ (bt log y).toNat := Int.mul_le_mul_of_nonneg_right (by omega) (by omega)
    have e6 : (2 * x) * 2 ^ (bt log y).toNat = x * (2 ^ (bt log y).toNat * 2) := by
      rw [Int.mul_comm 2 x, Int.mul_assoc, Int.mul_comm 2]
    rw [Int.add_mul] at e5
    omega
  · have e : (bt log x).toNat = (bt log y).toNat := by omega
    rw [e] at ha q1
    have e5 : (x + 1) * 2 ^ (bt log y).toNat ≤ y * 2 ^ (bt log y).toNat := Int.mul_le_mul_of_nonneg_right (by omega) (by omega)
    rw [Int.add_mul] at e5
    omega
theorem SN_new (log : Nat) (hl : log ≤ 6) (S c : Int) (hc : 1 ≤ c) (m : Nat) (hm : (m : Int) < c) (h4 : c + m < 2 ^ (log + 1)) (k : Nat) (hb : inSpan log S (c + m) k = true) : SN log S c m k = false := by
  have key : ∀ j : Nat, j ≤ m → SN log S c j k = false := by
    intro j
    induction j with
    | zero => intro _; rfl
    | succ j ih =>
      intro hj
      simp only [SN]
      rw [ih (by omega), Bool.false_or]
      cases e : inSpan log S (c + j) k with
      | false => rfl
      | true => exact (span_apart log hl S c (c + j) (c + m) hc (by omega) (by omega) (by omega) h4 k e hb).elim
  exact key m (Nat.le_refl _)
theorem T_all5 : ∀ c : Fin 33, c.val = 0 ∨ T 5 (c.val : Int) c.val = 32 := by decide +kernel
theorem T_all6 : ∀ c : Fin 65, c.val = 0 ∨ T 6 (c.val : Int) c.val = 64 := by decide +kernel
theorem T_all (log : Nat) (hl : log = 5 ∨ log = 6) (c : Nat) (hc : 1 ≤ c) (h : c ≤ 2 ^ log) : T log (c : Int) c = (2 ^ log : Nat) := by
  rcases hl with rfl | rfl
  · exact (T_all5 ⟨c, by omega⟩).resolve_left (by simp; omega)
  · exact (T_all6 ⟨c, by omega⟩).resolve_left (by simp; omega)
theorem wide_pos (log : Nat) (x : Int) : 1 ≤ wide log x := CM.pow_pos _
theorem T_mono (log : Nat) (c : Int) (a b : Nat) (h : a ≤ b) : T log c a ≤ T log c b := by
  induction b with
  | zero => obtain rfl : a = 0 := by omega
            exact Int.le_refl _
  | succ b ih =>
    by_cases e : a = b + 1
    · subst e; exact Int.le_refl _
    · have := ih (by omega)
      have := wide_pos log (c + b)
      simp only [T]
      omega
end Go.Proofs.Ytbhemchnjpajiaa.TM

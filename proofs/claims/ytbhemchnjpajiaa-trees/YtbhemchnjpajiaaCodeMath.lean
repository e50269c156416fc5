/- Plain arithmetic of the codes of literals: spans, the total, the weight that follows, and the codes one behind the other, as the program gives them out. -/
import Derived.Laws.BitsAllLaws
import Derived.Laws.BitsLemmas
import Derived.Lib.BitFns
namespace Go.Proofs.Ytbhemchnjpajiaa.CM
open Go

/-- How many numbers of the greatest length begin with a code of this weight. -/
def sp (w : Int) : Int := if w = 0 then 0 else 2 ^ (w - 1).toNat
def Fits (z : List Int) : Prop := ∀ x ∈ z, 0 ≤ x ∧ x ≤ 8
def fitsB (z : List Int) : Bool := z.all fun x => decide (0 ≤ x) && decide (x ≤ 8)
def inB (z : List Int) : Bool := decide (1 ≤ z.length) && decide (z.length ≤ 128) && fitsB z
theorem fits_iff (z : List Int) : fitsB z = true ↔ Fits z := by
  simp [fitsB, Fits]
theorem fits_getD (z : List Int) (h : Fits z) (k : Nat) : 0 ≤ z.getD k 0 ∧ z.getD k 0 ≤ 8 := by
  rw [List.getD_eq_getElem?_getD]
  by_cases hk : k < z.length
  · rw [List.getElem?_eq_getElem hk]; exact h _ (List.getElem_mem hk)
  · rw [List.getElem?_eq_none (by omega)]; simp
theorem fits_take (z : List Int) (k : Nat) (hk : k < z.length) : fitsB (z.take (k + 1)) = (fitsB (z.take k) && (decide (0 ≤ z.getD k 0) && decide (z.getD k 0 ≤ 8))) := by
  unfold fitsB
  rw [List.take_succ_eq_append_getElem hk, List.all_append, List.getD_eq_getElem?_getD, List.getElem?_eq_getElem hk]
  simp only [List.all_cons, List.all_nil, Bool.and_true, Option.getD_some]
theorem fits_prefix (z : List Int) (k : Nat) (h : fitsB (z.take k) = false) : fitsB z = false := by
  cases e : fitsB z with
  | false => rfl
  | true =>
    have f := (fits_iff z).1 e
    have : fitsB (z.take k) = true := (fits_iff _).2 fun x hx => f x (List.mem_of_mem_take hx)
    rw [this] at h; cases h

theorem sp_bound (w : Int) (h : 0 ≤ w ∧ w ≤ 8) : 0 ≤ sp w ∧ sp w ≤ 128 := by
  unfold sp
  rcases (by omega : w = 0 ∨ w = 1 ∨ w = 2 ∨ w = 3 ∨ w = 4 ∨ w = 5 ∨ w = 6 ∨ w = 7 ∨ w = 8) with rfl | rfl | rfl | rfl | rfl | rfl | rfl | rfl | rfl <;> decide

/-- The total of the first k weights. -/
def tot (z : List Int) : Nat → Int
  | 0 => 0
  | k + 1 => tot z k + sp (z.getD k 0)
theorem tot_bound (z : List Int) (h : Fits z) (k : Nat) : 0 ≤ tot z k ∧ tot z k ≤ 128 * k := by
  induction k with
  | zero => simp [tot]
  | succ k ih => have := sp_bound _ (fits_getD z h k); simp only [tot]; omega

abbrev Tri := Int × Int × Int
def cellsOf (l : List Tri) : List Value := l.flatMap fun c => [.int .i64 c.1, .int .i64 c.2.1, .int .i64 c.2.2]
theorem cellsOf_length (l : List Tri) : (cellsOf l).length = l.length * 3 := by
  induction l with
  | nil => rfl
  | cons a l ih => simp only [cellsOf, List.flatMap_cons, List.length_append, List.length_cons, List.length_nil] at *; omega
theorem cellsOf_snoc (l : List Tri) (c : Tri) : cellsOf (l ++ [c]) = cellsOf l ++ [.int .i64 c.1, .int .i64 c.2.1, .int .i64 c.2.2] := by simp [cellsOf]
theorem cellsOf_at (l : List Tri) (i : Nat) (hi : i < l.length) :
    (cellsOf l)[i * 3]? = some (.int .i64 (l.getD i (0, 0, 0)).1) ∧ (cellsOf l)[i * 3 + 1]? = some (.int .i64 (l.getD i (0, 0, 0)).2.1) ∧ (cellsOf l)[i * 3 + 2]? = some (.int .i64 (l.getD i (0, 0, 0)).2.2) := by
  induction l generalizing i with
  | nil => simp at hi
  | cons a l ih =>
    cases i with
    | zero => simp [cellsOf]
    | succ i =>
      have := ih i (by simpa using hi)
      have e : cellsOf (a :: l) = .int .i64 a.1 :: .int .i64 a.2.1 :: .int .i64 a.2.2 :: cellsOf l := by simp [cellsOf]
      rw [e, show (i + 1) * 3 = i * 3 + 1 + 1 + 1 by omega]
      simpa using this

/-- The codes of one weight: behind k values. -/
def gk (ws : List Int) (b wt : Int) (c : List Tri × Int) : Nat → List Tri × Int
  | 0 => c
  | k + 1 => if ws.getD k 0 = wt then ((gk ws b wt c k).1 ++ [((k : Int), b + 1 - wt, (gk ws b wt c k).2 / 2 ^ (wt - 1).toNat)], (gk ws b wt c k).2 + sp wt) else gk ws b wt c k
/-- The codes of the weights 1 to n. -/
def gs (ws : List Int) (b : Int) : Nat → List Tri × Int
  | 0 => ([], 0)
  | n + 1 => gk ws b ((n : Int) + 1) (gs ws b n) ws.length
theorem gk_bound (ws : List Int) (b wt : Int) (c : List Tri × Int) (hw : 1 ≤ wt ∧ wt ≤ 8) (k : Nat) :
    (gk ws b wt c k).1.length ≤ c.1.length + k ∧ c.2 ≤ (gk ws b wt c k).2 ∧ (gk ws b wt c k).2 ≤ c.2 + 128 * k := by
  have hs := sp_bound wt (by omega)
  induction k with
  | zero => simp [gk]
  | succ k ih =>
    simp only [gk]
    split
    · simp only [List.length_append, List.length_singleton]; omega
    · omega
theorem gs_bound (ws : List Int) (b : Int) (n : Nat) (hn : n ≤ 8) :
    (gs ws b n).1.length ≤ n * ws.length ∧ 0 ≤ (gs ws b n).2 ∧ (gs ws b n).2 ≤ 128 * (n * ws.length : Nat) := by
  induction n with
  | zero => simp [gs]
  | succ n ih =>
    have h := gk_bound ws b ((n : Int) + 1) (gs ws b n) (by omega) ws.length
    have i := ih (by omega)
    simp only [gs]
    rw [Nat.succ_mul]
    omega

/-- The bits that a number takes. -/
def len (x : Int) : Int := (Lib.bitLen x.toNat : Int)
theorem bitLen_spec (x : Nat) : x < 2 ^ 64 → x < 2 ^ Lib.bitLen x ∧ (x ≠ 0 → 2 ^ (Lib.bitLen x - 1) ≤ x ∧ 1 ≤ Lib.bitLen x) := by
  induction x using Nat.strongRecOn with
  | _ x ih =>
    intro hx
    by_cases h0 : x = 0
    · subst h0; simp [Lib.bitLen, Lib.bitLenAux]
    · have e := Lib.bitLen_half x h0 hx
      obtain ⟨a, b⟩ := ih (x / 2) (by omega) (by omega)
      generalize hL : Lib.bitLen (x / 2) = L at *
      rw [e]
      refine ⟨by rw [Nat.add_comm, Nat.pow_succ]; omega, fun _ => ⟨?_, by omega⟩⟩
      by_cases h1 : x / 2 = 0
      · have : L = 0 := by rw [← hL, h1]; rfl
        subst this; simp; omega
      · obtain ⟨c, d⟩ := b h1
        rw [show 1 + L - 1 = (L - 1) + 1 by omega, Nat.pow_succ]
        omega
/-- A number's bits, by its bounds. -/
theorem bitLen_is (x b : Nat) (hx : x < 2 ^ 64) (h0 : 2 ^ b ≤ x) (h1 : x < 2 ^ (b + 1)) : Lib.bitLen x = b + 1 := by
  obtain ⟨a, c⟩ := bitLen_spec x hx
  have hp : 0 < 2 ^ b := Nat.two_pow_pos b
  obtain ⟨c, d⟩ := c (by omega)
  have l1 : b < Lib.bitLen x := by
    rcases Nat.lt_or_ge b (Lib.bitLen x) with h | h
    · exact h
    · have := Nat.pow_le_pow_right (n := 2) (by omega) h; omega
  have l2 : Lib.bitLen x - 1 < b + 1 := by
    rcases Nat.lt_or_ge (Lib.bitLen x - 1) (b + 1) with h | h
    · exact h
    · have := Nat.pow_le_pow_right (n := 2) (by omega) h; omega
  omega
theorem len_bound (x : Int) (h0 : 0 ≤ x) (h1 : x ≤ 65535) : 0 ≤ len x ∧ len x ≤ 16 := by
  unfold len
  refine ⟨by omega, ?_⟩
  by_cases hz : x.toNat = 0
  · rw [hz]; decide
  · obtain ⟨a, b⟩ := bitLen_spec x.toNat (by omega)
    obtain ⟨c, d⟩ := b hz
    rcases Nat.lt_or_ge (Lib.bitLen x.toNat) 17 with h | h
    · omega
    · have := Nat.pow_le_pow_right (n := 2) (by omega) (show 16 ≤ Lib.bitLen x.toNat - 1 by omega); omega

/-- What is left of the total, and whether it is a power of two. -/
def total (z : List Int) : Int := tot z z.length
def rest (z : List Int) : Int := 2 ^ (len (total z)).toNat - total z
def pw (r : Int) : Bool := bits .and .i64 r (r - 1) == 0
def good (z : List Int) : Bool := inB z && (total z != 0) && decide (len (total z) ≤ 8) && pw (rest z)
/-- All weights, the one that follows among them. -/
def all (z : List Int) : List Int := z ++ [len (rest z)]
def codes (z : List Int) : List Tri := (gs (all z) (len (total z)) (len (total z)).toNat).1

theorem inB_fits {z : List Int} (h : inB z = true) : Fits z ∧ 1 ≤ z.length ∧ z.length ≤ 128 := by
  simp [inB] at h
  exact ⟨(fits_iff z).1 h.2, by omega, by omega⟩
theorem total_bound {z : List Int} (h : inB z = true) : 0 ≤ total z ∧ total z ≤ 16384 := by
  obtain ⟨f, a, b⟩ := inB_fits h
  have := tot_bound z f z.length
  unfold total
  omega
theorem pow_le (a b : Nat) (h : a ≤ b) : (2 : Int) ^ a ≤ 2 ^ b := by
  have := Nat.pow_le_pow_right (n := 2) (by omega) h
  exact_mod_cast this
theorem pow_pos (a : Nat) : (1 : Int) ≤ 2 ^ a := by
  have := Nat.one_le_two_pow (n := a)
  exact_mod_cast this
/-- What is left is at least 1, and (behind a total that is not 0) no more than the total. -/
theorem rest_bound {z : List Int} (h : inB z = true) : 1 ≤ rest z ∧ (total z ≠ 0 → rest z ≤ total z) ∧ rest z ≤ 32768 ∧ (1 ≤ len (total z) ∨ total z = 0) ∧ len (total z) ≤ 15 := by
  have ht := total_bound h
  obtain ⟨a, b⟩ := bitLen_spec (total z).toNat (by omega)
  unfold rest len
  rw [Int.toNat_natCast]
  generalize hL : Lib.bitLen (total z).toNat = L at *
  have c : ((2 ^ L : Nat) : Int) = (2 : Int) ^ L := by simp
  by_cases h0 : total z = 0
  · have : L = 0 := by rw [← hL, h0]; rfl
    subst this
    simp [h0]
  · obtain ⟨d, e⟩ := b (by omega)
    have f : 2 ^ L = 2 * 2 ^ (L - 1) := by rw [← Nat.pow_succ']; congr 1; omega
    have g : L ≤ 15 := by
      rcases Nat.lt_or_ge L 16 with g | g
      · omega
      · have := Nat.pow_le_pow_right (n := 2) (by omega) (show 15 ≤ L - 1 by omega); omega
    have k := Nat.pow_le_pow_right (n := 2) (by omega) g
    omega
end Go.Proofs.Ytbhemchnjpajiaa.CM

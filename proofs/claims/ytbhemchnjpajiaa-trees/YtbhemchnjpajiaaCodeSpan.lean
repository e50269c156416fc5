/- Plain mathematics of the codes that are given out: where the weights may be, each value that has a weight stands once, its bits and its weight add up to the same, its number stands where the spans ahead of it end, and all spans together are 2 to the greatest length. -/
import Derived.Test.YtbhemchnjpajiaaCodeMath
namespace Go.Proofs.Ytbhemchnjpajiaa.CM
open Go

theorem pw_all : ∀ r : Fin 257, r.val ≠ 0 → pw (r.val : Int) = true → (r.val : Int) = 2 ^ (Lib.bitLen r.val - 1) := by decide +kernel
theorem pw_is (r : Int) (h0 : 1 ≤ r) (h1 : r ≤ 256) (h : pw r = true) : sp (len r) = r ∧ 1 ≤ len r := by
  have e := pw_all ⟨r.toNat, by omega⟩ (by simp only; omega) (by simp only [Int.toNat_of_nonneg (show 0 ≤ r by omega)]; exact h)
  simp only [Int.toNat_of_nonneg (show 0 ≤ r by omega)] at e
  obtain ⟨a, b⟩ := bitLen_spec r.toNat (by omega)
  obtain ⟨c, d⟩ := b (by omega)
  unfold sp len
  rw [if_neg (show ¬ ((Lib.bitLen r.toNat : Int) = 0) by omega), show ((Lib.bitLen r.toNat : Int) - 1).toNat = Lib.bitLen r.toNat - 1 by omega]
  exact ⟨e.symm, by omega⟩

abbrev val (ws : List Int) (v : Nat) : Int := ws.getD v 0

def lowK (ws : List Int) (wt : Int) : Nat → Int
  | 0 => 0
  | k + 1 => lowK ws wt k + if val ws k = wt then sp wt else 0
def low (ws : List Int) (n : Int) : Nat → Int
  | 0 => 0
  | k + 1 => low ws n k + if val ws k ≤ n then sp (val ws k) else 0

theorem gk_snd (ws : List Int) (b wt : Int) (c : List Tri × Int) (k : Nat) : (gk ws b wt c k).2 = c.2 + lowK ws wt k := by
  induction k with
  | zero => simp [gk, lowK]
  | succ k ih =>
    simp only [gk, lowK, val]
    split
    · simp only [ih]; omega
    · rw [ih]; omega
theorem low_succ (ws : List Int) (n : Int) (k : Nat) : low ws (n + 1) k = low ws n k + lowK ws (n + 1) k := by
  induction k with
  | zero => simp [low, lowK]
  | succ k ih =>
    simp only [low, lowK, ih]
    by_cases h1 : val ws k ≤ n
    · rw [if_pos (by omega), if_pos h1, if_neg (by omega)]; omega
    · by_cases h2 : val ws k = n + 1
      · rw [if_pos (by omega), if_neg h1, if_pos h2, h2]; omega
      · rw [if_neg (by omega), if_neg h1, if_neg h2]; omega
theorem low_zero (ws : List Int) (h : Fits ws) (k : Nat) : low ws 0 k = 0 := by
  induction k with
  | zero => rfl
  | succ k ih =>
    simp only [low, ih]
    have := fits_getD ws h k
    by_cases h1 : val ws k ≤ 0
    · rw [if_pos h1, show val ws k = 0 by unfold val at *; omega]; rfl
    · rw [if_neg h1]; rfl
theorem gs_snd (ws : List Int) (b : Int) (h : Fits ws) (n : Nat) : (gs ws b n).2 = low ws n ws.length := by
  induction n with
  | zero => rw [show ((0 : Nat) : Int) = 0 from rfl, low_zero ws h]; rfl
  | succ n ih =>
    simp only [gs]
    rw [gk_snd, ih, show ((n + 1 : Nat) : Int) = (n : Int) + 1 by omega, low_succ]
theorem low_all (ws : List Int) (n : Int) (h : ∀ v, val ws v ≤ n) (k : Nat) : low ws n k = tot ws k := by
  induction k with
  | zero => rfl
  | succ k ih => simp only [low, tot, ih]; rw [if_pos (h k)]

theorem pow_dvd (a b : Nat) (h : a ≤ b) : (2 : Int) ^ b % 2 ^ a = 0 := by
  have e : (2 : Int) ^ b = 2 ^ a * 2 ^ (b - a) := by rw [← Int.pow_add]; congr 1; omega
  rw [e]
  exact Int.mul_emod_right _ _
theorem high_dvd (ws : List Int) (h : Fits ws) (n : Nat) (k : Nat) : (tot ws k - low ws n k) % 2 ^ n = 0 := by
  induction k with
  | zero => simp [tot, low]
  | succ k ih =>
    simp only [tot, low]
    have hf := fits_getD ws h k
    by_cases h1 : val ws k ≤ n
    · rw [if_pos h1, show tot ws k + sp (val ws k) - (low ws n k + sp (val ws k)) = tot ws k - low ws n k by omega]
      exact ih
    · rw [if_neg h1, show tot ws k + sp (val ws k) - (low ws n k + 0) = (tot ws k - low ws n k) + sp (val ws k) by omega]
      have : sp (val ws k) % 2 ^ n = 0 := by
        unfold sp
        rw [if_neg (by unfold val at *; omega)]
        exact pow_dvd _ _ (by unfold val at *; omega)
      rw [Int.add_emod, ih, this]
      rfl
theorem lowK_dvd (ws : List Int) (n : Nat) (k : Nat) : lowK ws ((n : Int) + 1) k % 2 ^ n = 0 := by
  induction k with
  | zero => rfl
  | succ k ih =>
    simp only [lowK]
    have : (if val ws k = (n : Int) + 1 then sp ((n : Int) + 1) else 0) % 2 ^ n = 0 := by
      split
      · unfold sp
        rw [if_neg (by omega)]
        exact pow_dvd _ _ (by omega)
      · rfl
    rw [Int.add_emod, ih, this]
    rfl
/-- Where the total is 2 to the b, the spans of the lower weights end at a multiple of a weight's own. -/
theorem gk_dvd (ws : List Int) (h : Fits ws) (b : Nat) (ht : tot ws ws.length = 2 ^ b) (n : Nat) (hn : n ≤ b) (k : Nat) :
    (gk ws b ((n : Int) + 1) (gs ws b n) k).2 % 2 ^ n = 0 := by
  rw [gk_snd, gs_snd ws b h]
  have h1 := high_dvd ws h n ws.length
  rw [ht] at h1
  have h2 := pow_dvd n b hn
  have h3 : low ws n ws.length % 2 ^ n = 0 := by
    have e : low ws n ws.length = 2 ^ b - (2 ^ b - low ws n ws.length) := by omega
    rw [e, Int.sub_emod, h1, h2]
    rfl
  rw [Int.add_emod, h3, lowK_dvd]
  rfl

def sumB (B : Int) : List Tri → Int
  | [] => 0
  | c :: L => 2 ^ (B - c.2.1).toNat + sumB B L
theorem sumB_append (B : Int) (L M : List Tri) : sumB B (L ++ M) = sumB B L + sumB B M := by
  induction L with
  | nil => simp [sumB]
  | cons c L ih => simp only [List.cons_append, sumB, ih]; omega

/-- What is true of the codes that have been given out, up to the value k of weight wt. -/
structure Ok (ws : List Int) (B wt : Int) (k : Nat) (L : List Tri) (st : Int) : Prop where
  sum : st = sumB B L
  each : ∀ i, i < L.length → ∃ v : Nat, (L.getD i (0, 0, 0)).1 = (v : Int) ∧ v < ws.length ∧ 1 ≤ val ws v ∧ val ws v ≤ wt ∧ (L.getD i (0, 0, 0)).2.1 = B + 1 - val ws v ∧
    (L.getD i (0, 0, 0)).2.2 * 2 ^ (val ws v - 1).toNat = sumB B (L.take i)
  mem : ∀ v : Nat, (v : Int) ∈ L.map (·.1) ↔ v < ws.length ∧ 1 ≤ val ws v ∧ (val ws v < wt ∨ (val ws v = wt ∧ v < k))
  nodup : (L.map (·.1)).Nodup

theorem ok_gk (ws : List Int) (h : Fits ws) (b : Nat) (ht : tot ws ws.length = 2 ^ b) (n : Nat) (hn : n < b) (h0 : Ok ws b ((n : Int) + 1) 0 (gs ws b n).1 (gs ws b n).2) (k : Nat) (hk : k ≤ ws.length) :
    Ok ws b ((n : Int) + 1) k (gk ws b ((n : Int) + 1) (gs ws b n) k).1 (gk ws b ((n : Int) + 1) (gs ws b n) k).2 := by
  induction k with
  | zero => exact h0
  | succ k ih =>
    have ih := ih (by omega)
    have hd := gk_dvd ws h b ht n (by omega) k
    simp only [gk]
    generalize gk ws b ((n : Int) + 1) (gs ws b n) k = G at *
    obtain ⟨L, st⟩ := G
    simp only at ih hd ⊢
    by_cases hv : ws.getD k 0 = (n : Int) + 1
    · rw [if_pos hv]
      have hp : ((n : Int) + 1 - 1).toNat = n := by omega
      refine ⟨?_, ?_, ?_, ?_⟩
      · rw [sumB_append, ← ih.sum]
        simp only [sumB, sp]
        rw [if_neg (by omega), hp, show ((b : Int) - ((b : Int) + 1 - ((n : Int) + 1))).toNat = n by omega]
        omega
      · intro i hi
        simp only [List.length_append, List.length_singleton] at hi
        by_cases hiL : i < L.length
        · obtain ⟨v, a1, a2, a3, a4, a5, a6⟩ := ih.each i hiL
          have e : (L ++ [((k : Int), (b : Int) + 1 - ((n : Int) + 1), st / 2 ^ ((n : Int) + 1 - 1).toNat)]).getD i (0, 0, 0) = L.getD i (0, 0, 0) := by
            rw [List.getD_eq_getElem?_getD, List.getElem?_append_left hiL, ← List.getD_eq_getElem?_getD]
          rw [e, List.take_append_of_le_length (by omega)]
          exact ⟨v, a1, a2, a3, a4, a5, a6⟩
        · obtain rfl : i = L.length := by omega
          have e : (L ++ [((k : Int), (b : Int) + 1 - ((n : Int) + 1), st / 2 ^ ((n : Int) + 1 - 1).toNat)]).getD L.length (0, 0, 0) = ((k : Int), (b : Int) + 1 - ((n : Int) + 1), st / 2 ^ ((n : Int) + 1 - 1).toNat) := by
            rw [List.getD_eq_getElem?_getD, List.getElem?_append_right (Nat.le_refl _)]
            simp
          rw [e, List.take_append_of_le_length (Nat.le_refl _), List.take_length]
          have hvv : val ws k = (n : Int) + 1 := hv
          refine ⟨k, rfl, by omega, by omega, by omega, by rw [hvv], ?_⟩
          rw [hvv, hp, ← ih.sum]
          have := Int.mul_ediv_add_emod st (2 ^ n)
          rw [hd, Int.add_zero, Int.mul_comm] at this
          exact this
      · intro v
        rw [List.map_append, List.mem_append]
        constructor
        · rintro (hm | hm)
          · obtain ⟨a1, a2, a3⟩ := (ih.mem v).1 hm
            exact ⟨a1, a2, by omega⟩
          · simp at hm
            have : v = k := by omega
            subst this
            have hvv : val ws v = (n : Int) + 1 := hv
            exact ⟨by omega, by omega, .inr ⟨hvv, by omega⟩⟩
        · rintro ⟨a1, a2, a3⟩
          by_cases hvk : v = k
          · subst hvk; right; simp
          · left; exact (ih.mem v).2 ⟨a1, a2, by omega⟩
      · rw [List.map_append, List.nodup_append]
        refine ⟨ih.nodup, by simp, ?_⟩
        intro x hx y hy
        simp at hy
        subst hy
        rintro rfl
        have := (ih.mem k).1 hx
        have hvv : val ws k = (n : Int) + 1 := hv
        omega
    · rw [if_neg hv]
      refine ⟨ih.sum, ih.each, ?_, ih.nodup⟩
      intro v
      rw [ih.mem v]
      have hvv : ¬ val ws k = (n : Int) + 1 := hv
      constructor
      · rintro ⟨a1, a2, a3⟩; exact ⟨a1, a2, by omega⟩
      · rintro ⟨a1, a2, a3⟩
        refine ⟨a1, a2, ?_⟩
        rcases a3 with a3 | ⟨a3, a4⟩
        · exact .inl a3
        · by_cases hvk : v = k
          · subst hvk; omega
          · exact .inr ⟨a3, by omega⟩
theorem ok_gs (ws : List Int) (h : Fits ws) (b : Nat) (ht : tot ws ws.length = 2 ^ b) (n : Nat) (hn : n ≤ b) :
    Ok ws b ((n : Int) + 1) 0 (gs ws b n).1 (gs ws b n).2 := by
  induction n with
  | zero =>
    refine ⟨rfl, fun i hi => by simp [gs] at hi, ?_, by simp [gs]⟩
    intro v
    simp only [gs, List.map_nil, List.not_mem_nil, false_iff]
    omega
  | succ n ih =>
    have k := ok_gk ws h b ht n (by omega) (ih (by omega)) ws.length (Nat.le_refl _)
    simp only [gs]
    generalize gk ws b ((n : Int) + 1) (gs ws b n) ws.length = G at *
    refine ⟨k.sum, ?_, ?_, k.nodup⟩
    · intro i hi
      obtain ⟨v, a1, a2, a3, a4, a5, a6⟩ := k.each i hi
      exact ⟨v, a1, a2, a3, by omega, a5, a6⟩
    · intro v
      rw [k.mem v]
      constructor
      · rintro ⟨a1, a2, a3⟩; exact ⟨a1, a2, .inl (by omega)⟩
      · rintro ⟨a1, a2, a3⟩
        refine ⟨a1, a2, ?_⟩
        rcases a3 with a3 | ⟨a3, a4⟩
        · omega
        · omega

theorem tot_append (z : List Int) (x : Int) (k : Nat) (hk : k ≤ z.length) : tot (z ++ [x]) k = tot z k := by
  induction k with
  | zero => rfl
  | succ k ih =>
    simp only [tot]
    rw [ih (by omega)]
    congr 2
    rw [List.getD_eq_getElem?_getD, List.getElem?_append_left (by omega), ← List.getD_eq_getElem?_getD]
theorem all_length (z : List Int) : (all z).length = z.length + 1 := by simp [all]
theorem all_at (z : List Int) (v : Nat) (h : v < z.length) : val (all z) v = z.getD v 0 := by
  unfold val all
  rw [List.getD_eq_getElem?_getD, List.getElem?_append_left h, ← List.getD_eq_getElem?_getD]
theorem all_last (z : List Int) : val (all z) z.length = len (rest z) := by
  unfold val all
  rw [List.getD_eq_getElem?_getD, List.getElem?_append_right (Nat.le_refl _)]
  simp
theorem tot_mono (z : List Int) (h : Fits z) (v k : Nat) (hv : v < k) : sp (z.getD v 0) ≤ tot z k := by
  induction k with
  | zero => omega
  | succ k ih =>
    have a := sp_bound _ (fits_getD z h k)
    have b := tot_bound z h k
    simp only [tot]
    by_cases e : v = k
    · subst e; omega
    · have := ih (by omega); omega
theorem sp_small (x : Int) (h : 0 ≤ x ∧ x ≤ 8) (b : Nat) (hb : sp x < 2 ^ b ∨ sp x ≤ 2 ^ (b - 1) ∧ 1 ≤ b) : x ≤ b := by
  by_cases h0 : x = 0
  · omega
  · unfold sp at hb
    rw [if_neg h0] at hb
    rcases Nat.lt_or_ge b (x - 1).toNat with g | g
    · exfalso
      have h1 := pow_le b (x - 1).toNat (by omega)
      have h2 := pow_le (b - 1) b (by omega)
      rcases hb with hb | ⟨hb, hb1⟩
      · omega
      · have h3 := pow_le b (x - 1).toNat (by omega)
        have h4 : (2 : Int) ^ b = 2 * 2 ^ (b - 1) := by
          rw [← Int.pow_succ']; congr 1; omega
        have := pow_pos (b - 1)
        omega
    · rcases Nat.lt_or_ge (x - 1).toNat b with g' | g'
      · omega
      · exfalso
        have e : (x - 1).toNat = b := by omega
        rw [e] at hb
        rcases hb with hb | ⟨hb, hb1⟩
        · omega
        · have h4 : (2 : Int) ^ b = 2 * 2 ^ (b - 1) := by
            rw [← Int.pow_succ']; congr 1; omega
          have := pow_pos (b - 1)
          omega

/-- The weight that follows, as the document's answer looks for it. -/
def lastF (r : Int) : Nat → Int
  | 0 => 0
  | t + 1 => if r = 2 ^ t then (t : Int) + 1 else lastF r t
theorem lastF_all : ∀ r : Fin 129, r.val ≠ 0 → (pw (r.val : Int) = true → lastF (r.val : Int) 8 = (Lib.bitLen r.val : Int) ∧ lastF (r.val : Int) 8 ≠ 0) ∧ (pw (r.val : Int) = false → lastF (r.val : Int) 8 = 0) := by decide +kernel
theorem lastF_bound (r : Int) (t : Nat) : 0 ≤ lastF r t ∧ lastF r t ≤ t := by
  induction t with
  | zero => simp [lastF]
  | succ t ih => simp only [lastF]; split <;> omega
theorem lastF_is (r : Int) (h0 : 1 ≤ r) (h1 : r ≤ 128) : (pw r = true → lastF r 8 = len r ∧ (lastF r 8 == 0) = false) ∧ (pw r = false → (lastF r 8 == 0) = true) := by
  have e := lastF_all ⟨r.toNat, by omega⟩ (by simp only; omega)
  simp only [Int.toNat_of_nonneg (show 0 ≤ r by omega)] at e
  refine ⟨fun h => ?_, fun h => ?_⟩
  · obtain ⟨a, b⟩ := e.1 h
    exact ⟨a, by simpa using b⟩
  · simpa using e.2 h
/-- No code has a weight above the greatest length. -/
theorem gk_none (ws : List Int) (b wt : Int) (c : List Tri × Int) (h : ∀ v, val ws v < wt) (k : Nat) : gk ws b wt c k = c := by
  induction k with
  | zero => rfl
  | succ k ih =>
    simp only [gk]
    rw [if_neg (by have := h k; unfold val at this; omega)]
    exact ih
theorem gs_more (ws : List Int) (B : Nat) (h : ∀ v, val ws v ≤ B) (n : Nat) (hn : B ≤ n) : gs ws B n = gs ws B B := by
  induction n with
  | zero => obtain rfl : B = 0 := by omega
            rfl
  | succ n ih =>
    by_cases e : B = n + 1
    · rw [e]
    · simp only [gs]
      rw [gk_none ws B _ _ (fun v => by have := h v; omega)]
      exact ih (by omega)

/-- All of it, of weights that are good. -/
theorem good_all {z : List Int} (hin : inB z = true) (h0 : total z ≠ 0) (h8 : len (total z) ≤ 8) (hp : pw (rest z) = true) :
    Fits (all z) ∧ tot (all z) (all z).length = 2 ^ (len (total z)).toNat ∧ 1 ≤ len (rest z) ∧ ∀ v, val (all z) v ≤ len (total z) := by
  obtain ⟨hf, n1, n2⟩ := inB_fits hin
  have ht := total_bound hin
  obtain ⟨r1, r2, r3, r4, r5⟩ := rest_bound hin
  have r2 := r2 h0
  have hL : 0 ≤ len (total z) := by unfold len; omega
  have hpl := pow_le (len (total z)).toNat 8 (by omega)
  have hr256 : rest z ≤ 256 := by
    have : rest z = 2 ^ (len (total z)).toNat - total z := rfl
    omega
  obtain ⟨q1, q2⟩ := pw_is (rest z) r1 hr256 hp
  have hb1 := len_bound (rest z) (by omega) (by omega)
  obtain ⟨s1, s2⟩ := bitLen_spec (total z).toNat (by omega)
  obtain ⟨s3, s4⟩ := s2 (by omega)
  have hB : (len (total z)).toNat = Lib.bitLen (total z).toNat := by unfold len; omega
  generalize hBB : (len (total z)).toNat = B at *
  rw [← hB] at s1 s3 s4
  have c1 : ((2 ^ B : Nat) : Int) = (2 : Int) ^ B := by simp
  have c2 : ((2 ^ (B - 1) : Nat) : Int) = (2 : Int) ^ (B - 1) := by simp
  have c3 : (2 : Int) ^ B = 2 * 2 ^ (B - 1) := by rw [← Int.pow_succ']; congr 1; omega
  have hr : rest z = 2 ^ B - total z := by unfold rest; rw [hBB]
  have hlast : len (rest z) ≤ B := sp_small _ (by
    refine ⟨hb1.1, ?_⟩
    obtain ⟨a, b⟩ := bitLen_spec (rest z).toNat (by omega)
    obtain ⟨c, d⟩ := b (by omega)
    unfold len
    rcases Nat.lt_or_ge (Lib.bitLen (rest z).toNat) 9 with g | g
    · omega
    · exfalso
      have h4 := pow_le B 8 (by omega)
      have := Nat.pow_le_pow_right (n := 2) (by omega) (show 8 ≤ Lib.bitLen (rest z).toNat - 1 by omega)
      omega) B (.inr ⟨by rw [q1]; omega, s4⟩)
  refine ⟨?_, ?_, q2, ?_⟩
  · intro x hx
    unfold all at hx
    rw [List.mem_append] at hx
    rcases hx with hx | hx
    · exact hf x hx
    · simp at hx; subst hx; omega
  · rw [all_length]
    simp only [tot]
    have e1 : (all z).getD z.length 0 = len (rest z) := all_last z
    have e2 : tot (all z) z.length = tot z z.length := tot_append z _ _ (Nat.le_refl _)
    rw [e1, e2, q1, hr]
    show total z + _ = _
    omega
  · intro v
    by_cases h1 : v < z.length
    · rw [all_at z v h1]
      have a := tot_mono z hf v z.length h1
      have := sp_small _ (fits_getD z hf v) B (.inl (by
        have : tot z z.length = total z := rfl
        omega))
      omega
    · by_cases h2 : v = z.length
      · subst h2; rw [all_last]; omega
      · unfold val
        rw [List.getD_eq_getElem?_getD, List.getElem?_eq_none (by rw [all_length]; omega)]
        simp; omega
end Go.Proofs.Ytbhemchnjpajiaa.CM

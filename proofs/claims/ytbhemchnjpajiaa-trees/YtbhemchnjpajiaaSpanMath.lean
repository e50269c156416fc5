/- Plain mathematics for the law Spans: the longest code, the sum of a weight and its code's bits, where a code begins, and which values have been seen. -/
import Derived.Test.YtbhemchnjpajiaaCodeSpan
namespace Go.Proofs.Ytbhemchnjpajiaa.CM
open Go

def bit (L : List Tri) (i : Nat) : Int := (L.getD i (0, 0, 0)).2.1
def vl (L : List Tri) (i : Nat) : Int := (L.getD i (0, 0, 0)).1
def nm (L : List Tri) (i : Nat) : Int := (L.getD i (0, 0, 0)).2.2
/-- The greatest bits of the first i codes. -/
def mb (L : List Tri) : Nat → Int
  | 0 => 0
  | i + 1 => if mb L i < bit L i then bit L i else mb L i
/-- The sum of a weight and its bits, as the loop keeps it. -/
def sm (L : List Tri) (n : Nat) (S : Int) : Nat → Int
  | 0 => 0
  | i + 1 => if vl L i < n then S else sm L n S i
theorem mb_ge (L : List Tri) (k i : Nat) (h : i < k) : bit L i ≤ mb L k := by
  induction k with
  | zero => omega
  | succ k ih =>
    simp only [mb]
    by_cases e : i = k
    · subst e; split <;> omega
    · have := ih (by omega); split <;> omega
theorem mb_le (L : List Tri) (B : Int) (hB : 0 ≤ B) (k : Nat) (h : ∀ i, i < k → bit L i ≤ B) : 0 ≤ mb L k ∧ mb L k ≤ B := by
  induction k with
  | zero => simp [mb, hB]
  | succ k ih =>
    have := ih (fun i hi => h i (by omega))
    have := h k (by omega)
    simp only [mb]
    split <;> omega
theorem sm_is (L : List Tri) (n : Nat) (S : Int) (k i : Nat) (h : i < k) (hv : vl L i < n) : sm L n S k = S := by
  induction k with
  | zero => omega
  | succ k ih =>
    simp only [sm]
    by_cases e : i = k
    · subst e; rw [if_pos hv]
    · split
      · rfl
      · exact ih (by omega)
theorem sm_bound (L : List Tri) (n : Nat) (S : Int) (hS : 0 ≤ S ∧ S ≤ 16) (k : Nat) : 0 ≤ sm L n S k ∧ sm L n S k ≤ 16 := by
  induction k with
  | zero => simp [sm]
  | succ k ih => simp only [sm]; split <;> omega

/-- All that the law asks of the codes L of weights z (n of them), greatest length B. -/
structure Told (z : List Int) (B : Int) (L : List Tri) : Prop where
  hB : 1 ≤ B ∧ B ≤ 8
  each : ∀ i, i < L.length → ∃ v : Nat, vl L i = (v : Int) ∧ v ≤ z.length ∧ (v < z.length → bit L i = B + 1 - z.getD v 0 ∧ z.getD v 0 ≠ 0) ∧ 1 ≤ bit L i ∧ bit L i ≤ B ∧ nm L i * 2 ^ (B - bit L i).toNat = sumB B (L.take i)
  mem : ∀ v : Nat, v ≤ z.length → ((v : Int) ∈ L.map (·.1) ↔ (v = z.length ∨ z.getD v 0 ≠ 0))
  nodup : (L.map (·.1)).Nodup
  sum : sumB B L = 2 ^ B.toNat
  pos : 0 < L.length
  few : L.length ≤ 1032

theorem told {z : List Int} (hin : inB z = true) (h0 : total z ≠ 0) (h8 : len (total z) ≤ 8) (hp : pw (rest z) = true) : Told z (len (total z)) (codes z) := by
  obtain ⟨hf, n1, n2⟩ := inB_fits hin
  obtain ⟨g1, g2, g3, g4⟩ := good_all hin h0 h8 hp
  obtain ⟨r1, r2, r3, r4, r5⟩ := rest_bound hin
  obtain ⟨b, hb⟩ : ∃ b : Nat, len (total z) = (b : Int) := ⟨_, rfl⟩
  have hcod : codes z = (gs (all z) b b).1 := by unfold codes; rw [hb, Int.toNat_natCast]
  rw [hb, Int.toNat_natCast] at g2
  rw [hb] at g4 h8 r4 ⊢
  have ok := ok_gs (all z) g1 b g2 b (Nat.le_refl _)
  have hbd := gs_bound (all z) b b (by omega)
  have hst := gs_snd (all z) b g1 b
  rw [low_all (all z) b g4, g2] at hst
  rw [hcod]
  have hal := all_length z
  have hbm : b * (all z).length ≤ 8 * 129 := Nat.mul_le_mul (by omega) (by omega)
  have hlast : ((z.length : Nat) : Int) ∈ (gs (all z) b b).1.map (·.1) := (ok.mem z.length).2 ⟨by omega, by rw [all_last]; exact g3, .inl (by have := g4 z.length; omega)⟩
  refine ⟨by omega, ?_, ?_, ok.nodup, ?_, ?_, by omega⟩
  · intro i hi
    obtain ⟨v, a1, a2, a3, a4, a5, a6⟩ := ok.each i hi
    have hv8 := g4 v
    refine ⟨v, a1, by omega, ?_, ?_, ?_, ?_⟩
    · intro hv
      have e := all_at z v hv
      rw [← e]
      exact ⟨a5, by omega⟩
    · show 1 ≤ (List.getD _ i (0, 0, 0)).2.1
      omega
    · show (List.getD _ i (0, 0, 0)).2.1 ≤ _
      omega
    · rw [← a6]
      unfold nm bit
      rw [a5]
      congr 2
      omega
  · intro v hv
    rw [ok.mem v]
    constructor
    · rintro ⟨a1, a2, a3⟩
      by_cases e : v = z.length
      · exact .inl e
      · right
        rw [← all_at z v (by omega)]
        omega
    · intro h
      by_cases e : v = z.length
      · subst e
        exact ⟨by omega, by rw [all_last]; exact g3, .inl (by have := g4 z.length; omega)⟩
      · have h := h.resolve_left e
        rw [← all_at z v (by omega)] at h
        have hfv : 0 ≤ val (all z) v ∧ val (all z) v ≤ 8 := fits_getD (all z) g1 v
        have := g4 v
        exact ⟨by omega, by omega, .inl (by omega)⟩
  · rw [← ok.sum, hst]
    simp
  · rcases Nat.eq_zero_or_pos (gs (all z) b b).1.length with e | e
    · rw [List.eq_nil_of_length_eq_zero e] at hlast
      simp at hlast
    · exact e

theorem sumB_take_succ (B : Int) (L : List Tri) (i : Nat) (h : i < L.length) : sumB B (L.take (i + 1)) = sumB B (L.take i) + 2 ^ (B - bit L i).toNat := by
  rw [List.take_succ_eq_append_getElem h, sumB_append]
  simp only [sumB, bit]
  rw [List.getD_eq_getElem?_getD, List.getElem?_eq_getElem h]
  simp
theorem sumB_scale (B b : Int) (hb : b ≤ B) (L : List Tri) (h : ∀ i, i < L.length → bit L i ≤ b) (k : Nat) (hk : k ≤ L.length) : sumB B (L.take k) = 2 ^ (B - b).toNat * sumB b (L.take k) := by
  induction k with
  | zero => simp [sumB]
  | succ k ih =>
    rw [sumB_take_succ B L k (by omega), sumB_take_succ b L k (by omega), ih (by omega), Int.mul_add, ← Int.pow_add]
    have := h k (by omega)
    rw [show (B - b).toNat + (b - bit L k).toNat = (B - bit L k).toNat by omega]
theorem sumB_bound (b : Int) (hb : b ≤ 8) (L : List Tri) (h : ∀ i, i < L.length → 1 ≤ bit L i) (k : Nat) (hk : k ≤ L.length) : 0 ≤ sumB b (L.take k) ∧ sumB b (L.take k) ≤ 128 * k := by
  induction k with
  | zero => simp [sumB]
  | succ k ih =>
    rw [sumB_take_succ b L k (by omega)]
    have := ih (by omega)
    have := h k (by omega)
    have h1 := pow_le (b - bit L k).toNat 7 (by omega)
    have h2 := pow_pos (b - bit L k).toNat
    omega
/-- A code begins where the spans ahead of it end, and all spans together are all numbers of the longest code's bits. -/
theorem Told.begins {z : List Int} {B : Int} {L : List Tri} (t : Told z B L) (i : Nat) (h : i < L.length) :
    nm L i * 2 ^ (mb L L.length - bit L i).toNat = sumB (mb L L.length) (L.take i) := by
  have hle : ∀ j, j < L.length → bit L j ≤ B := fun j hj => by obtain ⟨v, a1, a2, a3, a4, a5, a6⟩ := t.each j hj; exact a5
  have hm := mb_le L B (by have := t.hB; omega) L.length hle
  have hge : ∀ j, j < L.length → bit L j ≤ mb L L.length := fun j hj => mb_ge L L.length j hj
  obtain ⟨v, a1, a2, a3, a4, a5, a6⟩ := t.each i h
  have s := sumB_scale B (mb L L.length) hm.2 L hge i (by omega)
  rw [← a6] at s
  have e : (2 : Int) ^ (B - bit L i).toNat = 2 ^ (B - mb L L.length).toNat * 2 ^ (mb L L.length - bit L i).toNat := by
    rw [← Int.pow_add]
    congr 1
    have := hge i h
    omega
  rw [e, ← Int.mul_assoc, Int.mul_comm (nm L i), Int.mul_assoc] at s
  exact Int.eq_of_mul_eq_mul_left (by have := pow_pos (B - mb L L.length).toNat; omega) s
theorem Told.ends {z : List Int} {B : Int} {L : List Tri} (t : Told z B L) : sumB (mb L L.length) L = 2 ^ (mb L L.length).toNat := by
  have hle : ∀ j, j < L.length → bit L j ≤ B := fun j hj => by obtain ⟨v, a1, a2, a3, a4, a5, a6⟩ := t.each j hj; exact a5
  have hm := mb_le L B (by have := t.hB; omega) L.length hle
  have hge : ∀ j, j < L.length → bit L j ≤ mb L L.length := fun j hj => mb_ge L L.length j hj
  have s := sumB_scale B (mb L L.length) hm.2 L hge L.length (Nat.le_refl _)
  rw [List.take_length, t.sum] at s
  have e : (2 : Int) ^ B.toNat = 2 ^ (B - mb L L.length).toNat * 2 ^ (mb L L.length).toNat := by
    rw [← Int.pow_add]
    congr 1
    omega
  rw [e] at s
  exact (Int.eq_of_mul_eq_mul_left (by have := pow_pos (B - mb L L.length).toNat; omega) s).symm
theorem Told.longest {z : List Int} {B : Int} {L : List Tri} (t : Told z B L) : 1 ≤ mb L L.length ∧ mb L L.length ≤ B := by
  have hle : ∀ j, j < L.length → bit L j ≤ B := fun j hj => by obtain ⟨v, a1, a2, a3, a4, a5, a6⟩ := t.each j hj; exact a5
  have hm := mb_le L B (by have := t.hB; omega) L.length hle
  obtain ⟨v, a1, a2, a3, a4, a5, a6⟩ := t.each 0 t.pos
  have := mb_ge L L.length 0 t.pos
  omega

/-- Has the value v been seen among the first i codes? -/
def seenB (L : List Tri) (i v : Nat) : Bool := decide ((v : Int) ∈ (L.take i).map (·.1))
theorem take_succ_map (L : List Tri) (i : Nat) (h : i < L.length) : (L.take (i + 1)).map (·.1) = (L.take i).map (·.1) ++ [vl L i] := by
  rw [List.take_succ_eq_append_getElem h, List.map_append]
  simp [vl, List.getElem?_eq_getElem h]
theorem seen_succ (L : List Tri) (i v u : Nat) (h : i < L.length) (hv : vl L i = (v : Int)) : seenB L (i + 1) u = (seenB L i u || decide (u = v)) := by
  unfold seenB
  rw [take_succ_map L i h, hv, Bool.eq_iff_iff]
  simp only [decide_eq_true_eq, Bool.or_eq_true, List.mem_append, List.mem_singleton]
  rw [show ((u : Int) = (v : Int)) ↔ u = v by omega]
theorem seen_new {z : List Int} {B : Int} {L : List Tri} (t : Told z B L) (i v : Nat) (h : i < L.length) (hv : vl L i = (v : Int)) : seenB L i v = false := by
  unfold seenB
  have hn := t.nodup
  have hs : ((L.take (i + 1)).map (·.1)).Nodup := by
    rw [List.map_take]
    exact hn.sublist (List.take_sublist _ _)
  rw [take_succ_map L i h, List.nodup_append] at hs
  rw [decide_eq_false_iff_not]
  intro hm
  exact hs.2.2 _ hm _ (by simp) hv.symm
theorem seen_all {z : List Int} {B : Int} {L : List Tri} (t : Told z B L) (v : Nat) (hv : v ≤ z.length) : seenB L L.length v = (decide (v = z.length) || (z.getD v 0 != 0)) := by
  unfold seenB
  rw [List.take_length, Bool.eq_iff_iff]
  simp only [decide_eq_true_eq, Bool.or_eq_true, bne_iff_ne]
  exact t.mem v hv
end Go.Proofs.Ytbhemchnjpajiaa.CM

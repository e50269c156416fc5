/- The law Parts, walked: every test of the law comes out as it must. -/
import Derived.Test.YtbhemchnjpajiaaSpanWalks
import Derived.Test.YtbhemchnjpajiaaTabNum
import Derived.Test.YtbhemchnjpajiaaPartMath
namespace Go.Proofs.Ytbhemchnjpajiaa
open Go.RowKit
set_option linter.unusedVariables false

theorem power_same (n : Int) (w : World) (h0 : 0 ≤ n) (h1 : n ≤ 16) :
    Calls Try.prog 19 #[.int .i64 n] w fun e w' => e = .returned (.int .i64 (2 ^ n.toNat)) ∧ w = w' :=
  (power_any n w h0 h1).mono fun e w' h => ⟨h.1, h.2.symm⟩
theorem owns_one (w : World) (t : TypeId) (v : Value) : (w.alloc (.cells #[v] t)).ownsRow w.heap.size t 1 (.slice (some ⟨w.heap.size, 0, none⟩) 1 1) 1 [v] := by
  refine ⟨rfl, .inr ⟨w.heap.size, 1, #[v], rfl, Nat.le_refl _, heap_alloc_new w _, Nat.le_refl _, by decide, rfl, rfl⟩⟩

set_option maxHeartbeats 400000 in
theorem pick_any (c n : Int) (w : World) (hc : -9223372036854775808 ≤ c ∧ c ≤ 9223372036854775807) (hn : 1 ≤ n ∧ n ≤ 64) :
    Calls Try.prog 17 #[.int .i64 c, .int .i64 n] w fun e w' => (∃ r : Int, e = .returned (.int .i64 r) ∧ 0 ≤ r ∧ r < n) ∧ w = w' := by
  have hne : (n == 0) = false := by simp; omega
  by_cases h : c < 0
  · have h1 := Int.emod_nonneg (-(c + 1)) (show n ≠ 0 by omega)
    have h2 := Int.emod_lt_of_pos (-(c + 1)) (show 0 < n by omega)
    go_enter Try.func17, Try.ntmps17
    go_wp2
    go_ret
    have h3 : -(c + 1).tmod n = -(c + 1) % n := by rw [← Int.neg_tmod, Int.tmod_eq_emod_of_nonneg (by omega)]
    exact ⟨⟨_, rfl, by omega, by omega⟩, rfl⟩
  · have h1 := Int.emod_nonneg c (show n ≠ 0 by omega)
    have h2 := Int.emod_lt_of_pos c (show 0 < n by omega)
    go_enter Try.func17, Try.ntmps17
    go_wp2
    go_ret
    exact ⟨⟨_, rfl, h1, h2⟩, rfl⟩

/-- Counts that may be, none of them 0. -/
def Fine (z : List Int) (S : Int) : Prop := ∀ x ∈ z, x = -1 ∨ (1 ≤ x ∧ x ≤ S)
theorem sum_snoc (l : List Int) (x : Int) : TM.sum (l ++ [x]) (l.length + 1) = TM.sum l l.length + TM.pl x := by
  have key : ∀ k, k ≤ l.length → TM.sum (l ++ [x]) k = TM.sum l k := by
    intro k
    induction k with
    | zero => intro _; rfl
    | succ k ih =>
      intro hk
      simp only [TM.sum]
      rw [ih (by omega)]
      congr 2
      simp only [List.getD_eq_getElem?_getD]
      rw [List.getElem?_append_left (by omega)]
  simp only [TM.sum]
  rw [key _ (Nat.le_refl _)]
  simp
theorem sum_cons (l : List Int) (x : Int) (k : Nat) : TM.sum (x :: l) (k + 1) = TM.pl x + TM.sum l k := by
  induction k with
  | zero => simp [TM.sum]
  | succ k ih =>
    rw [show TM.sum (x :: l) (k + 1 + 1) = TM.sum (x :: l) (k + 1) + TM.pl ((x :: l).getD (k + 1) 0) from rfl, ih]
    simp only [TM.sum]
    rw [show (x :: l).getD (k + 1) 0 = l.getD k 0 by simp]
    omega
theorem fine_snoc {l : List Int} {S x : Int} (h : Fine l S) (hx : x = -1 ∨ (1 ≤ x ∧ x ≤ S)) : Fine (l ++ [x]) S := by
  intro y hy
  simp at hy
  rcases hy with hy | rfl
  · exact h y hy
  · exact hx
theorem fine_fill {l : List Int} {S left : Int} (h : Fine l S) (hs : TM.sum l l.length = S - left) (h1 : 1 ≤ left) (h2 : left ≤ S) (hl : l.length ≤ 15) : TM.fillB (left :: l) S = true ∧ Fine (left :: l) S := by
  have hf : Fine (left :: l) S := by
    intro y hy
    simp at hy
    rcases hy with rfl | hy
    · exact .inr ⟨h1, h2⟩
    · exact h y hy
  refine ⟨?_, hf⟩
  have e : TM.fitsB (left :: l) S = true := (TM.fits_iff _ _).2 fun x hx => by rcases hf x hx with h | h <;> omega
  have e2 : TM.sum (left :: l) (left :: l).length = S := by
    rw [List.length_cons, sum_cons, hs]
    unfold TM.pl
    rw [if_neg (by omega)]
    omega
  unfold TM.fillB
  rw [e, e2]
  simp
  omega

/-- What countsOf answers. -/
def CountsPost (S : Int) (w : World) (e : Ending) (w' : World) : Prop :=
  Below w.heap.size w w' ∧ ∃ g c cs rest, e = .returned (.slice (some ⟨g, 0, none⟩) cs.length c) ∧ w.heap.size ≤ g ∧ Blk w' g 3 (intCells cs ++ rest) ∧ TM.fillB cs S = true ∧ Fine cs S

set_option maxRecDepth 100000 in
set_option maxHeartbeats 1000000 in
theorem countsOf_any (log : Nat) (a : Option Addr) (n cap : Nat) (z : List Int) (w : World) (hI : Ints w a n z) (hR : ∀ x ∈ z, -9223372036854775808 ≤ x ∧ x ≤ 9223372036854775807) (hlog : log = 5 ∨ log = 6) :
    Calls Try.prog 18 #[.int .i64 (log : Int), .slice a n cap] w (CountsPost (2 ^ log : Nat) w) := by
  obtain ⟨hl, hbig, hc⟩ := hI
  have hlg : 5 ≤ log ∧ log ≤ 6 := by rcases hlog with rfl | rfl <;> decide
  have hp64 : 32 ≤ (2 : Int) ^ log ∧ (2 : Int) ^ log ≤ 64 := by rcases hlog with rfl | rfl <;> decide
  have hp : (2 ^ log : Nat) = (2 : Int) ^ log := by simp
  rw [hp]
  clear hp hlog
  obtain ⟨S, hS⟩ : ∃ S : Int, (2 : Int) ^ log = S := ⟨_, rfl⟩
  rw [hS] at hp64 ⊢
  obtain ⟨i0, hi0, hz0', hz1, hz2⟩ := info_parts infoInt
  go_enter Try.func18, Try.ntmps18
  go_wp2_with (go_at_call 19; refine (power_same _ _ (by omega) (by omega)).mono ?_; rintro e w' ⟨rfl, rfl⟩)
  clear hS
  have HR : Hid (∀ k, k < n → -9223372036854775808 ≤ z.getD k 0 ∧ z.getD k 0 ≤ 9223372036854775807) := fun k hk => by
    rw [List.getD_eq_getElem?_getD, List.getElem?_eq_getElem (by omega)]
    exact hR _ (List.getElem_mem _)
  clear hR
  go_loopg [5, 6, 7] n (fun g lv v iv wr => ∃ (i : Nat) (l : List Int) (left : Int), g = n - i ∧ i ≤ n ∧ iv = .int .i64 (i : Int) ∧ lv = .int .i64 left ∧ (1 ≤ left ∧ left ≤ S) ∧ l.length ≤ 15 ∧ Hid (Fine l S) ∧ Hid (TM.sum l l.length = S - left) ∧ wr.ownsRow w.heap.size 3 1 v (l.length + 1) (intCells (0 :: l)) ∧ Below w.heap.size w wr)
  case atStart => exact ⟨0, [], S, by omega, by omega, rfl, rfl, by omega, by simp, by simp [Fine, Hid], by simp [TM.sum, Hid], owns_one w 3 _, (Below.refl _ _).alloc (Nat.le_refl _) _⟩
  case round =>
    obtain ⟨i, l, left, rfl, hi, rfl, rfl, hleft, hl15, hfine, hsum, hown, hbel⟩ := hrel
    have hsz := hbel.size
    by_cases hgo : i < n ∧ l.length < 15 ∧ 1 < left
    · obtain ⟨g1, g2, g3⟩ := hgo
      obtain ⟨b, off, rfl, hlt, hc'⟩ := hc.resolve_left (by omega)
      have hck : wr.cell? ⟨b, off + i, none⟩ = some (.int .i64 (z.getD i 0)) := (hbel.cell (p := ⟨b, off + i, none⟩) hlt).trans (hc' i g1)
      have hrg := HR.out i g1
      have HC : Hid _ := hc
      clear hc hc'
      generalize z.getD i 0 = x at *
      obtain ⟨g, c, rest, rfl, hg1, hblk, hc1, hc2, hc3⟩ := owns_slice hown (by omega)
      have HOWN := hid' hown
      clear hown hblk hc1 hc2 hc3
      have d1 : decide ((i : Int) < (n : Int)) = true := decide_eq_true (by omega)
      have d2 : decide ((l.length : Int) + 1 < 16) = true := decide_eq_true (by omega)
      have d3 : decide (1 < left) = true := decide_eq_true (by omega)
      go_wp2_with fail
      go_at_call 17
      refine (pick_any _ _ _ hrg (by omega)).mono ?_
      rintro e w' ⟨⟨r, rfl, hr0, hr1⟩, rfl⟩
      by_cases hr : r = 0
      · subst hr
        go_wp2_with (first | (at_builtin; refine wpList_append_own _ rfl _ _ 25 rfl w.heap.size 3 i0 _ 1 8 Try.underlying25 hi0 hz0' hz1 hz2 rfl (by decide) _ _ _ rfl (HOWN.out.alloc _) ⟨wr.heap.size, 0, none⟩ 1 1 [.int .i64 (-1)] rfl rfl (cell_one_new _ _ _) (one_one _) (by unfold maxLen; omega) (by omega) (by simp; omega) ?_))
        intro v' w1 hown' hgrow _
        have hb1 : Below w.heap.size w w1 := (hbel.alloc hbel.size _).grown hgrow (by simp; omega) (fun j hj => (HOWN.out.lt j hj).1)
        have HOWN' := hid' hown'
        clear hgrow hck hown'
        go_wp2
        go_roundg (n - (i + 1))
        case rel =>
          refine ⟨i + 1, l ++ [(-1)], left - 1, rfl, by omega, by go_num, by go_num, by omega, by simp; omega, fine_snoc hfine.out (.inl rfl), ?_, ?_, hb1⟩
          · rw [Hid, List.length_append, List.length_singleton, sum_snoc, hsum.out]
            unfold TM.pl
            rw [if_pos rfl]
            omega
          · have := HOWN'.out
            simp only [List.length_append, List.length_singleton]
            have e : intCells (0 :: (l ++ [(-1)])) = intCells (0 :: l) ++ [.int .i64 (-1)] := by simp [intCells]
            rw [e]
            exact this
        case measure => omega
      · have hrb : (r == 0) = false := by simpa using hr
        go_wp2_with (first | (at_builtin; refine wpList_append_own _ rfl _ _ 25 rfl w.heap.size 3 i0 _ 1 8 Try.underlying25 hi0 hz0' hz1 hz2 rfl (by decide) _ _ _ rfl (HOWN.out.alloc _) ⟨wr.heap.size, 0, none⟩ 1 1 [.int .i64 r] rfl rfl (cell_one_new _ _ _) (one_one _) (by unfold maxLen; omega) (by omega) (by simp; omega) ?_))
        intro v' w1 hown' hgrow _
        have hb1 : Below w.heap.size w w1 := (hbel.alloc hbel.size _).grown hgrow (by simp; omega) (fun j hj => (HOWN.out.lt j hj).1)
        have HOWN' := hid' hown'
        clear hgrow hck hown'
        go_wp2
        go_roundg (n - (i + 1))
        case rel =>
          refine ⟨i + 1, l ++ [r], left - r, rfl, by omega, by go_num, by go_num, by omega, by simp; omega, fine_snoc hfine.out (.inr (by omega)), ?_, ?_, hb1⟩
          · rw [Hid, List.length_append, List.length_singleton, sum_snoc, hsum.out]
            unfold TM.pl
            rw [if_neg (by omega)]
            omega
          · have := HOWN'.out
            simp only [List.length_append, List.length_singleton]
            have e : intCells (0 :: (l ++ [r])) = intCells (0 :: l) ++ [.int .i64 r] := by simp [intCells]
            rw [e]
            exact this
        case measure => omega
    · obtain ⟨g, c, rest, rfl, hg1, hblk, hc1, hc2, hc3⟩ := owns_slice hown (by omega)
      have d0 := hblk.cell (j := 0) (v := .int .i64 0) (by simp [intCells])
      have f0 := hblk.free 0
      have HBLK := hid' hblk
      clear hown hblk hc2 hc3
      have hpost : Hid (∀ w', Blk w' g 3 (intCells (left :: l) ++ rest) → Below w.heap.size w w' → CountsPost S w (.returned (.slice (some ⟨g, 0, none⟩) (l.length + 1) c)) w') := by
        intro w' h1 h2
        have := fine_fill hfine.out hsum.out hleft.1 hleft.2 hl15
        exact ⟨h2, g, c, left :: l, rest, rfl, hg1, h1, this.1, this.2⟩
      have hset : Hid ((intCells (0 :: l) ++ rest).set 0 (.int .i64 left) = intCells (left :: l) ++ rest) := by simp [Hid, intCells]
      by_cases g1 : i < n
      · by_cases g2 : l.length < 15
        · have g3 : ¬ 1 < left := fun h => hgo ⟨g1, g2, h⟩
          have d1 : decide ((i : Int) < (n : Int)) = true := decide_eq_true (by omega)
          have d2 : decide ((l.length : Int) + 1 < 16) = true := decide_eq_true (by omega)
          have d3 : decide (1 < left) = false := decide_eq_false (by omega)
          clear hgo
          go_wp2
          go_ret
          exact hpost.out _ (by rw [← hset.out]; exact HBLK.out.put _ _) (hbel.setCell hg1 _)
        · have d1 : decide ((i : Int) < (n : Int)) = true := decide_eq_true (by omega)
          have d2 : decide ((l.length : Int) + 1 < 16) = false := decide_eq_false (by omega)
          clear hgo
          go_wp2
          go_ret
          exact hpost.out _ (by rw [← hset.out]; exact HBLK.out.put _ _) (hbel.setCell hg1 _)
      · have d1 : decide ((i : Int) < (n : Int)) = false := decide_eq_false (by omega)
        clear hgo
        go_wp2
        go_ret
        exact hpost.out _ (by rw [← hset.out]; exact HBLK.out.put _ _) (hbel.setCell hg1 _)
end Go.Proofs.Ytbhemchnjpajiaa

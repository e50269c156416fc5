/- Several texts in one: RefWts, PrWts, PrLit, PrLit2. -/
import Derived.Test.YtbhemchnjpajiaaGreatDoorJF
import Derived.Deep.RegionLaw
import Derived.Deep.AppendLies
/- The weights of the document's reader, walked. -/
namespace Go.Proofs.YtbhemchnjpajiaaGreatDoor
open Go.RowKit
set_option linter.unusedVariables false

theorem halves_length (s : RD.Bytes) : (RD.halves s).length = 2 * s.length := by
  induction s with
  | nil => rfl
  | cons b r ih =>
    simp only [RD.halves, List.flatMap_cons, List.length_append, List.length_cons] at *
    rw [ih]
    simp
    omega
theorem halves_take (s : RD.Bytes) (i : Nat) (h : i < s.length) : RD.halves (s.take (i + 1)) = RD.halves (s.take i) ++ [((RD.at' s i % 16 : Nat) : Int)] ++ [((RD.at' s i / 16 : Nat) : Int)] := by
  rw [List.take_succ_eq_append_getElem h, RD.at_getElem _ _ h]
  unfold RD.halves
  rw [List.flatMap_append, List.flatMap_cons, List.flatMap_nil, List.append_nil, List.append_assoc]
  rfl

def WeightsPost (s : RD.Bytes) (n : Nat) (w : World) (e : Ending) (w' : World) : Prop :=
  Below w.heap.size w w' ∧ ((RD.weights s n = none ∧ e = .returned (.tuple #[.slice none 0 0, .bool false])) ∨
    ∃ z a c, RD.weights s n = some z ∧ e = .returned (.tuple #[.slice a n c, .bool true]) ∧ Ints w' a n z)

set_option maxRecDepth 100000 in
set_option maxHeartbeats 1000000 in
theorem weights_any (s : RD.Bytes) (n : Nat) (w : World) (hs : s.length ≤ 1048576) (hn : n ≤ 255) :
    Calls Tryz.prog 109 #[.string (RD.bs s), .int .i64 n] w (WeightsPost s n w) := by
  have hz := RD.bs_size s
  obtain ⟨i0, hi0, hz0', hz1, hz2⟩ := info_parts infoI
  go_enter Tryz.func109, Tryz.ntmps109
  go_wp2_with fail
  go_loopg [6, 7] ((n + 1) / 2) (fun g v iv wr => ∃ i : Nat, g = (n + 1) / 2 - i ∧ i ≤ (n + 1) / 2 ∧ i ≤ s.length ∧ iv = .int .i64 (i : Int) ∧ OwnI w.heap.size wr v (RD.halves (s.take i)) ∧ Below w.heap.size w wr)
  case atStart => exact ⟨0, by omega, by omega, by omega, rfl, World.ownsRow_nil _ _ _ _, Below.refl _ _⟩
  case round =>
    obtain ⟨i, rfl, hi, his, rfl, hown, hbel⟩ := hrel
    have hown := hid' hown
    have hbel := hid' hbel
    have hsz := hbel.out.size
    by_cases hlt : i < (n + 1) / 2
    · by_cases hls : i < s.length
      · have hg := bs_byte s i (by omega)
        have hb := RD.at_lt s i
        have hht := hid' (halves_take s i hls)
        have hhl := halves_length (s.take i)
        have hhl' : (RD.halves (s.take i)).length ≤ 512 := by rw [hhl]; simp; omega
        clear hhl
        generalize RD.at' s i = b at *
        have hm1 : ((b : Nat) : Int).tmod 16 = ((b % 16 : Nat) : Int) := by rw [Int.tmod_eq_emod_of_nonneg (by omega)]; omega
        have hq1 : ((b : Nat) : Int) / 16 = ((b / 16 : Nat) : Int) := by omega
        have hb1 : b % 16 ≤ 15 := by omega
        have hb2 : b / 16 ≤ 15 := by omega
        generalize b % 16 = lo at *
        generalize b / 16 = hi' at *
        go_wp2_with (at_builtin; refine wpList_append_own _ rfl _ _ 27 rfl w.heap.size 3 i0 _ 1 8 Tryz.underlying27 hi0 hz0' hz1 hz2 rfl (by decide) _ _ _ rfl (World.ownsRow.alloc hown.out _) ⟨wr.heap.size, 0, none⟩ 1 1 [.int .i64 (lo : Int)] rfl rfl (one_new _ _ _) (one_one _) (by unfold maxLen; omega) (by omega) (by simp; omega) ?_)
        intro v1 w1 hown1 hgrow _
        have hbel1 : Below w.heap.size w w1 := (hbel.out.alloc hbel.out.size _).grown hgrow (by simp; omega) (fun k hk => (World.ownsRow.lt hown.out k hk).1)
        have hown1' : Hid (OwnI w.heap.size w1 v1 (RD.halves (s.take i) ++ [(lo : Int)])) := by
          unfold Hid OwnI
          rw [List.length_append, List.length_singleton]
          have e2 : intCells (RD.halves (s.take i) ++ [(lo : Int)]) = intCells (RD.halves (s.take i)) ++ [.int .i64 (lo : Int)] := by simp [intCells]
          rw [e2]
          exact hown1
        clear hown1 hgrow
        have hsz1 := hbel1.size
        have hbel1 := hid' hbel1
        go_wp2_with (at_builtin; refine wpList_append_own _ rfl _ _ 27 rfl w.heap.size 3 i0 _ 1 8 Tryz.underlying27 hi0 hz0' hz1 hz2 rfl (by decide) _ _ _ rfl (World.ownsRow.alloc hown1'.out _) ⟨w1.heap.size, 0, none⟩ 1 1 [.int .i64 (hi' : Int)] rfl rfl (one_new _ _ _) (one_one _) (by unfold maxLen; rw [List.length_append, List.length_singleton]; omega) (by rw [List.length_append, List.length_singleton]; omega) (by simp; omega) ?_)
        intro v2 w2 hown2 hgrow _
        have hbel2 : Below w.heap.size w w2 := (hbel1.out.alloc hbel1.out.size _).grown hgrow (by simp; omega) (fun k hk => (World.ownsRow.lt hown1'.out k hk).1)
        have hown2' : Hid (OwnI w.heap.size w2 v2 (RD.halves (s.take (i + 1)))) := by
          unfold Hid OwnI
          rw [hht.out, List.length_append, List.length_singleton, List.length_append, List.length_singleton]
          have e2 : intCells (RD.halves (s.take i) ++ [(lo : Int)] ++ [(hi' : Int)]) = intCells (RD.halves (s.take i) ++ [(lo : Int)]) ++ [.int .i64 (hi' : Int)] := by simp [intCells]
          rw [e2]
          exact hown2
        clear hown2 hgrow
        go_wp2
        go_roundg ((n + 1) / 2 - (i + 1))
        case rel => exact ⟨i + 1, rfl, by omega, by omega, by go_num, hown2'.out, hbel2⟩
        case measure => omega
      · go_wp2_with fail
        go_ret2
        refine ⟨hbel.out, .inl ⟨?_, rfl⟩⟩
        rw [RD.weights, if_pos (by omega)]
    · obtain rfl : i = (n + 1) / 2 := by omega
      have hw : Hid (RD.weights s n = if n < (RD.halves (s.take ((n + 1) / 2))).length ∧ (RD.halves (s.take ((n + 1) / 2))).getD n 0 ≠ 0 then none else some ((RD.halves (s.take ((n + 1) / 2))).take n)) := by
        unfold Hid RD.weights
        rw [if_neg (by omega)]
      have hl : (RD.halves (s.take ((n + 1) / 2))).length = 2 * ((n + 1) / 2) := by rw [halves_length]; simp; omega
      obtain ⟨a, c, rfl⟩ := hown.out.slice
      have hI := hown.out.ints (by omega)
      obtain ⟨hr1, hr2, hr3⟩ := hown.out.room
      unfold maxLen at hr2
      generalize RD.halves (s.take ((n + 1) / 2)) = z at *
      clear hown
      rw [hl] at hI hw hr1 hr3 ⊢
      have Hl := hid' hl
      clear hl
      by_cases heven : 2 * ((n + 1) / 2) = n
      · rw [heven] at hI hw hr1 hr3 ⊢
        have hw' : Hid (RD.weights s n = some (z.take n)) := by
          unfold Hid
          rw [hw.out, if_neg (by omega)]
        have hI' := hid' (hI.take (Nat.le_refl n))
        rcases hr3 with hr3 | ⟨g, rfl⟩
        · subst hr3
          cases a with
          | none =>
            go_wp2_with fail
            go_ret2
            exact ⟨hbel.out, .inr ⟨_, _, _, hw'.out, rfl, ⟨by simp, by omega, .inl rfl⟩⟩⟩
          | some ad =>
            go_wp2_with fail
            go_ret2
            exact ⟨hbel.out, .inr ⟨_, _, _, hw'.out, rfl, ⟨by simp, by omega, .inl rfl⟩⟩⟩
        · go_wp2_with fail
          go_ret2
          exact ⟨hbel.out, .inr ⟨_, _, _, hw'.out, rfl, hI'.out⟩⟩
      · have hodd : 2 * ((n + 1) / 2) = n + 1 := by omega
        rw [hodd] at hI hw hr1 hr3 ⊢
        have hI' := hid' (hI.take (Nat.le_succ n))
        obtain ⟨g, rfl⟩ := hr3.resolve_left (by omega)
        obtain ⟨b, off, hb, hlt', hc⟩ := hI.2.2.resolve_left (by omega)
        obtain ⟨rfl, rfl⟩ : g = b ∧ 0 = off := by simpa using hb
        have hcn := hc n (by omega)
        rw [Nat.zero_add] at hcn
        clear hb hc
        by_cases hzn : z.getD n 0 = 0
        · rw [hzn] at hcn
          have hw' : Hid (RD.weights s n = some (z.take n)) := by
            unfold Hid
            rw [hw.out, if_neg (by rw [hzn]; simp)]
          go_wp2_with fail
          go_ret2
          exact ⟨hbel.out, .inr ⟨_, _, _, hw'.out, rfl, hI'.out⟩⟩
        · have hw' : Hid (RD.weights s n = none) := by
            unfold Hid
            rw [hw.out, if_pos ⟨by omega, hzn⟩]
          have hzb : (z.getD n 0 == 0) = false := by simpa using hzn
          generalize z.getD n 0 = x at *
          go_wp2_with fail
          go_ret2
          exact ⟨hbel.out, .inl ⟨hw'.out, rfl⟩⟩
end Go.Proofs.YtbhemchnjpajiaaGreatDoor

/- The weights of literals, as the program reads them (package literals, readWeights), walked. -/
namespace Go.Proofs.YtbhemchnjpajiaaGreatDoor
open Go.RowKit
set_option linter.unusedVariables false

theorem num_one (l : RD.Bytes) (h : 1 ≤ l.length) : RD.num (l.take 1) = RD.at' l 0 := by
  match l, h with
  | a :: r, _ => simp [RD.num, RD.at']
theorem At1.put {w : World} {p : Nat} {l : RD.Bytes} (h : At1 w p l) (t : RD.Bytes) : At1 (w.setCell ⟨p, 0, none⟩ (.string (RD.bs t))) p t := Blk.put h 0 _
theorem At1.below {w w' : World} {p : Nat} {l : RD.Bytes} (h : At1 w p l) (hb : Below w.heap.size w w') : At1 w' p l := Blk.below h hb (Blk.lt h)
theorem two_new (w : World) (t : TypeId) (x y : Value) : ∀ j u, [x, y][j]? = some u → (w.alloc (.cells #[x, y] t)).cell? ((⟨w.heap.size, 0, none⟩ : Addr).add j) = some u := by
  intro j u hj
  match j, hj with
  | 0, hj => simp at hj; subst hj; simp [Addr.add]
  | 1, hj => simp at hj; subst hj; simp [Addr.add]
theorem two_one (x y : Int) : ∀ u ∈ [Value.int .i64 x, .int .i64 y], u.oneCell' = true := by
  intro u hu; simp at hu; rcases hu with rfl | rfl <;> rfl

theorem below_drew {B : Nat} {a w : World} (h : Below B a w) : Below B a w.drew := ⟨h.os, h.tape, h.output, h.size, h.block⟩
def RWPost (x : Fx) (p : Nat) (l : RD.Bytes) (w : World) (e : Ending) (w' : World) : Prop :=
  Only (· = p) w w' ∧ (((l.length = 0 ∨ RD.weights (l.drop 1) (RD.at' l 0) = none) ∧ e = .returned (.tuple #[.slice none 0 0, errV x.f])) ∨
    ∃ z a c, 0 < l.length ∧ RD.weights (l.drop 1) (RD.at' l 0) = some z ∧ (RD.at' l 0 + 1) / 2 ≤ (l.drop 1).length ∧ e = .returned (.tuple #[.slice a (RD.at' l 0) c, .nilIface]) ∧ Ints w' a (RD.at' l 0) z ∧ At1 w' p (l.drop (1 + (RD.at' l 0 + 1) / 2)))

set_option maxRecDepth 100000 in
set_option maxHeartbeats 1000000 in
theorem readWeights_any (x : Fx) (p : Nat) (l : RD.Bytes) (w : World) (h : At1 w p l) (hV : VarsAt x w) (hs : l.length ≤ 1048576) (hpb : x.base ≤ p) :
    Calls Tryz.prog 143 #[.pointer (some ⟨p, 0, none⟩)] w (RWPost x p l w) := by
  obtain ⟨i0, hi0, hz0', hz1, hz2⟩ := info_parts infoI
  go_enter Tryz.func143, Tryz.ntmps143
  go_wp2_with fail
  refine (bnum_any x p l 1 _ h hV (by omega) (by omega)).mono ?_
  rintro e w1 (⟨h1, rfl, hb⟩ | ⟨h1, rfl, rfl⟩)
  · have cF := (hV.below hb).cF
    go_wp2_with fail
    go_ret2
    exact ⟨below_only hb, .inl ⟨.inl (by omega), rfl⟩⟩
  · have hA1 : At1 (w.setCell ⟨p, 0, none⟩ (.string (RD.bs (l.drop 1)))) p (l.drop 1) := h.put _
    have hO1 : Only (· = p) w (w.setCell ⟨p, 0, none⟩ (.string (RD.bs (l.drop 1)))) := (Only.refl _ _).setCell _ _ (fun _ => rfl)
    have hV1 := hV.only hO1 (fun k e => by omega)
    generalize w.setCell ⟨p, 0, none⟩ (.string (RD.bs (l.drop 1))) = w1 at *
    rw [num_one l h1]
    have hb0 := RD.at_lt l 0
    obtain ⟨n, hn⟩ : ∃ n, n = RD.at' l 0 := ⟨_, rfl⟩
    rw [← hn] at hb0
    rw [← hn]
    replace hn := hid' hn
    obtain ⟨s, hsd⟩ : ∃ s, s = l.drop 1 := ⟨_, rfl⟩
    have hsl : s.length ≤ 1048576 := by rw [hsd]; simp; omega
    rw [← hsd] at hA1
    replace hsd := hid' hsd
    have hq : ((n : Int) + 1) / 2 = (((n + 1) / 2 : Nat) : Int) := by omega
    obtain ⟨k, hk⟩ : ∃ k, k = (n + 1) / 2 := ⟨_, rfl⟩
    rw [← hk] at hq
    have hkb : k ≤ 128 := by omega
    replace hk := hid' hk
    go_wp2_with fail
    refine (btake_any x p s k _ hA1 hV1 (by omega) (by omega)).mono ?_
    rintro e w2 (⟨h2, rfl, hb⟩ | ⟨h2, rfl, rfl⟩)
    · have cF := (hV1.below hb).cF
      clear hq
      go_wp2_with fail
      go_ret2
      refine ⟨hO1.below hb, .inl ⟨.inr ?_, rfl⟩⟩
      rw [← hn.out, ← hsd.out, RD.weights, if_pos (by have := hk.out; omega)]
    · have hA2 : At1 (w1.setCell ⟨p, 0, none⟩ (.string (RD.bs (s.drop k)))) p (s.drop k) := hA1.put _
      have hO2 : Only (· = p) w (w1.setCell ⟨p, 0, none⟩ (.string (RD.bs (s.drop k)))) := hO1.setCell _ _ (fun _ => rfl)
      have hV2 := hV.only hO2 (fun k e => by omega)
      generalize w1.setCell ⟨p, 0, none⟩ (.string (RD.bs (s.drop k))) = w2 at *
      clear hq
      have hst : (s.take k).length = k := by simp; omega
      have hz := RD.bs_size (s.take k)
      rw [hst] at hz
      clear hst
      go_wp2_with fail
      go_loopg [7, 30] (k + 1) (fun gh v iv wr => ∃ i : Nat, gh = k + 1 - i ∧ i ≤ k ∧ iv = .int .i64 (i : Int) ∧ OwnI w2.heap.size wr v (RD.halves (s.take i)) ∧ Below w2.heap.size w2 wr)
      case atStart => exact ⟨0, rfl, by omega, rfl, World.ownsRow_nil _ _ _ _, Below.refl _ _⟩
      case round =>
        obtain ⟨i, rfl, hi, rfl, hown, hbel⟩ := hrel
        have hsz := hbel.size
        by_cases hlt : i < k
        · have hb' : Hid _ := bs_byte (s.take k) i (by omega)
          have hat : RD.at' (s.take k) i = RD.at' s i := by
            rw [RD.at_getElem _ _ (by simp; omega), RD.at_getElem _ _ (by omega), List.getElem_take]
          rw [hat] at hb'
          have hb := RD.at_lt s i
          have hht := hid' (halves_take s i (by omega))
          have hhl := halves_length (s.take i)
          have hhl' : (RD.halves (s.take i)).length ≤ 512 := by rw [hhl]; simp; omega
          clear hhl hat
          obtain ⟨a, c, rfl⟩ := hown.slice
          replace hown := hid' hown
          replace hbel := hid' hbel
          have g1 : IntKind.i64.wrap (bits .and .u8 (((RD.bs (s.take k))[i]'(by omega)).toNat : Int) 15) = ((RD.at' s i % 16 : Nat) : Int) := by
            have e := u8_and_nat (RD.at' s i) 15 (by omega) (by omega)
            rw [show (15 : Nat) = 2 ^ 4 - 1 by rfl, Nat.and_two_pow_sub_one_eq_mod] at e
            rw [hb'.out, show (15 : Int) = ((2 ^ 4 - 1 : Nat) : Int) by rfl, e, IntKind.wrap_i64]
            omega
          have g2 : IntKind.i64.wrap ((((RD.bs (s.take k))[i]'(by omega)).toNat : Int) / 16) = ((RD.at' s i / 16 : Nat) : Int) := by
            rw [hb'.out, IntKind.wrap_i64]
            omega
          go_wp2_with fail
          go_region_law (refine step_append_lies _ rfl (.tmp 33) (.tmp 44) 27 rfl w2.heap.size 3 i0 _ 1 8 Tryz.underlying27 hi0 hz0' hz1 hz2 rfl (by decide) (.slice a (RD.halves (s.take i)).length c) _ _ rfl (World.ownsRow.alloc hown.out _) ⟨wr.heap.size, 0, none⟩ 2 2 [.int .i64 ((RD.at' s i % 16 : Nat) : Int), .int .i64 ((RD.at' s i / 16 : Nat) : Int)] rfl rfl (two_new _ _ _ _) (two_one _ _) (by omega) (by unfold maxLen; omega) (by omega) (by simp; omega) _ rfl ?_; intro g cap w3 hown3 hgrow hg hlt3)
          all_goals
            have hbd : Below w2.heap.size w2 (wr.alloc (.cells #[.int .i64 ((RD.at' s i % 16 : Nat) : Int), .int .i64 ((RD.at' s i / 16 : Nat) : Int)] 3)).drew := below_drew (hbel.out.alloc hsz _)
            have hbel3 : Hid (Below w2.heap.size w2 w3) := hbd.grown hgrow (by simp; omega) (fun k hk => (World.ownsRow.lt hown.out k hk).1)
            have hown3' : Hid (OwnI w2.heap.size w3 (.slice (some ⟨g, 0, none⟩) ((RD.halves (s.take i)).length + 2) cap) (RD.halves (s.take (i + 1)))) := by
              unfold Hid OwnI
              rw [hht.out, List.length_append, List.length_singleton, List.length_append, List.length_singleton]
              have e2 : intCells (RD.halves (s.take i) ++ [((RD.at' s i % 16 : Nat) : Int)] ++ [((RD.at' s i / 16 : Nat) : Int)]) = intCells (RD.halves (s.take i)) ++ [.int .i64 ((RD.at' s i % 16 : Nat) : Int), .int .i64 ((RD.at' s i / 16 : Nat) : Int)] := by simp [intCells]
              rw [e2]
              exact hown3
            clear hgrow hown3 hg hbd
            go_wp2
            go_roundg (k + 1 - (i + 1))
            case rel => exact ⟨i + 1, rfl, by omega, by go_num, hown3'.out, hbel3.out⟩
            case measure => omega
        · obtain rfl : i = k := by omega
          have hl : (RD.halves (s.take i)).length = 2 * i := by rw [halves_length]; simp; omega
          have hw : Hid (RD.weights s n = if n < (RD.halves (s.take i)).length ∧ (RD.halves (s.take i)).getD n 0 ≠ 0 then none else some ((RD.halves (s.take i)).take n)) := by
            unfold Hid RD.weights
            rw [if_neg (by have := hk.out; omega), ← hk.out]
          obtain ⟨a, c, rfl⟩ := hown.slice
          have hI := hown.ints (by omega)
          obtain ⟨hr1, hr2, hr3⟩ := hown.room
          unfold maxLen at hr2
          have hAw : At1 wr p (s.drop i) := Blk.below hA2 hbel (Blk.lt hA2)
          have hOw : Hid (Only (· = p) w wr) := hO2.below hbel
          have cF := (hV2.below hbel).cF
          have hAd : Hid (s.drop i = l.drop (1 + (RD.at' l 0 + 1) / 2)) := by
            rw [Hid, hsd.out, hk.out, hn.out, List.drop_drop]
          have hls : (RD.at' l 0 + 1) / 2 ≤ (l.drop 1).length := by rw [← hsd.out, ← hn.out, ← hk.out]; omega
          rw [hAd.out] at hAw
          clear hown hAd
          generalize RD.halves (s.take i) = z at *
          have hk2 := hk.out
          rw [hl] at hI hw hr1 hr3 ⊢
          replace hl := hid' hl
          replace hAw := hid' hAw
          by_cases heven : 2 * i = n
          · rw [heven] at hI hw hr1 hr3 ⊢
            have hw' : Hid (RD.weights s n = some (z.take n)) := by
              unfold Hid
              rw [hw.out, if_neg (by omega)]
            have hI' := hid' (hI.take (Nat.le_refl n))
            clear hk2 heven
            rcases hr3 with hr3 | ⟨g, rfl⟩
            · subst hr3
              rw [hsd.out, hn.out] at hw'
              cases a with
              | none =>
                go_wp2_with fail
                go_ret2
                exact ⟨hOw.out, .inr ⟨_, _, _, by omega, hw'.out, hls, by rw [← hn.out]; rfl, by rw [← hn.out]; exact ⟨by simp, by omega, .inl rfl⟩, hAw.out⟩⟩
              | some ad =>
                go_wp2_with fail
                go_ret2
                exact ⟨hOw.out, .inr ⟨_, _, _, by omega, hw'.out, hls, by rw [← hn.out]; rfl, by rw [← hn.out]; exact ⟨by simp, by omega, .inl rfl⟩, hAw.out⟩⟩
            · go_wp2_with fail
              go_ret2
              exact ⟨hOw.out, .inr ⟨z.take n, some ⟨g, 0, none⟩, _, by omega, by rw [← hsd.out, ← hn.out]; exact hw'.out, hls, by rw [← hn.out]; rfl, by rw [← hn.out]; exact hI'.out, hAw.out⟩⟩
          · have hodd : 2 * i = n + 1 := by omega
            rw [hodd] at hI hw hr1 hr3 ⊢
            have hI' := hid' (hI.take (Nat.le_succ n))
            clear hk2 heven hodd
            obtain ⟨g, rfl⟩ := hr3.resolve_left (by omega)
            obtain ⟨b, off, hb, hlt', hc⟩ := hI.2.2.resolve_left (by omega)
            obtain ⟨rfl, rfl⟩ : g = b ∧ 0 = off := by simpa using hb
            have hcn := hc n (by omega)
            rw [Nat.zero_add] at hcn
            clear hb hc
            by_cases hzn : z.getD n 0 = 0
            · rw [hzn] at hcn
              have hw' : Hid (RD.weights s n = some (z.take n)) := by
                unfold Hid
                rw [hw.out, if_neg (by rw [hzn]; simp)]
              go_wp2_with fail
              go_ret2
              exact ⟨hOw.out, .inr ⟨z.take n, some ⟨g, 0, none⟩, _, by omega, by rw [← hsd.out, ← hn.out]; exact hw'.out, hls, by rw [← hn.out]; rfl, by rw [← hn.out]; exact hI'.out, hAw.out⟩⟩
            · have hw' : Hid (RD.weights s n = none) := by
                unfold Hid
                rw [hw.out, if_pos ⟨by omega, hzn⟩]
              have hzb : (z.getD n 0 == 0) = false := by simpa using hzn
              generalize z.getD n 0 = y at *
              go_wp2_with fail
              go_quiet (fail)
              go_wp2
              go_ret2
              exact ⟨hOw.out.drewN _, .inl ⟨.inr (by rw [← hsd.out, ← hn.out]; exact hw'.out), rfl⟩⟩
end Go.Proofs.YtbhemchnjpajiaaGreatDoor

/- The literals of a block, as the program reads them (package literals), walked. -/
namespace Go.Proofs.YtbhemchnjpajiaaGreatDoor
open Go.RowKit
set_option linter.unusedVariables false

theorem Blk.ne {w : World} {a b : Nat} {t u : TypeId} {xs ys : List Value} (h : Blk w a t xs) (k : Blk w b u ys) (hne : t ≠ u) : a ≠ b := by
  intro e
  subst e
  have h1 : w.heap[a]? = some (.cells xs.toArray t (0, 0)) := h
  have h2 : w.heap[a]? = some (.cells ys.toArray u (0, 0)) := k
  rw [h1] at h2
  injection h2 with h2
  injection h2 with _ h2
  exact hne h2

/-- The codes that a table is made of, if the bytes tell some. -/
def wcodes (l : RD.Bytes) : Option (List CM.Tri) :=
  if l.length = 0 then none
  else match RD.weights (l.drop 1) (RD.at' l 0) with
    | none => none
    | some z => if CM.good z = true then some (CM.codes z) else none
def RTPost (x : Fx) (p : Nat) (l : RD.Bytes) (w : World) (e : Ending) (w' : World) : Prop :=
  Only (· = p) w w' ∧ ((wcodes l = none ∧ e = .returned (.tuple #[.pointer none, errV x.f])) ∨
    ∃ cs T, wcodes l = some cs ∧ (RD.at' l 0 + 1) / 2 ≤ (l.drop 1).length ∧ 0 < l.length ∧ e = .returned (.tuple #[.pointer (some ⟨T, 0, none⟩), .nilIface]) ∧ TblAt w' T cs ∧ At1 w' p (l.drop (1 + (RD.at' l 0 + 1) / 2)) ∧ w.heap.size ≤ T)

set_option maxRecDepth 100000 in
set_option maxHeartbeats 1000000 in
theorem readTable_any (x : Fx) (p : Nat) (l : RD.Bytes) (w : World) (h : At1 w p l) (hV : VarsAt x w) (hs : l.length ≤ 1048576) (hpb : x.base ≤ p) :
    Calls Tryz.prog 134 #[.pointer (some ⟨p, 0, none⟩)] w (RTPost x p l w) := by
  go_enter Tryz.func134, Tryz.ntmps134
  go_wp2_with fail
  refine (readWeights_any x p l _ h hV hs hpb).mono ?_
  rintro e w1 ⟨ho, ⟨hn, rfl⟩ | ⟨z, a, c, hl, hz, hln, rfl, hI, hA⟩⟩
  · go_wp2_with fail
    go_ret2
    refine ⟨ho, .inl ⟨?_, rfl⟩⟩
    unfold wcodes
    rcases hn with hn | hn
    · rw [if_pos hn]
    · rw [hn]
      split <;> rfl
  · have hV1 := hV.only ho (fun k e => by omega)
    have hsz := ho.size
    have hwc : Hid (wcodes l = if CM.good z = true then some (CM.codes z) else none) := by
      unfold Hid wcodes
      rw [if_neg (by omega), hz]
    cases hg : CM.good z with
    | false =>
      rw [hg] at hwc
      have cF := hV1.cF
      go_wp2_with fail
      refine (codes_bad a _ c z _ hI hg).mono ?_
      rintro e w2 ⟨rfl, rfl⟩
      go_wp2_with fail
      go_quiet (fail)
      go_wp2
      go_ret2
      exact ⟨ho.drewN _, .inl ⟨hwc.out, rfl⟩⟩
    | true =>
      rw [hg] at hwc
      have hok := RD.codesOk hg
      have hpos : 0 < (CM.codes z).length := by
        rcases Nat.eq_zero_or_pos (CM.codes z).length with e | e
        · have := hok.all
          rw [List.eq_nil_of_length_eq_zero e] at this
          simp [RD.entries] at this
        · exact e
      go_wp2_with fail
      refine (codes_rows a _ c z _ hI hg hpos).mono ?_
      rintro e w2 ⟨g, cc, rest, rfl, hg2, hB2, hc1, hc2, hc3, hb2⟩
      have hA2 := hA.below hb2
      generalize CM.codes z = cs at *
      go_wp2_with fail
      refine (newTable_any g cc cs rest _ hok hB2 hc1).mono ?_
      rintro e w3 ⟨rfl, hB3, hb3⟩
      have hA3 := hA2.below hb3
      have hbs := hb2.size
      go_wp2_with fail
      go_ret2
      exact ⟨(ho.below hb2).below hb3, .inr ⟨cs, _, hwc.out, hln, hl, rfl, ⟨hB3, hok⟩, hA3, by omega⟩⟩

/-- The codes of the last block that had some, as a reader keeps them. -/
def LitOk (w : World) (v : Value) (cs : List CM.Tri) : Prop := (cs = [] ∧ v = .pointer none) ∨ ∃ T, v = .pointer (some ⟨T, 0, none⟩) ∧ TblAt w T cs
theorem LitOk.only {G : Nat → Prop} {w w' : World} {v : Value} {cs : List CM.Tri} (h : LitOk w v cs) (ho : Only G w w') (hn : ∀ T xs, Blk w T 288 xs → ¬ G T) : LitOk w' v cs := by
  rcases h with h | ⟨T, rfl, hB, hc⟩
  · exact .inl h
  · exact .inr ⟨T, rfl, hB.only ho (hn T _ hB), hc⟩
theorem CodesOk_ne {cs : List CM.Tri} (h : RD.CodesOk cs) : cs.length ≠ 0 := by
  intro e
  have := h.all
  rw [List.eq_nil_of_length_eq_zero e] at this
  simp [RD.entries] at this
def byCodesL (l : RD.Bytes) (cs : List CM.Tri) (m : Nat) : Option (RD.Bytes × Nat) :=
  if cs.length = 0 ∨ l.length < 2 then none
  else if l.length < 2 + RD.num (l.take 2) then none
  else match RD.coded ((l.drop 2).take (RD.num (l.take 2))) cs m with
    | none => none
    | some out => some (out, 2 + RD.num (l.take 2))
theorem byCodes_L (s : RD.Bytes) (cs : List CM.Tri) (m i : Nat) (h : i ≤ s.length) : RD.byCodes s cs m i = (byCodesL (s.drop i) cs m).map fun r => (r.1, i + r.2) := by
  unfold RD.byCodes byCodesL
  have e : (s.drop i).length = s.length - i := by simp
  rw [e]
  by_cases h1 : cs.length = 0 ∨ s.length < i + 2
  · rw [if_pos h1, if_pos (show cs.length = 0 ∨ s.length - i < 2 by omega)]; rfl
  · rw [if_neg h1, if_neg (show ¬ (cs.length = 0 ∨ s.length - i < 2) by omega)]
    show (if s.length < i + 2 + RD.num ((s.drop i).take 2) then none else match RD.coded ((s.drop (i + 2)).take (RD.num ((s.drop i).take 2))) cs m with
      | none => none
      | some out => some (out, i + 2 + RD.num ((s.drop i).take 2))) = _
    by_cases h2 : s.length < i + 2 + RD.num ((s.drop i).take 2)
    · rw [if_pos h2, if_pos (by omega)]; rfl
    · rw [if_neg h2, if_neg (by omega), List.drop_drop]
      cases RD.coded ((s.drop (i + 2)).take (RD.num ((s.drop i).take 2))) cs m with
      | none => rfl
      | some out => simp [Nat.add_assoc]
def RCPost (x : Fx) (p : Nat) (l : RD.Bytes) (cs : List CM.Tri) (m : Nat) (w : World) (e : Ending) (w' : World) : Prop :=
  Only (· = p) w w' ∧ ((byCodesL l cs m = none ∧ e = .returned (.tuple #[.string (RD.bs []), errV x.f])) ∨
    ∃ out k, byCodesL l cs m = some (out, k) ∧ k ≤ l.length ∧ e = .returned (.tuple #[.string (RD.bs out), .nilIface]) ∧ At1 w' p (l.drop k))

set_option maxRecDepth 100000 in
set_option maxHeartbeats 1000000 in
theorem readCoded_any (x : Fx) (g o p : Nat) (t : TypeId) (gs : List Value) (v : Value) (cs : List CM.Tri) (l : RD.Bytes) (m : Nat) (w : World) (hG : Blk w g t gs) (hv : gs[o]? = some v) (hL : LitOk w v cs) (hgp : g ≠ p)
    (h : At1 w p l) (hV : VarsAt x w) (hs : l.length ≤ 1048576) (hpb : x.base ≤ p) (hm : m ≤ 1024) :
    Calls Tryz.prog 135 #[.pointer (some ⟨g, o, none⟩), .pointer (some ⟨p, 0, none⟩), .int .i64 m] w (RCPost x p l cs m w) := by
  have cG := hG.cell hv
  rcases hL with ⟨rfl, rfl⟩ | ⟨T, rfl, hB, hc⟩
  · have cF := hV.cF
    go_enter Tryz.func135, Tryz.ntmps135
    go_wp2_with fail
    go_quiet (fail)
    go_wp2
    go_ret2
    exact ⟨(Only.refl _ w).drewN _, .inl ⟨by simp [byCodesL], rfl⟩⟩
  · have hne := CodesOk_ne hc
    have hTp : T ≠ p := hB.ne h (by decide)
    go_enter Tryz.func135, Tryz.ntmps135
    go_wp2_with fail
    refine (bnum_any x p l 2 _ h hV (by omega) (by omega)).mono ?_
    rintro e w1 (⟨h1, rfl, hb⟩ | ⟨h1, rfl, rfl⟩)
    · go_wp2_with fail
      go_ret2
      exact ⟨below_only hb, .inl ⟨by rw [byCodesL, if_pos (.inr h1)], rfl⟩⟩
    · have hA1 := h.put (l.drop 2)
      have hO1 : Only (· = p) w (w.setCell ⟨p, 0, none⟩ (.string (RD.bs (l.drop 2)))) := (Only.refl _ _).setCell _ _ (fun _ => rfl)
      have hV1 := hV.only hO1 (fun k e => by omega)
      have hB1 := hB.only hO1 hTp
      have hG1 := hG.only hO1 hgp
      generalize w.setCell ⟨p, 0, none⟩ (.string (RD.bs (l.drop 2))) = w1 at *
      have hz := num_small3 l 2 (by omega)
      have hbl : Hid (byCodesL l cs m = if l.length < 2 + RD.num (l.take 2) then none else match RD.coded ((l.drop 2).take (RD.num (l.take 2))) cs m with
          | none => none
          | some out => some (out, 2 + RD.num (l.take 2))) := by
        unfold Hid byCodesL
        rw [if_neg (by omega)]
      have hld : (l.drop 2).length = l.length - 2 := by simp
      replace hld := hid' hld
      generalize RD.num (l.take 2) = z at *
      go_wp2_with fail
      refine (btake_any x p (l.drop 2) z _ hA1 hV1 (by have := hld.out; omega) (by omega)).mono ?_
      rintro e w2 (⟨h2, rfl, hb⟩ | ⟨h2, rfl, rfl⟩)
      · go_wp2_with fail
        go_ret2
        refine ⟨hO1.below hb, .inl ⟨?_, rfl⟩⟩
        rw [hbl.out, if_pos (by have := hld.out; omega)]
      · have hA2 := hA1.put ((l.drop 2).drop z)
        have hO2 : Only (· = p) w (w1.setCell ⟨p, 0, none⟩ (.string (RD.bs ((l.drop 2).drop z)))) := hO1.setCell _ _ (fun _ => rfl)
        have hV2 := hV.only hO2 (fun k e => by omega)
        have hB2 := hB.only hO2 hTp
        have cG2 := (hG.only hO2 hgp).cell hv
        generalize w1.setCell ⟨p, 0, none⟩ (.string (RD.bs ((l.drop 2).drop z))) = w2 at *
        go_wp2_with fail
        refine (decode_any x T cs ((l.drop 2).take z) m _ ⟨hB2, hc⟩ hV2 (by simp; omega) hm).mono ?_
        rintro e w3 ⟨hb3, ⟨hd, rfl⟩ | ⟨out, hd, rfl⟩⟩
        · go_wp2_with fail
          go_ret2
          refine ⟨hO2.below hb3, .inl ⟨?_, rfl⟩⟩
          rw [hbl.out, hd]
          split <;> rfl
        · go_wp2_with fail
          go_ret2
          refine ⟨hO2.below hb3, .inr ⟨out, 2 + z, ?_, by have := hld.out; omega, rfl, ?_⟩⟩
          · rw [hbl.out, if_neg (by have := hld.out; omega), hd]
          · have := hA2.below hb3
            rwa [List.drop_drop] at this
end Go.Proofs.YtbhemchnjpajiaaGreatDoor

/- The literals of a block, whole (package literals, Read), walked. -/
namespace Go.Proofs.YtbhemchnjpajiaaGreatDoor
open Go.RowKit
set_option linter.unusedVariables false

theorem and_three (a : Nat) (ha : a < 9223372036854775808) : bits .and .i64 (a : Int) 3 = ((a % 4 : Nat) : Int) := by
  have := i64_and_nat a 3 ha (by omega)
  rw [show (3 : Nat) = 2 ^ 2 - 1 by rfl, Nat.and_two_pow_sub_one_eq_mod] at this
  exact this
theorem repeatL_one (b : UInt8) (n : Nat) : Lib.repeatL [b] n = List.replicate n b := by
  induction n with
  | zero => rfl
  | succ n ih => rw [Lib.repeatL, ih, List.replicate_succ]; rfl
theorem repeatL_nil (n : Nat) : Lib.repeatL [] n = [] := by
  induction n with
  | zero => rfl
  | succ n ih => rw [Lib.repeatL, ih]; rfl
theorem lits_short {cs : List CM.Tri} {s : RD.Bytes} (h : s.length < 2) : RD.literals cs s = none := by rw [RD.literals, if_pos h]
theorem lits_long {cs : List CM.Tri} {s : RD.Bytes} (h : ¬ s.length < 2) (hm : 1024 < RD.num (s.take 2) / 4) : RD.literals cs s = none := by
  have := num_small3 s 2 (by omega)
  rw [RD.literals, if_neg h]
  simp only []
  rw [if_pos (by omega)]
theorem lits_is {cs : List CM.Tri} {s : RD.Bytes} (h : ¬ s.length < 2) (hm : ¬ 1024 < RD.num (s.take 2) / 4) : RD.literals cs s =
    if RD.num (s.take 2) % 4 = 0 then
      if s.length < 2 + RD.num (s.take 2) / 4 then none else some ((s.drop 2).take (RD.num (s.take 2) / 4), 2 + RD.num (s.take 2) / 4, cs)
    else if RD.num (s.take 2) % 4 = 1 then
      if s.length < 3 then none else some (List.replicate (RD.num (s.take 2) / 4) (s.getD 2 0), 3, cs)
    else if RD.num (s.take 2) % 4 = 2 then
      match wcodes (s.drop 2) with
      | none => none
      | some c => match byCodesL (s.drop (3 + (RD.at' (s.drop 2) 0 + 1) / 2)) c (RD.num (s.take 2) / 4) with
        | none => none
        | some (out, k) => some (out, 3 + (RD.at' (s.drop 2) 0 + 1) / 2 + k, c)
    else
      match byCodesL (s.drop 2) cs (RD.num (s.take 2) / 4) with
      | none => none
      | some (out, k) => some (out, 2 + k, cs) := by
  have hd : RD.num (s.take 2) / 4 % 2048 = RD.num (s.take 2) / 4 := by omega
  have h8 : ¬ (8192 ≤ RD.num (s.take 2) ∨ 1024 < RD.num (s.take 2) / 4) := by omega
  rw [RD.literals, if_neg h]
  simp only [hd]
  rw [if_neg h8]
  by_cases k0 : RD.num (s.take 2) % 4 = 0
  · rw [if_pos k0, if_pos k0]
  rw [if_neg k0, if_neg k0]
  by_cases k1 : RD.num (s.take 2) % 4 = 1
  · rw [if_pos k1, if_pos k1]
  rw [if_neg k1, if_neg k1]
  by_cases k2 : RD.num (s.take 2) % 4 = 2
  · rw [if_pos k2, if_pos k2]
    unfold wcodes
    have e1 : (s.drop 2).length = s.length - 2 := by simp
    have e2 : RD.at' (s.drop 2) 0 = RD.at' s 2 := by unfold RD.at'; simp
    have e3 : (s.drop 2).drop 1 = s.drop 3 := by rw [List.drop_drop]
    rw [e1, e2, e3]
    by_cases k3 : s.length < 3
    · rw [if_pos k3, if_pos (by omega)]
    rw [if_neg k3, if_neg (show ¬ s.length - 2 = 0 by omega)]
    cases hw : RD.weights (s.drop 3) (RD.at' s 2) with
    | none => rfl
    | some z =>
      have hlen : (RD.at' s 2 + 1) / 2 ≤ (s.drop 3).length := by
        unfold RD.weights at hw
        split at hw
        · cases hw
        · omega
      rw [List.length_drop] at hlen
      by_cases hg : CM.good z = true
      · simp only [if_pos hg]
        rw [byCodes_L _ _ _ _ (by omega)]
        cases byCodesL (s.drop (3 + (RD.at' s 2 + 1) / 2)) (CM.codes z) (RD.num (s.take 2) / 4) with
        | none => rfl
        | some r => rfl
      · simp only [if_neg hg]
  · rw [if_neg k2, if_neg k2, byCodes_L _ _ _ _ (by omega)]
    cases byCodesL (s.drop 2) cs (RD.num (s.take 2) / 4) with
    | none => rfl
    | some r => rfl

def LRPost (x : Fx) (g o p : Nat) (t : TypeId) (gs : List Value) (cs : List CM.Tri) (s : RD.Bytes) (w : World) (e : Ending) (w' : World) : Prop :=
  Only (fun k => k = g ∨ k = p) w w' ∧ ((RD.literals cs s = none ∧ e = .returned (.tuple #[.string (RD.bs []), errV x.f])) ∨
    ∃ out i cs' v', RD.literals cs s = some (out, i, cs') ∧ i ≤ s.length ∧ e = .returned (.tuple #[.string (RD.bs out), .nilIface]) ∧ At1 w' p (s.drop i) ∧ Blk w' g t (gs.set o v') ∧ LitOk w' v' cs')
theorem only_or {a b : Nat} {w w' : World} (h : Only (· = b) w w') : Only (fun k => k = a ∨ k = b) w w' := h.weaken (fun _ _ e => .inr e)
theorem set_same {gs : List Value} {o : Nat} {v : Value} (h : gs[o]? = some v) : gs.set o v = gs := by
  apply List.ext_getElem?
  intro i
  rw [List.getElem?_set]
  split
  · subst_vars
    split
    · exact h.symm
    · rw [List.getElem?_eq_none (by omega)] at h
      cases h
  · rfl

set_option maxRecDepth 100000 in
set_option maxHeartbeats 2000000 in
theorem litRead_any (x : Fx) (g o p : Nat) (t : TypeId) (gs : List Value) (v : Value) (cs : List CM.Tri) (s : RD.Bytes) (w : World) (hG : Blk w g t gs) (hv : gs[o]? = some v) (hL : LitOk w v cs) (hgp : g ≠ p) (htt : t ≠ 288)
    (h : At1 w p s) (hV : VarsAt x w) (hs : s.length ≤ 1048576) (hpb : x.base ≤ p) (hgb : x.base ≤ g) :
    Calls Tryz.prog 123 #[.pointer (some ⟨g, o, none⟩), .pointer (some ⟨p, 0, none⟩)] w (LRPost x g o p t gs cs s w) := by
  go_enter Tryz.func123, Tryz.ntmps123
  go_wp2_with fail
  refine (bnum_any x p s 2 _ h hV (by omega) (by omega)).mono ?_
  rintro e w1 (⟨h1, rfl, hb⟩ | ⟨h1, rfl, rfl⟩)
  · go_wp2_with fail
    go_ret2
    exact ⟨below_only hb, .inl ⟨lits_short h1, rfl⟩⟩
  · have hA1 := h.put (s.drop 2)
    have hO1 : Only (· = p) w (w.setCell ⟨p, 0, none⟩ (.string (RD.bs (s.drop 2)))) := (Only.refl _ _).setCell _ _ (fun _ => rfl)
    have hV1 := hV.only hO1 (fun k e => by omega)
    have hG1 := hG.only hO1 hgp
    have hL1 := hL.only hO1 (fun T xs hT e => hT.ne h (by decide) e)
    generalize w.setCell ⟨p, 0, none⟩ (.string (RD.bs (s.drop 2))) = w1 at *
    have hz := num_small3 s 2 (by omega)
    have hlong := hid' (@lits_long cs s (by omega))
    have his := hid' (@lits_is cs s (by omega))
    have hand := and_three (RD.num (s.take 2)) (by omega)
    have hshr : ((RD.num (s.take 2) : Nat) : Int) / 4 = ((RD.num (s.take 2) / 4 : Nat) : Int) := by omega
    generalize RD.num (s.take 2) = z at *
    obtain ⟨m, hm⟩ : ∃ m, m = z / 4 := ⟨_, rfl⟩
    rw [← hm] at hlong his hshr
    have hm2 : m ≤ 16777216 := by omega
    have k4 : z % 4 = 0 ∨ z % 4 = 1 ∨ z % 4 = 2 ∨ z % 4 = 3 := by omega
    replace hm := hid' hm
    by_cases hbig : 1024 < m
    · have hbig' : (1024 : Int) < (z : Int) / 4 := by rw [hshr]; omega
      replace hshr := hid' hshr
      have cF := hV1.cF
      go_wp2_with fail
      go_quiet (fail)
      go_wp2
      go_ret2
      exact ⟨only_or (hO1.drewN _), .inl ⟨hlong.out hbig, rfl⟩⟩
    · have hbig' : ¬ (1024 : Int) < (z : Int) / 4 := by rw [hshr]; omega
      have hbig'' : (z : Int) / 4 ≤ 1024 := by rw [hshr]; omega
      replace hshr := hid' hshr
      replace his := hid' (his.out hbig)
      have hsl : (s.drop 2).length = s.length - 2 := by simp
      replace hsl := hid' hsl
      rcases k4 with hk | hk | hk | hk
      · rw [hk] at hand
        rw [hk, if_pos rfl] at his
        go_wp2_with fail
        rw [hshr.out]
        refine (btake_any x p (s.drop 2) m _ hA1 hV1 (by have := hsl.out; omega) (by omega)).mono ?_
        rintro e w2 (⟨h2, rfl, hb⟩ | ⟨h2, rfl, rfl⟩)
        · go_wp2_with fail
          go_ret2
          refine ⟨only_or (hO1.below hb), .inl ⟨?_, rfl⟩⟩
          rw [his.out, if_pos (by have := hsl.out; omega)]
        · have hA2 := hA1.put ((s.drop 2).drop m)
          have hO2 : Only (· = p) w (w1.setCell ⟨p, 0, none⟩ (.string (RD.bs ((s.drop 2).drop m)))) := hO1.setCell _ _ (fun _ => rfl)
          have hG2 := hG.only hO2 hgp
          have hL2 := hL.only hO2 (fun T xs hT e => hT.ne h (by decide) e)
          generalize w1.setCell ⟨p, 0, none⟩ (.string (RD.bs ((s.drop 2).drop m))) = w2 at *
          go_wp2_with fail
          go_ret2
          refine ⟨only_or hO2, .inr ⟨_, 2 + m, cs, v, ?_, by have := hsl.out; omega, rfl, by rwa [List.drop_drop] at hA2, by rw [set_same hv]; exact hG2, hL2⟩⟩
          rw [his.out, if_neg (by have := hsl.out; omega)]
      · rw [hk] at hand
        rw [hk, if_neg (by omega), if_pos rfl] at his
        go_wp2_with fail
        refine (btake_any x p (s.drop 2) 1 _ hA1 hV1 (by have := hsl.out; omega) (by omega)).mono ?_
        rintro e w2 (⟨h2, rfl, hb⟩ | ⟨h2, rfl, rfl⟩)
        · go_wp2_with fail
          rw [hshr.out]
          refine (Go.Proofs.Tryz.strings_Repeat (RD.bs []) m _ (by omega) (by simp [RD.bs_size])).mono ?_
          rintro e w3 ⟨rfl, hb3⟩
          go_wp2_with fail
          go_ret2
          refine ⟨only_or ((hO1.below hb).below hb3), .inl ⟨?_, ?_⟩⟩
          · rw [his.out, if_pos (by have := hsl.out; omega)]
          · rw [RD.bs_data, repeatL_nil]
            rfl
        · have hA2 := hA1.put ((s.drop 2).drop 1)
          have hO2 : Only (· = p) w (w1.setCell ⟨p, 0, none⟩ (.string (RD.bs ((s.drop 2).drop 1)))) := hO1.setCell _ _ (fun _ => rfl)
          have hG2 := hG.only hO2 hgp
          have hL2 := hL.only hO2 (fun T xs hT e => hT.ne h (by decide) e)
          generalize w1.setCell ⟨p, 0, none⟩ (.string (RD.bs ((s.drop 2).drop 1))) = w2 at *
          have ht1 : (s.drop 2).take 1 = [s.getD 2 0] := by
            have := hsl.out
            rw [List.drop_eq_getElem_cons (by omega), List.getD_eq_getElem?_getD, List.getElem?_eq_getElem (by omega)]
            rfl
          rw [ht1]
          go_wp2_with fail
          rw [hshr.out]
          refine (Go.Proofs.Tryz.strings_Repeat (RD.bs [s.getD 2 0]) m _ (by omega) (by simp [RD.bs_size]; omega)).mono ?_
          rintro e w3 ⟨rfl, hb3⟩
          have hA3 := hA2.below hb3
          have hG3 := hG2.below hb3 hG2.lt
          have hL3 := hL2.only (below_only (G := fun _ => False) hb3) (fun _ _ _ e => e)
          go_wp2_with fail
          go_ret2
          refine ⟨only_or (hO2.below hb3), .inr ⟨List.replicate m (s.getD 2 0), 3, cs, v, ?_, by have := hsl.out; omega, ?_, by rwa [List.drop_drop] at hA3, by rw [set_same hv]; exact hG3, hL3⟩⟩
          · rw [his.out, if_neg (by have := hsl.out; omega)]
          · rw [RD.bs_data, repeatL_one]
            rfl
      · rw [hk] at hand
        rw [hk, if_neg (by omega), if_neg (by omega), if_pos rfl] at his
        go_wp2_with fail
        refine (readTable_any x p (s.drop 2) _ hA1 hV1 (by have := hsl.out; omega) hpb).mono ?_
        rintro e w2 ⟨ho2, ⟨hn, rfl⟩ | ⟨cs', T, hn, hln, hl0, rfl, hT, hA2, hTn⟩⟩
        · have hG2 := hG1.only ho2 hgp
          have fG := hG2.free
          have cG := hG2.cell hv
          go_wp2_with fail
          go_ret2
          refine ⟨?_, .inl ⟨?_, rfl⟩⟩
          · exact (only_or (hO1.trans ho2)).setCell _ _ (fun _ => .inl rfl)
          · rw [his.out, hn]
        · have hG2 := hG1.only ho2 hgp
          have fG := hG2.free
          have cG := hG2.cell hv
          have hgl := hG1.lt
          have hTg : T ≠ g := by omega
          go_wp2_with fail
          rw [hshr.out]
          have hO3 : Only (fun k => k = g ∨ k = p) w (w2.setCell ⟨g, o, none⟩ (.pointer (some ⟨T, 0, none⟩))) := (only_or (hO1.trans ho2)).setCell _ _ (fun _ => .inl rfl)
          have hG3 := hG2.put o (.pointer (some ⟨T, 0, none⟩))
          have hA3 : At1 (w2.setCell ⟨g, o, none⟩ (.pointer (some ⟨T, 0, none⟩))) p ((s.drop 2).drop (1 + (RD.at' (s.drop 2) 0 + 1) / 2)) := Blk.other hA2 ⟨g, o, none⟩ _ (fun e => hgp e.symm)
          have hT3 : TblAt (w2.setCell ⟨g, o, none⟩ (.pointer (some ⟨T, 0, none⟩))) T cs' := ⟨hT.1.other ⟨g, o, none⟩ _ hTg, hT.2⟩
          have hV3 := hV.only hO3 (fun k e => by omega)
          generalize w2.setCell ⟨g, o, none⟩ (.pointer (some ⟨T, 0, none⟩)) = w3 at *
          have ho : o < gs.length := by
            rcases Nat.lt_or_ge o gs.length with e | e
            · exact e
            · rw [List.getElem?_eq_none e] at hv
              cases hv
          have hL3 : LitOk w3 (.pointer (some ⟨T, 0, none⟩)) cs' := .inr ⟨T, rfl, hT3⟩
          rw [List.drop_drop, show 2 + (1 + (RD.at' (s.drop 2) 0 + 1) / 2) = 3 + (RD.at' (s.drop 2) 0 + 1) / 2 by omega] at hA3
          have hdl : (s.drop (3 + (RD.at' (s.drop 2) 0 + 1) / 2)).length = s.length - (3 + (RD.at' (s.drop 2) 0 + 1) / 2) := by simp
          have hdl2 : 3 + (RD.at' (s.drop 2) 0 + 1) / 2 ≤ s.length := by
            rw [List.length_drop, hsl.out] at hln
            have := hsl.out
            omega
          rw [hn] at his
          refine (readCoded_any x g o p t (gs.set o (.pointer (some ⟨T, 0, none⟩))) (.pointer (some ⟨T, 0, none⟩)) cs' (s.drop (3 + (RD.at' (s.drop 2) 0 + 1) / 2)) m _ hG3 (List.getElem?_set_self ho) hL3 hgp hA3 hV3 (by omega) hpb (by omega)).mono ?_
          rintro e w4 ⟨ho4, ⟨hn4, rfl⟩ | ⟨out, k, hn4, hkl, rfl, hA4⟩⟩
          · go_wp2_with fail
            go_ret2
            refine ⟨hO3.trans (only_or ho4), .inl ⟨?_, rfl⟩⟩
            rw [his.out]
            simp only [hn4]
          · have hG4 := hG3.only ho4 hgp
            have hL4 := hL3.only ho4 (fun T xs hT e => hT.ne hA3 (by decide) e)
            go_wp2_with fail
            go_ret2
            refine ⟨hO3.trans (only_or ho4), .inr ⟨out, 3 + (RD.at' (s.drop 2) 0 + 1) / 2 + k, cs', _, ?_, by omega, rfl, by rwa [List.drop_drop] at hA4, hG4, hL4⟩⟩
            rw [his.out]
            simp only [hn4]
      · rw [hk] at hand
        rw [hk, if_neg (by omega), if_neg (by omega), if_neg (by omega)] at his
        go_wp2_with fail
        rw [hshr.out]
        refine (readCoded_any x g o p t gs v cs (s.drop 2) m _ hG1 hv hL1 hgp hA1 hV1 (by have := hsl.out; omega) hpb (by omega)).mono ?_
        rintro e w2 ⟨ho2, ⟨hn, rfl⟩ | ⟨out, k, hn, hkl, rfl, hA2⟩⟩
        · go_wp2_with fail
          go_ret2
          refine ⟨only_or (hO1.trans ho2), .inl ⟨?_, rfl⟩⟩
          rw [his.out, hn]
        · have hG2 := hG1.only ho2 hgp
          have hL2 := hL1.only ho2 (fun T xs hT e => hT.ne hA1 (by decide) e)
          go_wp2_with fail
          go_ret2
          refine ⟨only_or (hO1.trans ho2), .inr ⟨out, 2 + k, cs, v, ?_, by have := hsl.out; omega, rfl, by rwa [List.drop_drop] at hA2, by rw [set_same hv]; exact hG2, hL2⟩⟩
          rw [his.out, hn]
end Go.Proofs.YtbhemchnjpajiaaGreatDoor

/- The law Spans, walked: where the weights may be, every test of the law comes out as it must. -/
import Derived.Test.YtbhemchnjpajiaaCodeWalks
import Derived.Test.YtbhemchnjpajiaaSpanMath
namespace Go.Proofs.Ytbhemchnjpajiaa
open Go.RowKit
set_option linter.unusedVariables false

set_option maxHeartbeats 400000 in
theorem power_any (n : Int) (w : World) (h0 : 0 ≤ n) (h1 : n ≤ 16) :
    Calls Try.prog 19 #[.int .i64 n] w fun e w' => e = .returned (.int .i64 (2 ^ n.toNat)) ∧ w' = w := by
  obtain ⟨m, rfl⟩ := Int.eq_ofNat_of_zero_le h0
  go_enter Try.func19, Try.ntmps19
  go_wp2
  go_loopg [3, 4] m (fun g pv iv wr => ∃ k : Nat, g = m - k ∧ k ≤ m ∧ iv = .int .i64 (k : Int) ∧ pv = .int .i64 (2 ^ k) ∧ wr = w)
  case atStart => exact ⟨0, by omega, by omega, rfl, rfl, rfl⟩
  case round =>
    obtain ⟨k, rfl, hk, rfl, rfl, hwr⟩ := hrel
    subst hwr
    have hp := CM.pow_le k 16 (by omega)
    have hq := CM.pow_pos k
    by_cases hkm : k < m
    · go_wp2
      go_roundg (m - (k + 1))
      case rel => exact ⟨k + 1, rfl, by omega, by go_num, vl_int (by rw [Int.pow_succ, Int.mul_comm]), rfl⟩
      case measure => omega
    · obtain rfl : k = m := by omega
      go_wp2
      go_ret
      exact ⟨rfl, rfl⟩

theorem infoBool : (Try.prog.info? 4).map (fun i => (i.zero, i.size, i.bytes)) = some (some (.bool false), 1, 1) := by kernel_rfl
def seenRow (L : List CM.Tri) (n i : Nat) : List Value := (List.range n).map fun v => .bool (CM.seenB L i v)
theorem seenRow_length (L : List CM.Tri) (n i : Nat) : (seenRow L n i).length = n := by simp [seenRow]
theorem seenRow_at (L : List CM.Tri) (n i v : Nat) (h : v < n) : (seenRow L n i)[v]? = some (.bool (CM.seenB L i v)) := by simp [seenRow, h]
theorem made_false (L : List CM.Tri) (n : Nat) : madeCells #[.bool false] n = (seenRow L n 0).toArray := by
  apply Array.ext
  · simp [madeCells, seenRow]
  · intro i h1 h2
    simp [madeCells, seenRow, Nat.mod_one, CM.seenB]
theorem seenRow_set (L : List CM.Tri) (n i v : Nat) (h : i < L.length) (hv : CM.vl L i = (v : Int)) (hvn : v < n) : (seenRow L n i).set v (.bool true) = seenRow L n (i + 1) := by
  apply List.ext_getElem
  · simp [seenRow]
  · intro u h1 h2
    simp only [seenRow, List.getElem_set, List.getElem_map, List.getElem_range]
    rw [CM.seen_succ L i v u h hv]
    by_cases e : v = u
    · subst e; simp
    · rw [if_neg e]
      simp [show ¬ u = v by omega]
/-- make([]bool, n): nothing has been seen yet. -/
theorem make_seen (L : List CM.Tri) (w : World) (n : Nat) (hn : n ≤ 281474976710656) :
    (Instr.makeSlice 38 (.int .i64 (n : Int)) (.int .i64 (n : Int))).run Try.prog w =
      .ok (.slice (some ⟨w.heap.size, 0, none⟩) n n) (w.alloc (.cells (seenRow L n 0).toArray 4)) := by
  obtain ⟨i0, hi, hz0, hz1, hz2⟩ := info_parts infoBool
  have h := run_make (P := Try.prog) w 38 4 i0 (.bool false) Try.underlying38 hi hz0 .i64 .i64 (n : Int) (n : Int) (by omega) (Int.le_refl _) (by rw [hz2]; omega) (by omega)
  rw [h, Int.toNat_natCast, hz1, Nat.mul_one, ← made_false L n]
  rfl

theorem seen_rel {w2 wr : World} {L : List CM.Tri} {n i v : Nat} (hseen : Blk wr w2.heap.size 4 (seenRow L n i)) (hset : (seenRow L n i).set v (.bool true) = seenRow L n (i + 1)) (hbel : Below w2.heap.size w2 wr) (hsz : w2.heap.size < wr.heap.size) (X : Obj) (q q' : Nat) :
    Blk ((((wr.alloc X).drewN q).setCell ⟨w2.heap.size, v, none⟩ (.bool true)).drewN q') w2.heap.size 4 (seenRow L n (i + 1)) ∧ Below w2.heap.size w2 ((((wr.alloc X).drewN q).setCell ⟨w2.heap.size, v, none⟩ (.bool true)).drewN q') ∧ w2.heap.size < ((((wr.alloc X).drewN q).setCell ⟨w2.heap.size, v, none⟩ (.bool true)).drewN q').heap.size := by
  refine ⟨?_, ?_, ?_⟩
  · rw [← hset]
    exact (((hseen.alloc X).drewN q).put v (.bool true)).drewN q'
  · exact below_drewN ((below_drewN (hbel.alloc hbel.size X) q).setCell (Nat.le_refl _) _) q'
  · simp; omega

theorem good_two : CM.good [2, 1] = true := by decide +kernel
theorem len_two : (CM.codes [2, 1]).length = 3 := by decide +kernel

theorem cells_cell {w : World} {g : Nat} {L : List CM.Tri} {rest : List Value} (h : Blk w g 47 (CM.cellsOf L ++ rest)) (i : Nat) (hi : i < L.length) :
    w.cell? ⟨g, i * 3, none⟩ = some (.int .i64 (CM.vl L i)) ∧ w.cell? ⟨g, i * 3 + 1, none⟩ = some (.int .i64 (CM.bit L i)) ∧ w.cell? ⟨g, i * 3 + 2, none⟩ = some (.int .i64 (CM.nm L i)) := by
  have hl := CM.cellsOf_length L
  obtain ⟨a, b, c⟩ := CM.cellsOf_at L i hi
  refine ⟨h.cell ?_, h.cell ?_, h.cell ?_⟩
  · rw [List.getElem?_append_left (by omega)]; exact a
  · rw [List.getElem?_append_left (by omega)]; exact b
  · rw [List.getElem?_append_left (by omega)]; exact c

set_option maxRecDepth 100000 in
set_option maxHeartbeats 1000000 in
theorem spans_bad (a : Option Addr) (n cap : Nat) (z : List Int) (w : World) (hI : Ints w a n z) (hg : CM.good z = false) :
    Calls Try.prog 7 #[.slice a n cap] w fun e w' => e = .returned (.bool true) ∧ Below w.heap.size w w' := by
  go_enter Try.func7, Try.ntmps7
  go_wp2_with fail
  refine (codes_rows _ _ _ [2, 1] _ ?_ good_two (by rw [len_two]; omega)).mono ?_
  · exact Ints.of_blk (rest := []) (z := [2, 1]) (Blk.new w 3 (intCells [2, 1])) (by decide)
  rintro e w1 ⟨g, c, rest, rfl, hg1, hblk, hc, hm, hs, hbel⟩
  rw [len_two]
  go_wp2_with fail
  have hb0 : Below w.heap.size w w1 := ((Below.refl _ _).alloc (Nat.le_refl _) _).trans (hbel.mono (by simp))
  refine (codes_bad _ _ _ z _ (hI.below hb0) hg).mono ?_
  rintro e w2 ⟨rfl, rfl⟩
  have qn := fun W => Lib.run_eql_slice_nil (P := Try.prog) W 41 47 none 0 0 0 0 Try.underlying41
  go_wp2
  go_ret
  exact ⟨rfl, hb0⟩

set_option maxRecDepth 100000 in
set_option maxHeartbeats 4000000 in
theorem spans_good (a : Option Addr) (n cap : Nat) (z : List Int) (w : World) (hI : Ints w a n z) (hg : CM.good z = true) :
    Calls Try.prog 7 #[.slice a n cap] w fun e w' => e = .returned (.bool true) ∧ Below w.heap.size w w' := by
  obtain ⟨hin, hb0', hb8, hpw⟩ := good_parts hg
  have T := CM.told hin (by simpa using hb0') hb8 hpw
  obtain ⟨hf, n1, n2⟩ := CM.inB_fits hin
  have hl := hI.1
  have hfew := T.few
  have hpos := T.pos
  go_enter Try.func7, Try.ntmps7
  go_wp2_with fail
  refine (codes_rows _ _ _ [2, 1] _ ?_ good_two (by rw [len_two]; omega)).mono ?_
  · exact Ints.of_blk (rest := []) (z := [2, 1]) (Blk.new w 3 (intCells [2, 1])) (by decide)
  rintro e w1 ⟨g, c, rest, rfl, hg1, hblk, hc, hm, hs, hbel⟩
  rw [len_two]
  have hb0 : Below w.heap.size w w1 := ((Below.refl _ _).alloc (Nat.le_refl _) _).trans (hbel.mono (by simp))
  clear hg1 hblk hc hm hs hbel
  go_wp2_with fail
  refine (codes_rows _ _ _ z _ (hI.below hb0) hg hpos).mono ?_
  rintro e w2 ⟨g, c, rest, rfl, hg1, hblk, hc, hm, hs, hbel⟩
  have hI2 : Ints w2 a n z := (hI.below hb0).below hbel
  have hb2 : Below w.heap.size w w2 := hb0.trans (hbel.mono hb0.size)
  obtain ⟨-, hbig, hcel⟩ := hI2
  obtain ⟨b, off, rfl, hlt, hcel'⟩ := hcel.resolve_left (by omega)
  have HC : Hid _ := hcel'
  have HB : Hid _ := hblk
  clear hcel hcel' hblk hI hbel hm hs
  have hTl := T.longest
  have hTB := T.hB
  generalize CM.codes z = L at *
  generalize hBB : CM.len (CM.total z) = B at *
  clear hBB hb0' hpw hb8 hg hin
  go_wp2_with fail
  go_loopg [5, 6, 7] L.length (fun q bv sv iv wr => ∃ i : Nat, q = L.length - i ∧ i ≤ L.length ∧ iv = .int .i64 (i : Int) ∧ bv = .int .i64 (CM.mb L i) ∧ sv = .int .i64 (CM.sm L n (B + 1) i) ∧ ∃ d, wr = w2.drewN d)
  case atStart => exact ⟨0, by omega, by omega, rfl, rfl, rfl, 0, rfl⟩
  case round =>
    obtain ⟨i, rfl, hi, rfl, rfl, rfl, d, hwr⟩ := hrel
    subst hwr
    by_cases hil : i < L.length
    · obtain ⟨v, hv, hvn, hvw, hb1, hbB, hnum⟩ := T.each i hil
      obtain ⟨k0, k1, k2⟩ := cells_cell HB.out i hil
      rw [hv] at k0
      clear k2 hnum
      have hmb := CM.mb_le L B (by omega) i (fun j hj => by obtain ⟨_, _, _, _, _, x, _⟩ := T.each j (by omega); exact x)
      have hms : Hid (CM.mb L (i + 1) = if CM.mb L i < CM.bit L i then CM.bit L i else CM.mb L i) := rfl
      have hss : Hid (CM.sm L n (B + 1) (i + 1) = if CM.vl L i < n then B + 1 else CM.sm L n (B + 1) i) := rfl
      rw [hv] at hss
      have HT : Hid _ := T
      clear T hv
      generalize CM.bit L i = bt at *
      by_cases hmx : CM.mb L i < bt
      all_goals
        by_cases hvv : v < n
        · have hcv : w2.cell? ⟨b, off + v, none⟩ = some (.int .i64 (z.getD v 0)) := HC.out v hvv
          have hzv := (hvw (by omega)).1
          have hzf := CM.fits_getD z hf v
          have HZ : Hid _ := hzv
          clear hzv hvw
          generalize z.getD v 0 = zv at *
          have i1 : (i : Int) < (L.length : Int) := by omega
          have i2 : (v : Int) < (n : Int) := by omega
          go_wp2_with fail
          go_quiet (fail)
          go_wp2
          go_roundg (L.length - (i + 1))
          case rel =>
            refine ⟨i + 1, rfl, by omega, by go_num, vl_int ?_, vl_int ?_, _, rfl⟩
            · rw [hms.out]
              first | rw [if_pos hmx] | rw [if_neg (by omega)]
            · rw [hss.out, if_pos (by omega)]
              have := HZ.out
              omega
          case measure => omega
        · go_wp2
          go_roundg (L.length - (i + 1))
          case rel =>
            refine ⟨i + 1, rfl, by omega, by go_num, vl_int ?_, vl_int ?_, _, rfl⟩
            · rw [hms.out]
              first | rw [if_pos hmx] | rw [if_neg (by omega)]
            · rw [hss.out, if_neg (by omega)]
          case measure => omega
    · obtain rfl : i = L.length := by omega
      have hms := CM.sm_bound L n (B + 1) (by omega) L.length
      have hbg := fun i hi => T.begins i hi
      have hmM := fun i hi => CM.mb_ge L L.length i hi
      have hen := T.ends
      generalize hMM : CM.mb L L.length = M at *
      generalize hSS : CM.sm L n (B + 1) L.length = S at *
      have HM : Hid _ := hMM
      have HS : Hid _ := hSS
      have HG : Hid _ := hbg
      have HE : Hid _ := hen
      have HMM : Hid _ := hmM
      have HT : Hid _ := T
      clear hMM hSS hbg hen hmM T
      have hmk := fun u => make_seen L u (n + 1) (by omega)
      rw [show ((n + 1 : Nat) : Int) = (n : Int) + 1 by omega] at hmk
      go_wp2_with fail
      clear hmk
      go_loopg [9, 10] L.length (fun q av iv wr => ∃ i : Nat, q = L.length - i ∧ i ≤ L.length ∧ iv = .int .i64 (i : Int) ∧ av = .int .i64 (CM.sumB M (L.take i)) ∧ Blk wr w2.heap.size 4 (seenRow L (n + 1) i) ∧ Below w2.heap.size w2 wr ∧ w2.heap.size < wr.heap.size)
      case atStart => exact ⟨0, by omega, by omega, rfl, rfl, Blk.new _ 4 (seenRow L (n + 1) 0), (below_drewN (Below.refl _ _) d).alloc (Nat.le_refl _) _, by simp⟩
      case round =>
        obtain ⟨i, rfl, hi, rfl, rfl, hseen, hbel, hsz⟩ := hrel
        have hBk : Blk w2 g 47 (CM.cellsOf L ++ rest) := HB.out
        have hgl : g < w2.heap.size := hBk.lt
        by_cases hil : i < L.length
        · obtain ⟨v, hv, hvn, hvw, hb1, hbB, hnum⟩ := HT.out.each i hil
          obtain ⟨k0, k1, k2⟩ := cells_cell (hBk.below hbel hgl) i hil
          have hbeg := HG.out i hil
          have hbM := HMM.out i hil
          have hsu := CM.sumB_take_succ M L i hil
          have hsb := CM.sumB_bound M (by omega) L (fun j hj => by obtain ⟨_, _, _, _, x, _, _⟩ := HT.out.each j hj; exact x) i (by omega)
          have hsn : wr.cell? ⟨w2.heap.size, v, none⟩ = some (.bool false) := by
            rw [← CM.seen_new HT.out i v hil hv]
            exact hseen.cell (seenRow_at L (n + 1) i v (by omega))
          have hsf := hseen.free v
          have hset := seenRow_set L (n + 1) i v hil hv (by omega)
          rw [hv] at k0
          clear hnum
          generalize CM.bit L i = bt at *
          generalize CM.nm L i = num at *
          generalize hAA : CM.sumB M (L.take i) = A at *
          have t1 : decide (bt < 1) = false := decide_eq_false (by omega)
          have t2 : decide ((v : Int) < 0) = false := decide_eq_false (by omega)
          have t3 : decide ((n : Int) < (v : Int)) = false := decide_eq_false (by omega)
          have t4 : decide (n < v) = false := decide_eq_false (by omega)
          have t5 : ¬ n < v := by omega
          have i1 : (v : Int) < (n : Int) + 1 := by omega
          have i0 : (0 : Int) ≤ (v : Int) := by omega
          have HSU : Hid _ := hsu
          have HSET : Hid _ := hset
          have HSEEN : Hid _ := hseen
          have HV : Hid _ := hvw
          have HVL : Hid _ := hv
          clear hsu hset hseen hvw hAA hv hBk
          go_wp2_with fail
          go_quiet ((go_at_call 19; refine Calls.quiet_of_same (power_any _ _ ?_ ?_); omega; omega))
          go_wp2_with fail
          refine (power_any _ _ (by omega) (by omega)).mono ?_
          rintro e w4 ⟨rfl, rfl⟩
          have hp1 := CM.pow_le (M - bt).toNat 7 (by omega)
          have hp2 := CM.pow_pos (M - bt).toNat
          clear hsn hsf t1 t2 t3 t4 k0 k1 k2
          by_cases hvv : v < n
          · have u1 : decide (v < n) = true := decide_eq_true hvv
            have u2 : (v : Int) < (n : Int) := by omega
            have hcv : wr.cell? ⟨b, off + v, none⟩ = some (.int .i64 (z.getD v 0)) := (hbel.cell (p := ⟨b, off + v, none⟩) hlt).trans (HC.out v hvv)
            have hzv := (HV.out (by omega)).1
            have hzf := CM.fits_getD z hf v
            have hSB : S = B + 1 := by rw [← HS.out]; exact CM.sm_is L n (B + 1) L.length i hil (by rw [HVL.out]; omega)
            have hne : (z.getD v 0 + bt != S) = false := by
              rw [hSB, hzv]
              simp
              omega
            have HSB : Hid _ := hSB
            have hcw : ∀ (X : Obj) (q : Nat), (((wr.alloc X).drewN q).setCell ⟨w2.heap.size, v, none⟩ (.bool true)).cell? ⟨b, off + v, none⟩ = some (.int .i64 (z.getD v 0)) := by
              intro X q
              rw [World.cell?_setCell_other _ _ _ _ (fun e => by have := congrArg Addr.block e; simp at this; omega), World.cell?_drewN, World.cell?_alloc_lt _ _ _ (by show b < _; omega)]
              exact hcv
            clear hzv hSB hcv
            generalize z.getD v 0 = zv at *
            go_wp2_with fail
            go_quiet (fail)
            go_wp2
            go_roundg (L.length - (i + 1))
            case rel =>
              have R := seen_rel HSEEN.out HSET.out hbel hsz
              exact ⟨i + 1, rfl, by omega, by go_num, vl_int HSU.out.symm, (R _ _ _).1, (R _ _ _).2.1, (R _ _ _).2.2⟩
            case measure => omega
          · have u1 : decide (v < n) = false := decide_eq_false hvv
            have u2 : ¬ (v : Int) < (n : Int) := by omega
            go_wp2_with fail
            go_quiet (fail)
            go_wp2
            go_roundg (L.length - (i + 1))
            case rel =>
              have R := seen_rel HSEEN.out HSET.out hbel hsz
              exact ⟨i + 1, rfl, by omega, by go_num, vl_int HSU.out.symm, (R _ _ _).1, (R _ _ _).2.1, (R _ _ _).2.2⟩
            case measure => omega
        · obtain rfl : i = L.length := by omega
          have hA := HE.out
          rw [List.take_length]
          have HA : Hid _ := hA
          clear hA
          go_wp2_with fail
          obtain ⟨wo, rfl⟩ : ∃ wo : World, wo = wr := ⟨_, rfl⟩
          have HSEEN : Hid _ := hseen
          clear hseen
          go_loopg [12] n (fun q vv wx => ∃ v : Nat, q = n - v ∧ v ≤ n ∧ vv = .int .i64 (v : Int) ∧ ∃ d, wx = wo.drewN d)
          case atStart => exact ⟨0, by omega, by omega, rfl, 0, rfl⟩
          case round =>
            obtain ⟨v, rfl, hvn, rfl, d', hwx⟩ := hrel
            subst hwx
            have hsv : wo.cell? ⟨w2.heap.size, v, none⟩ = some (.bool (decide (v = n) || (z.getD v 0 != 0))) := by
              have := (show Blk wo w2.heap.size 4 (seenRow L (n + 1) L.length) from HSEEN.out).cell (seenRow_at L (n + 1) L.length v (by omega))
              rw [CM.seen_all HT.out v (by omega), hl] at this
              exact this
            by_cases hvl : v < n
            · rw [decide_eq_false (show ¬ v = n by omega), Bool.false_or] at hsv
              have hcv : wo.cell? ⟨b, off + v, none⟩ = some (.int .i64 (z.getD v 0)) := (hbel.cell (p := ⟨b, off + v, none⟩) hlt).trans (HC.out v hvl)
              generalize z.getD v 0 = zv at *
              have i1 : (v : Int) < (n : Int) := by omega
              have i2 : (v : Int) < (n : Int) + 1 := by omega
              have i3 : (0 : Int) ≤ (v : Int) := by omega
              go_wp2_with fail
              go_quiet (fail)
              go_wp2
              go_roundg (n - (v + 1))
              case rel => exact ⟨v + 1, rfl, by omega, by go_num, _, rfl⟩
              case measure => omega
            · obtain rfl : v = n := by omega
              rw [decide_eq_true rfl, Bool.true_or] at hsv
              have hAe : (CM.sumB M L == 2 ^ M.toNat) = true := by rw [HA.out]; simp
              have i2 : (v : Int) < (v : Int) + 1 := by omega
              go_wp2_with fail
              refine (power_any _ _ (by omega) (by omega)).mono ?_
              rintro e w4 ⟨rfl, rfl⟩
              go_wp2
              go_ret
              exact ⟨rfl, below_drewN (hb2.trans (hbel.mono hb2.size)) _⟩

theorem spans_any (a : Option Addr) (n cap : Nat) (z : List Int) (w : World) (hI : Ints w a n z) :
    Calls Try.prog 7 #[.slice a n cap] w fun e w' => e = .returned (.bool true) ∧ Below w.heap.size w w' := by
  cases h : CM.good z with
  | true => exact spans_good a n cap z w hI h
  | false => exact spans_bad a n cap z w hI h
end Go.Proofs.Ytbhemchnjpajiaa

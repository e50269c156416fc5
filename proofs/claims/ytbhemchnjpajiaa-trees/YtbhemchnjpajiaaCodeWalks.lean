/- The program's codes, walked: withLast copies the weights and sets one more behind them; giveCodes gives the codes out; Codes answers as the plain function says. -/
import Derived.Test.YtbhemchnjpajiaaCodeLeaves
namespace Go.Proofs.Ytbhemchnjpajiaa
open Go.RowKit
set_option linter.unusedVariables false

theorem infoInt : (Try.prog.info? 3).map (fun i => (i.zero, i.size, i.bytes)) = some (some (.int .i64 0), 1, 8) := by kernel_rfl
theorem sizeInt : (Try.prog.info? 3).map (·.size) = some 1 := by kernel_rfl

def zeroRow (n : Nat) : List Value := List.replicate n (.int .i64 0)
theorem zeroRow_length (n : Nat) : (zeroRow n).length = n := by simp [zeroRow]
theorem made_zero (n : Nat) : madeCells #[.int .i64 0] n = (zeroRow n).toArray := by
  apply Array.ext
  · simp [madeCells, zeroRow]
  · intro i h1 h2
    simp [madeCells, zeroRow, Nat.mod_one]

/-- make([]int, n): n zeroes in a new block. -/
theorem make_ints (w : World) (n : Nat) (hn : n * 8 ≤ 281474976710656) :
    (Instr.makeSlice 25 (.int .i64 (n : Int)) (.int .i64 (n : Int))).run Try.prog w =
      .ok (.slice (some ⟨w.heap.size, 0, none⟩) n n) (w.alloc (.cells (zeroRow n).toArray 3)) := by
  obtain ⟨i0, hi, hz0, hz1, hz2⟩ := info_parts infoInt
  have h := run_make (P := Try.prog) w 25 3 i0 (.int .i64 0) Try.underlying25 hi hz0 .i64 .i64 (n : Int) (n : Int) (by omega) (Int.le_refl _) (by rw [hz2]; omega) (by omega)
  rw [h, Int.toNat_natCast, hz1, Nat.mul_one, ← made_zero n]
  rfl

/-- copy(out, l), out a row of zeroes of the call's own, as long as l or longer. -/
theorem copy_ints (W : World) (a : Option Addr) (n cap g m dc : Nat) (z : List Int) (hI : Ints W a n z) (hg : Blk W g 3 (zeroRow m)) (hnm : n ≤ m) :
    ∃ W2, (Builtin.copy_ #[25, 25] 3 #[.slice (some ⟨g, 0, none⟩) m dc, .slice a n cap]).run Try.prog W = .ok (.int .i64 (n : Int)) W2 ∧
      Hid (Blk W2 g 3 (intCells z ++ zeroRow (m - n))) ∧ Below g W W2 ∧ W2.heap.size = W.heap.size := by
  obtain ⟨hl, hbig, hc⟩ := hI
  by_cases h0 : n = 0
  · subst h0
    obtain rfl : z = [] := List.eq_nil_of_length_eq_zero hl
    refine ⟨W, ?_, hg, Below.refl _ _, rfl⟩
    exact run_copy_none (P := Try.prog) W 25 25 3 3 _ _ m dc 0 cap Try.underlying25 sizeInt (by show min 0 m = 0; omega)
  · obtain ⟨b, off, rfl, hlt, hc⟩ := hc.resolve_left h0
    have hlc : (intCells z).length = n := by simp [intCells, hl]
    have hrun := run_copy_row (P := Try.prog) W 25 25 3 3 g 0 m dc ⟨b, off, none⟩ n cap (zeroRow m).toArray 3 (intCells z) Try.underlying25 sizeInt hg (by rw [hlc]; show n = min n m; omega)
      (by
        intro j v hj
        have hjn : j < n := by
          rcases Nat.lt_or_ge j n with h | h
          · exact h
          · rw [List.getElem?_eq_none (by omega)] at hj; cases hj
        rw [intCells_at z j (by omega)] at hj
        cases hj
        rw [addr_add]
        exact hc j hjn)
      (by simp [zeroRow_length]; omega) (by intro v hv; simp [intCells] at hv; obtain ⟨x, -, rfl⟩ := hv; rfl)
    rw [hlc] at hrun
    refine ⟨_, hrun, ?_, below_setRow (Below.refl _ _) (Nat.le_refl _) _, by simp [World.setRow]⟩
    have e : (intCells z ++ zeroRow (m - n)).toArray = (List.take 0 (zeroRow m).toArray.toList ++ (intCells z ++ List.drop (0 + n) (zeroRow m).toArray.toList)).toArray := by
      simp [zeroRow]
    show (W.setRow g _).heap[g]? = _
    rw [e]
    rw [setRow_heap _ _ _ _ _ _ hg]
    simp

set_option maxHeartbeats 400000 in
theorem withLast_any (a : Option Addr) (n cap : Nat) (z : List Int) (last : Int) (w : World) (hI : Ints w a n z) (hn : 1 ≤ n ∧ n ≤ 128) :
    Calls Try.prog 40 #[.slice a n cap, .int .i64 last] w fun e w' => e = .returned (.slice (some ⟨w.heap.size, 0, none⟩) (n + 1) (n + 1)) ∧ Blk w' w.heap.size 3 (intCells (z ++ [last])) ∧ Below w.heap.size w w' := by
  have hmk := fun u => make_ints u (n + 1) (by omega)
  have ec : ((n + 1 : Nat) : Int) = (n : Int) + 1 := by omega
  rw [ec] at hmk
  clear ec
  have hA : Below w.heap.size w (w.alloc (.cells (zeroRow (n + 1)).toArray 3)) := (Below.refl _ _).alloc (Nat.le_refl _) _
  obtain ⟨W2, hrun, hB2, hbel, hsz⟩ := copy_ints (w.alloc (.cells (zeroRow (n + 1)).toArray 3)) a n cap w.heap.size (n + 1) (n + 1) z (hI.below hA) (Blk.new w 3 (zeroRow (n + 1))) (by omega)
  have hl : (intCells z).length = n := by simp [intCells, hI.1]
  have hcn : W2.cell? ⟨w.heap.size, n, none⟩ = some (.int .i64 0) := hB2.out.cell (by
    rw [List.getElem?_append_right (by omega), hl]
    simp [zeroRow])
  have hfn := hB2.out.free n
  have hbel' : Hid _ := hA.trans hbel
  clear hbel hA
  go_enter Try.func40, Try.ntmps40
  go_wp2
  go_ret
  refine ⟨rfl, ?_, ?_⟩
  · have := hB2.out.put n (.int .i64 last)
    have e : (intCells z ++ zeroRow (n + 1 - n)).set n (.int .i64 last) = intCells (z ++ [last]) := by
      rw [List.set_append_right _ _ (by omega), hl]
      simp [zeroRow, intCells]
    rw [e] at this
    exact this
  · exact hbel'.out.setCell (Nat.le_refl _) _

theorem infoCode : (Try.prog.info? 47).map (fun i => (i.zero, i.size, i.bytes)) = some (some (.agg #[.int .i64 0, .int .i64 0, .int .i64 0]), 3, 24) := by kernel_rfl

set_option maxHeartbeats 1000000 in
theorem giveCodes_any (a : Option Addr) (n cap : Nat) (ws : List Int) (b : Nat) (w : World) (hI : Ints w a n ws) (hn : 1 ≤ n ∧ n ≤ 129) (hb : 1 ≤ b ∧ b ≤ 8) :
    Calls Try.prog 39 #[.slice a n cap, .int .i64 (b : Int)] w fun e w' => ∃ v, e = .returned v ∧ w'.ownsRow w.heap.size 47 3 v (CM.gs ws b b).1.length (CM.cellsOf (CM.gs ws b b).1) ∧ Below w.heap.size w w' := by
  obtain ⟨hl, hbig, hc⟩ := hI
  obtain ⟨bk, off, rfl, hlt, hc'⟩ := hc.resolve_left (by omega)
  have HC : Hid _ := hc'
  clear hc hc'
  obtain ⟨i0, hi, hz0, hz1, hz2⟩ := info_parts infoCode
  go_enter Try.func39, Try.ntmps39
  go_wp2
  go_loopg [5, 6, 7] b (fun g v sv wv wr => ∃ t : Nat, g = b - t ∧ t ≤ b ∧ wv = .int .i64 ((t : Int) + 1) ∧ sv = .int .i64 (CM.gs ws b t).2 ∧ wr.ownsRow w.heap.size 47 3 v (CM.gs ws b t).1.length (CM.cellsOf (CM.gs ws b t).1) ∧ Below w.heap.size w wr)
  case atStart => exact ⟨0, by omega, by omega, rfl, rfl, World.ownsRow_nil _ _ _ _, Below.refl _ _⟩
  case round =>
    obtain ⟨t, rfl, ht, rfl, rfl, hown, hbel⟩ := hrel
    by_cases htb : t < b
    · have htd : decide ((t : Int) + 1 ≤ (b : Int)) = true := by simp; omega
      have hgs := CM.gs_bound ws b t (by omega)
      go_wp2_with fail
      obtain ⟨wo, rfl⟩ : ∃ wo : World, wo = wr := ⟨_, rfl⟩
      go_loopg [5, 6, 17] n (fun g v sv kv wr => ∃ k : Nat, g = n - k ∧ k ≤ n ∧ kv = .int .i64 (k : Int) ∧ sv = .int .i64 (CM.gk ws b ((t : Int) + 1) (CM.gs ws b t) k).2 ∧ wr.ownsRow w.heap.size 47 3 v (CM.gk ws b ((t : Int) + 1) (CM.gs ws b t) k).1.length (CM.cellsOf (CM.gk ws b ((t : Int) + 1) (CM.gs ws b t) k).1) ∧ Below w.heap.size w wr)
      case atStart => exact ⟨0, by omega, by omega, rfl, rfl, hown, hbel⟩
      case round =>
        clear hown hbel
        obtain ⟨k, rfl, hk, rfl, rfl, hown, hbel⟩ := hrel
        have hgk := CM.gk_bound ws b ((t : Int) + 1) (CM.gs ws b t) (by omega) k
        have hsuc : Hid (CM.gk ws b ((t : Int) + 1) (CM.gs ws b t) (k + 1) = if ws.getD k 0 = (t : Int) + 1 then ((CM.gk ws b ((t : Int) + 1) (CM.gs ws b t) k).1 ++ [((k : Int), (b : Int) + 1 - ((t : Int) + 1), (CM.gk ws b ((t : Int) + 1) (CM.gs ws b t) k).2 / 2 ^ ((t : Int) + 1 - 1).toNat)], (CM.gk ws b ((t : Int) + 1) (CM.gs ws b t) k).2 + CM.sp ((t : Int) + 1)) else CM.gk ws b ((t : Int) + 1) (CM.gs ws b t) k) := rfl
        have hfull : Hid (k = n → CM.gk ws b ((t : Int) + 1) (CM.gs ws b t) k = CM.gs ws b (t + 1)) := by
          rintro rfl; rw [← hl]; rfl
        have hm : t * ws.length ≤ 8 * 129 := Nat.mul_le_mul (by omega) (by omega)
        generalize CM.gk ws b ((t : Int) + 1) (CM.gs ws b t) k = G at *
        obtain ⟨L, st⟩ := G
        simp only at hgk hown
        by_cases hkn : k < n
        · have hck : wr.cell? ⟨bk, off + k, none⟩ = some (.int .i64 (ws.getD k 0)) := (hbel.cell (p := ⟨bk, off + k, none⟩) hlt).trans (HC.out k hkn)
          generalize ws.getD k 0 = x at *
          by_cases hx : x = (t : Int) + 1
          · subst hx
            have htn : ((t : Int) + 1 - 1).toNat = t := by omega
            go_wp2_with (first | (at_builtin; refine wpList_append_own _ rfl _ _ 41 rfl w.heap.size 47 i0 _ 3 24 Try.underlying41 hi hz0 hz1 hz2 rfl (by decide) _ _ _ rfl (hown.alloc _) ⟨wr.heap.size, 0, none⟩ 1 1 [.int .i64 (k : Int), .int .i64 ((b : Int) + 1 - ((t : Int) + 1)), .int .i64 (st / 2 ^ t)] rfl rfl (three_new _ _ _ _ _) (three_one _ _ _) (by unfold maxLen; omega) (by omega) (by have := hbel.size; simp; omega) ?_))
            intro v' w1 hown' hgrow _
            have hb1 : Below w.heap.size w w1 := (hbel.alloc hbel.size _).grown hgrow (by have := hbel.size; simp; omega) (fun j hj => (hown.lt j hj).1)
            have hsp := CM.sp_bound ((t : Int) + 1) (by omega)
            clear hgrow hown hck
            go_wp2_with (go_at_call 48; refine (span_any _ _ (by omega)).mono ?_; rintro e w' ⟨rfl, rfl⟩)
            go_roundg (n - (k + 1))
            case rel =>
              have e := hsuc.out
              rw [if_pos trivial, htn] at e
              refine ⟨k + 1, rfl, by omega, by go_num, by rw [e], ?_, hb1⟩
              rw [e, CM.cellsOf_snoc]
              simpa using hown'
            case measure => omega
          · have hxb : (x != (t : Int) + 1) = true := by simp; omega
            go_wp2
            go_roundg (n - (k + 1))
            case rel =>
              have e := hsuc.out
              rw [if_neg hx] at e
              exact ⟨k + 1, rfl, by omega, by go_num, by rw [e], by rw [e]; exact hown, hbel⟩
            case measure => omega
        · have hkn' : k = n := by omega
          have e := hfull.out hkn'
          have E : Hid _ := e
          clear e
          go_wp2
          go_roundg (b - (t + 1))
          case rel => exact ⟨t + 1, rfl, by omega, by go_num, by rw [← E.out], by rw [← E.out]; exact hown, hbel⟩
          case measure => omega
    · obtain rfl : t = b := by omega
      go_wp2
      go_ret
      exact ⟨_, rfl, hown, hbel⟩

set_option maxHeartbeats 1000000 in
theorem codes_bad (a : Option Addr) (n cap : Nat) (z : List Int) (w : World) (hI : Ints w a n z) (hg : CM.good z = false) :
    Calls Try.prog 21 #[.slice a n cap] w fun e w' => e = .returned (.tuple #[.slice none 0 0, .int .i64 4]) ∧ w' = w := by
  have hl := hI.1
  cases hin : CM.inB z with
  | false =>
    go_enter Try.func21, Try.ntmps21
    go_wp2_with fail
    refine (inBounds_any _ _ _ z _ hI).mono ?_
    rintro e w1 ⟨rfl, rfl⟩
    go_wp2
    go_ret2
    exact ⟨rfl, rfl⟩
  | true =>
    obtain ⟨hf, h1, h2⟩ := CM.inB_fits hin
    have ht := CM.total_bound hin
    obtain ⟨r1, r2, r3, r4, r5⟩ := CM.rest_bound hin
    have hL := CM.len_bound (CM.total z) ht.1 (by omega)
    have hT : Hid (CM.tot z n = CM.total z) := by rw [Hid, ← hl]; rfl
    have hR : Hid (2 ^ (CM.len (CM.total z)).toNat - CM.total z = CM.rest z) := rfl
    have hp2 := CM.pow_le (CM.len (CM.total z)).toNat 15 (by omega)
    have hp1 := CM.pow_pos (CM.len (CM.total z)).toNat
    have hr1 : 1 ≤ 2 ^ (CM.len (CM.total z)).toNat - CM.total z := r1
    clear r2 r3 r1
    cases hb0 : (CM.total z == 0) with
    | true =>
      clear hg
      go_enter Try.func21, Try.ntmps21
      go_wp2_with fail
      refine (inBounds_any _ _ _ z _ hI).mono ?_
      rintro e w1 ⟨rfl, rfl⟩
      rw [hin]
      go_wp2_with fail
      refine (totalOf_any _ _ _ z _ hI hf (by omega)).mono ?_
      rintro e w1 ⟨rfl, rfl⟩
      rw [hT.out]
      go_wp2_with fail
      refine (len_any _ _ (by omega) (by omega)).mono ?_
      rintro e w1 ⟨rfl, rfl⟩
      go_wp2_with fail
      go_ret2
      exact ⟨rfl, rfl⟩
    | false =>
      by_cases hb8 : 8 < CM.len (CM.total z)
      · have hd8 : decide (8 < CM.len (CM.total z)) = true := by simpa using hb8
        clear hg
        go_enter Try.func21, Try.ntmps21
        go_wp2_with fail
        refine (inBounds_any _ _ _ z _ hI).mono ?_
        rintro e w1 ⟨rfl, rfl⟩
        rw [hin]
        go_wp2_with fail
        refine (totalOf_any _ _ _ z _ hI hf (by omega)).mono ?_
        rintro e w1 ⟨rfl, rfl⟩
        rw [hT.out]
        go_wp2_with fail
        refine (len_any _ _ (by omega) (by omega)).mono ?_
        rintro e w1 ⟨rfl, rfl⟩
        go_wp2_with fail
        go_ret2
        exact ⟨rfl, rfl⟩
      · have hd8 : decide (8 < CM.len (CM.total z)) = false := by simpa using hb8
        have hpw : (bits BinOp.and IntKind.i64 (2 ^ (CM.len (CM.total z)).toNat - CM.total z) (2 ^ (CM.len (CM.total z)).toNat - CM.total z - 1) != 0) = true := by
          have hne : CM.total z ≠ 0 := by simpa using hb0
          have : CM.pw (CM.rest z) = false := by
            simpa [CM.good, hin, hne, show CM.len (CM.total z) ≤ 8 by omega] using hg
          rw [bne, show (bits BinOp.and IntKind.i64 (2 ^ (CM.len (CM.total z)).toNat - CM.total z) (2 ^ (CM.len (CM.total z)).toNat - CM.total z - 1) == 0) = CM.pw (CM.rest z) from rfl, this]
          rfl
        clear hg
        go_enter Try.func21, Try.ntmps21
        go_wp2_with fail
        refine (inBounds_any _ _ _ z _ hI).mono ?_
        rintro e w1 ⟨rfl, rfl⟩
        rw [hin]
        go_wp2_with fail
        refine (totalOf_any _ _ _ z _ hI hf (by omega)).mono ?_
        rintro e w1 ⟨rfl, rfl⟩
        rw [hT.out]
        go_wp2_with fail
        refine (len_any _ _ (by omega) (by omega)).mono ?_
        rintro e w1 ⟨rfl, rfl⟩
        go_wp2_with fail
        go_ret2
        exact ⟨rfl, rfl⟩

theorem good_parts {z : List Int} (hg : CM.good z = true) : CM.inB z = true ∧ (CM.total z == 0) = false ∧ CM.len (CM.total z) ≤ 8 ∧ CM.pw (CM.rest z) = true := by
  simp [CM.good] at hg
  exact ⟨hg.1.1.1, by simp [hg.1.1.2], hg.1.2, hg.2⟩

set_option maxHeartbeats 1000000 in
theorem codes_ok (a : Option Addr) (n cap : Nat) (z : List Int) (w : World) (hI : Ints w a n z) (hg : CM.good z = true) :
    Calls Try.prog 21 #[.slice a n cap] w fun e w' => ∃ v, e = .returned (.tuple #[v, .int .i64 0]) ∧ w'.ownsRow w.heap.size 47 3 v (CM.codes z).length (CM.cellsOf (CM.codes z)) ∧ Below w.heap.size w w' := by
  have hl := hI.1
  obtain ⟨hin, hb0, hb8, hpw'⟩ := good_parts hg
  obtain ⟨hf, h1, h2⟩ := CM.inB_fits hin
  have ht := CM.total_bound hin
  obtain ⟨r1, r2, r3, r4, r5⟩ := CM.rest_bound hin
  have hL := CM.len_bound (CM.total z) ht.1 (by omega)
  have hT : Hid (CM.tot z n = CM.total z) := by rw [Hid, ← hl]; rfl
  have hR : Hid (2 ^ (CM.len (CM.total z)).toNat - CM.total z = CM.rest z) := rfl
  have hp2 := CM.pow_le (CM.len (CM.total z)).toNat 15 (by omega)
  have hp1 := CM.pow_pos (CM.len (CM.total z)).toNat
  have hr1 : 1 ≤ 2 ^ (CM.len (CM.total z)).toNat - CM.total z := r1
  clear r2 r3 r1
  have hd8 : decide (8 < CM.len (CM.total z)) = false := by simpa using hb8
  have hpw : (bits BinOp.and IntKind.i64 (2 ^ (CM.len (CM.total z)).toNat - CM.total z) (2 ^ (CM.len (CM.total z)).toNat - CM.total z - 1) != 0) = false := by
    rw [bne, show (bits BinOp.and IntKind.i64 (2 ^ (CM.len (CM.total z)).toNat - CM.total z) (2 ^ (CM.len (CM.total z)).toNat - CM.total z - 1) == 0) = CM.pw (CM.rest z) from rfl, hpw']
    rfl
  clear hg hpw'
  go_enter Try.func21, Try.ntmps21
  go_wp2_with fail
  refine (inBounds_any _ _ _ z _ hI).mono ?_
  rintro e w1 ⟨rfl, rfl⟩
  rw [hin]
  go_wp2_with fail
  refine (totalOf_any _ _ _ z _ hI hf (by omega)).mono ?_
  rintro e w1 ⟨rfl, rfl⟩
  rw [hT.out]
  go_wp2_with fail
  refine (len_any _ _ (by omega) (by omega)).mono ?_
  rintro e w1 ⟨rfl, rfl⟩
  go_wp2_with fail
  refine (len_any _ _ (by omega) (by omega)).mono ?_
  rintro e w2 ⟨rfl, rfl⟩
  rw [hR.out]
  go_wp2_with fail
  refine (withLast_any _ _ _ z _ _ hI (by omega)).mono ?_
  rintro e w3 ⟨rfl, hblk, hbel⟩
  have hI3 : Ints w3 (some ⟨w2.heap.size, 0, none⟩) (n + 1) (CM.all z) := by
    have e : (CM.all z).length = n + 1 := by simp [CM.all, hl]
    have := Ints.of_blk (rest := []) (z := CM.all z) (by rw [List.append_nil]; exact hblk) (by omega)
    rw [e] at this
    exact this
  obtain ⟨bn, hbn⟩ : ∃ bn : Nat, CM.len (CM.total z) = (bn : Int) := ⟨_, rfl⟩
  have hb1 : 1 ≤ bn ∧ bn ≤ 8 := by
    have : CM.total z ≠ 0 := by simpa using hb0
    omega
  go_wp2_with fail
  refine (giveCodes_any _ _ _ (CM.all z) bn _ hI3 (by omega) hb1).mono ?_
  rintro e w4 ⟨v, rfl, hown, hbel4⟩
  have hown' : Hid _ := hown
  clear hown
  go_wp2
  go_ret2
  refine ⟨v, rfl, ?_, hbel.trans (hbel4.mono hbel.size)⟩
  have e : CM.codes z = (CM.gs (CM.all z) (bn : Int) bn).1 := by unfold CM.codes; rw [hbn, Int.toNat_natCast]
  rw [e]
  exact ownsRow_base hown'.out hbel.size

/-- The codes that were given out, as they lie in memory. -/
theorem codes_rows (a : Option Addr) (n cap : Nat) (z : List Int) (w : World) (hI : Ints w a n z) (hg : CM.good z = true) (hpos : 0 < (CM.codes z).length) :
    Calls Try.prog 21 #[.slice a n cap] w fun e w' => ∃ g c rest, e = .returned (.tuple #[.slice (some ⟨g, 0, none⟩) (CM.codes z).length c, .int .i64 0]) ∧ w.heap.size ≤ g ∧ Blk w' g 47 (CM.cellsOf (CM.codes z) ++ rest) ∧
      (CM.codes z).length ≤ c ∧ c ≤ maxLen ∧ (CM.cellsOf (CM.codes z) ++ rest).length = c * 3 ∧ Below w.heap.size w w' := by
  refine (codes_ok a n cap z w hI hg).mono ?_
  rintro e w' ⟨v, rfl, ⟨h1, h2⟩, hb⟩
  rcases h2 with ⟨-, h2⟩ | ⟨g, c, cur, rfl, hg1, hh, hn, hm, hs, ht⟩
  · omega
  · have e : CM.cellsOf (CM.codes z) ++ cur.toList.drop ((CM.codes z).length * 3) = cur.toList := by
      rw [← ht, List.take_append_drop]
    refine ⟨g, c, cur.toList.drop ((CM.codes z).length * 3), rfl, hg1, ?_, hn, hm, ?_, hb⟩
    · unfold Blk
      rw [e]
      simpa using hh
    · rw [e]
      simpa using hs
end Go.Proofs.Ytbhemchnjpajiaa

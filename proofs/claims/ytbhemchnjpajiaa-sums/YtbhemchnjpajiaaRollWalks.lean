/- The rolling check sum of the program, walked: Start, Add, Value, and Sum over them; behind Add a sum holds the words of the whole stripes of all that was added, what no stripe holds, and the length. Conditions: texts of at most 2^47 bytes together. -/
import Derived.Test.YtbhemchnjpajiaaSumLeaves
import Derived.Test.YtbhemchnjpajiaaRollMath
import Derived.Test.YtbhemchnjpajiaaKit2
import Derived.Deep.DeepMust
import Derived.Deep.LoopGhost
import Derived.Deep.RegionWith
import Derived.Lib.Strings
import Derived.Lib.Walk
import Derived.Lib.BufferWrite
import Derived.Lib.UnsafeStr
import Derived.Lib.Hide
import Derived.Laws.MakeOwn
namespace Go.Proofs.Ytbhemchnjpajiaa
open Go.RowKit
set_option linter.unusedVariables false

set_option maxHeartbeats 400000 in
theorem start_any (w : World) :
    Calls Try.prog 24 #[] w fun e w' => e = .returned (.agg #[.int .u32 606290984, .int .u32 2246822519, .int .u32 0, .int .u32 1640531535, .string ⟨#[]⟩, .int .u64 0]) ∧ Below w.heap.size w w' := by
  go_enter Try.func24, Try.ntmps24
  go_wp2
  refine bodyPost_ret (v := .agg #[.int .u32 606290984, .int .u32 2246822519, .int .u32 0, .int .u32 1640531535, .string ⟨#[]⟩, .int .u64 0]) (by simp [results, Try.results24, go_sem]) rfl ⟨rfl, ?_⟩
  exact (Below.refl _ w).alloc (Nat.le_refl _) _

set_option maxHeartbeats 400000 in
theorem join_any (f : SM.Four) (w : World) (hf : f.ok) :
    Calls Try.prog 44 #[.agg #[.int .u32 f.a, .int .u32 f.b, .int .u32 f.c, .int .u32 f.d]] w fun e w' => e = .returned (.int .u32 f.join) ∧ Below w.heap.size w w' := by
  obtain ⟨ha, hb, hc, hd⟩ := hf
  have H' := hid' (SM.join_sum f)
  go_enter Try.func44, Try.ntmps44
  go_wp2
  go_quiet ((go_at_call 51; refine Calls.quiet_of_same (rot_any _ _ _ ?_ ?_ ?_); (unfold SM.Turns; decide); omega; omega))
  go_wp2
  go_ret
  exact ⟨by rw [← H'.out]; rfl, (((Below.refl _ w).alloc (Nat.le_refl _) _).trans ⟨rfl, rfl, rfl, Nat.le_refl _, fun _ _ => rfl⟩)⟩

theorem infoU8 : (Try.prog.info? 5).map (fun i => (i.zero, i.size, i.bytes)) = some (some (.int .u8 0), 1, 1) := by kernel_rfl

set_option maxHeartbeats 1000000 in
theorem clone_any (s : ByteArray) (w : World) (hs : s.size ≤ 281474976710656) :
    Calls Try.prog 52 #[.string s] w fun e w' => e = .returned (.string s) ∧ Below w.heap.size w w' := by
  by_cases h0 : s.size = 0
  · have hs : s = ⟨#[]⟩ := by
      apply ByteArray.ext
      exact Array.eq_empty_of_size_eq_zero h0
    subst hs
    go_enter Try.func52, Try.ntmps52
    go_wp2
    go_ret
    exact ⟨rfl, Below.refl _ _⟩
  · obtain ⟨i0, hi, hz0, hz1, hz2⟩ := info_parts infoU8
    have hinfo : (Try.prog.info? 5).map (·.size) = some 1 := by rw [hi]; simp [hz1]
    have hco : Try.prog.cellsOf 5 = 1 := by simp [Program.cellsOf, hi, hz1]
    obtain ⟨M, hM⟩ : ∃ M, M = madeCells (Value.int .u8 0).cells (((s.size : Nat) : Int).toNat * i0.size) := ⟨_, rfl⟩
    have hMs : M.size = s.size := by rw [hM, size_madeCells, hz1]; simp
    have hmk : ∀ W : World, (Instr.makeSlice 82 (.int .i64 (s.size : Int)) (.int .i64 (s.size : Int))).run Try.prog W = .ok (.slice (some ⟨W.heap.size, 0, none⟩) s.size s.size) (W.alloc (.cells M 5)) := fun W => by
      have h := run_make (P := Try.prog) W 82 5 i0 (.int .u8 0) Try.underlying82 hi hz0 .i64 .i64 (s.size : Int) (s.size : Int) (by omega) (by omega) (by rw [hz2]; omega) (by omega)
      rw [← hM] at h
      simpa using h
    clear hM
    have hcp := Lib.run_copy_row_string (P := Try.prog) (w.alloc (.cells M 5)) 82 9 3 5 w.heap.size 0 s.size s.size s M 5 Try.underlying82 hinfo (heap_alloc_new w _) (Nat.le_refl _) (by omega)
    obtain ⟨Y, hY⟩ : ∃ Y, Y = (M.toList.take 0 ++ Lib.byteCells s.data.toList ++ M.toList.drop (0 + s.size)).toArray := ⟨_, rfl⟩
    rw [← hY] at hcp
    have hYl : Y.toList = Lib.byteCells s.data.toList := by
      rw [hY, List.toList_toArray, List.take_zero, List.nil_append, List.drop_of_length_le (by rw [Array.length_toList]; omega), List.append_nil]
    have hYs : Y.size = s.size := by rw [← Array.length_toList, hYl, Lib.byteCells_length, ← Lib.size_eq]
    have hgY : ((w.alloc (.cells M 5)).setRow w.heap.size Y).heap[w.heap.size]? = some (.cells Y 5 (0, 0)) := setRow_heap _ _ M _ 5 (0, 0) (heap_alloc_new w _)
    have hne : s.data.toList ≠ [] := fun e => h0 (by rw [Lib.size_eq, e]; rfl)
    have hUS := Lib.run_unsafeString_row (P := Try.prog) ((w.alloc (.cells M 5)).setRow w.heap.size Y) 83 3 9 5 Try.underlying83 hco w.heap.size Y.size (by unfold World.shape?; rw [hgY]) s.data.toList hne (by rw [← Lib.size_eq]; omega) (by rw [← Lib.size_eq]; omega)
      (fun j x hx => Lib.cells_of_row hgY Y.size j _ (by rw [List.take_of_length_le (by rw [Array.length_toList]; exact Nat.le_refl _), hYl]; simp [Lib.byteCells, hx]))
    rw [← Lib.size_eq] at hUS
    clear hY
    go_enter Try.func52, Try.ntmps52
    go_wp2
    go_ret
    have hb1 : Below w.heap.size w (w.alloc (.cells M 5)) := (Below.refl _ w).alloc (Nat.le_refl _) _
    have hb2 : Below w.heap.size (w.alloc (.cells M 5)) ((w.alloc (.cells M 5)).setRow w.heap.size Y) := ⟨rfl, rfl, rfl, by simp, fun k hk => setRow_other _ _ _ _ (by omega)⟩
    exact ⟨rfl, Lib.below_freeze (hb1.trans hb2) (p := ⟨w.heap.size, 0, none⟩) (Nat.le_refl _) _⟩

set_option maxHeartbeats 400000 in
theorem sclone_any (s : ByteArray) (w : World) (hs : s.size ≤ 281474976710656) :
    Calls Try.prog 43 #[.string s] w fun e w' => e = .returned (.string s) ∧ Below w.heap.size w w' := by
  go_enter Try.func43, Try.ntmps43
  go_wp2_with (go_at_call 52; refine (clone_any _ _ hs).mono ?_; rintro e w1 ⟨rfl, hb⟩)
  go_ret
  exact ⟨rfl, hb⟩

/-- The cells of a sum: four words, what no stripe holds, the length. -/
def rollCells (a b c d : Int) (r : ByteArray) (n : Nat) : List Value := [.int .u32 a, .int .u32 b, .int .u32 c, .int .u32 d, .string r, .int .u64 n]
/-- The cells of the sum of a text. -/
def sumCells (s : ByteArray) : List Value := rollCells (SM.words s).a (SM.words s).b (SM.words s).c (SM.words s).d (SM.cut s (16 * (s.size / 16))) s.size
theorem roll_at (pre post : List Value) (x : List Value) (j : Nat) (h : j < x.length) : (pre ++ (x ++ post))[pre.length + j]? = x[j]? := by
  rw [List.getElem?_append_right (by omega), Nat.add_sub_cancel_left, List.getElem?_append_left h]
theorem roll_put (pre post x : List Value) (j : Nat) (v : Value) (h : j < x.length) : (pre ++ (x ++ post)).set (pre.length + j) v = pre ++ (x.set j v ++ post) := by
  rw [List.set_append_right _ _ (by omega), Nat.add_sub_cancel_left, List.set_append_left _ _ h]
theorem roll_cells {w : World} {g : Nat} {t : TypeId} {pre post : List Value} {a b c d : Int} {r : ByteArray} {n : Nat} (h : Blk w g t (pre ++ (rollCells a b c d r n ++ post))) :
    w.cell? ⟨g, pre.length, none⟩ = some (.int .u32 a) ∧ w.cell? ⟨g, pre.length + 1, none⟩ = some (.int .u32 b) ∧ w.cell? ⟨g, pre.length + 2, none⟩ = some (.int .u32 c) ∧ w.cell? ⟨g, pre.length + 3, none⟩ = some (.int .u32 d) ∧
    w.cell? ⟨g, pre.length + 4, none⟩ = some (.string r) ∧ w.cell? ⟨g, pre.length + 5, none⟩ = some (.int .u64 n) :=
  ⟨h.cell (roll_at pre post _ 0 (by simp [rollCells])), h.cell (roll_at pre post _ 1 (by simp [rollCells])), h.cell (roll_at pre post _ 2 (by simp [rollCells])), h.cell (roll_at pre post _ 3 (by simp [rollCells])),
    h.cell (roll_at pre post _ 4 (by simp [rollCells])), h.cell (roll_at pre post _ 5 (by simp [rollCells]))⟩

/-- The words inside a stripe, at the first cells of a sum. -/
def midCells (l : List UInt8) (i j : Nat) (r : ByteArray) (n : Nat) : List Value := rollCells (SM.half l i j 0) (SM.half l i j 1) (SM.half l i j 2) (SM.half l i j 3) r n
theorem midCells_zero (l : List UInt8) (i : Nat) (r : ByteArray) (n : Nat) : midCells l i 0 r n = rollCells (SM.stripe l i).a (SM.stripe l i).b (SM.stripe l i).c (SM.stripe l i).d r n := by
  simp [midCells, SM.half_zero, SM.Four.get]
theorem midCells_four (l : List UInt8) (i : Nat) (r : ByteArray) (n : Nat) : midCells l i 4 r n = rollCells (SM.stripe l (i + 1)).a (SM.stripe l (i + 1)).b (SM.stripe l (i + 1)).c (SM.stripe l (i + 1)).d r n := by
  simp [midCells, SM.half_four, SM.Four.get]
theorem midCells_at (l : List UInt8) (i j : Nat) (r : ByteArray) (n : Nat) (k : Nat) (hk : k < 4) : (midCells l i j r n)[k]? = some (.int .u32 (SM.half l i j k)) := by
  rcases (by omega : k = 0 ∨ k = 1 ∨ k = 2 ∨ k = 3) with rfl | rfl | rfl | rfl <;> rfl
theorem midCells_put (l : List UInt8) (i j : Nat) (r : ByteArray) (n : Nat) (hj : j < 4) : (midCells l i j r n).set j (.int .u32 (SM.half l i (j + 1) j)) = midCells l i (j + 1) r n := by
  unfold midCells rollCells
  rcases (by omega : j = 0 ∨ j = 1 ∨ j = 2 ∨ j = 3) with rfl | rfl | rfl | rfl
  · simp [SM.half_ne l i 0]
  · simp [SM.half_ne l i 1]
  · simp [SM.half_ne l i 2]
  · simp [SM.half_ne l i 3]
theorem midCells_length (l : List UInt8) (i j : Nat) (r : ByteArray) (n : Nat) : (midCells l i j r n).length = 6 := rfl

set_option maxHeartbeats 1000000 in
theorem add_any (L T : ByteArray) (g : Nat) (t : TypeId) (pre post : List Value) (w : World) (h : Blk w g t (pre ++ (sumCells L ++ post))) (hs : L.size + T.size ≤ 140737488355328) :
    Calls Try.prog 25 #[.pointer (some ⟨g, pre.length, none⟩), .string T] w fun e w' => e = .returned (.tuple #[]) ∧ Blk w' g t (pre ++ (sumCells (L ++ T) ++ post)) ∧ Only (· = g) w w' := by
  obtain ⟨c0, c1, c2, c3, c4, c5⟩ := roll_cells (by unfold sumCells at h; exact h)
  have f0 := h.free
  have hz := SM.cut_size L (16 * (L.size / 16))
  have hSz := SM.size_append L T
  have HS : Hid _ := hid' (SM.cut_append L T (16 * (L.size / 16)) (by omega))
  obtain ⟨S, hS⟩ : ∃ S, S = L ++ T := ⟨_, rfl⟩
  rw [← hS] at hSz HS
  have hSz1 : S.size ≤ 140737488355328 := by omega
  have hSz2 : 16 * (L.size / 16) ≤ S.size := by omega
  have hSz' := hid' hSz
  clear hSz
  have hb0 : Blk (w.setCell ⟨g, pre.length + 5, none⟩ (.int .u64 ((L.size : Int) + T.size))) g t (pre ++ (midCells S.data.toList (L.size / 16) 0 (SM.cut L (16 * (L.size / 16))) S.size ++ post)) := by
    have e := h.put (pre.length + 5) (.int .u64 ((L.size : Int) + T.size))
    rw [roll_put _ _ _ _ _ (by simp [sumCells, rollCells])] at e
    rw [midCells_zero, hS, SM.data_append, SM.stripe_append _ _ _ (by simp; omega), SM.size_append]
    simpa [sumCells, rollCells, SM.words] using e
  have ho0 : Only (· = g) w (w.setCell ⟨g, pre.length + 5, none⟩ (.int .u64 ((L.size : Int) + T.size))) := (Only.refl _ w).setCell _ _ (fun _ => rfl)
  have hb0 := hid' hb0
  have ho0 := hid' ho0
  have hS' := hid' hS
  clear hS
  go_enter Try.func25, Try.ntmps25
  go_wp2
  rw [HS.out]
  generalize w.setCell ⟨g, pre.length + 5, none⟩ (.int .u64 ((L.size : Int) + T.size)) = w0 at *
  clear c0 c1 c2 c3 c4 c5 f0
  go_loopg [1] (S.size + 1 - 16 * (L.size / 16)) (fun gh tv wr => ∃ i : Nat, gh = S.size + 1 - 16 * i ∧ 16 * i ≤ S.size ∧ tv = .string (SM.cut S (16 * i)) ∧ Blk wr g t (pre ++ (midCells S.data.toList i 0 (SM.cut L (16 * (L.size / 16))) S.size ++ post)) ∧ Only (· = g) w wr)
  case atStart => exact ⟨L.size / 16, rfl, hSz2, rfl, hb0.out, ho0.out⟩
  case round =>
    obtain ⟨i, rfl, hi, rfl, hb, ho⟩ := hrel
    have hzi := SM.cut_size S (16 * i)
    have hb := hid' hb
    have ho := hid' ho
    by_cases hlt : 16 * i + 16 ≤ S.size
    · have h16 : (16 : Int) ≤ ((S.size - 16 * i : Nat) : Int) := by omega
      have d16 : decide ((16 : Int) ≤ ((S.size - 16 * i : Nat) : Int)) = true := decide_eq_true h16
      go_wp2_with fail
      go_loopg [24] 5 (fun gh jv wr' => ∃ j : Nat, gh = 5 - j ∧ j ≤ 4 ∧ jv = .int .i64 j ∧ Blk wr' g t (pre ++ (midCells S.data.toList i j (SM.cut L (16 * (L.size / 16))) S.size ++ post)) ∧ Only (· = g) w wr')
      case atStart => exact ⟨0, by omega, by omega, rfl, hb.out, ho.out⟩
      case round =>
        obtain ⟨j, rfl, hj, rfl, hbj, hoj⟩ := hrel
        by_cases hlj : j < 4
        · have f1 := hbj.free
          have c1 : wr.cell? ⟨g, pre.length + j, none⟩ = some (.int .u32 (SM.half S.data.toList i j j)) := hbj.cell (by rw [roll_at _ _ _ _ (by rw [midCells_length]; omega)]; exact midCells_at _ _ _ _ _ _ hlj)
          have hbj := hid' hbj
          have hoj := hid' hoj
          have hhb := SM.half_bound S.data.toList i j j
          have hnb := SM.num4_bound (S.data.toList.drop (16 * i + 4 * j))
          have hN : Hid (SM.num4 (List.take (S.size - 16 * i - 4 * j) (List.drop (4 * j) (SM.cut S (16 * i)).data.toList)) = SM.num4 (S.data.toList.drop (16 * i + 4 * j))) := by
            unfold Hid
            rw [SM.cut_data, List.drop_drop, List.take_of_length_le (by simp; omega)]
          have aw : IntKind.i64.wrap (4 * (j : Int)) = 4 * (j : Int) := by rw [IntKind.wrap_i64]; omega
          have a1 : 0 ≤ 4 * (j : Int) := by omega
          have a2 : 4 * (j : Int) ≤ ((S.size - 16 * i : Nat) : Int) := by omega
          have a3 : ¬ ((S.size - 16 * i : Nat) : Int) < 4 * (j : Int) := by omega
          have a4 : ¬ 4 * (j : Int) < 0 := by omega
          have a5 : (4 * (j : Int)).toNat = 4 * j := by omega
          have a6 : 4 * j ≤ S.size - 16 * i := by omega
          have a7 : (j : Int) < 4 := by omega
          go_wp2_with fail
          go_region_with (first
            | (go_at_call 42; refine (snumber_any _ _ (by simp only [ByteArray.size_extract]; omega) (by unfold maxLen; simp only [ByteArray.size_extract]; omega)).mono ?_; rintro e w1 ⟨rfl, q1, rfl⟩)
            | (go_at_call 41; refine (mix_any _ _ _ (by omega) (by omega) (SM.num4_bound _).1 (SM.num4_bound _).2).mono ?_; rintro e w1 ⟨rfl, rfl⟩))
          all_goals rw [hN.out, SM.half_at _ _ _ hlj]
          all_goals go_wp2_with fail
          · go_roundg (5 - (j + 1))
            case rel =>
              refine ⟨j + 1, rfl, by omega, by go_num, ?_, (hoj.out.drewN _).setCell _ _ (fun _ => rfl)⟩
              have e := (hbj.out.drewN (1 + q1)).put (pre.length + j) (.int .u32 (SM.half S.data.toList i (j + 1) j))
              rw [roll_put _ _ _ _ _ (by rw [midCells_length]; omega), midCells_put _ _ _ _ _ hlj] at e
              exact e
            case measure => omega
          · go_roundg (5 - (j + 1))
            case rel =>
              refine ⟨j + 1, rfl, by omega, by go_num, ?_, (hoj.out.drewN _).setCell _ _ (fun _ => rfl)⟩
              have e := (hbj.out.drewN (1 + q1)).put (pre.length + j) (.int .u32 (SM.half S.data.toList i (j + 1) j))
              rw [roll_put _ _ _ _ _ (by rw [midCells_length]; omega), midCells_put _ _ _ _ _ hlj] at e
              exact e
            case measure => omega
        · obtain rfl : j = 4 := by omega
          go_wp2_with fail
          rw [SM.cut_walk]
          rw [midCells_four] at hbj
          go_roundg (S.size + 1 - 16 * (i + 1))
          case rel => exact ⟨i + 1, rfl, by omega, rfl, by rw [midCells_zero]; exact hbj, hoj⟩
          case measure => omega
    · go_wp2_with fail
      refine (sclone_any _ _ (by omega)).mono ?_
      rintro e w1 ⟨rfl, hb1⟩
      have hbw := hb.out.below hb1 hb.out.lt
      have f1 := hbw.free
      have c1 : w1.cell? ⟨g, pre.length + 4, none⟩ = some (.string (SM.cut L (16 * (L.size / 16)))) := (roll_cells (by unfold midCells at hbw; exact hbw)).2.2.2.2.1
      have hbw := hid' hbw
      have how := hid' ((ho.out.below hb1).setCell ⟨g, pre.length + 4, none⟩ (.string (SM.cut S (16 * i))) (fun _ => rfl))
      go_wp2_with fail
      go_end0
      refine ⟨rfl, ?_, how.out⟩
      have e := hbw.out.put (pre.length + 4) (.string (SM.cut S (16 * i)))
      rw [roll_put _ _ _ _ _ (by rw [midCells_length]; omega), midCells_zero] at e
      rw [← hS'.out]
      have := hSz'.out
      have hd : S.size / 16 = i := by omega
      simpa [sumCells, rollCells, SM.words, hd] using e
end Go.Proofs.Ytbhemchnjpajiaa

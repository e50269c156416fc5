/- The program's tables of states, walked: the numbers of the states, and States itself. -/
import Derived.Test.YtbhemchnjpajiaaTabWalks
import Derived.Deep.RegionHeld3
namespace Go.Proofs.Ytbhemchnjpajiaa
open Go.RowKit
set_option linter.unusedVariables false

def nxt (z : List Int) (f : Nat → Int) (k p : Nat) : List Value := (List.range 16).map fun s => .int .i64 ((if s < k then TM.pl (z.getD s 0) else 0) + TM.cntEq f (s : Int) p)
theorem nxt_at (z : List Int) (f : Nat → Int) (k p s : Nat) (h : s < 16) : (nxt z f k p)[s]? = some (.int .i64 ((if s < k then TM.pl (z.getD s 0) else 0) + TM.cntEq f (s : Int) p)) := by simp [nxt, h]
theorem nxt_first (z : List Int) (f : Nat → Int) (k : Nat) (h : k < 16) : (nxt z f k 0).set k (.int .i64 (TM.pl (z.getD k 0))) = nxt z f (k + 1) 0 := by
  apply List.ext_getElem
  · simp [nxt]
  · intro i h1 h2
    simp only [nxt, List.getElem_set, List.getElem_map, List.getElem_range]
    by_cases e : k = i
    · subst e; simp [TM.cntEq]
    · rw [if_neg e]
      by_cases e2 : i < k
      · rw [if_pos e2, if_pos (by omega)]
      · rw [if_neg e2, if_neg (by omega)]
theorem nxt_next (z : List Int) (f : Nat → Int) (n p s : Nat) (hs : s < 16) (hsn : s < n) (hf : f p = (s : Int)) (x : Int) (hx : x = TM.pl (z.getD s 0) + TM.cntEq f (s : Int) p + 1) : (nxt z f n p).set s (.int .i64 x) = nxt z f n (p + 1) := by
  apply List.ext_getElem
  · simp [nxt]
  · intro i h1 h2
    simp only [nxt, List.getElem_set, List.getElem_map, List.getElem_range, TM.cntEq, hf]
    by_cases e : s = i
    · subst e
      rw [if_pos rfl, if_pos hsn, if_pos rfl, hx]
      congr 1
      omega
    · rw [if_neg e, if_neg (show ¬ (s : Int) = (i : Int) by omega)]
      rfl

def numTab (z : List Int) (log S : Int) (f : Nat → Int) (p : Nat) : Nat → CM.Tri := fun q => if q < p then TM.st z log S f q else (f q, 0, 0)

theorem numTab_zero (z : List Int) (log S : Int) (f : Nat → Int) (SS : Nat) : CM.cellsOf (TM.tab SS (numTab z log S f 0)) = symTab SS f := by
  unfold symTab
  congr 1
theorem numTab_at (z : List Int) (log S : Int) (f : Nat → Int) (SS p : Nat) (h : p < SS) :
    (CM.cellsOf (TM.tab SS (numTab z log S f p)))[p * 3]? = some (.int .i64 (f p)) ∧ (CM.cellsOf (TM.tab SS (numTab z log S f p)))[p * 3 + 1]? = some (.int .i64 0) ∧ (CM.cellsOf (TM.tab SS (numTab z log S f p)))[p * 3 + 2]? = some (.int .i64 0) := by
  have := CM.cellsOf_at (TM.tab SS (numTab z log S f p)) p (by rw [TM.tab_length]; exact h)
  rw [TM.tab_getD _ _ _ h] at this
  simpa [numTab] using this
theorem numTab_step (z : List Int) (log S : Int) (f : Nat → Int) (SS p : Nat) (h : p < SS) :
    ((CM.cellsOf (TM.tab SS (numTab z log S f p))).set (p * 3 + 1) (.int .i64 (TM.bt log (TM.X z f p)))).set (p * 3 + 2) (.int .i64 (TM.bs log S (TM.X z f p))) = CM.cellsOf (TM.tab SS (numTab z log S f (p + 1))) := by
  rw [TM.cells_set _ p 1 (f p, TM.bt log (TM.X z f p), 0) _ (by rw [TM.tab_length]; exact h) (by omega) (by rw [TM.tab_getD _ _ _ h]; simp [numTab]), TM.tab_set]
  rw [TM.cells_set _ p 2 (TM.st z log S f p) _ (by rw [TM.tab_length]; exact h) (by omega) (by rw [TM.tab_getD _ _ _ h]; simp [TM.upd, TM.st]), TM.tab_set]
  congr 1
  apply TM.tab_congr
  intro q hq
  unfold TM.upd numTab
  by_cases e : q = p
  · subst e; simp
  · rw [if_neg e, if_neg e]
    by_cases e2 : q < p
    · rw [if_pos e2, if_pos (by omega)]
    · rw [if_neg e2, if_neg (by omega)]
theorem numTab_end (z : List Int) (log S : Int) (f : Nat → Int) (SS : Nat) : CM.cellsOf (TM.tab SS (numTab z log S f SS)) = CM.cellsOf (TM.tab SS (TM.st z log S f)) := by
  congr 1
  apply TM.tab_congr
  intro q hq
  unfold numTab
  rw [if_pos hq]

set_option maxRecDepth 100000 in
set_option maxHeartbeats 1000000 in
theorem number_any (a : Option Addr) (n cap : Nat) (z : List Int) (log : Nat) (f : Nat → Int) (w0 w : World) (hI : Ints w0 a n z) (hn : 1 ≤ n ∧ n ≤ 16) (hlog : log = 5 ∨ log = 6) (hf : TM.Fits z (2 ^ log : Nat)) (hsy : TM.Syms z (2 ^ log) n f) (hb : Below w0.heap.size w0 w) (hg : Blk w w0.heap.size 40 (symTab (2 ^ log) f)) :
    Calls Try.prog 34 #[.slice (some ⟨w0.heap.size, 0, none⟩) (2 ^ log) (2 ^ log), .slice a n cap, .int .i64 (log : Int)] w fun e w' => e = .returned (.tuple #[]) ∧ Blk w' w0.heap.size 40 (CM.cellsOf (TM.tab (2 ^ log) (TM.st z log (2 ^ log : Nat) f))) ∧ Below w0.heap.size w0 w' := by
  obtain ⟨hl, hbig, hc⟩ := hI
  obtain ⟨b, off, rfl, hlt, hc'⟩ := hc.resolve_left (by omega)
  have HC : Hid _ := hc'
  have HF := hid' hf
  have HSY := hid' hsy
  clear hc hc' hf hsy
  generalize hgg : w0.heap.size = G at *
  have HGG : Hid _ := hgg
  clear hgg
  obtain ⟨SS, hSS⟩ : ∃ SS : Nat, SS = 2 ^ log := ⟨_, rfl⟩
  have hS64 : 32 ≤ SS ∧ SS ≤ 64 := by rw [hSS]; rcases hlog with rfl | rfl <;> decide
  rw [← hSS] at HF HSY hg ⊢
  have HSS : Hid _ := hSS
  clear hSS
  have hlg : 5 ≤ log ∧ log ≤ 6 := by omega
  have HLG : Hid (log = 5 ∨ log = 6) := hlog
  clear hlog
  go_enter Try.func34, Try.ntmps34
  go_wp2_with fail
  have hGl := hg.lt
  have hn0 : Blk (w.alloc (.cells (nxt z f 0 0).toArray 77)) w.heap.size 77 (nxt z f 0 0) := Blk.new w _ _
  generalize hgn : w.heap.size = GN at *
  have HGN : Hid _ := hgn
  clear hgn
  go_loopg [14] n (fun g kv wr => ∃ k : Nat, g = n - k ∧ k ≤ n ∧ kv = .int .i64 (k : Int) ∧ Blk wr GN 77 (nxt z f k 0) ∧ Blk wr G 40 (symTab SS f) ∧ Below G w0 wr)
  case atStart => exact ⟨0, by omega, by omega, rfl, hn0, hg.alloc _, hb.alloc (by have := HGN.out; omega) _⟩
  case round =>
    clear hn0 hg hb
    obtain ⟨k, rfl, hk, rfl, hnx, hg, hb⟩ := hrel
    by_cases hkn : k < n
    · have hck : wr.cell? ⟨b, off + k, none⟩ = some (.int .i64 (z.getD k 0)) := (hb.cell (p := ⟨b, off + k, none⟩) hlt).trans (HC.out k hkn)
      have hst := nxt_first z f k (by omega)
      have d0 := hnx.cell (nxt_at z f k 0 k (by omega))
      have d1 := hnx.free k
      have HST : Hid _ := hst
      clear hst
      generalize z.getD k 0 = x at *
      have i1 : (k : Int) < 16 := by omega
      go_wp2_with (go_at_call 47; refine (placesOf_any _ _).mono ?_; rintro e w' ⟨rfl, rfl⟩)
      go_roundg (n - (k + 1))
      case rel =>
        refine ⟨k + 1, rfl, by omega, by go_num, ?_, hg.other _ _ (by simp only; omega), hb.setCell (by simp only; omega) _⟩
        rw [← HST.out]
        exact hnx.put _ _
      case measure => omega
    · obtain rfl : k = n := by omega
      rw [← numTab_zero z log SS f SS] at hg
      go_wp2_with fail
      go_loopg [26] SS (fun g pv wr => ∃ p : Nat, g = SS - p ∧ p ≤ SS ∧ pv = .int .i64 (p : Int) ∧ Blk wr GN 77 (nxt z f k p) ∧ Blk wr G 40 (CM.cellsOf (TM.tab SS (numTab z log SS f p))) ∧ Below G w0 wr)
      case atStart => exact ⟨0, by omega, by omega, rfl, hnx, hg, hb⟩
      case round =>
        clear hnx hg hb
        obtain ⟨p, rfl, hp, rfl, hnx, hg, hb⟩ := hrel
        by_cases hpS : p < SS
        · obtain ⟨s, hfs, hsn, hpl⟩ := HSY.out p hpS
          have hX := TM.X_bound z SS (by omega) HF.out f p hpS ⟨s, hfs, hpl⟩
          obtain ⟨c0, c1, c2⟩ := numTab_at z log SS f SS p hpS
          rw [hfs] at c0
          have d0 := hg.cell c0
          have d1 := hg.cell c1
          have d2 := hg.cell c2
          have f1 := hg.free (p * 3 + 1)
          have f2 := hg.free (p * 3 + 2)
          have e0 := hnx.cell (nxt_at z f k p s (by omega))
          rw [if_pos hsn] at e0
          have ex : TM.pl (z.getD s 0) + (TM.cntEq f (s : Int) p : Int) = TM.X z f p := by unfold TM.X; rw [hfs, Int.toNat_natCast]
          have hnn := nxt_next z f k p s (by omega) hsn hfs (TM.X z f p + 1) (by rw [← ex])
          rw [ex] at e0
          have e1 := hnx.free s
          have hstp := numTab_step z log SS f SS p hpS
          have hbs := TM.bs_range log (by omega) (TM.X z f p) hX.1 (by
            have := HSS.out
            have c : ((2 ^ (log + 1) : Nat) : Int) = (2 : Int) ^ (log + 1) := by simp
            rw [← c, Nat.pow_succ, ← this]
            omega)
          have hlen := CM.len_bound (TM.X z f p) (by omega) (by omega)
          have hbt : (log : Int) + 1 - CM.len (TM.X z f p) = TM.bt log (TM.X z f p) := rfl
          have hbsd : TM.X z f p * 2 ^ (TM.bt log (TM.X z f p)).toNat - (SS : Int) = TM.bs log SS (TM.X z f p) := rfl
          have hpow : ((2 : Int) ^ log) = (SS : Int) := by have := HSS.out; rw [this]; simp
          generalize TM.X z f p = x at *
          have HNN : Hid _ := hnn
          have HSTP : Hid _ := hstp
          have HBSD : Hid _ := hbsd
          have HFS : Hid _ := hfs
          clear hnn hstp hbsd hfs ex c0 c1 c2
          have i1 : (s : Int) < 16 := by omega
          have i2 : (p : Int) < (SS : Int) := by omega
          have hGN : G ≠ GN := by omega
          have hGN' : GN ≠ G := by omega
          go_wp2_with (go_at_call 38; refine (len_any x _ (by omega) (by omega)).mono ?_; rintro e w' ⟨rfl, rfl⟩)
          generalize hBB : TM.bt log x = Bt at *
          have hYb : x * 2 ^ Bt.toNat ≤ 128 := by
            have := hbs.2.2.2
            have h2 := CM.pow_pos Bt.toNat
            rw [Int.add_mul] at this
            have h3 := CM.pow_le (log + 1) 7 (by omega)
            omega
          have hY0 : 0 ≤ x * 2 ^ Bt.toNat := by have := hbs.2.2.1; have := CM.pow_pos log; omega
          have hB0 := hbs.1
          have hB1 := hbs.2.1
          have hw1 : IntKind.i64.wrap (x * 2 ^ Bt.toNat) = x * 2 ^ Bt.toNat := by rw [IntWalk.i64_left, IntWalk.wrap64_in _ (by omega)]
          have hw2 : IntKind.i64.wrap (x * 2 ^ Bt.toNat - (SS : Int)) = x * 2 ^ Bt.toNat - (SS : Int) := by rw [IntWalk.i64_left, IntWalk.wrap64_in _ (by omega)]
          have hw3 : IntKind.i64.wrap (2 ^ log) = (SS : Int) := by rw [IntWalk.i64_left, hpow, IntWalk.wrap64_in _ (by omega)]
          have hcl : (CM.cellsOf (TM.tab SS (numTab z log SS f p))).length = SS * 3 := by rw [CM.cellsOf_length, TM.tab_length]
          have hgW : Blk ((wr.setCell ⟨GN, s, none⟩ (.int .i64 (x + 1))).setCell ⟨G, p * 3 + 1, none⟩ (.int .i64 Bt)) G 40 ((CM.cellsOf (TM.tab SS (numTab z log SS f p))).set (p * 3 + 1) (.int .i64 Bt)) := (hg.other _ _ (by simp only; omega)).put _ _
          have hnW : Blk ((wr.setCell ⟨GN, s, none⟩ (.int .i64 (x + 1))).setCell ⟨G, p * 3 + 1, none⟩ (.int .i64 Bt)) GN 77 (nxt z f k (p + 1)) := by
            rw [← HNN.out]
            exact (hnx.put _ _).other _ _ (by simp only; omega)
          have hbW : Below G w0 ((wr.setCell ⟨GN, s, none⟩ (.int .i64 (x + 1))).setCell ⟨G, p * 3 + 1, none⟩ (.int .i64 Bt)) := (hb.setCell (by simp only; omega) _).setCell (Nat.le_refl _) _
          clear hbs e0 e1 d0 d1 d2 f1 f2 hg hnx hb
          generalize (wr.setCell ⟨GN, s, none⟩ (.int .i64 (x + 1))).setCell ⟨G, p * 3 + 1, none⟩ (.int .i64 Bt) = W1 at *
          have d1 : W1.cell? ⟨G, p * 3 + 1, none⟩ = some (.int .i64 Bt) := hgW.cell (by rw [List.getElem?_set_self (by omega)])
          obtain ⟨u2, hu2⟩ : ∃ u, ((CM.cellsOf (TM.tab SS (numTab z log SS f p))).set (p * 3 + 1) (.int .i64 Bt))[p * 3 + 2]? = some u := ⟨_, List.getElem?_eq_getElem (by simp; omega)⟩
          have d2 := hgW.cell hu2
          have f2 := hgW.free (p * 3 + 2)
          clear hu2
          have hk2 : ∀ v, (W1.setCell ⟨G, p * 3 + 2, none⟩ v).cell? ⟨G, p * 3 + 1, none⟩ = some (.int .i64 Bt) := by
            intro v
            rw [World.cell?_setCell_other _ _ _ _ (fun e => by have := congrArg Addr.off e; simp at this)]
            exact d1
          have hw4 : IntKind.i64.wrap (SS : Int) = (SS : Int) := by rw [IntWalk.i64_left, IntWalk.wrap64_in _ (by omega)]
          go_region_held3 (fun w' => w'.cell? ⟨G, p * 3 + 1, none⟩ = some (.int .i64 Bt)) (go_keep) (fail)
          go_wp2
          go_roundg (SS - (p + 1))
          case rel =>
            refine ⟨p + 1, rfl, by omega, by go_num, ?_, ?_, ?_⟩
            · exact (hnW.other _ _ (by simp only; omega)).drew
            · rw [← HSTP.out, ← HBSD.out]
              exact (hgW.put _ _).drew
            · exact (hbW.setCell (Nat.le_refl _) _).drew
          case measure => omega
        · obtain rfl : p = SS := by omega
          go_wp2
          go_end0
          refine ⟨rfl, ?_, hb⟩
          rw [← numTab_end]
          exact hg

theorem infoState : (Try.prog.info? 40).map (fun i => (i.zero, i.size, i.bytes)) = some (some (.agg #[.int .i64 0, .int .i64 0, .int .i64 0]), 3, 24) := by kernel_rfl
theorem symTab_zero (S : Nat) : symTab S (fun _ => 0) = List.replicate (S * 3) (.int .i64 0) := by
  unfold symTab TM.tab CM.cellsOf
  induction S with
  | zero => rfl
  | succ S ih => rw [List.range_succ, List.map_append, List.flatMap_append, ih, Nat.succ_mul, ← List.replicate_append_replicate]; rfl
theorem made_states (S : Nat) : madeCells #[.int .i64 0, .int .i64 0, .int .i64 0] (S * 3) = (symTab S fun _ => 0).toArray := by
  rw [symTab_zero]
  apply Array.ext
  · simp [madeCells]
  · intro i h1 h2
    simp only [madeCells, List.getElem_toArray, List.getElem_replicate]
    have h3 : i % 3 < 3 := Nat.mod_lt _ (by omega)
    rcases (by omega : i % 3 = 0 ∨ i % 3 = 1 ∨ i % 3 = 2) with e | e | e <;> simp [e]
theorem make_states (w : World) (S : Nat) (hS : TM.Size S) :
    (Instr.makeSlice 27 (.int .i64 (S : Int)) (.int .i64 (S : Int))).run Try.prog w =
      .ok (.slice (some ⟨w.heap.size, 0, none⟩) S S) (w.alloc (.cells (symTab S fun _ => 0).toArray 40)) := by
  have hS64 : S ≤ 64 := by rcases hS with rfl | rfl <;> omega
  obtain ⟨i0, hi, hz0, hz1, hz2⟩ := info_parts infoState
  have h := run_make (P := Try.prog) w 27 40 i0 _ Try.underlying27 hi hz0 .i64 .i64 (S : Int) (S : Int) (by omega) (Int.le_refl _) (by rw [hz2]; omega) (by omega)
  rw [h, Int.toNat_natCast, hz1]
  have e : madeCells (Value.cells (.agg #[.int .i64 0, .int .i64 0, .int .i64 0])) (S * 3) = (symTab S fun _ => 0).toArray := by
    exact made_states S
  rw [e]

set_option maxHeartbeats 400000 in
theorem states_bad (log : Int) (a : Option Addr) (n cap : Nat) (z : List Int) (w : World) (hI : Ints w a n z) (hg : goodT log z = false) :
    Calls Try.prog 12 #[.int .i64 log, .slice a n cap] w fun e w' => e = .returned (.tuple #[.slice none 0 0, .int .i64 4]) ∧ w = w' := by
  by_cases h5 : log < 5
  · go_enter Try.func12, Try.ntmps12
    go_wp2
    go_ret2
    exact ⟨rfl, rfl⟩
  by_cases h6 : 6 < log
  · go_enter Try.func12, Try.ntmps12
    go_wp2
    go_ret2
    exact ⟨rfl, rfl⟩
  rcases (by omega : log = 5 ∨ log = 6) with rfl | rfl
  · have hf : TM.fillB z 32 = false := by simpa [goodT] using hg
    go_enter Try.func12, Try.ntmps12
    go_wp2_with (go_at_call 31; refine (fill_any _ _ _ z _ _ hI (by omega)).mono ?_; rintro e w' ⟨rfl, rfl⟩)
    go_ret2
    exact ⟨rfl, rfl⟩
  · have hf : TM.fillB z 64 = false := by simpa [goodT] using hg
    go_enter Try.func12, Try.ntmps12
    go_wp2_with (go_at_call 31; refine (fill_any _ _ _ z _ _ hI (by omega)).mono ?_; rintro e w' ⟨rfl, rfl⟩)
    go_ret2
    exact ⟨rfl, rfl⟩

set_option maxHeartbeats 400000 in
theorem states_ok (log : Nat) (a : Option Addr) (n cap : Nat) (z : List Int) (w : World) (hI : Ints w a n z) (hlog : log = 5 ∨ log = 6) (hf : TM.fillB z (2 ^ log : Nat) = true) :
    Calls Try.prog 12 #[.int .i64 (log : Int), .slice a n cap] w fun e w' => e = .returned (.tuple #[.slice (some ⟨w.heap.size, 0, none⟩) (2 ^ log) (2 ^ log), .int .i64 0]) ∧ Blk w' w.heap.size 40 (CM.cellsOf (table log z)) ∧ Below w.heap.size w w' := by
  have hl := hI.1
  obtain ⟨f1, f2, f3, f4⟩ := TM.fillB_parts hf
  rw [hl] at f2 f3 f4
  have hS : TM.Size (2 ^ log) := by rcases hlog with rfl | rfl; exact .inl rfl; exact .inr rfl
  have hsy := TM.syms z (2 ^ log) n hS f1 f4
  have hfr := TM.tb_free z (2 ^ log) f1 (by rcases hlog with rfl | rfl <;> decide) n (by rw [f4]; exact Int.le_refl _)
  have hfb := TM.free_is z (2 ^ log) n (by rcases hlog with rfl | rfl <;> decide) f1 f4
  have hA : Below w.heap.size w (w.alloc (.cells (symTab (2 ^ log) fun _ => 0).toArray 40)) := (Below.refl _ _).alloc (Nat.le_refl _) _
  have hB := Blk.new w 40 (symTab (2 ^ log) fun _ => 0)
  have C1 := hid' fun w' hb hg => behind_any a n cap z (2 ^ log) w w' hI ⟨f2, f3⟩ hS f1 f4 hb hg
  have C2 := hid' fun w' hb hg => byStep_any a n cap z (2 ^ log) (TM.tb z (2 ^ log) n).2 (TM.tb z (2 ^ log) n).1 w w' hI ⟨f2, f3⟩ hS f1 hfr.2 hfb hb hg
  have C3 := hid' fun w' hb hg => number_any a n cap z log (TM.F z (2 ^ log) n) w w' hI ⟨f2, f3⟩ hlog f1 hsy hb hg
  have C4 := hid' fun u => make_states u (2 ^ log) hS
  have C5 := hid' (show table log z = TM.tab (2 ^ log) (TM.st z log (2 ^ log : Nat) (TM.F z (2 ^ log) n)) by unfold table; rw [hl])
  rw [← C5.out] at C3
  have HA := hid' hA
  have HB := hid' hB
  have HF := hid' hf
  clear f1 f4 hsy hfr hfb hA hB hf C5 hS
  rcases hlog with rfl | rfl
  · have HF' : TM.fillB z 32 = true := HF.out
    have D4 : (Instr.makeSlice 27 (.int .i64 32) (.int .i64 32)).run Try.prog w = .ok (.slice (some ⟨w.heap.size, 0, none⟩) 32 32) (w.alloc (.cells (symTab 32 fun _ => 0).toArray 40)) := C4.out w
    clear C4 HF
    have e5 : ((5 : Nat) : Int) = 5 := rfl
    have e32 : 2 ^ 5 = 32 := rfl
    simp only [e5, e32] at *
    clear e5 e32
    go_enter Try.func12, Try.ntmps12
    go_wp2_with fail
    go_at_call 31
    refine (fill_any _ _ _ z _ _ hI (by omega)).mono ?_
    rintro e w' ⟨rfl, rfl⟩
    rw [HF']
    go_wp2_with fail
    go_at_call 32
    refine (C1.out _ HA.out HB.out).mono ?_
    rintro e w1 ⟨rfl, hg1, hb1⟩
    go_wp2_with fail
    go_at_call 33
    refine (C2.out _ hb1 hg1).mono ?_
    rintro e w2 ⟨rfl, hg2, hb2⟩
    go_wp2_with fail
    go_at_call 34
    refine (C3.out _ hb2 hg2).mono ?_
    rintro e w3 ⟨rfl, hg3, hb3⟩
    go_wp2
    go_ret2
    exact ⟨rfl, hg3, hb3⟩
  · have HF' : TM.fillB z 64 = true := HF.out
    have D4 : (Instr.makeSlice 27 (.int .i64 64) (.int .i64 64)).run Try.prog w = .ok (.slice (some ⟨w.heap.size, 0, none⟩) 64 64) (w.alloc (.cells (symTab 64 fun _ => 0).toArray 40)) := C4.out w
    clear C4 HF
    have e5 : ((6 : Nat) : Int) = 6 := rfl
    have e32 : 2 ^ 6 = 64 := rfl
    simp only [e5, e32] at *
    clear e5 e32
    go_enter Try.func12, Try.ntmps12
    go_wp2_with fail
    go_at_call 31
    refine (fill_any _ _ _ z _ _ hI (by omega)).mono ?_
    rintro e w' ⟨rfl, rfl⟩
    rw [HF']
    go_wp2_with fail
    go_at_call 32
    refine (C1.out _ HA.out HB.out).mono ?_
    rintro e w1 ⟨rfl, hg1, hb1⟩
    go_wp2_with fail
    go_at_call 33
    refine (C2.out _ hb1 hg1).mono ?_
    rintro e w2 ⟨rfl, hg2, hb2⟩
    go_wp2_with fail
    go_at_call 34
    refine (C3.out _ hb2 hg2).mono ?_
    rintro e w3 ⟨rfl, hg3, hb3⟩
    go_wp2
    go_ret2
    exact ⟨rfl, hg3, hb3⟩
end Go.Proofs.Ytbhemchnjpajiaa

/- Several texts in one: PrTb2. -/
import Derived.Test.YtbhemchnjpajiaaGreatDoorKR
/- A table that is given by its counts (package sequences, readCounted), walked. -/
namespace Go.Proofs.YtbhemchnjpajiaaGreatDoor
open Go.RowKit
set_option linter.unusedVariables false

set_option maxHeartbeats 400000 in
theorem countOf_any (b : UInt8) (w : World) :
    Calls Tryz.prog 175 #[.int .u8 (b.toNat : Nat)] w fun e w' => e = .returned (.int .i64 (RD.countOf b)) ∧ w' = w := by
  have hb := b.toNat_lt
  unfold RD.countOf
  by_cases h : b.toNat = 255
  · rw [if_pos h]
    have h2 : ((b.toNat : Nat) : Int) = 255 := by omega
    go_enter Tryz.func175, Tryz.ntmps175
    go_wp2
    go_ret
    exact ⟨rfl, rfl⟩
  · rw [if_neg h]
    have h2 : ¬ ((b.toNat : Nat) : Int) = 255 := by omega
    go_enter Tryz.func175, Tryz.ntmps175
    go_wp2
    go_ret
    exact ⟨rfl, rfl⟩
theorem pad_set (l : RD.Bytes) (i : Nat) (hi : i < l.length) (hl : l.length ≤ 16) : (TM.padL ((l.take i).map RD.countOf) (16 - i)).set i (RD.countOf (l.getD i 0)) = TM.padL ((l.take (i + 1)).map RD.countOf) (16 - (i + 1)) := by
  have e : 16 - i = (16 - (i + 1)) + 1 := by omega
  have hll : ((l.take i).map RD.countOf).length = i := by rw [List.length_map, List.length_take]; omega
  unfold TM.padL
  rw [List.set_append_right _ _ (by omega), hll, Nat.sub_self, e, List.replicate_succ, List.set_cons_zero, List.take_succ_eq_append_getElem hi, List.map_append, List.append_assoc, List.getD_eq_getElem?_getD, List.getElem?_eq_getElem hi]
  rfl
theorem and_fifteen (a : Nat) (ha : a < 9223372036854775808) : bits .and .i64 (a : Int) 15 = ((a % 16 : Nat) : Int) := by
  have := i64_and_nat a 15 ha (by omega)
  rw [show (15 : Nat) = 2 ^ 4 - 1 by rfl, Nat.and_two_pow_sub_one_eq_mod] at this
  exact this
theorem tab2_none {k : Nat} {old : RD.Tab} {s : RD.Bytes} (h : s.length = 0 ∨ s.length < 2 + RD.at' s 0 / 16 ∨ RD.most k < 1 + RD.at' s 0 / 16) : RD.tableOf k 2 old s = none := by
  rw [RD.tableOf, if_neg (by decide), if_neg (by decide), if_pos rfl, if_pos h]
theorem tab2_is {k : Nat} {old : RD.Tab} {s : RD.Bytes} (h : ¬ (s.length = 0 ∨ s.length < 2 + RD.at' s 0 / 16 ∨ RD.most k < 1 + RD.at' s 0 / 16)) : RD.tableOf k 2 old s = if goodT ((RD.at' s 0 % 16 : Nat) : Int) (((s.drop 1).take (1 + RD.at' s 0 / 16)).map RD.countOf) then some (⟨true, RD.at' s 0 % 16, table (RD.at' s 0 % 16) (((s.drop 1).take (1 + RD.at' s 0 / 16)).map RD.countOf)⟩, 2 + RD.at' s 0 / 16) else none := by
  rw [RD.tableOf, if_neg (by decide), if_neg (by decide), if_pos rfl, if_neg h]
set_option maxRecDepth 100000 in
set_option maxHeartbeats 4000000 in
theorem readCounted_any (x : Fx) (g o k p M n : Nat) (t : TypeId) (gs : List Value) (old : RD.Tab) (s : RD.Bytes) (w : World) (hG : Blk w g t gs) (hg0 : gs[o]? = some (.map (some M))) (hk : k ≤ 2) (h : At1 w p s) (hV : VarsAt x w) (hs : s.length ≤ 1048576) (hM : TabsM w M n) (hn : n < 1000000000) (hpb : x.base ≤ p) (hMb : x.base ≤ M) (hgp : g ≠ p) :
    Calls Tryz.prog 163 #[.pointer (some ⟨g, o, none⟩), .int .i64 k, .pointer (some ⟨p, 0, none⟩)] w (TbPost x p M n s (RD.tableOf k 2 old s) w) := by
  have hl := Blk.lt h
  have hb0 : Below w.heap.size w (w.alloc (.cells #[.int .i64 0, .slice none 0 0] 133)) := (Below.refl _ w).alloc (Nat.le_refl _) _
  have hT0 := Blk.new w 133 [.int .i64 0, .slice none 0 0]
  have h0 : At1 (w.alloc (.cells #[.int .i64 0, .slice none 0 0] 133)) p s := Blk.below h hb0 hl
  have hV0 := hV.below hb0
  have hG0 := hG.below hb0 hG.lt
  have hM0 := hM.only (below_only (G := fun _ => False) hb0) (fun e => e) (fun _ _ _ e => e)
  have hs0 : (w.alloc (.cells #[.int .i64 0, .slice none 0 0] 133)).heap.size = w.heap.size + 1 := World.size_alloc _ _
  have h8 := hV.eight
  have h8s := hV.size
  have hgl := hG.lt
  go_enter Tryz.func163, Tryz.ntmps163
  go_wp2_with fail
  refine (bnum_any x p s 1 _ h0 hV0 (by omega) (by omega)).mono ?_
  obtain ⟨C, hC⟩ : ∃ C, C = w.heap.size := ⟨_, rfl⟩
  rw [← hC] at hT0 hs0 h8s hl hgl ⊢
  generalize w.alloc (.cells #[.int .i64 0, .slice none 0 0] 133) = w1 at *
  replace hC := hid' hC
  rintro e w2 (⟨h1, rfl, hb⟩ | ⟨h1, rfl, rfl⟩)
  · have hT2 := hT0.below hb hT0.lt
    have c0 := hT2.cell (j := 0) rfl
    have c1 := hT2.cell (j := 1) rfl
    have fz := hT2.free
    have hT3 := (hT2.put 0 (.int .i64 0)).put 1 (.slice none 0 0)
    have r0 := hT3.cell (j := 0) rfl
    have r1 := hT3.cell (j := 1) rfl
    have hO : Only (fun b => b = p ∨ b = M) w ((w2.setCell ⟨C, 0, none⟩ (.int .i64 0)).setCell ⟨C, 1, none⟩ (.slice none 0 0)) := (((below_only hb0).trans (below_only hb)).setCell ⟨C, 0, none⟩ _ (fun e => by rw [hC.out] at e; simp at e)).setCell ⟨C, 1, none⟩ _ (fun e => by rw [hC.out] at e; simp at e)
    replace hO := hid' hO
    replace hT3 := hid' hT3
    go_wp2_with fail
    refine bodyPost_ret (v := .tuple #[.agg #[.int .i64 0, .slice none 0 0], errV x.f]) (by simp [results, Tryz.results163, go_sem, r0, r1]) rfl ?_
    exact ⟨hO.out, .inl ⟨tab2_none (.inl (by omega)), rfl⟩⟩
  · have hnum : RD.num (s.take 1) = RD.at' s 0 := num_one s (by omega)
    have hat : RD.at' s 0 ≤ 255 := RD.at_lt s 0
    have hO1 : Only (fun b => b = p ∨ b = M) w (w1.setCell ⟨p, 0, none⟩ (.string (RD.bs (s.drop 1)))) := (below_only hb0).setCell ⟨p, 0, none⟩ _ (fun _ => .inl rfl)
    have hpC : C ≠ p := fun e => by
      have := hC.out
      omega
    have hOp := (Only.refl (· = p) w1).setCell ⟨p, 0, none⟩ (.string (RD.bs (s.drop 1))) (fun _ => rfl)
    have hT2 := hT0.only hOp hpC
    have hG2 := hG0.only hOp hgp
    have hM2 := hM0.only hOp (fun e => hM0.ne h0 e) (fun b xs hb e => hb.apart h0 (by decide) e)
    have hp2 : At1 (w1.setCell ⟨p, 0, none⟩ (.string (RD.bs (s.drop 1)))) p (s.drop 1) := Blk.put h0 0 _
    have hV2 := hV0.only hOp (fun k e => by rw [e]; exact hpb)
    rw [hnum]
    replace hnum := hid' hnum
    clear hOp
    generalize w1.setCell ⟨p, 0, none⟩ (.string (RD.bs (s.drop 1))) = w2 at *
    have c0 := hT2.cell (j := 0) rfl
    have c1 := hT2.cell (j := 1) rfl
    have fz := hT2.free
    have cF := hV2.cF
    obtain ⟨c, hc⟩ : ∃ c, RD.at' s 0 = c := ⟨_, rfl⟩
    rw [hc] at hat ⊢
    obtain ⟨m, hm⟩ : ∃ m, RD.most k = m := ⟨_, rfl⟩
    have hmb : m ≤ 16 := by rw [← hm]; unfold RD.most; split <;> omega
    have hsy := fun W => symbolsOf_any k W hk
    rw [hm] at hsy
    replace hsy := hid' hsy
    obtain ⟨N, hN⟩ : ∃ N, N = c / 16 + 1 := ⟨_, rfl⟩
    have hNb : N ≤ 16 := by omega
    have hNi : (c : Int) / 16 + 1 = (N : Int) := by omega
    replace hN := hid' hN
    go_wp2_with fail
    refine (hsy.out _).mono ?_
    rintro e w3 ⟨rfl, hw3⟩
    subst hw3
    by_cases hge : m < N
    · have hge2 : (m : Int) < (N : Int) := by omega
      have hT3 := (hT2.put 0 (.int .i64 0)).put 1 (.slice none 0 0)
      have r0 := hT3.cell (j := 0) rfl
      have r1 := hT3.cell (j := 1) rfl
      have hO : Only (fun b => b = p ∨ b = M) w ((w3.setCell ⟨C, 0, none⟩ (.int .i64 0)).setCell ⟨C, 1, none⟩ (.slice none 0 0)) := (hO1.setCell ⟨C, 0, none⟩ _ (fun e => by rw [hC.out] at e; simp at e)).setCell ⟨C, 1, none⟩ _ (fun e => by rw [hC.out] at e; simp at e)
      have hC6 : ¬ C = 6 := by omega
      replace hO := hid' hO
      replace hT3 := hid' hT3
      go_wp2_with fail
      go_region_with (fail)
      all_goals go_wp2_with fail
      all_goals
        refine bodyPost_ret (v := .tuple #[.agg #[.int .i64 0, .slice none 0 0], errV x.f]) (by simp [results, Tryz.results163, go_sem, r0, r1]) rfl ?_
        exact ⟨hO.out.drew, .inl ⟨tab2_none (.inr (.inr (by rw [hc, hm]; have := hN.out; omega))), rfl⟩⟩
    · have hge2 : ¬ (m : Int) < (N : Int) := by omega
      have hbt := hid' (btake_any x p (s.drop 1) N w3 hp2 hV2 (by rw [List.length_drop]; omega) (by omega))
      go_wp2_with fail
      refine hbt.out.mono ?_
      rintro e w4 (⟨h4, rfl, hb4⟩ | ⟨h4, rfl, rfl⟩)
      · have hT4 := hT2.below hb4 hT2.lt
        have d0 := hT4.cell (j := 0) rfl
        have d1 := hT4.cell (j := 1) rfl
        have fz4 := hT4.free
        have hT5 := (hT4.put 0 (.int .i64 0)).put 1 (.slice none 0 0)
        have r0 := hT5.cell (j := 0) rfl
        have r1 := hT5.cell (j := 1) rfl
        have hO : Only (fun b => b = p ∨ b = M) w ((w4.setCell ⟨C, 0, none⟩ (.int .i64 0)).setCell ⟨C, 1, none⟩ (.slice none 0 0)) := ((hO1.trans (below_only hb4)).setCell ⟨C, 0, none⟩ _ (fun e => by rw [hC.out] at e; simp at e)).setCell ⟨C, 1, none⟩ _ (fun e => by rw [hC.out] at e; simp at e)
        replace hO := hid' hO
        replace hT5 := hid' hT5
        go_wp2_with fail
        refine bodyPost_ret (v := .tuple #[.agg #[.int .i64 0, .slice none 0 0], errV x.f]) (by simp [results, Tryz.results163, go_sem, r0, r1]) rfl ?_
        exact ⟨hO.out, .inl ⟨tab2_none (.inr (.inl (by rw [hc]; have := hN.out; rw [List.length_drop] at h4; omega))), rfl⟩⟩
      · have hOp := (Only.refl (· = p) w3).setCell ⟨p, 0, none⟩ (.string (RD.bs ((s.drop 1).drop N))) (fun _ => rfl)
        have hT4 := hT2.only hOp hpC
        have hG4 := hG2.only hOp hgp
        have hM4 := hM2.only hOp (fun e => hM2.ne hp2 e) (fun b xs hb e => hb.apart hp2 (by decide) e)
        have hp4 : At1 (w3.setCell ⟨p, 0, none⟩ (.string (RD.bs ((s.drop 1).drop N)))) p ((s.drop 1).drop N) := Blk.put hp2 0 _
        have hV4 := hV2.only hOp (fun k e => by rw [e]; exact hpb)
        have hO4 : Only (fun b => b = p ∨ b = M) w (w3.setCell ⟨p, 0, none⟩ (.string (RD.bs ((s.drop 1).drop N)))) := hO1.setCell ⟨p, 0, none⟩ _ (fun _ => .inl rfl)
        clear hOp
        generalize w3.setCell ⟨p, 0, none⟩ (.string (RD.bs ((s.drop 1).drop N))) = w4 at *
        have had := and_fifteen c (by omega)
        obtain ⟨lg, hlg⟩ : ∃ lg, c % 16 = lg := ⟨_, rfl⟩
        have hlgb : lg ≤ 15 := by omega
        rw [hlg] at had
        obtain ⟨L, hL⟩ : ∃ L, (s.drop 1).take N = L := ⟨_, rfl⟩
        have hLl : L.length = N := by rw [← hL, List.length_take]; omega
        have hLz := RD.bs_size L
        rw [hLl] at hLz
        rw [hL]
        replace hL := hid' hL
        replace hLl := hid' hLl
        replace hlg := hid' hlg
        go_wp2_with fail
        have hQ0 : Blk (w4.alloc (.cells #[.int .i64 (lg : Int), .int .i64 0, .int .i64 0, .int .i64 0, .int .i64 0, .int .i64 0, .int .i64 0, .int .i64 0, .int .i64 0, .int .i64 0, .int .i64 0, .int .i64 0, .int .i64 0, .int .i64 0, .int .i64 0, .int .i64 0, .int .i64 0] 294)) w4.heap.size 294 (.int .i64 (lg : Int) :: intCells (TM.padL ((L.take 0).map RD.countOf) (16 - 0))) := Blk.new w4 294 _
        have hb5 : Below w4.heap.size w4 (w4.alloc (.cells #[.int .i64 (lg : Int), .int .i64 0, .int .i64 0, .int .i64 0, .int .i64 0, .int .i64 0, .int .i64 0, .int .i64 0, .int .i64 0, .int .i64 0, .int .i64 0, .int .i64 0, .int .i64 0, .int .i64 0, .int .i64 0, .int .i64 0, .int .i64 0] 294)) := (Below.refl _ w4).alloc (Nat.le_refl _) _
        obtain ⟨Q, hQ⟩ : ∃ Q, w4.heap.size = Q := ⟨_, rfl⟩
        rw [hQ] at hQ0 ⊢
        generalize w4.alloc (.cells #[.int .i64 (lg : Int), .int .i64 0, .int .i64 0, .int .i64 0, .int .i64 0, .int .i64 0, .int .i64 0, .int .i64 0, .int .i64 0, .int .i64 0, .int .i64 0, .int .i64 0, .int .i64 0, .int .i64 0, .int .i64 0, .int .i64 0, .int .i64 0] 294) = w5 at *
        replace hQ := hid' hQ
        replace hb5 := hid' hb5
        go_loopg [46] (N + 1) (fun gh iv wj => ∃ i : Nat, gh = N + 1 - i ∧ i ≤ N ∧ iv = .int .i64 (i : Int) ∧ Blk wj Q 294 (.int .i64 (lg : Int) :: intCells (TM.padL ((L.take i).map RD.countOf) (16 - i))) ∧ Only (· = Q) w5 wj)
        case atStart => exact ⟨0, by omega, by omega, rfl, hQ0, Only.refl _ _⟩
        case round =>
          obtain ⟨i, rfl, hi, rfl, hB, hOj⟩ := hrel
          by_cases hil : i < N
          · have hil2 : (i : Int) < (N : Int) := by omega
            have hiL : i < L.length := by rw [hLl.out]; exact hil
            have hz9 : i < (RD.bs L).size := by rw [hLz]; exact hil
            have hby : Hid ((RD.bs L)[i] = L.getD i 0) := RD.bs_get L i hz9
            have hct := hid' (fun W => countOf_any (L.getD i 0) W)
            have hBf := hB.free
            have hps := pad_set L i hiL (by rw [hLl.out]; exact hNb)
            have hBn := hB.put (1 + i) (.int .i64 (RD.countOf (L.getD i 0)))
            have hOn : Only (· = Q) w5 (wr.setCell ⟨Q, 1 + i, none⟩ (.int .i64 (RD.countOf (L.getD i 0)))) := hOj.setCell ⟨Q, 1 + i, none⟩ _ (fun _ => rfl)
            replace hBn := hid' hBn
            replace hOn := hid' hOn
            replace hps := hid' hps
            have hcell := hB.cell (j := 1 + i) (by rw [Nat.add_comm, List.getElem?_cons_succ]; exact intCells_at _ i (by rw [TM.padL_length, List.length_map, List.length_take]; omega))
            go_wp2_with fail
            rw [hby.out]
            refine (hct.out _).mono ?_
            rintro e w6 ⟨rfl, hw6⟩
            subst hw6
            obtain ⟨V, hVe⟩ : ∃ V, RD.countOf (L.getD i 0) = V := ⟨_, rfl⟩
            rw [hVe] at hBn hOn hps ⊢
            replace hVe := hid' hVe
            have hi16 : i < 16 := by omega
            have hi16i : (i : Int) < 16 := by omega
            go_wp2_with fail
            go_roundg (N + 1 - (i + 1))
            case rel =>
              refine ⟨i + 1, rfl, by omega, by go_num, ?_, ?_⟩
              · have := hBn.out
                rw [Nat.add_comm 1 i, List.set_cons_succ] at this
                have e : (intCells (TM.padL ((L.take i).map RD.countOf) (16 - i))).set i (.int .i64 V) = intCells (TM.padL ((L.take (i + 1)).map RD.countOf) (16 - (i + 1))) := by
                  rw [← hps.out]
                  unfold intCells
                  rw [List.map_set]
                rw [e] at this
                first | exact this | (rw [Nat.add_comm 1 i]; exact this) | (rw [Nat.add_comm i 1] at this; exact this)
              · first | exact hOn.out | (rw [Nat.add_comm 1 i]; exact hOn.out)
            case measure => omega
          · obtain rfl : i = N := by omega
            have hil2 : ¬ (i : Int) < (i : Int) := by omega
            have hz16 : (TM.padL ((L.take i).map RD.countOf) (16 - i)).length = 16 := by rw [TM.padL_length, List.length_map, List.length_take, hLl.out]; omega
            have hzb : ∀ y ∈ TM.padL ((L.take i).map RD.countOf) (16 - i), -1 ≤ y ∧ y ≤ 255 := by
              intro y hy
              unfold TM.padL at hy
              rcases List.mem_append.1 hy with hy | hy
              · obtain ⟨b, -, rfl⟩ := List.mem_map.1 hy
                have := b.toNat_lt
                unfold RD.countOf
                split <;> omega
              · rw [(List.mem_replicate.1 hy).2]; omega
            obtain ⟨z0, z1, z2, z3, z4, z5, z6, z7, z8, z9, z10, z11, z12, z13, z14, z15, hze⟩ : ∃ z0 z1 z2 z3 z4 z5 z6 z7 z8 z9 z10 z11 z12 z13 z14 z15, TM.padL ((L.take i).map RD.countOf) (16 - i) = [z0, z1, z2, z3, z4, z5, z6, z7, z8, z9, z10, z11, z12, z13, z14, z15] := by
              match TM.padL ((L.take i).map RD.countOf) (16 - i), hz16 with
              | [z0, z1, z2, z3, z4, z5, z6, z7, z8, z9, z10, z11, z12, z13, z14, z15], _ => exact ⟨_, _, _, _, _, _, _, _, _, _, _, _, _, _, _, _, rfl⟩
            rw [hze] at hB hzb
            have hQs := hQ.out
            have hO45 : Only (fun b => b = p ∨ b = M) w w5 := hO4.trans (below_only hb5.out)
            have hws : w.heap.size ≤ w4.heap.size := hO4.size
            have hO5 : Only (fun b => b = p ∨ b = M) w wr := ⟨hOj.os.trans hO45.os, hOj.tape.trans hO45.tape, hOj.output.trans hO45.output, Nat.le_trans hO45.size hOj.size, fun k hk hn => (hOj.block k (Nat.lt_of_lt_of_le hk hO45.size) (by omega)).trans (hO45.block k hk hn)⟩
            have hGr := (hG4.below hb5.out hG4.lt).only hOj (fun e => by have := hG4.lt; omega)
            have hTr := (hT4.below hb5.out hT4.lt).only hOj (fun e => by have := hT4.lt; omega)
            have hpr : At1 wr p ((s.drop 1).drop i) := Blk.only (Blk.below hp4 hb5.out (Blk.lt hp4)) hOj (fun e => by have := Blk.lt hp4; omega)
            have hM5 := hM4.only (below_only (G := fun _ => False) hb5.out) (fun e => e) (fun _ _ _ e => e)
            have hMr := hM5.only hOj (fun e => by have := hM4.lt; omega) (fun b xs hb e => hb.apart hQ0 (by decide) e)
            have hVr := (hV4.below hb5.out).only hOj (fun k e => by have := hV4.size; omega)
            have hof : ∀ W : World, Only (fun _ => False) wr W → Calls Tryz.prog 160 #[.map (some M), .agg #[.int .i64 (lg : Int), .int .i64 z0, .int .i64 z1, .int .i64 z2, .int .i64 z3, .int .i64 z4, .int .i64 z5, .int .i64 z6, .int .i64 z7, .int .i64 z8, .int .i64 z9, .int .i64 z10, .int .i64 z11, .int .i64 z12, .int .i64 z13, .int .i64 z14, .int .i64 z15]] W (OfPost x M n lg [z0, z1, z2, z3, z4, z5, z6, z7, z8, z9, z10, z11, z12, z13, z14, z15] W) := fun W hW =>
              of_any x M n lg [z0, z1, z2, z3, z4, z5, z6, z7, z8, z9, z10, z11, z12, z13, z14, z15] W rfl (hMr.only hW (fun e => e) (fun _ _ _ e => e)) (hVr.only hW (fun _ e => e.elim)) hlgb hzb hn hMb
            have hR0 : ¬ (s.length = 0 ∨ s.length < 2 + RD.at' s 0 / 16 ∨ RD.most k < 1 + RD.at' s 0 / 16) := by
              rw [hc, hm]
              have := hN.out
              rw [List.length_drop] at h4
              omega
            have hRt := tab2_is (k := k) (old := old) hR0
            have hz1 : ((s.drop 1).take (1 + RD.at' s 0 / 16)).map RD.countOf = (L.take i).map RD.countOf := by
              rw [hc, show 1 + c / 16 = i by have := hN.out; omega, hL.out, List.take_of_length_le (by rw [hLl.out]; exact Nat.le_refl _)]
            rw [hz1, hc, hlg.out] at hRt
            have hl1 : ((L.take i).map RD.countOf).length = i := by rw [List.length_map, List.length_take, hLl.out]; omega
            have hi1 : 1 ≤ i := by have := hN.out; omega
            have hgp2 := goodT_pad (lg : Int) ((L.take i).map RD.countOf) (16 - i) (by omega) (by omega)
            rw [hze] at hgp2
            have hdr : (s.drop 1).drop i = s.drop (2 + c / 16) := by rw [List.drop_drop]; congr 1; have := hN.out; omega
            have hcm : C ≠ M := fun e => hMr.ne hTr e.symm
            replace hQs := hid' hQs
            replace hRt := hid' hRt
            replace hgp2 := hid' hgp2
            replace hdr := hid' hdr
            replace hz1 := hid' hz1
            have y0 := hB.cell (j := 0) rfl
            have y1 := hB.cell (j := 1) rfl
            have y2 := hB.cell (j := 2) rfl
            have y3 := hB.cell (j := 3) rfl
            have y4 := hB.cell (j := 4) rfl
            have y5 := hB.cell (j := 5) rfl
            have y6 := hB.cell (j := 6) rfl
            have y7 := hB.cell (j := 7) rfl
            have y8 := hB.cell (j := 8) rfl
            have y9 := hB.cell (j := 9) rfl
            have y10 := hB.cell (j := 10) rfl
            have y11 := hB.cell (j := 11) rfl
            have y12 := hB.cell (j := 12) rfl
            have y13 := hB.cell (j := 13) rfl
            have y14 := hB.cell (j := 14) rfl
            have y15 := hB.cell (j := 15) rfl
            have y16 := hB.cell (j := 16) rfl
            have g0 := hGr.cell hg0
            replace hof := hid' hof
            cases hgd : goodT (lg : Int) [z0, z1, z2, z3, z4, z5, z6, z7, z8, z9, z10, z11, z12, z13, z14, z15] with
            | false =>
              have hoF : Hid (∀ W : World, Only (fun _ => False) wr W → Calls Tryz.prog 160 #[.map (some M), .agg #[.int .i64 (lg : Int), .int .i64 z0, .int .i64 z1, .int .i64 z2, .int .i64 z3, .int .i64 z4, .int .i64 z5, .int .i64 z6, .int .i64 z7, .int .i64 z8, .int .i64 z9, .int .i64 z10, .int .i64 z11, .int .i64 z12, .int .i64 z13, .int .i64 z14, .int .i64 z15]] W fun e w' => e = .returned (.tuple #[.agg #[.int .i64 0, .slice none 0 0], errV x.f]) ∧ Only (· = M) W w') := fun W hW => (hof.out W hW).mono fun e w' h => by
                obtain ⟨h1, h2 | ⟨v, h2, -⟩⟩ := h
                · exact ⟨h2.2, h1⟩
                · rw [hgd] at h2; cases h2
              go_wp2_with fail
              go_region_with (go_at_call 160; refine (hoF.out _ (by first | exact Only.refl _ _ | exact (Only.refl _ _).drew)).mono ?_; rintro e w7 ⟨rfl, hO7⟩; have hT7 := hTr.only (undrewO hO7) hcm; have d0 := hT7.cell (j := 0) rfl; have d1 := hT7.cell (j := 1) rfl; have fz7 := hT7.free)
              all_goals go_wp2_with fail
              all_goals
                have hO9 : Only (fun b => b = p ∨ b = M) w w7 := hO5.trans ((undrewO hO7).weaken (fun _ _ e => .inr e))
                have hT9 := (hT7.put 0 (.int .i64 0)).put 1 (.slice none 0 0)
                have r0 := hT9.cell (j := 0) rfl
                have r1 := hT9.cell (j := 1) rfl
                have hO10 : Only (fun b => b = p ∨ b = M) w ((w7.setCell ⟨C, 0, none⟩ (.int .i64 0)).setCell ⟨C, 1, none⟩ (.slice none 0 0)) := (hO9.setCell ⟨C, 0, none⟩ _ (fun e => by rw [hC.out] at e; simp at e)).setCell ⟨C, 1, none⟩ _ (fun e => by rw [hC.out] at e; simp at e)
                refine bodyPost_ret (v := .tuple #[.agg #[.int .i64 0, .slice none 0 0], errV x.f]) (by simp [results, Tryz.results163, go_sem, r0, r1]) rfl ?_
                refine ⟨hO10, .inl ⟨?_, rfl⟩⟩
                rw [hRt.out, ← hgp2.out, hgd]
                rfl
            | true =>
              have hoT : Hid (∀ W : World, Only (fun _ => False) wr W → Calls Tryz.prog 160 #[.map (some M), .agg #[.int .i64 (lg : Int), .int .i64 z0, .int .i64 z1, .int .i64 z2, .int .i64 z3, .int .i64 z4, .int .i64 z5, .int .i64 z6, .int .i64 z7, .int .i64 z8, .int .i64 z9, .int .i64 z10, .int .i64 z11, .int .i64 z12, .int .i64 z13, .int .i64 z14, .int .i64 z15]] W fun e w' => ∃ b7 cc7, e = .returned (.tuple #[.agg #[.int .i64 (lg : Int), .slice (some ⟨b7, 0, none⟩) (table lg [z0, z1, z2, z3, z4, z5, z6, z7, z8, z9, z10, z11, z12, z13, z14, z15]).length cc7], .nilIface]) ∧ Blk w' b7 226 (CM.cellsOf (table lg [z0, z1, z2, z3, z4, z5, z6, z7, z8, z9, z10, z11, z12, z13, z14, z15])) ∧ TabsM w' M (n + 1) ∧ Only (· = M) W w') := fun W hW => (hof.out W hW).mono fun e w' h => by
                obtain ⟨h1, h2 | ⟨v, h2, rfl, ⟨b7, cc7, rfl, hb7⟩, hM7⟩⟩ := h
                · rw [hgd] at h2; cases h2.1
                · exact ⟨b7, cc7, rfl, hb7, hM7, h1⟩
              go_wp2_with fail
              go_region_with (go_at_call 160; refine (hoT.out _ (by first | exact Only.refl _ _ | exact (Only.refl _ _).drew)).mono ?_; rintro e w7 ⟨b7, cc7, rfl, hb7, hM7, hO7⟩; have hT7 := hTr.only (undrewO hO7) hcm; have d0 := hT7.cell (j := 0) rfl; have d1 := hT7.cell (j := 1) rfl; have fz7 := hT7.free)
              all_goals go_wp2_with fail
              all_goals
                obtain ⟨len7, hlen7⟩ : ∃ q, (table lg [z0, z1, z2, z3, z4, z5, z6, z7, z8, z9, z10, z11, z12, z13, z14, z15]).length = q := ⟨_, rfl⟩
                have hO9 : Only (fun b => b = p ∨ b = M) w w7 := hO5.trans ((undrewO hO7).weaken (fun _ _ e => .inr e))
                have hT9 := (hT7.put 0 (.int .i64 (lg : Int))).put 1 (.slice (some ⟨b7, 0, none⟩) (table lg [z0, z1, z2, z3, z4, z5, z6, z7, z8, z9, z10, z11, z12, z13, z14, z15]).length cc7)
                have r0 := hT9.cell (j := 0) rfl
                have r1 := hT9.cell (j := 1) rfl
                have hO10 : Only (fun b => b = p ∨ b = M) w ((w7.setCell ⟨C, 0, none⟩ (.int .i64 (lg : Int))).setCell ⟨C, 1, none⟩ (.slice (some ⟨b7, 0, none⟩) (table lg [z0, z1, z2, z3, z4, z5, z6, z7, z8, z9, z10, z11, z12, z13, z14, z15]).length cc7)) := (hO9.setCell ⟨C, 0, none⟩ _ (fun e => by rw [hC.out] at e; simp at e)).setCell ⟨C, 1, none⟩ _ (fun e => by rw [hC.out] at e; simp at e)
                have hOC : Only (· = C) w7 ((w7.setCell ⟨C, 0, none⟩ (.int .i64 (lg : Int))).setCell ⟨C, 1, none⟩ (.slice (some ⟨b7, 0, none⟩) (table lg [z0, z1, z2, z3, z4, z5, z6, z7, z8, z9, z10, z11, z12, z13, z14, z15]).length cc7)) := ((Only.refl (· = C) w7).setCell ⟨C, 0, none⟩ _ (fun _ => rfl)).setCell ⟨C, 1, none⟩ _ (fun _ => rfl)
                have hb9 := hb7.only hOC (fun e => hb7.apart hT7 (by decide) e)
                have hM9 := hM7.only hOC (fun e => hM7.ne hT7 e) (fun b xs hb e => hb.apart hT7 (by decide) e)
                have hp7 : At1 w7 p ((s.drop 1).drop i) := Blk.only hpr (undrewO hO7) (fun e => hMr.ne hpr e.symm)
                have hp9 : At1 _ p ((s.drop 1).drop i) := Blk.only hp7 hOC (fun e => Blk.apart hp7 hT7 (by decide) e)
                refine bodyPost_ret (v := .tuple #[.agg #[.int .i64 (lg : Int), .slice (some ⟨b7, 0, none⟩) (table lg [z0, z1, z2, z3, z4, z5, z6, z7, z8, z9, z10, z11, z12, z13, z14, z15]).length cc7], .nilIface]) (by simp [results, Tryz.results163, go_sem, r0, r1]) rfl ?_
                obtain ⟨n5, e5, h56, hfb⟩ := goodT_log (hgp2.out.symm.trans hgd)
                obtain rfl : n5 = lg := by omega
                have htp := table_pad (16 - i) h56 hfb
                rw [hze] at htp
                refine ⟨hO10, .inr ⟨⟨true, n5, table n5 ((L.take i).map RD.countOf)⟩, 2 + c / 16, .slice (some ⟨b7, 0, none⟩) (table n5 [z0, z1, z2, z3, z4, z5, z6, z7, z8, z9, z10, z11, z12, z13, z14, z15]).length cc7, ?_, rfl, ⟨b7, cc7, by rw [htp], by rw [← htp]; exact hb9⟩, by rw [← hdr.out]; exact hp9, hM9⟩⟩
                rw [hRt.out, ← hgp2.out, hgd]
                rfl
end Go.Proofs.YtbhemchnjpajiaaGreatDoor

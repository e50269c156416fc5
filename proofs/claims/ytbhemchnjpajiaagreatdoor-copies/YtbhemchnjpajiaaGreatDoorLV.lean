/- Several texts in one: QCop. -/
import Derived.Test.YtbhemchnjpajiaaGreatDoorLO
import Derived.Test.YtbhemchnjpajiaaGreatDoorLU
import Derived.Deep.DeepCutAuto
/- The law Copies (package skeinlaw), walked. -/
namespace Go.Proofs.YtbhemchnjpajiaaGreatDoor
open Go.RowKit
set_option linter.unusedVariables false

/-- The literals that are taken. -/
def copL (L : RD.Bytes) : RD.Bytes := if L = [] then [120] else L.take 9
theorem copL_len (L : RD.Bytes) : 1 ≤ (copL L).length ∧ (copL L).length ≤ 9 := by
  unfold copL
  split
  · simp
  · rename_i h
    have := List.length_pos_iff.2 h
    rw [List.length_take]
    omega
/-- The bits of a sequence of the law, and what is left of the unit. -/
def copBits (n v : Nat) : Nat := (if v = 3 then 128 else 0) + (if n = 9 then (if v = 1 then 128 else 64) else 0)
def copUnit (n v : Nat) : Nat := (if v = 1 then 128 else 64) / (if 7 < n then 2 else 1)
theorem cop_tail (n v : Nat) (hn : 1 ≤ n ∧ n ≤ 9) (hv : 1 ≤ v ∧ v ≤ 3) : RD.copTail n v = if copUnit n v < 128 then [UInt8.ofNat (copBits n v)] else [] := by
  obtain ⟨h1, h2⟩ := hn
  obtain ⟨h3, h4⟩ := hv
  rcases (by omega : n = 1 ∨ n = 2 ∨ n = 3 ∨ n = 4 ∨ n = 5 ∨ n = 6 ∨ n = 7 ∨ n = 8 ∨ n = 9) with rfl | rfl | rfl | rfl | rfl | rfl | rfl | rfl | rfl <;> rcases (by omega : v = 1 ∨ v = 2 ∨ v = 3) with rfl | rfl | rfl <;> decide
theorem copBits_lt (n v : Nat) (hn : 1 ≤ n ∧ n ≤ 9) (hv : 1 ≤ v ∧ v ≤ 3) : copBits n v < 256 := by
  obtain ⟨h3, h4⟩ := hv
  rcases (by omega : v = 1 ∨ v = 2 ∨ v = 3) with rfl | rfl | rfl <;> simp [copBits] <;> split <;> omega
theorem u8_of (k : Nat) (h : k < 256) : ((UInt8.ofNat k).toNat : Int) = (k : Int) := by rw [RD.ofNat_nat k h]
theorem u8s_four (a b c : Nat) (ha : a < 256) (hb : b < 256) (hc : c < 256) : (u8s [21, UInt8.ofNat a, UInt8.ofNat b, UInt8.ofNat c]).toArray = #[.int .u8 21, .int .u8 (a : Int), .int .u8 (b : Int), .int .u8 (c : Int)] := by
  unfold u8s
  simp only [List.map_cons, List.map_nil, u8_of _ ha, u8_of _ hb, u8_of _ hc]
  rfl
theorem u8s_single (a : Nat) (ha : a < 256) : (u8s [UInt8.ofNat a]).toArray = #[.int .u8 (a : Int)] := by
  unfold u8s
  simp only [List.map_cons, List.map_nil, u8_of _ ha]
theorem two_small (n : Nat) (h : n < 256) : RD.two n = [UInt8.ofNat n, 0] := by
  unfold RD.two
  rw [Nat.mod_eq_of_lt h, Nat.div_eq_of_lt h]
  rfl
theorem at_copy (past : RD.Bytes) (k m : Nat) (hk : 1 ≤ k ∧ k ≤ past.length) : (RD.copyN past k (m + 1)) = RD.copyN past k m ++ (((RD.copyN past k m).drop ((RD.copyN past k m).length - k)).take 1) := by
  rw [RD.copyN]
  congr 1
  have hl := RD.copyN_len past k m
  rw [List.drop_eq_getElem_cons (by omega), List.take_succ_cons, List.take_zero, List.getD_eq_getElem?_getD, List.getElem?_eq_getElem (by omega)]
  rfl
set_option maxRecDepth 100000 in
set_option maxHeartbeats 40000000 in
theorem copies_any (x : Fx) (lim : Int) (ds : List (Int × RD.Bytes)) (v : Value) (L0 : RD.Bytes) (mt ix : Int) (w : World) (hl : -9223372036854775808 ≤ lim ∧ lim ≤ 9223372036854775807) (hD : DictsArg w v ds) (hdl : ds.length ≤ 140737488355328) (ht : ∀ d ∈ ds, d.2.length ≤ 140737488355328)
    (hsl : L0.length ≤ 140737488355328) (hmt : -9223372036854775808 ≤ mt ∧ mt ≤ 9223372036854775807) (hix : -9223372036854775808 ≤ ix ∧ ix ≤ 9223372036854775807) (hV : VarsAt x w) (hE : ErrRows x w) :
    Calls Tryz.prog 5 #[.agg #[.int .i64 lim, v], .string (RD.bs L0), .int .i64 mt, .int .i64 ix] w (KeptPost w) := by
  have hlm : Hid (∀ W, Below w.heap.size w W → Calls Tryz.prog 10 #[.agg #[.int .i64 lim, v]] W (LimPost lim ds W)) := fun W hW => limits_wide lim ds v W hl (by
    obtain ⟨a, c, e, h1, h2⟩ := hD
    refine ⟨a, c, e, h1, ?_⟩
    rcases h2 with h2 | ⟨b, o, e2, hb, h2⟩
    · exact .inl h2
    · exact .inr ⟨b, o, e2, Nat.lt_of_lt_of_le hb hW.size, fun i hi => ⟨(hW.cell (p := ⟨b, _, none⟩) hb).trans (h2 i hi).1, (hW.cell (p := ⟨b, _, none⟩) hb).trans (h2 i hi).2⟩⟩) hdl ht
  obtain ⟨hcok, hiok⟩ := limC_ok lim ds
  generalize hC : limC lim ds = C at *
  obtain ⟨a, cc, rfl, hcc, hdd⟩ := hD
  have hb0 : Below w.heap.size w (w.alloc (.cells #[.int .i64 lim, .slice a ds.length cc] 24)) := (Below.refl _ w).alloc (Nat.le_refl _) _
  have hN0 := Blk.new w 24 [.int .i64 lim, .slice a ds.length cc]
  have hs0 : (w.alloc (.cells #[.int .i64 lim, .slice a ds.length cc] 24)).heap.size = w.heap.size + 1 := World.size_alloc _ _
  go_enter Tryz.func5, Tryz.ntmps5
  go_wp2_with fail
  refine (hlm.out _ hb0).mono ?_
  rintro e w1 ⟨hb1, v1, rfl, hD1⟩
  rw [hC] at hD1 ⊢
  obtain ⟨a1, c1, rfl⟩ := hD1.shape
  rw [hs0] at hb1
  have hN1 := hN0.below hb1 (by omega)
  have n0 := hN1.cell (j := 0) rfl
  have n1 := hN1.cell (j := 1) rfl
  have f0 := hN1.free 0
  have f1 := hN1.free 1
  have hN2 := (hN1.put 0 (.int .i64 C.limit)).put 1 (.slice a1 C.dicts.length c1)
  have ho2 : Only (fun b => b = w.heap.size) w1 ((w1.setCell ⟨w.heap.size, 0, none⟩ (.int .i64 C.limit)).setCell ⟨w.heap.size, 1, none⟩ (.slice a1 C.dicts.length c1)) := ((Only.refl (fun b => b = w.heap.size) w1).setCell ⟨w.heap.size, 0, none⟩ _ (fun _ => rfl)).setCell ⟨w.heap.size, 1, none⟩ _ (fun _ => rfl)
  replace ho2 := hid' ho2
  replace hN0 := hid' hN0
  replace hb1 := hid' hb1
  replace hb0 := hid' hb0
  replace hdd := hid' hdd
  go_upto_if 31 with fail
  have hs2 : ((w1.setCell ⟨w.heap.size, 0, none⟩ (.int .i64 C.limit)).setCell ⟨w.heap.size, 1, none⟩ (.slice a1 C.dicts.length c1)).heap.size = w1.heap.size := by simp
  obtain ⟨W2, hW2⟩ : ∃ W, W = ((w1.setCell ⟨w.heap.size, 0, none⟩ (.int .i64 C.limit)).setCell ⟨w.heap.size, 1, none⟩ (.slice a1 C.dicts.length c1)) := ⟨_, rfl⟩
  rw [← hW2] at hN2 ho2 hs2
  rw [← hW2]
  replace hW2 := hid' hW2
  have hb2 : Below w.heap.size w W2 := by
    have hs1 := hb1.out.size
    rw [hs0] at hs1
    refine hb0.out.trans ⟨(ho2.out.os).trans hb1.out.os, (ho2.out.tape).trans hb1.out.tape, (ho2.out.output).trans hb1.out.output, by have := ho2.out.size; omega, fun k hk => ?_⟩
    exact (ho2.out.block k (by omega) (by omega)).trans (hb1.out.block k (by omega))
  have hD2 : DictsAt W2 (.slice a1 C.dicts.length c1) C.dicts := by
    obtain ⟨a', c', e', q1, q2⟩ := hD1
    obtain ⟨rfl, -, rfl⟩ := Value.slice.inj e'
    refine ⟨_, _, rfl, q1, ?_⟩
    rcases q2 with q2 | ⟨b, rfl, hbl, hd⟩
    · exact .inl q2
    · by_cases h0 : C.dicts = []
      · exact .inl h0
      · have hne : b ≠ w.heap.size := fun e => by
          have := (hd 0 (List.length_pos_iff.2 h0)).2
          rw [e] at this
          rw [show (0 * 2 + 1 : Nat) = 1 from rfl, n1] at this
          cases this
        exact .inr ⟨b, rfl, Nat.lt_of_lt_of_le hbl ho2.out.size, fun i hi => ⟨ho2.out.cell (hd i hi).1 hbl hne, ho2.out.cell (hd i hi).2 hbl hne⟩⟩
  have hN : Blk W2 w.heap.size 24 [.int .i64 C.limit, .slice a1 C.dicts.length c1] := hN2
  have hV2 := hV.below hb2
  have hE2 := hE.below hV hb2
  have hz0 := RD.bs_size L0
  have hD2' := hid' hD2
  clear hD2 n0 n1 f0 f1 hD1 hlm
  -- the literals are cut
  go_cut [1] (fun s1 wx => s1 = .string (RD.bs (L0.take 9)) ∧ wx = W2)
  case first =>
    by_cases h9 : 9 < L0.length
    · have hz9 : (9 : Int) < ((RD.bs L0).size : Int) := by omega
      have hex : (RD.bs L0).extract 0 9 = RD.bs (L0.take 9) := RD.bs_take L0 9
      go_wp2_with fail
      go_meet
      case rel => exact ⟨rfl, rfl⟩
    · have hz9 : ¬ (9 : Int) < ((RD.bs L0).size : Int) := by omega
      have hex : Hid (L0.take 9 = L0) := hid' (List.take_of_length_le (by omega))
      go_wp2_with fail
      go_meet
      case rel => exact ⟨by rw [hex.out], rfl⟩
  case rest =>
  obtain ⟨rfl, rfl⟩ := hcut
  clear hz0
  -- none: x
  go_upto_if 35 with fail
  go_cut [1] (fun s1 wx => s1 = .string (RD.bs (copL L0)) ∧ wx = wc)
  case first =>
    by_cases h0 : L0 = []
    · have e0 : Hid (copL L0 = [120]) := hid' (by unfold copL; rw [if_pos h0])
      have hem : (RD.bs (L0.take 9)).toList = [] := by rw [h0, bs_toL]; rfl
      replace h0 := hid' h0
      rw [hem]
      simp only [List.isEmpty_nil]
      go_wp2_with fail
      go_meet
      case rel => exact ⟨by rw [e0.out]; rfl, rfl⟩
    · have e0 : Hid (copL L0 = L0.take 9) := hid' (by unfold copL; rw [if_neg h0])
      obtain ⟨b0, r0, hem⟩ : ∃ b r, (RD.bs (L0.take 9)).toList = b :: r := by
        rw [bs_toL]
        cases L0 with
        | nil => exact absurd rfl h0
        | cons b r => exact ⟨b, r.take 8, rfl⟩
      replace h0 := hid' h0
      rw [hem]
      simp only [List.isEmpty_cons]
      go_wp2_with fail
      go_meet
      case rel => exact ⟨by rw [e0.out], rfl⟩
  case rest =>
  obtain ⟨rfl, rfl⟩ := hcut
  have hLb := copL_len L0
  obtain ⟨L, hL⟩ : ∃ L, L = copL L0 := ⟨_, rfl⟩
  rw [← hL] at hLb
  rw [← hL]
  replace hL := hid' hL
  obtain ⟨q, hq, hq7⟩ : ∃ q : Nat, pickN mt 8 = (q : Int) ∧ q ≤ 7 := by
    have h1 : 0 ≤ pickN mt 8 ∧ pickN mt 8 < 8 := by unfold pickN; exact ⟨Int.emod_nonneg _ (by omega), Int.emod_lt_of_pos _ (by omega)⟩
    exact ⟨(pickN mt 8).toNat, by omega, by omega⟩
  obtain ⟨v, hv, hv3⟩ : ∃ v : Nat, 1 + pickN ix 3 = (v : Int) ∧ 1 ≤ v ∧ v ≤ 3 := by
    have h1 : 0 ≤ pickN ix 3 ∧ pickN ix 3 < 3 := by unfold pickN; exact ⟨Int.emod_nonneg _ (by omega), Int.emod_lt_of_pos _ (by omega)⟩
    exact ⟨(1 + pickN ix 3).toNat, by omega, by omega⟩
  obtain ⟨M, hM⟩ : ∃ M : Nat, 3 + (q : Int) = (M : Int) := ⟨3 + q, by omega⟩
  have hM3 : (M : Int) - 3 = (q : Int) := by omega
  have hMq : Hid (M = 3 + q) := hid' (by omega)
  have hzL := RD.bs_size L
  obtain ⟨n, hn⟩ : ∃ n, n = L.length := ⟨_, rfl⟩
  rw [← hn] at hLb hzL
  replace hn := hid' hn
  go_wp2_with fail
  refine (pickv mt 8 _ hmt (by omega)).mono ?_
  rintro e w3 ⟨rfl, hw3⟩
  subst hw3
  rw [hq]
  go_wp2_with fail
  refine (pickv ix 3 _ hix (by omega)).mono ?_
  rintro e w3 ⟨rfl, hw3⟩
  subst hw3
  have hpx : 0 ≤ pickN ix 3 ∧ pickN ix 3 < 3 := by omega
  obtain ⟨H, hH⟩ : ∃ H : Nat, 4 * (n : Int) = (H : Int) := ⟨4 * n, by omega⟩
  have hHb : Hid (H = 4 * n) := hid' (by omega)
  go_wp2_with fail
  refine (two_any H _ (by omega)).mono ?_
  rintro e w3 ⟨rfl, hb3⟩
  have hX3 := below_up hb2 hb3 hb2.size
  have hN3 := hN.below hb3 hN.lt
  have hD3 := hD2'.out.only (below_only (G := fun _ => False) hb3) (fun _ _ e => e)
  have hV3 := hV2.below hb3
  have hE3 := hE2.below hV2 hb3
  obtain ⟨B0, hB0⟩ : ∃ B, B = RD.two H ++ L := ⟨_, rfl⟩
  have hc1 : RD.bs (RD.two H) ++ RD.bs L = RD.bs B0 := by rw [hB0, RD.bs_append]
  have hz1 : (RD.bs (RD.two H)).size = 2 := RD.bs_size _
  have hz2 : (RD.bs B0).size = n + 2 := by rw [RD.bs_size, hB0, List.length_append, hn.out]; show 2 + L.length = L.length + 2; omega
  obtain ⟨B1, hB1⟩ : ∃ B, B = B0 ++ [1] := ⟨_, rfl⟩
  have hc2 : RD.bs B0 ++ (⟨#[1]⟩ : ByteArray) = RD.bs B1 := by rw [hB1]; exact RD.bs_append B0 [1]
  have hz3 : (RD.bs B1).size = n + 3 := by rw [RD.bs_size, hB1, List.length_append, ← RD.bs_size, hz2]; rfl
  replace hB0 := hid' hB0
  replace hB1 := hid' hB1
  replace hv := hid' hv
  replace hq := hid' hq
  clear hpx
  replace hN3 := hid' hN3
  replace hD3 := hid' hD3
  replace hV3 := hid' hV3
  replace hE3 := hid' hE3
  replace hX3 := hid' hX3
  clear hD2' hN hV2 hE2 hN2 hN1 hs2
  go_upto_if 52 with fail
  go_cut [11, 13, 15, 16] (fun s11 s13 s15 s16 wx => s11 = .int .i64 (v : Int) ∧ s13 = .int .i64 (RD.copSym v : Nat) ∧ s15 = .int .i64 (copBits 1 v : Nat) ∧ s16 = .int .i64 (copUnit 1 v : Nat) ∧ wx = w3)
  case first =>
    rcases (by omega : v = 1 ∨ v = 2 ∨ v = 3) with rfl | rfl | rfl
    all_goals
      try go_simp
      go_wp2_with fail
      go_meet
      case rel => exact ⟨rfl, rfl, rfl, rfl, rfl⟩
  case rest =>
  obtain ⟨rfl, rfl, rfl, rfl, rfl⟩ := hcut
  go_upto_if 62 with fail
  go_cut [9, 11, 14, 15, 16] (fun s9 s11 s14 s15 s16 wx => s9 = .int .i64 (n : Int) ∧ s11 = .int .i64 (v : Int) ∧ s14 = .int .i64 (RD.copLong n : Nat) ∧ s15 = .int .i64 (copBits n v : Nat) ∧ s16 = .int .i64 (copUnit n v : Nat) ∧ wx = wc)
  case first =>
    as_aux_lemma =>
      by_cases h7 : 7 < n
      · clear hz3 hz2 hc2 hc1 hz1 hH
        rcases (by omega : n = 8 ∨ n = 9) with rfl | rfl <;> rcases (by omega : v = 1 ∨ v = 2 ∨ v = 3) with rfl | rfl | rfl
        all_goals
          have u1 : copBits 1 1 = 0 := rfl
          have u2 : copBits 1 2 = 0 := rfl
          have u3 : copBits 1 3 = 128 := rfl
          have u4 : copUnit 1 1 = 128 := rfl
          have u5 : copUnit 1 2 = 64 := rfl
          have u6 : copUnit 1 3 = 64 := rfl
          try simp only [u1, u2, u3, u4, u5, u6]
          clear u1 u2 u3 u4 u5 u6
          try go_simp
          go_wp2_with fail
          go_meet
          case rel => exact ⟨rfl, rfl, rfl, rfl, rfl, rfl⟩
      · have h7' : ¬ (7 : Int) < (n : Int) := by omega
        have e1 : Hid (RD.copLong n = n) := hid' (by unfold RD.copLong; rw [if_neg h7])
        have e2 : Hid (copBits n v = copBits 1 v) := hid' (by unfold copBits; rw [if_neg (by omega : ¬ n = 9), if_neg (by omega : ¬ (1 : Nat) = 9)])
        have e3 : Hid (copUnit n v = copUnit 1 v) := hid' (by unfold copUnit; rw [if_neg h7, if_neg (by omega : ¬ 7 < 1)])
        go_wp2_with fail
        go_meet
        case rel => exact ⟨rfl, rfl, by rw [e1.out], by rw [e2.out], by rw [e3.out], rfl⟩
  case rest =>
  obtain ⟨rfl, rfl, rfl, rfl, rfl, rfl⟩ := hcut
  have htl := cop_tail n v hLb hv3
  have hbb := copBits_lt n v hLb hv3
  obtain ⟨lo, hlo⟩ : ∃ lo, lo = RD.copLong n := ⟨_, rfl⟩
  obtain ⟨sy, hsy⟩ : ∃ sy, sy = RD.copSym v := ⟨_, rfl⟩
  obtain ⟨bi, hbi⟩ : ∃ bi, bi = copBits n v := ⟨_, rfl⟩
  obtain ⟨un, hun⟩ : ∃ un, un = copUnit n v := ⟨_, rfl⟩
  have hlob : lo ≤ 9 := by rw [hlo]; unfold RD.copLong; split <;> omega
  have hsyb : sy ≤ 1 := by rw [hsy]; unfold RD.copSym; split <;> omega
  rw [← hbi, ← hun] at htl
  rw [← hbi] at hbb
  rw [← hlo, ← hsy, ← hbi, ← hun]
  obtain ⟨B2, hB2⟩ : ∃ B, B = B1 ++ [21, UInt8.ofNat lo, UInt8.ofNat sy, UInt8.ofNat q] := ⟨_, rfl⟩
  have hc3 : RD.bs B1 ++ RD.bs [21, UInt8.ofNat lo, UInt8.ofNat sy, UInt8.ofNat q] = RD.bs B2 := by rw [hB2, RD.bs_append]
  have hz4 : (RD.bs [21, UInt8.ofNat lo, UInt8.ofNat sy, UInt8.ofNat q]).size = 4 := RD.bs_size _
  have hz5 : (RD.bs B2).size = n + 7 := by rw [RD.bs_size, hB2, List.length_append, ← RD.bs_size, hz3]; rfl
  have hcv := conv_many wc [21, UInt8.ofNat lo, UInt8.ofNat sy, UInt8.ofNat q]
  rw [u8s_four lo sy q (by omega) (by omega) (by omega), show [21, UInt8.ofNat lo, UInt8.ofNat sy, UInt8.ofNat q].length = 4 from rfl] at hcv
  have hcB : RD.copB L v q = B2 ++ (if un < 128 then [UInt8.ofNat bi] else []) := by
    have e1 : RD.two H = [UInt8.ofNat (4 * L.length), 0] := by rw [two_small H (by omega), hHb.out, hn.out]
    unfold RD.copB RD.copEnd
    rw [← hn.out, htl, hB2, hB1.out, hB0.out, e1, hlo, hsy, hn.out]
    simp
  have hbA : Below wc.heap.size wc (wc.alloc (.cells #[.int .u8 21, .int .u8 (lo : Int), .int .u8 (sy : Int), .int .u8 (q : Int)] 5)) := (Below.refl _ wc).alloc (Nat.le_refl _) _
  replace hB2 := hid' hB2
  replace hcB := hid' hcB
  replace htl := hid' htl
  replace hlo := hid' hlo
  replace hsy := hid' hsy
  replace hbi := hid' hbi
  have hunb : Hid (un = copUnit n v) := hid' hun
  clear hun
  replace hbA := hid' hbA
  clear hc1 hc2 hz1 hz2 hH
  go_upto_if 83 with fail
  go_cut [12] (fun s12 wx => s12 = .string (RD.bs (RD.copB L v q)) ∧ Below wc.heap.size wc wx)
  case first =>
    as_aux_lemma =>
      by_cases hu : un < 128
      · have hu' : (un : Int) < 128 := by omega
        have hcv2 := conv_many (wc.alloc (.cells #[.int .u8 21, .int .u8 (lo : Int), .int .u8 (sy : Int), .int .u8 (q : Int)] 5)) [UInt8.ofNat bi]
        rw [u8s_single bi (by omega), show [UInt8.ofNat bi].length = 1 from rfl, World.size_alloc] at hcv2
        obtain ⟨B3, hB3⟩ : ∃ B, B = B2 ++ [UInt8.ofNat bi] := ⟨_, rfl⟩
        have hc4 : RD.bs B2 ++ RD.bs [UInt8.ofNat bi] = RD.bs B3 := by rw [hB3, RD.bs_append]
        have hz6 : (RD.bs [UInt8.ofNat bi]).size = 1 := RD.bs_size _
        have hfin : Hid (RD.copB L v q = B3) := hid' (by rw [hcB.out, if_pos hu, hB3])
        have hbB := hid' (hbA.out.alloc (o := .cells #[.int .u8 (bi : Int)] 5) (by have := hbA.out.size; omega))
        replace hB3 := hid' hB3
        go_wp2_with fail
        go_meet
        case rel => exact ⟨by rw [hfin.out], hbB.out⟩
      · have hu' : ¬ (un : Int) < 128 := by omega
        have hfin : Hid (RD.copB L v q = B2) := hid' (by rw [hcB.out, if_neg hu, List.append_nil])
        go_wp2_with fail
        go_meet
        case rel => exact ⟨by rw [hfin.out], hbA.out⟩
  case rest =>
  obtain ⟨rfl, hb4⟩ := hcut
  have hN4 := hN3.out.below hb4 hN3.out.lt
  have hD4 := hD3.out.only (below_only (G := fun _ => False) hb4) (fun _ _ e => e)
  have hV4 := hV3.out.below hb4
  have hE4 := hE3.out.below hV3.out hb4
  have hX4 := below_up hX3.out hb4 hX3.out.size
  clear hN3 hD3 hE3 hX3 hV3 hcv hbA
  replace hN4 := hid' hN4
  replace hD4 := hid' hD4
  replace hV4 := hid' hV4
  replace hE4 := hid' hE4
  replace hX4 := hid' hX4
  obtain ⟨W4, hW4⟩ : ∃ W, W = wc := ⟨_, rfl⟩
  rw [← hW4] at hN4 hD4 hV4 hE4 hX4
  rw [← hW4]
  clear hb4 hb3 hW4 hz3 hz4 hz5 hc3
  go_upto_region 25 with fail
  go_cut [11, 17] (fun s11 s17 wx => s11 = .int .i64 (v : Int) ∧ s17 = .int .i64 (RD.copBack v : Nat) ∧ Below W4.heap.size W4 wx)
  case first =>
    as_aux_lemma =>
      have hbI : Hid (Below W4.heap.size W4 (W4.alloc (.cells #[.int .i64 1, .int .i64 4, .int .i64 8] 3))) := hid' ((Below.refl _ W4).alloc (Nat.le_refl _) _)
      rcases (by omega : v = 1 ∨ v = 2 ∨ v = 3) with rfl | rfl | rfl
      all_goals
        go_wp2_with fail
        go_meet
        case rel => exact ⟨rfl, rfl, hbI.out⟩
  case rest =>
  obtain ⟨rfl, rfl, hb5⟩ := hcut
  have hN5 := hN4.out.below hb5 hN4.out.lt
  have hD5 := hD4.out.only (below_only (G := fun _ => False) hb5) (fun _ _ e => e)
  have hV5 := hV4.out.below hb5
  have hE5 := hE4.out.below hV4.out hb5
  have hX5 := below_up hX4.out hb5 hX4.out.size
  clear hN4 hD4 hE4 hX4 hV4 hb5
  have hBl := RD.cop_len L v q (by rw [← hn.out]; exact hLb) hv3
  have hgv := RD.cop_gave C hcok.lim.1 L v q (by rw [← hn.out]; exact hLb) hv3 hq7
  obtain ⟨B, hB⟩ : ∃ B, B = RD.copB L v q := ⟨_, rfl⟩
  rw [← hB] at hBl
  rw [← hB]
  obtain ⟨BL, hBL⟩ : ∃ BL, BL = B.length := ⟨_, rfl⟩
  rw [← hBL] at hBl
  have hzB : (RD.bs B).size = BL := by rw [RD.bs_size, hBL]
  obtain ⟨H1, hH1⟩ : ∃ H : Nat, 4 + 8 * (BL : Int) = (H : Int) := ⟨4 + 8 * BL, by omega⟩
  obtain ⟨H2, hH2⟩ : ∃ H : Nat, 5 + 8 * (BL : Int) = (H : Int) := ⟨5 + 8 * BL, by omega⟩
  obtain ⟨S1, hS1⟩ : ∃ S, S = [83, 75, 78, 49, 0] ++ RD.two H1 := ⟨_, rfl⟩
  obtain ⟨S2, hS2⟩ : ∃ S, S = S1 ++ B := ⟨_, rfl⟩
  obtain ⟨S3, hS3⟩ : ∃ S, S = S2 ++ RD.two H2 := ⟨_, rfl⟩
  obtain ⟨S4, hS4⟩ : ∃ S, S = S3 ++ B := ⟨_, rfl⟩
  have hS : RD.copS L v q = S4 := by
    unfold RD.copS
    rw [hS4, hS3, hS2, hS1, ← hB, ← hBL, two_small H1 (by omega), two_small H2 (by omega), show 4 + 8 * BL = H1 by omega, show 5 + 8 * BL = H2 by omega]
    simp [RD.readW]
  have c1 : (⟨#[83, 75, 78, 49, 0]⟩ : ByteArray) ++ RD.bs (RD.two H1) = RD.bs S1 := by rw [hS1]; exact RD.bs_append [83, 75, 78, 49, 0] (RD.two H1)
  have c2 : RD.bs S1 ++ RD.bs B = RD.bs S2 := by rw [hS2, RD.bs_append]
  have c3 : RD.bs S2 ++ RD.bs (RD.two H2) = RD.bs S3 := by rw [hS3, RD.bs_append]
  have c4 : RD.bs S3 ++ RD.bs B = RD.bs S4 := by rw [hS4, RD.bs_append]
  have z1 : (RD.bs (RD.two H1)).size = 2 := RD.bs_size _
  have z2 : (RD.bs (RD.two H2)).size = 2 := RD.bs_size _
  have z3 : (RD.bs S1).size = 7 := by rw [RD.bs_size, hS1]; rfl
  have z4 : (RD.bs S2).size = 7 + BL := by rw [RD.bs_size, hS2, List.length_append, ← RD.bs_size, z3, hBL]
  have z5 : (RD.bs S3).size = 9 + BL := by rw [RD.bs_size, hS3, List.length_append, ← RD.bs_size, z4]; show 7 + BL + 2 = _; omega
  have z6 : (RD.bs S4).size = 9 + BL + BL := by rw [RD.bs_size, hS4, List.length_append, ← RD.bs_size, z5, hBL]
  have hS4l : S4.length ≤ 268435456 := by rw [← RD.bs_size, z6]; omega
  rw [hS] at hgv
  rw [← hn.out] at hgv
  replace hS := hid' hS
  replace hS1 := hid' hS1
  replace hS2 := hid' hS2
  replace hS3 := hid' hS3
  replace hS4 := hid' hS4
  replace hB := hid' hB
  replace hBL := hid' hBL
  replace hgv := hid' hgv
  replace hcok' := hid' hcok
  clear hcB htl
  go_wp2_with fail
  refine (two_any H1 _ (by omega)).mono ?_
  rintro e w6 ⟨rfl, hb6⟩
  go_wp2_with fail
  refine (two_any H2 _ (by omega)).mono ?_
  rintro e w7 ⟨rfl, hb7⟩
  have hN7 := (hN5.below hb6 hN5.lt).below hb7 (hN5.below hb6 hN5.lt).lt
  have hD7 := (hD5.only (below_only (G := fun _ => False) hb6) (fun _ _ e => e)).only (below_only (G := fun _ => False) hb7) (fun _ _ e => e)
  have hV7 := (hV5.below hb6).below hb7
  have hE7 := (hE5.below hV5 hb6).below (hV5.below hb6) hb7
  have hX6 := below_up hX5 hb6 hX5.size
  have hX7 := below_up hX6 hb7 hX6.size
  clear hN5 hD5 hE5 hX5 hV5 hb6 hb7 hX6
  obtain ⟨bk, hbk⟩ : ∃ b, b = RD.copBack v := ⟨_, rfl⟩
  have hbkb : 1 ≤ bk ∧ bk ≤ 8 := by rw [hbk]; unfold RD.copBack; repeat' split
                                    all_goals omega
  rw [← hbk] at hgv
  rw [← hbk]
  replace hbk := hid' hbk
  have hwh := whole_any x C hcok hiok S4 _ w7 hD7 hV7 hE7 hS4l
  unfold WhPost at hwh
  have n0 := hN7.cell (j := 0) rfl
  have n1 := hN7.cell (j := 1) rfl
  by_cases hbn : bk ≤ n
  · rw [hgv.out, if_neg (by omega)] at hwh
    simp only [show errOf 2 = 0 from rfl] at hwh
    have hbn1 : (bk : Int) ≤ (n : Int) := by omega
    have hbn2 : ¬ (n : Int) < (bk : Int) := by omega
    go_wp2_with fail
    go_loopg [19, 20] (M + 1) (fun gh ov kv wr => ∃ k : Nat, gh = M + 1 - k ∧ k ≤ M ∧ ov = .string (RD.bs (RD.copyN L bk k)) ∧ kv = .int .i64 (k : Int) ∧ wr = w7)
    case atStart => exact ⟨0, by omega, by omega, rfl, rfl, rfl⟩
    case round =>
      obtain ⟨k, rfl, hk, rfl, rfl, rfl⟩ := hrel
      have hzo : (RD.bs (RD.copyN L bk k)).size = n + k := by rw [RD.bs_size, RD.copyN_len, hn.out]
      by_cases hlt : k < M
      · as_aux_lemma =>
          have hlt' : (k : Int) < (M : Int) := by omega
          obtain ⟨J, hJ⟩ : ∃ J : Nat, (n : Int) + (k : Int) - (bk : Int) = (J : Int) := ⟨n + k - bk, by omega⟩
          have hJ2 : ((n + k : Nat) : Int) - (bk : Int) = (J : Int) := by omega
          obtain ⟨E1, hE1⟩ : ∃ E : Nat, (J : Int) + 1 = (E : Int) := ⟨J + 1, by omega⟩
          have hE2 : Hid (E1 = J + 1) := hid' (by omega)
          have hJ4 : Hid (J = n + k - bk) := hid' (by omega)
          have hJ5 : (E1 : Int) ≤ ((n + k : Nat) : Int) := by omega
          have hJ6 : (J : Int) ≤ (E1 : Int) := by omega
          have hJ7 : E1 ≤ 30 := by omega
          have hst := at_copy L bk k ⟨hbkb.1, by rw [← hn.out]; exact hbn⟩
          rw [RD.copyN_len, ← hn.out, ← hJ4.out] at hst
          obtain ⟨Z, hZ⟩ : ∃ Z, Z = ((RD.copyN L bk k).drop J).take 1 := ⟨_, rfl⟩
          have hex : (RD.bs (RD.copyN L bk k)).extract J E1 = RD.bs Z := by rw [hZ, hE2.out]; exact RD.bs_mid _ J 1
          rw [← hZ] at hst
          have hcat : RD.bs (RD.copyN L bk k) ++ RD.bs Z = RD.bs (RD.copyN L bk (k + 1)) := by rw [hst, RD.bs_append]
          have hzZ : (RD.bs Z).size = 1 := by
            have e := congrArg ByteArray.size hcat
            rw [RD.bs_size, RD.copyN_len, ← hn.out] at e
            have e2 : (RD.bs (RD.copyN L bk k) ++ RD.bs Z).size = (RD.bs (RD.copyN L bk k)).size + (RD.bs Z).size := by simp
            rw [e2, hzo] at e
            omega
          replace hst := hid' hst
          replace hZ := hid' hZ
          obtain ⟨O1, hO1⟩ : ∃ O, O = RD.copyN L bk (k + 1) := ⟨_, rfl⟩
          rw [← hO1] at hcat
          replace hO1 := hid' hO1
          obtain ⟨O0, hO0⟩ : ∃ O, O = RD.copyN L bk k := ⟨_, rfl⟩
          rw [← hO0] at hcat hex hzo
          rw [← hO0]
          replace hO0 := hid' hO0
          obtain ⟨nk, hnk⟩ : ∃ x, x = n + k := ⟨_, rfl⟩
          rw [← hnk] at hzo hJ2 hJ5
          have hnkb : nk ≤ 30 := by omega
          replace hnk := hid' hnk
          clear hJ
          go_wp2_with fail
          go_roundg (M + 1 - (k + 1))
          case rel => exact ⟨k + 1, by omega, by omega, by rw [hO1.out], rfl, rfl⟩
          case measure => omega
      · as_aux_lemma =>
          obtain rfl : k = M := by omega
          have hkk : ¬ (k : Int) < (k : Int) := by omega
          obtain ⟨OU, hOU⟩ : ∃ O, O = RD.copyN L bk k := ⟨_, rfl⟩
          rw [← hOU] at hzo
          rw [← hOU]
          have hou : Hid (RD.copOut L v q = OU) := hid' (by unfold RD.copOut; rw [hOU, hbk.out, hMq.out])
          replace hOU := hid' hOU
          obtain ⟨GA, hGA⟩ : ∃ G, G = RD.copAll L v q := ⟨_, rfl⟩
          rw [← hGA] at hwh
          obtain ⟨nx, hnx⟩ : ∃ x, x = RD.copNext v := ⟨_, rfl⟩
          have hnxb : 1 ≤ nx ∧ nx ≤ 4 := by rw [hnx]; unfold RD.copNext; split <;> omega
          obtain ⟨AL, hAL⟩ : ∃ A, A = OU ++ L := ⟨_, rfl⟩
          have hga : Hid (GA = RD.copyN AL nx k) := hid' (by rw [hGA]; unfold RD.copAll; rw [hou.out, hAL, hnx, hMq.out])
          have hcA : RD.bs OU ++ RD.bs L = RD.bs AL := by rw [hAL, RD.bs_append]
          have hlA : AL.length = n + k + n := by rw [hAL, List.length_append, ← RD.bs_size OU, hzo, hn.out]
          have hzA : (RD.bs AL).size = n + k + n := by rw [RD.bs_size, hlA]
          replace hAL := hid' hAL
          replace hGA := hid' hGA
          replace hnx := hid' hnx
          go_wp2_with fail
          refine hwh.mono ?_
          rintro e w8 ⟨rfl, hb8⟩
          have hN8 := hN7.below hb8 hN7.lt
          have hD8 := hD7.only (below_only (G := fun _ => False) hb8) (fun _ _ e => e)
          have hV8 := hV7.below hb8
          have hE8 := hE7.below hV7 hb8
          have hX8 := below_up hX7 hb8 hX7.size
          have m0 := hN8.cell (j := 0) rfl
          have m1 := hN8.cell (j := 1) rfl
          have hwk := works_any x C hcok hiok _ w8 hD8 hV8 hE8
          go_wp2_with fail
          refine hwk.mono ?_
          rintro e w9 ⟨rfl, hb9⟩
          have hX9 := below_up hX8 hb9 hX8.size
          replace hX9 := hid' hX9
          clear hwk hwh n0 n1 m0 m1 hb9 hb8 hX8 hN8 hD8 hV8 hE8 hX7 hN7 hD7 hV7 hE7 c1 c2 c3 c4 z1 z2 z3 z4 z5 z6 hzB hS4l
          obtain ⟨sc, hsc⟩ : ∃ x, x = (if v = 2 then 1 else bk : Nat) := ⟨_, rfl⟩
          replace hsc := hid' hsc
          go_upto_if 157 with fail
          go_cut [11, 24] (fun s11 s24 wx => s11 = .int .i64 (v : Int) ∧ s24 = .int .i64 (sc : Int) ∧ wx = w9)
          case first =>
            by_cases h2 : v = 2
            · have e1 : Hid (sc = 1) := hid' (by rw [hsc.out, if_pos h2])
              have h2' : ((v : Int) == 2) = true := by rw [h2]; rfl
              have h2'' : (v : Int) = 2 := by rw [h2]; rfl
              replace h2 := hid' h2
              go_wp2_with fail
              go_meet
              case rel => exact ⟨by rw [h2.out] <;> rfl, by rw [e1.out] <;> rfl, rfl⟩
            · have e1 : Hid (sc = bk) := hid' (by rw [hsc.out, if_neg h2])
              have h2' : ((v : Int) == 2) = false := by simp; omega
              have h2'' : ¬ (v : Int) = 2 := by omega
              replace h2 := hid' h2
              go_wp2_with fail
              go_meet
              case rel => exact ⟨rfl, by rw [e1.out], rfl⟩
          case rest =>
          obtain ⟨rfl, rfl, rfl⟩ := hcut
          go_upto_if 159 with fail
          go_cut [11, 24] (fun s11 s24 wx => s11 = .int .i64 (v : Int) ∧ s24 = .int .i64 (nx : Int) ∧ wx = wc)
          case first =>
            by_cases h3 : v = 3
            · have e1 : Hid (nx = 4) := hid' (by rw [hnx.out, h3]; rfl)
              have h3' : ((v : Int) == 3) = true := by rw [h3]; rfl
              have h3'' : (v : Int) = 3 := by rw [h3]; rfl
              replace h3 := hid' h3
              go_wp2_with fail
              go_meet
              case rel => exact ⟨by rw [h3.out] <;> rfl, by rw [e1.out] <;> rfl, rfl⟩
            · have e1 : Hid (sc = nx) := hid' (by
                rw [hsc.out, hnx.out, hbk.out]
                rcases (by omega : v = 1 ∨ v = 2) with e | e <;> rw [e] <;> rfl)
              have h3' : ((v : Int) == 3) = false := by simp; omega
              have h3'' : ¬ (v : Int) = 3 := by omega
              replace h3 := hid' h3
              go_wp2_with fail
              go_meet
              case rel => exact ⟨rfl, by rw [e1.out], rfl⟩
          case rest =>
          obtain ⟨rfl, rfl, rfl⟩ := hcut
          obtain ⟨nA, hnA⟩ : ∃ m, m = n + k + n := ⟨_, rfl⟩
          rw [← hnA] at hzA hlA
          have hnAb : 5 ≤ nA ∧ nA ≤ 40 := by omega
          have hns : ¬ (nA : Int) < (nx : Int) := by omega
          replace hnA := hid' hnA
          replace hlA := hid' hlA
          go_wp2_with fail
          clear hzo
          go_loopg [25, 26] (k + 1) (fun gh ov kv wr => ∃ j : Nat, gh = k + 1 - j ∧ j ≤ k ∧ ov = .string (RD.bs (RD.copyN AL nx j)) ∧ kv = .int .i64 (j : Int) ∧ wr = wc)
          case atStart => exact ⟨0, by omega, by omega, rfl, rfl, rfl⟩
          case round =>
            obtain ⟨j, rfl, hj, rfl, rfl, rfl⟩ := hrel
            have hzo : (RD.bs (RD.copyN AL nx j)).size = nA + j := by rw [RD.bs_size, RD.copyN_len, hlA.out]
            by_cases hlt : j < k
            · as_aux_lemma =>
                have hlt' : (j : Int) < (k : Int) := by omega
                obtain ⟨J, hJ⟩ : ∃ J : Nat, (nA : Int) + (j : Int) - (nx : Int) = (J : Int) := ⟨nA + j - nx, by omega⟩
                have hJ2 : ((nA + j : Nat) : Int) - (nx : Int) = (J : Int) := by omega
                obtain ⟨E1, hE1⟩ : ∃ E : Nat, (J : Int) + 1 = (E : Int) := ⟨J + 1, by omega⟩
                have hE2 : Hid (E1 = J + 1) := hid' (by omega)
                have hJ4 : Hid (J = nA + j - nx) := hid' (by omega)
                have hJ5 : (E1 : Int) ≤ ((nA + j : Nat) : Int) := by omega
                have hJ6 : (J : Int) ≤ (E1 : Int) := by omega
                have hJ7 : E1 ≤ 60 := by omega
                have hst := at_copy AL nx j ⟨hnxb.1, by rw [hlA.out]; omega⟩
                rw [RD.copyN_len, hlA.out, ← hJ4.out] at hst
                obtain ⟨Z, hZ⟩ : ∃ Z, Z = ((RD.copyN AL nx j).drop J).take 1 := ⟨_, rfl⟩
                have hex : (RD.bs (RD.copyN AL nx j)).extract J E1 = RD.bs Z := by rw [hZ, hE2.out]; exact RD.bs_mid _ J 1
                rw [← hZ] at hst
                have hcat : RD.bs (RD.copyN AL nx j) ++ RD.bs Z = RD.bs (RD.copyN AL nx (j + 1)) := by rw [hst, RD.bs_append]
                have hzZ : (RD.bs Z).size = 1 := by
                  have e := congrArg ByteArray.size hcat
                  rw [RD.bs_size, RD.copyN_len, hlA.out] at e
                  have e2 : (RD.bs (RD.copyN AL nx j) ++ RD.bs Z).size = (RD.bs (RD.copyN AL nx j)).size + (RD.bs Z).size := by simp
                  rw [e2, hzo] at e
                  omega
                replace hst := hid' hst
                replace hZ := hid' hZ
                obtain ⟨O1, hO1⟩ : ∃ O, O = RD.copyN AL nx (j + 1) := ⟨_, rfl⟩
                rw [← hO1] at hcat
                replace hO1 := hid' hO1
                obtain ⟨O0, hO0⟩ : ∃ O, O = RD.copyN AL nx j := ⟨_, rfl⟩
                rw [← hO0] at hcat hex hzo
                rw [← hO0]
                replace hO0 := hid' hO0
                obtain ⟨nk, hnk⟩ : ∃ x, x = nA + j := ⟨_, rfl⟩
                rw [← hnk] at hzo hJ2 hJ5
                have hnkb : nk ≤ 60 := by omega
                replace hnk := hid' hnk
                clear hJ
                go_wp2_with fail
                go_roundg (k + 1 - (j + 1))
                case rel => exact ⟨j + 1, by omega, by omega, by rw [hO1.out], rfl, rfl⟩
                case measure => omega
            · obtain rfl : j = k := by omega
              have hkk : ¬ (j : Int) < (j : Int) := by omega
              have heq : ((RD.bs GA).toList == (RD.bs (RD.copyN AL nx j)).toList) = true := by rw [hga.out]; simp
              obtain ⟨FA, hFA⟩ : ∃ F, F = RD.copyN AL nx j := ⟨_, rfl⟩
              rw [← hFA] at heq
              rw [← hFA]
              replace hFA := hid' hFA
              go_wp2_with fail
              go_ret
              exact ⟨rfl, hX9.out⟩
  · as_aux_lemma =>
      rw [hgv.out, if_pos (by omega)] at hwh
      simp only [show errOf 4 = 4 from rfl, RD.bs_nil] at hwh
      have hbn1 : ¬ (bk : Int) ≤ (n : Int) := by omega
      have hbn2 : (bk : Int) > (n : Int) := by omega
      have hbn3 : (n : Int) < (bk : Int) := by omega
      have hM0 : (0 : Int) < (M : Int) := by omega
      go_wp2_with fail
      go_loopg [19, 20] 1 (fun gh ov kv wr => gh = 1 ∧ ov = .string (RD.bs L) ∧ kv = .int .i64 0 ∧ wr = w7)
      case atStart => exact ⟨rfl, rfl, rfl, rfl⟩
      case round =>
        obtain ⟨rfl, rfl, rfl, rfl⟩ := hrel
        go_wp2_with fail
        refine hwh.mono ?_
        rintro e w8 ⟨rfl, hb8⟩
        have hN8 := hN7.below hb8 hN7.lt
        have hD8 := hD7.only (below_only (G := fun _ => False) hb8) (fun _ _ e => e)
        have hV8 := hV7.below hb8
        have hE8 := hE7.below hV7 hb8
        have hX8 := below_up hX7 hb8 hX7.size
        have m0 := hN8.cell (j := 0) rfl
        have m1 := hN8.cell (j := 1) rfl
        have hwk := works_any x C hcok hiok _ w8 hD8 hV8 hE8
        go_wp2_with fail
        refine hwk.mono ?_
        rintro e w9 ⟨rfl, hb9⟩
        go_wp2_with fail
        go_ret
        exact ⟨rfl, below_up hX8 hb9 hX8.size⟩
end Go.Proofs.YtbhemchnjpajiaaGreatDoor

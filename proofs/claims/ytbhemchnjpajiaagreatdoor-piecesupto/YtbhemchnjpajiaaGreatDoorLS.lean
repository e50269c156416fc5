/- Several texts in one: QPcs. -/
import Derived.Test.YtbhemchnjpajiaaGreatDoorLR
/- The law Pieces (package skeinlaw), walked. -/
namespace Go.Proofs.YtbhemchnjpajiaaGreatDoor
open Go.RowKit
set_option linter.unusedVariables false

/-- A list of numbers that is handed in. -/
def IntsArg (w : World) (v : Value) (z : List Int) : Prop := ∃ a c, v = .slice a z.length c ∧ Ints w a z.length z ∧ ∀ i ∈ z, -9223372036854775808 ≤ i ∧ i ≤ 9223372036854775807
theorem told_take (c : RD.Cfg) (p q : RD.Bytes) (b : Bool) (g : Nat) (h : g ≤ (RD.told c p b).1.length) : (RD.told c (p ++ q) b).1.take g = (RD.told c p b).1.take g := by
  obtain ⟨t, ht⟩ := RD.told_more c p q b b
  rw [ht, List.take_append_of_le_length h]
theorem told_small (c : RD.Cfg) (s : RD.Bytes) (b : Bool) : (RD.told c s b).1.length ≤ 1024 * s.length := by
  obtain ⟨a, h1, h2⟩ := RD.stops c (s.length + 1) (RD.St.start s) (by show s.length < _; omega)
  have e1 : (RD.told c s b).1 = a.text := by
    unfold RD.told
    have e := RD.run_same h1 h2 (n := s.length + 1) (by show s.length < _; omega)
    simp only [e]
  have h3 := h1.less.2.2
  rw [e1]
  have : (RD.St.start s).text.length = 0 := rfl
  have : (RD.St.start s).left.length = s.length := rfl
  omega
theorem pick_bound (c n : Int) (h : 1 ≤ n) : 0 ≤ pickN c n ∧ pickN c n < n := by
  unfold pickN
  exact ⟨Int.emod_nonneg _ (by omega), Int.emod_lt_of_pos _ (by omega)⟩
set_option maxRecDepth 100000 in
set_option maxHeartbeats 40000000 in
theorem pieces_any (x : Fx) (lim : Int) (ds : List (Int × RD.Bytes)) (v : Value) (s : RD.Bytes) (vc vs : Value) (zc zs : List Int) (w : World) (hl : -9223372036854775808 ≤ lim ∧ lim ≤ 9223372036854775807) (hD : DictsArg w v ds) (hdl : ds.length ≤ 1048576) (ht : ∀ d ∈ ds, d.2.length ≤ 1048576)
    (hsl : s.length ≤ 1048576) (hzc : IntsArg w vc zc) (hzs : IntsArg w vs zs) (hcl : zc.length ≤ 1048576) (hzl : zs.length ≤ 1048576) (hV : VarsAt x w) (hE : ErrRows x w) :
    Calls Tryz.prog 9 #[.agg #[.int .i64 lim, v], .string (RD.bs s), vc, vs] w (KeptPost w) := by
  have hlm : Hid (∀ W, Below w.heap.size w W → Calls Tryz.prog 10 #[.agg #[.int .i64 lim, v]] W (LimPost lim ds W)) := fun W hW => limits_any lim ds v W hl (by
    obtain ⟨a, c, e, h1, h2⟩ := hD
    refine ⟨a, c, e, h1, ?_⟩
    rcases h2 with h2 | ⟨b, o, e2, hb, h2⟩
    · exact .inl h2
    · exact .inr ⟨b, o, e2, Nat.lt_of_lt_of_le hb hW.size, fun i hi => ⟨(hW.cell (p := ⟨b, _, none⟩) hb).trans (h2 i hi).1, (hW.cell (p := ⟨b, _, none⟩) hb).trans (h2 i hi).2⟩⟩) hdl ht
  obtain ⟨hcok, hiok⟩ := limC_ok lim ds
  generalize hC : limC lim ds = C at *
  obtain ⟨a, cc, rfl, hcc, hdd⟩ := hD
  obtain ⟨ac, pc, rfl, hic, hbc⟩ := hzc
  obtain ⟨az, pz, rfl, his, hbs⟩ := hzs
  replace hic := hid' hic
  replace his := hid' his
  replace hbc := hid' hbc
  replace hbs := hid' hbs
  have hb0 : Below w.heap.size w (w.alloc (.cells #[.int .i64 lim, .slice a ds.length cc] 24)) := (Below.refl _ w).alloc (Nat.le_refl _) _
  have hN0 := Blk.new w 24 [.int .i64 lim, .slice a ds.length cc]
  have hs0 : (w.alloc (.cells #[.int .i64 lim, .slice a ds.length cc] 24)).heap.size = w.heap.size + 1 := World.size_alloc _ _
  go_enter Tryz.func9, Tryz.ntmps9
  go_wp2_with fail
  refine (hlm.out _ hb0).mono ?_
  rintro e w1 ⟨hb1, v1, rfl, hD1⟩
  rw [hC] at hD1 ⊢
  obtain ⟨a1, c1, rfl⟩ := hD1.shape
  rw [hs0] at hb1
  have hN1 := hN0.below hb1 (by omega)
  have n0 := hN1.cell (j := 0) rfl
  have n1 := hN1.cell (j := 1) rfl
  have f0 := hN1.free 0
  have f1 := hN1.free 1
  have hN2 := (hN1.put 0 (.int .i64 C.limit)).put 1 (.slice a1 C.dicts.length c1)
  have ho2 : Only (fun b => b = w.heap.size) w1 ((w1.setCell ⟨w.heap.size, 0, none⟩ (.int .i64 C.limit)).setCell ⟨w.heap.size, 1, none⟩ (.slice a1 C.dicts.length c1)) := ((Only.refl (fun b => b = w.heap.size) w1).setCell ⟨w.heap.size, 0, none⟩ _ (fun _ => rfl)).setCell ⟨w.heap.size, 1, none⟩ _ (fun _ => rfl)
  replace ho2 := hid' ho2
  replace hN0 := hid' hN0
  replace hb1 := hid' hb1
  replace hb0 := hid' hb0
  replace hdd := hid' hdd
  go_wp2_with (first | fail)
  have hs2 : ((w1.setCell ⟨w.heap.size, 0, none⟩ (.int .i64 C.limit)).setCell ⟨w.heap.size, 1, none⟩ (.slice a1 C.dicts.length c1)).heap.size = w1.heap.size := by simp
  obtain ⟨W2, hW2⟩ : ∃ W, W = ((w1.setCell ⟨w.heap.size, 0, none⟩ (.int .i64 C.limit)).setCell ⟨w.heap.size, 1, none⟩ (.slice a1 C.dicts.length c1)) := ⟨_, rfl⟩
  rw [← hW2] at hN2 ho2 hs2
  rw [← hW2]
  replace hW2 := hid' hW2
  have hb2 : Below w.heap.size w W2 := by
    have hs1 := hb1.out.size
    rw [hs0] at hs1
    refine hb0.out.trans ⟨(ho2.out.os).trans hb1.out.os, (ho2.out.tape).trans hb1.out.tape, (ho2.out.output).trans hb1.out.output, by have := ho2.out.size; omega, fun k hk => ?_⟩
    exact (ho2.out.block k (by omega) (by omega)).trans (hb1.out.block k (by omega))
  have hD2 : DictsAt W2 (.slice a1 C.dicts.length c1) C.dicts := by
    obtain ⟨a', c', e', q1, q2⟩ := hD1
    obtain ⟨rfl, -, rfl⟩ := Value.slice.inj e'
    refine ⟨_, _, rfl, q1, ?_⟩
    rcases q2 with q2 | ⟨b, rfl, hbl, hd⟩
    · exact .inl q2
    · by_cases h0 : C.dicts = []
      · exact .inl h0
      · have hne : b ≠ w.heap.size := fun e => by
          have := (hd 0 (List.length_pos_iff.2 h0)).2
          rw [e] at this
          rw [show (0 * 2 + 1 : Nat) = 1 from rfl, n1] at this
          cases this
        exact .inr ⟨b, rfl, Nat.lt_of_lt_of_le hbl ho2.out.size, fun i hi => ⟨ho2.out.cell (hd i hi).1 hbl hne, ho2.out.cell (hd i hi).2 hbl hne⟩⟩
  have hN : Blk W2 w.heap.size 24 [.int .i64 C.limit, .slice a1 C.dicts.length c1] := hN2
  have hV2 := hV.below hb2
  have hE2 := hE.below hV hb2
  have n20 := hN.cell (j := 0) rfl
  have n21 := hN.cell (j := 1) rfl
  have hwk := works_any x C hcok hiok _ W2 hD2 hV2 hE2
  have hD2' := hid' hD2
  refine hwk.mono ?_
  rintro e w3 ⟨rfl, hb3⟩
  have hN3 := hN.below hb3 hN.lt
  have n30 := hN3.cell (j := 0) rfl
  have n31 := hN3.cell (j := 1) rfl
  have hD3 := hD2'.out.only (below_only (G := fun _ => False) hb3) (fun _ _ e => e)
  have hV3 := hV2.below hb3
  have hE3 := hE2.below hV2 hb3
  have hwh1 := whole_any x C hcok hiok s _ w3 hD3 hV3 hE3 (by omega)
  unfold WhPost at hwh1
  obtain ⟨A, hA⟩ : ∃ A, A = RD.gave C s := ⟨_, rfl⟩
  rw [← hA] at hwh1
  replace hA := hid' hA
  go_wp2_with fail
  refine hwh1.mono ?_
  rintro e w4 ⟨rfl, hb4⟩
  have hN4 := hN3.below hb4 hN3.lt
  have n40 := hN4.cell (j := 0) rfl
  have n41 := hN4.cell (j := 1) rfl
  have hD4 := hD3.only (below_only (G := fun _ => False) hb4) (fun _ _ e => e)
  have hV4 := hV3.below hb4
  have hE4 := hE3.below hV3 hb4
  have hnw := new_ok x C hcok hiok _ w4 hD4 hV4 hE4
  go_wp2_with fail
  refine hnw.mono ?_
  rintro e w5 ⟨hb5, R, S, G1, ss, rfl, hL⟩
  have u2 := hb2.size
  have u3 := hb3.size
  have u4 := hb4.size
  have hb45 : Below w.heap.size w w4 := below_up (below_up hb2 hb3 (by omega)) hb4 (by omega)
  have hbw5 : Below w.heap.size w w5 := below_up hb45 hb5 (by omega)
  have hop0 : OpenAt x (fun k => w4.heap.size ≤ k ∧ k < w5.heap.size) C [] 0 R w5 := ⟨_, .refl _, .inl ⟨hL.wants, _, _, _, _, _, _, hL⟩⟩
  have hic5 := hid' (hic.out.below hbw5)
  have his5 := hid' (his.out.below hbw5)
  have hz := RD.bs_size s
  clear hL hnw hwh1 hwk n20 n21 n30 n31 n40 n41 hN4 hN3 hD4 hD3 hD2 hV4 hV3 hE4 hE3 hD2' n0 n1 f0 f1 hlm
  replace hcok := hid' hcok
  replace hop0 := hid' hop0
  go_wp2_with fail
  go_loopg [14, 15, 16] (zc.length + 1) (fun gh gv av iv wr => ∃ (p i given : Nat) (G : Nat → Prop), gh = zc.length + 1 - i ∧ p ≤ s.length ∧ i ≤ zc.length + 1 ∧ (zc.length < i → p = s.length) ∧ gv = .string (RD.bs ((RD.told C (s.take p) false).1.take given)) ∧ av = .int .i64 (p : Int) ∧ iv = .int .i64 (i : Int) ∧ (∀ k, G k → w.heap.size ≤ k) ∧ OpenAt x G C (s.take p) given R wr ∧ Below w.heap.size w wr)
  case atStart =>
    refine ⟨0, 0, 0, fun k => w4.heap.size ≤ k ∧ k < w5.heap.size, by omega, by omega, by omega, fun e => by omega, rfl, rfl, rfl, fun k hk => Nat.le_trans (by omega) hk.1, ?_, hbw5⟩
    rw [List.take_zero]
    exact hop0.out
  case round =>
    obtain ⟨p, i, given, G, rfl, hp, hi, hip, rfl, rfl, rfl, hG, hop, hbr⟩ := hrel
    have hiz := hic.out.below hbr
    have hsz := his.out.below hbr
    obtain ⟨T, hT⟩ : ∃ T, T = (RD.told C (s.take p) false).1 := ⟨_, rfl⟩
    have hgl := hop.le
    rw [← hT] at hgl
    rw [← hT]
    replace hT := hid' hT
    by_cases hlt : p < s.length
    · have hil : i ≤ zc.length := by
        rcases Nat.lt_or_ge zc.length i with h | h
        · have := hip h; omega
        · exact h
      have hlti : (p : Int) < (s.length : Int) := by omega
      replace hop := hid' hop
      replace hbr := hid' hbr
      replace hsz := hid' hsz
      clear hip
      obtain ⟨N, hN'⟩ : ∃ N : Nat, (s.length : Int) - (p : Int) = (N : Int) := ⟨s.length - p, by omega⟩
      have hNb : Hid (N = s.length - p) := hid' (by omega)
      go_upto_if 58 with fail
      go_cut [17] (fun s17 wx => ∃ n : Nat, s17 = .int .i64 (n : Int) ∧ p + n ≤ s.length ∧ (zc.length ≤ i → p + n = s.length) ∧ wx = wr)
      case first =>
        by_cases hic' : i < zc.length
        · have hic2 : (i : Int) < (zc.length : Int) := by omega
          obtain ⟨_, _, hx⟩ := hiz
          obtain ⟨b, off, rfl, hb, hcell⟩ := hx.resolve_left (by omega)
          have hci := hcell i hic'
          have hzb := hbc.out (zc.getD i 0) (by rw [List.getD_eq_getElem?_getD, List.getElem?_eq_getElem hic']; exact List.getElem_mem hic')
          obtain ⟨Z, hZ⟩ : ∃ Z, Z = zc.getD i 0 := ⟨_, rfl⟩
          rw [← hZ] at hci hzb
          replace hZ := hid' hZ
          have hN1 : (N : Int) + 1 = ((N + 1 : Nat) : Int) := by omega
          have hpk := pickv Z ((N : Int) + 1) wr hzb (by omega)
          have hpb := pick_bound Z ((N : Int) + 1) (by omega)
          obtain ⟨q, hq⟩ : ∃ q : Nat, pickN Z ((N : Int) + 1) = (q : Int) := ⟨(pickN Z ((N : Int) + 1)).toNat, by omega⟩
          rw [hq] at hpk hpb
          replace hq := hid' hq
          clear hx hcell
          replace hN1 := hid' hN1
          go_wp2_with fail
          refine hpk.mono ?_
          rintro e w6 ⟨rfl, hw6⟩
          subst hw6
          go_wp2_with fail
          go_meet
          case rel => exact ⟨q, rfl, by have := hNb.out; omega, fun h => by omega, rfl⟩
        · have hic2 : ¬ (i : Int) < (zc.length : Int) := by omega
          go_wp2_with fail
          go_meet
          case rel => exact ⟨N, rfl, by have := hNb.out; omega, fun h => by have := hNb.out; omega, rfl⟩
      case rest =>
      obtain ⟨n, rfl, hn1, hn2, rfl⟩ := hcut
      clear hiz hN' hNb
      obtain ⟨E, hE'⟩ : ∃ E : Nat, (p : Int) + (n : Int) = (E : Int) := ⟨p + n, by omega⟩
      have hEb : Hid (E = p + n) := hid' (by omega)
      have hEl : (E : Int) ≤ (s.length : Int) := by omega
      have hpE : (p : Int) ≤ (E : Int) := by omega
      obtain ⟨P, hP⟩ : ∃ P, P = (s.drop p).take n := ⟨_, rfl⟩
      have hex : (RD.bs s).extract p E = RD.bs P := by rw [hEb.out, hP]; exact RD.bs_mid s p n
      have htk : s.take p ++ P = s.take E := by rw [hEb.out, hP, ← List.take_add]
      replace hP := hid' hP
      have hfd := open_feed x G C hcok.out (s.take p) P given R wc hop.out (by rw [htk, List.length_take]; omega)
      rw [htk] at hfd
      have hgt : Hid ((RD.told C (s.take E) false).1.take given = T.take given) := by
        unfold Hid
        rw [← htk, told_take C (s.take p) P false given hop.out.le, hT.out]
      replace htk := hid' htk
      go_wp2_with fail
      refine hfd.mono ?_
      rintro e w6 ⟨rfl, hO6, G6, hG6, hop6⟩
      have hb6 : Below w.heap.size w w6 := Below.only hbr.out hO6 hG (Nat.le_refl _)
      have hG6' : ∀ k, G6 k → w.heap.size ≤ k := fun k hk => by
        rcases hG6 k hk with e | e
        · exact hG k e
        · have := hbr.out.size; omega
      have his6 := his.out.below hb6
      by_cases his' : i < zs.length
      · have his2 : (i : Int) < (zs.length : Int) := by omega
        obtain ⟨_, _, hx⟩ := his6
        obtain ⟨b, off, rfl, hb, hcell⟩ := hx.resolve_left (by omega)
        have hci := hcell i his'
        have hzb := hbs.out (zs.getD i 0) (by rw [List.getD_eq_getElem?_getD, List.getElem?_eq_getElem his']; exact List.getElem_mem his')
        obtain ⟨Z, hZ⟩ : ∃ Z, Z = zs.getD i 0 := ⟨_, rfl⟩
        rw [← hZ] at hci hzb
        replace hZ := hid' hZ
        have hpk := pickv Z 3000 w6 hzb (by omega)
        have hpb := pick_bound Z 3000 (by omega)
        obtain ⟨K, hK⟩ : ∃ K, K = pickN Z 3000 := ⟨_, rfl⟩
        rw [← hK] at hpk hpb
        replace hK := hid' hK
        clear hx hcell
        have hrd := open_read x G6 C (s.take E) given R K w6 (by omega) hop6
        obtain ⟨Y, hY⟩ : ∃ Y, Y = (RD.told C (s.take E) false).1 := ⟨_, rfl⟩
        have hnum := told_num C (s.take E)
        obtain ⟨nn, hnn⟩ : ∃ nn, nn = (RD.told C (s.take E) false).2.1 := ⟨_, rfl⟩
        have hgY := hop6.le
        rw [← hY] at hgY
        rw [← hY, ← hnn] at hrd
        rw [← hnn] at hnum
        replace hnn := hid' hnn
        rw [← hgt.out, ← hY]
        have hYl : Y.length ≤ 1073741824 := by
          have := told_small C (s.take E) false
          rw [← hY, List.length_take] at this
          omega
        have hgb : given ≤ 1073741824 := by omega
        have hz5 : (RD.bs (Y.take given)).size = given := by rw [RD.bs_size, List.length_take]; omega
        replace hY := hid' hY
        replace hop6 := hid' hop6
        go_wp2_with fail
        refine hpk.mono ?_
        rintro e w7 ⟨rfl, hw7⟩
        subst hw7
        by_cases hne : Y.drop given = []
        · rw [hne, rdVal_nil] at hrd
          go_wp2_with fail
          refine hrd.mono ?_
          rintro e w8 ⟨rfl, hO8, hop8⟩
          have hb8 : Below w.heap.size w w8 := Below.only hb6 hO8 hG6' (Nat.le_refl _)
          have e0 : given + rdN K ([] : RD.Bytes).length = given := by have := rdN_le K ([] : RD.Bytes).length; simp at this; simp [this]
          rw [e0] at hop8
          have hn0 : ((nn : Int) == 0) = false := by simp; omega
          have hn2' : ((nn : Int) == 2) = false := by simp; omega
          have hap : RD.bs (Y.take given) ++ (⟨#[]⟩ : ByteArray) = RD.bs (Y.take given) := by
            have := RD.bs_append (Y.take given) []
            rw [List.append_nil] at this
            exact this
          replace hop8 := hid' hop8
          replace hop6 := hid' hop6
          go_wp2_with fail
          go_roundg (zc.length + 1 - (i + 1))
          case rel => exact ⟨E, i + 1, given, G6, by omega, by omega, by omega, fun h => by have := hn2 (by omega); have := hEb.out; omega, by rw [hY.out], rfl, rfl, hG6', hop8.out, hb8⟩
          case measure => omega
        · rw [rdVal_some hne] at hrd
          obtain ⟨k, hk⟩ : ∃ k, k = rdN K (Y.drop given).length := ⟨_, rfl⟩
          rw [← hk] at hrd
          replace hk := hid' hk
          have hap : RD.bs (Y.take given) ++ RD.bs ((Y.drop given).take k) = RD.bs (Y.take (given + k)) := by rw [RD.bs_append, ← List.take_add]
          have hz6 : (RD.bs ((Y.drop given).take k)).size = ((Y.drop given).take k).length := RD.bs_size _
          have hz7 : ((Y.drop given).take k).length ≤ 1073741824 := by rw [List.length_take, List.length_drop]; omega
          obtain ⟨V, hV'⟩ : ∃ V, V = (Y.drop given).take k := ⟨_, rfl⟩
          rw [← hV'] at hrd hap hz6 hz7
          replace hV' := hid' hV'
          replace hne := hid' hne
          go_wp2_with fail
          refine hrd.mono ?_
          rintro e w8 ⟨rfl, hO8, hop8⟩
          have hb8 : Below w.heap.size w w8 := Below.only hb6 hO8 hG6' (Nat.le_refl _)
          replace hop8 := hid' hop8
          go_wp2_with fail
          go_roundg (zc.length + 1 - (i + 1))
          case rel => exact ⟨E, i + 1, given + k, G6, by omega, by omega, by omega, fun h => by have := hn2 (by omega); have := hEb.out; omega, by rw [hY.out], rfl, rfl, hG6', hop8.out, hb8⟩
          case measure => omega
      · have his2 : ¬ (i : Int) < (zs.length : Int) := by omega
        go_wp2_with fail
        go_roundg (zc.length + 1 - (i + 1))
        case rel => exact ⟨E, i + 1, given, G6, by omega, by omega, by omega, fun h => by have := hn2 (by omega); have := hEb.out; omega, by rw [hgt.out], rfl, rfl, hG6', hop6, hb6⟩
        case measure => omega
    · obtain rfl : p = s.length := by omega
      rw [List.take_length] at hop hT
      have hcl' := open_close x G C s given R wr hop
      have hen : Hid (∀ W, ShutAt x G C s given R W → Calls Tryz.prog 26 #[.pointer (some ⟨R, 0, none⟩), .string (RD.bs (T.take given)), .string (RD.bs A.1), .int .i64 (errOf A.2 : Nat)] W (EndsPost G W)) := fun W hW => by
        have h1 := ends_any x G C s given R W hW (by have := told_small C s true; omega)
        have e1 : T = (RD.told C s true).1 := hT.out
        have e2 : A.1 = (RD.told C s true).1 := by rw [hA.out]; rfl
        have e3 : A.2 = (RD.told C s true).2.1 := by rw [hA.out]; rfl
        rw [e1, e2, e3]
        exact h1
      go_wp2_with fail
      refine hcl'.mono ?_
      rintro e w6 ⟨rfl, hO6, hS6⟩
      have hb6 : Below w.heap.size w w6 := Below.only hbr hO6 hG (Nat.le_refl _)
      go_wp2_with fail
      refine (hen.out w6 hS6).mono ?_
      rintro e w7 ⟨rfl, hO7⟩
      go_wp2_with fail
      go_ret
      exact ⟨rfl, Below.only hb6 hO7 hG (Nat.le_refl _)⟩
end Go.Proofs.YtbhemchnjpajiaaGreatDoor

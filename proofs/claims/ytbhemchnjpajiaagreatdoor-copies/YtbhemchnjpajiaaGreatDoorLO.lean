/- Several texts in one: QKept. -/
import Derived.Test.YtbhemchnjpajiaaGreatDoorLM
/- The law Kept (package skeinlaw), walked. -/
namespace Go.Proofs.YtbhemchnjpajiaaGreatDoor
open Go.RowKit
set_option linter.unusedVariables false

theorem DictsAt.shape {w : World} {v : Value} {ds : List (Int × RD.Bytes)} (h : DictsAt w v ds) : ∃ a c, v = .slice a ds.length c := by
  obtain ⟨a, c, e, -⟩ := h
  exact ⟨a, c, e⟩
theorem below_up {A B : Nat} {a b c : World} (h : Below A a b) (k : Below B b c) (hAB : A ≤ B) : Below A a c := h.trans ⟨k.os, k.tape, k.output, k.size, fun j hj => k.block j (by omega)⟩

theorem gave_more (c : RD.Cfg) (s t : RD.Bytes) : ∃ q, (RD.gave c (s ++ t)).1 = (RD.gave c s).1 ++ q := RD.told_more c s t true true
def KeptPost (w : World) (e : Ending) (w' : World) : Prop := e = .returned (.bool true) ∧ Below w.heap.size w w'
set_option maxRecDepth 100000 in
set_option maxHeartbeats 40000000 in
theorem kept_any (x : Fx) (lim : Int) (ds : List (Int × RD.Bytes)) (v : Value) (s t : RD.Bytes) (w : World) (hl : -9223372036854775808 ≤ lim ∧ lim ≤ 9223372036854775807) (hD : DictsArg w v ds) (hdl : ds.length ≤ 1048576) (ht : ∀ d ∈ ds, d.2.length ≤ 1048576)
    (hsl : s.length ≤ 1048576) (htl : t.length ≤ 1048576) (hV : VarsAt x w) (hE : ErrRows x w) :
    Calls Tryz.prog 4 #[.agg #[.int .i64 lim, v], .string (RD.bs s), .string (RD.bs t)] w (KeptPost w) := by
  have hlm : Hid (∀ W, Below w.heap.size w W → Calls Tryz.prog 10 #[.agg #[.int .i64 lim, v]] W (LimPost lim ds W)) := fun W hW => limits_any lim ds v W hl (by
    obtain ⟨a, c, e, h1, h2⟩ := hD
    refine ⟨a, c, e, h1, ?_⟩
    rcases h2 with h2 | ⟨b, o, e2, hb, h2⟩
    · exact .inl h2
    · exact .inr ⟨b, o, e2, Nat.lt_of_lt_of_le hb hW.size, fun i hi => ⟨(hW.cell (p := ⟨b, _, none⟩) hb).trans (h2 i hi).1, (hW.cell (p := ⟨b, _, none⟩) hb).trans (h2 i hi).2⟩⟩) hdl ht
  obtain ⟨hcok, hiok⟩ := limC_ok lim ds
  generalize hC : limC lim ds = C at *
  obtain ⟨a, cc, rfl, hcc, hdd⟩ := hD
  have hb0 : Below w.heap.size w (w.alloc (.cells #[.int .i64 lim, .slice a ds.length cc] 24)) := (Below.refl _ w).alloc (Nat.le_refl _) _
  have hN0 := Blk.new w 24 [.int .i64 lim, .slice a ds.length cc]
  have hs0 : (w.alloc (.cells #[.int .i64 lim, .slice a ds.length cc] 24)).heap.size = w.heap.size + 1 := World.size_alloc _ _
  go_enter Tryz.func4, Tryz.ntmps4
  go_wp2_with fail
  refine (hlm.out _ hb0).mono ?_
  rintro e w1 ⟨hb1, v1, rfl, hD1⟩
  rw [hC] at hD1 ⊢
  obtain ⟨a1, c1, rfl⟩ := hD1.shape
  rw [hs0] at hb1
  have hN1 := hN0.below hb1 (by omega)
  have n0 := hN1.cell (j := 0) rfl
  have n1 := hN1.cell (j := 1) rfl
  have f0 := hN1.free 0
  have f1 := hN1.free 1
  have hN2 := (hN1.put 0 (.int .i64 C.limit)).put 1 (.slice a1 C.dicts.length c1)
  have ho2 : Only (fun b => b = w.heap.size) w1 ((w1.setCell ⟨w.heap.size, 0, none⟩ (.int .i64 C.limit)).setCell ⟨w.heap.size, 1, none⟩ (.slice a1 C.dicts.length c1)) := ((Only.refl (fun b => b = w.heap.size) w1).setCell ⟨w.heap.size, 0, none⟩ _ (fun _ => rfl)).setCell ⟨w.heap.size, 1, none⟩ _ (fun _ => rfl)
  replace ho2 := hid' ho2
  replace hN0 := hid' hN0
  replace hb1 := hid' hb1
  replace hb0 := hid' hb0
  replace hdd := hid' hdd
  go_wp2_with (first | fail)
  have hs2 : ((w1.setCell ⟨w.heap.size, 0, none⟩ (.int .i64 C.limit)).setCell ⟨w.heap.size, 1, none⟩ (.slice a1 C.dicts.length c1)).heap.size = w1.heap.size := by simp
  obtain ⟨W2, hW2⟩ : ∃ W, W = ((w1.setCell ⟨w.heap.size, 0, none⟩ (.int .i64 C.limit)).setCell ⟨w.heap.size, 1, none⟩ (.slice a1 C.dicts.length c1)) := ⟨_, rfl⟩
  rw [← hW2] at hN2 ho2 hs2
  rw [← hW2]
  replace hW2 := hid' hW2
  have hb2 : Below w.heap.size w W2 := by
    have hs1 := hb1.out.size
    rw [hs0] at hs1
    refine hb0.out.trans ⟨(ho2.out.os).trans hb1.out.os, (ho2.out.tape).trans hb1.out.tape, (ho2.out.output).trans hb1.out.output, by have := ho2.out.size; omega, fun k hk => ?_⟩
    exact (ho2.out.block k (by omega) (by omega)).trans (hb1.out.block k (by omega))
  have hD2 : DictsAt W2 (.slice a1 C.dicts.length c1) C.dicts := by
    obtain ⟨a', c', e', q1, q2⟩ := hD1
    obtain ⟨rfl, -, rfl⟩ := Value.slice.inj e'
    refine ⟨_, _, rfl, q1, ?_⟩
    rcases q2 with q2 | ⟨b, rfl, hbl, hd⟩
    · exact .inl q2
    · by_cases h0 : C.dicts = []
      · exact .inl h0
      · have hne : b ≠ w.heap.size := fun e => by
          have := (hd 0 (List.length_pos_iff.2 h0)).2
          rw [e] at this
          rw [show (0 * 2 + 1 : Nat) = 1 from rfl, n1] at this
          cases this
        exact .inr ⟨b, rfl, Nat.lt_of_lt_of_le hbl ho2.out.size, fun i hi => ⟨ho2.out.cell (hd i hi).1 hbl hne, ho2.out.cell (hd i hi).2 hbl hne⟩⟩
  have hN : Blk W2 w.heap.size 24 [.int .i64 C.limit, .slice a1 C.dicts.length c1] := hN2
  have hV2 := hV.below hb2
  have hE2 := hE.below hV hb2
  have hcat : RD.bs s ++ RD.bs t = RD.bs (s ++ t) := RD.bs_append s t
  obtain ⟨q, hq⟩ := gave_more C s t
  have n20 := hN.cell (j := 0) rfl
  have n21 := hN.cell (j := 1) rfl
  have hwk := works_any x C hcok hiok _ W2 hD2 hV2 hE2
  replace hq := hid' hq
  have hD2' := hid' hD2
  refine hwk.mono ?_
  rintro e w3 ⟨rfl, hb3⟩
  have hN3 := hN.below hb3 hN.lt
  have n30 := hN3.cell (j := 0) rfl
  have n31 := hN3.cell (j := 1) rfl
  have hD3 := hD2'.out.only (below_only (G := fun _ => False) hb3) (fun _ _ e => e)
  have hV3 := hV2.below hb3
  have hE3 := hE2.below hV2 hb3
  have hwh1 := whole_any x C hcok hiok s _ w3 hD3 hV3 hE3 (by omega)
  unfold WhPost at hwh1
  obtain ⟨A, hA⟩ : ∃ A, A = RD.gave C s := ⟨_, rfl⟩
  obtain ⟨B, hB⟩ : ∃ B, B = RD.gave C (s ++ t) := ⟨_, rfl⟩
  rw [← hA] at hwh1
  replace hA := hid' hA
  replace hB := hid' hB
  go_wp2_with fail
  refine hwh1.mono ?_
  rintro e w4 ⟨rfl, hb4⟩
  have hN4 := hN3.below hb4 hN3.lt
  have n40 := hN4.cell (j := 0) rfl
  have n41 := hN4.cell (j := 1) rfl
  have hD4 := hD3.only (below_only (G := fun _ => False) hb4) (fun _ _ e => e)
  have hV4 := hV3.below hb4
  have hE4 := hE3.below hV3 hb4
  have hwh2 := whole_any x C hcok hiok (s ++ t) _ w4 hD4 hV4 hE4 (by rw [List.length_append]; omega)
  unfold WhPost at hwh2
  rw [← hB.out, ← hcat] at hwh2
  have hq' : B.1 = A.1 ++ q := by rw [hA.out, hB.out]; exact hq.out
  replace hcat := hid' hcat
  have hz1 := RD.bs_size s
  have hz2 := RD.bs_size t
  replace hq' := hid' hq'
  go_wp2_with fail
  refine hwh2.mono ?_
  rintro e w5 ⟨rfl, hb5⟩
  have hzA := RD.bs_size A.1
  have hzB : (RD.bs B.1).size = A.1.length + q.length := by rw [RD.bs_size, hq'.out, List.length_append]
  have hpre : (((RD.bs B.1).extract 0 A.1.length).toList == (RD.bs A.1).toList) = true := by
    have e : (RD.bs B.1).extract 0 A.1.length = RD.bs A.1 := by
      rw [hq'.out, RD.bs_extract]
      simp
    rw [e]
    simp
  have hle : ((RD.bs A.1).size : Int) ≤ ((RD.bs B.1).size : Int) := by omega
  go_wp2_with fail
  go_ret
  have u2 := hb2.size
  have u3 := hb3.size
  have u4 := hb4.size
  refine ⟨?_, below_up (below_up (below_up hb2 hb3 (by omega)) hb4 (by omega)) hb5 (by omega)⟩
  rfl
end Go.Proofs.YtbhemchnjpajiaaGreatDoor

/- Several texts in one: QEnds. -/
import Derived.Test.YtbhemchnjpajiaaGreatDoorLQ
import Derived.Test.YtbhemchnjpajiaaGreatDoorLO
import Derived.Deep.DeepCutAuto
/- What comes out of a reader that is closed (the law's ends), walked. -/
namespace Go.Proofs.YtbhemchnjpajiaaGreatDoor
open Go.RowKit
set_option linter.unusedVariables false

theorem ShutAt.num {x : Fx} {G : Nat → Prop} {c : RD.Cfg} {fed : RD.Bytes} {given R : Nat} {w : World} (h : ShutAt x G c fed given R w) : (RD.told c fed true).2.1 = 2 ∨ (RD.told c fed true).2.1 = 4 ∨ (RD.told c fed true).2.1 = 5 ∨ (RD.told c fed true).2.1 = 6 ∨ (RD.told c fed true).2.1 = 7 ∨ (RD.told c fed true).2.1 = 8 := by
  obtain ⟨text, n, pl, F, vr, ht, hS⟩ := h
  rw [ht]
  exact hS.num
theorem ShutAt.le {x : Fx} {G : Nat → Prop} {c : RD.Cfg} {fed : RD.Bytes} {given R : Nat} {w : World} (h : ShutAt x G c fed given R w) : given ≤ (RD.told c fed true).1.length := by
  obtain ⟨text, n, pl, F, vr, ht, hS⟩ := h
  rw [ht]
  exact hS.le
theorem ShutAt.below {x : Fx} {G : Nat → Prop} {c : RD.Cfg} {fed : RD.Bytes} {given R : Nat} {w w' : World} (h : ShutAt x G c fed given R w) (hb : Below w.heap.size w w') : ShutAt x G c fed given R w' := by
  obtain ⟨text, n, pl, F, vr, ht, hS⟩ := h
  exact ⟨text, n, pl, F, vr, ht, hS.blk.below hb hS.blk.lt, hS.row.only (below_only (G := fun _ => False) hb) (fun _ _ e => e), hS.le, hS.flt.below hb hS.flt.lt, hS.num, hS.inG, hS.nv, hS.base, hS.vars.below hb, hS.rows.below hS.vars hb⟩
def EndsPost (G : Nat → Prop) (w : World) (e : Ending) (w' : World) : Prop := e = .returned (.bool true) ∧ Only G w w'
set_option maxRecDepth 100000 in
set_option maxHeartbeats 8000000 in
theorem ends_any (x : Fx) (G : Nat → Prop) (c : RD.Cfg) (fed : RD.Bytes) (given R : Nat) (w : World) (h : ShutAt x G c fed given R w) (hsm : (RD.told c fed true).1.length ≤ 1099511627776) :
    Calls Tryz.prog 26 #[.pointer (some ⟨R, 0, none⟩), .string (RD.bs ((RD.told c fed true).1.take given)), .string (RD.bs (RD.told c fed true).1), .int .i64 (errOf (RD.told c fed true).2.1 : Nat)] w (EndsPost G w) := by
  have hrd : Hid (∀ g k W, (-9223372036854775808 ≤ k ∧ k ≤ 9223372036854775807) → ShutAt x G c fed g R W → Calls Tryz.prog 24 #[.pointer (some ⟨R, 0, none⟩), .int .i64 k] W fun e w' => e = .returned (rdVal ((RD.told c fed true).1.drop g) k (RD.told c fed true).2.1) ∧ Only G W w' ∧ ShutAt x G c fed (g + rdN k ((RD.told c fed true).1.drop g).length) R w') := fun g k W hk h => shut_read x G c fed g R k W hk h
  have hpl : Hid (∀ g W, ShutAt x G c fed g R W → Calls Tryz.prog 30 #[.pointer (some ⟨R, 0, none⟩)] W fun e w' => e = .returned (.tuple #[.agg #[.int .i64 ((RD.told c fed true).2.2.1 : Nat), .int .i64 ((RD.told c fed true).2.2.2 : Nat)], .int .i64 (errOf (RD.told c fed true).2.1 : Nat)]) ∧ Below W.heap.size W w' ∧ ShutAt x G c fed g R w') := fun g W h => shut_place x G c fed g R W h
  have hnum := h.num
  have hle := h.le
  obtain ⟨T, hT⟩ : ∃ T, T = (RD.told c fed true).1 := ⟨_, rfl⟩
  obtain ⟨n, hn⟩ : ∃ n, n = (RD.told c fed true).2.1 := ⟨_, rfl⟩
  obtain ⟨p1, hp1⟩ : ∃ n, n = (RD.told c fed true).2.2.1 := ⟨_, rfl⟩
  obtain ⟨p2, hp2⟩ : ∃ n, n = (RD.told c fed true).2.2.2 := ⟨_, rfl⟩
  rw [← hT, ← hn] at hrd
  rw [← hn, ← hp1, ← hp2] at hpl
  rw [← hn] at hnum
  rw [← hT] at hle hsm
  rw [← hT, ← hn]
  replace hT := hid' hT
  replace hn := hid' hn
  replace hp1 := hid' hp1
  replace hp2 := hid' hp2
  obtain ⟨m, hm⟩ : ∃ m, m = errOf n := ⟨_, rfl⟩
  rw [← hm] at hpl
  rw [← hm]
  have hnm : (n = 2 ∧ m = 0) ∨ (n = m ∧ 3 < m ∧ m < 9) := by
    rw [hm]
    unfold errOf
    rcases hnum with rfl | rfl | rfl | rfl | rfl | rfl <;> simp
  replace hm := hid' hm
  clear hnum
  have hz := RD.bs_size T
  have hz1 := RD.bs_size (T.take given)
  have hz2 : (T.take given).length = given := by rw [List.length_take]; omega
  go_enter Tryz.func26, Tryz.ntmps26
  have hle3 : ¬ T.length < given := by omega
  have hle4 : ¬ (T.length : Int) < (given : Int) := by omega
  go_wp2_with fail
  clear hz1 hz2 hle3 hle4
  go_loopg [1] (T.length + 1 - given) (fun gh gv wr => ∃ g : Nat, gh = T.length + 1 - g ∧ g ≤ T.length ∧ gv = .string (RD.bs (T.take g)) ∧ ShutAt x G c fed g R wr ∧ Only G w wr)
  case atStart => exact ⟨given, by omega, hle, rfl, h, Only.refl _ _⟩
  case round =>
    obtain ⟨g, rfl, hg, rfl, hS, hO⟩ := hrel
    have hz1 := RD.bs_size (T.take g)
    have hz2 : (T.take g).length = g := by rw [List.length_take]; omega
    by_cases hlt : g < T.length
    · have hne : T.drop g ≠ [] := fun e => by have := congrArg List.length e; rw [List.length_drop] at this; simp at this; omega
      have hr := hrd.out g 7 wr (by omega) hS
      rw [rdVal_some hne] at hr
      obtain ⟨k, hk⟩ : ∃ k, k = rdN 7 (T.drop g).length := ⟨_, rfl⟩
      rw [← hk] at hr
      have hkb : 1 ≤ k ∧ k ≤ 7 ∧ k ≤ T.length - g := by
        rw [hk]
        unfold rdN
        rw [List.length_drop]
        omega
      replace hk := hid' hk
      have hz3 := RD.bs_size ((T.drop g).take k)
      have hz4 : ((T.drop g).take k).length = k := by rw [List.length_take, List.length_drop]; omega
      have hne2 : ((RD.bs ((T.drop g).take k)).toList == ([] : List UInt8)) = false := by
        rw [bs_toL]
        cases hq : (T.drop g).take k with
        | nil => rw [hq] at hz4; simp at hz4; omega
        | cons b r => rfl
      have hcat : RD.bs (T.take g) ++ RD.bs ((T.drop g).take k) = RD.bs (T.take (g + k)) := by rw [RD.bs_append, ← List.take_add]
      obtain ⟨Y, hY⟩ : ∃ Y, Y = (T.drop g).take k := ⟨_, rfl⟩
      rw [← hY] at hr hz3 hz4 hne2 hcat
      replace hY := hid' hY
      replace hne := hid' hne
      go_wp2_with fail
      refine hr.mono ?_
      rintro e w1 ⟨rfl, hO1, hS1⟩
      go_wp2_with fail
      go_roundg (T.length + 1 - (g + k))
      case rel => exact ⟨g + k, rfl, by omega, rfl, hS1, hO.trans hO1⟩
      case measure => omega
    · obtain rfl : g = T.length := by omega
      have hd : T.drop T.length = [] := List.drop_length
      have hr1 := hrd.out T.length 5 wr (by omega) hS
      rw [hd, rdVal_nil] at hr1
      go_upto_if 51 with fail
      go_cut [11] (fun s11 wx => s11 = .int .i64 (n : Int) ∧ wx = wr)
      case first =>
        rcases hnm with ⟨rfl, rfl⟩ | ⟨rfl, h3, h4⟩
        · go_wp2_with fail
          go_meet
          case rel => exact ⟨rfl, rfl⟩
        · have hne : ((n : Int) == 0) = false := by simp; omega
          go_wp2_with fail
          go_meet
          case rel => exact ⟨rfl, rfl⟩
      case rest =>
      obtain ⟨rfl, rfl⟩ := hcut
      have hee : ((RD.bs (T.take T.length)).toList == (RD.bs T).toList) = true := by rw [List.take_length]; simp
      go_wp2_with fail
      refine hr1.mono ?_
      rintro e w1 ⟨rfl, hO1, hS1⟩
      have e0 : T.length + rdN 5 ([] : RD.Bytes).length = T.length := by have := rdN_le 5 ([] : RD.Bytes).length; simp at this; simp [this]
      rw [e0] at hS1
      have hr2 := hrd.out T.length (-1) w1 (by omega) hS1
      rw [hd, rdVal_nil] at hr2
      go_wp2_with fail
      refine hr2.mono ?_
      rintro e w2 ⟨rfl, hO2, hS2⟩
      have e1 : T.length + rdN (-1) ([] : RD.Bytes).length = T.length := by have := rdN_le (-1) ([] : RD.Bytes).length; simp at this; simp [this]
      rw [e1] at hS2
      have hq1 := hpl.out T.length w2 hS2
      go_wp2_with fail
      refine hq1.mono ?_
      rintro e w3 ⟨rfl, hb3, hS3⟩
      have hbP : Below w3.heap.size w3 (w3.alloc (.cells #[.int .i64 (p1 : Int), .int .i64 (p2 : Int)] 74)) := (Below.refl _ w3).alloc (Nat.le_refl _) _
      have hq2 := hpl.out T.length _ (hS3.below hbP)
      have hPb := Blk.new w3 74 [.int .i64 (p1 : Int), .int .i64 (p2 : Int)]
      go_wp2_with fail
      refine hq2.mono ?_
      rintro e w4 ⟨rfl, hb4, hS4⟩
      have hP4 := hPb.below hb4 hPb.lt
      have k0 := hP4.cell (j := 0) rfl
      have k1 := hP4.cell (j := 1) rfl
      have hPl := hP4.lt
      have hc0 : (w4.alloc (.cells #[.int .i64 (p1 : Int), .int .i64 (p2 : Int)] 74)).cell? ⟨w3.heap.size, 0, none⟩ = some (.int .i64 (p1 : Int)) := (hP4.alloc _).cell (j := 0) rfl
      have hc1 : (w4.alloc (.cells #[.int .i64 (p1 : Int), .int .i64 (p2 : Int)] 74)).cell? ⟨w3.heap.size, 1, none⟩ = some (.int .i64 (p2 : Int)) := (hP4.alloc _).cell (j := 1) rfl
      go_wp2_with fail
      go_ret
      exact ⟨rfl, ((((((hO.trans hO1).trans hO2).below hb3).below hbP).below hb4).alloc _)⟩
end Go.Proofs.YtbhemchnjpajiaaGreatDoor

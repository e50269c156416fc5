/- Several texts in one: QErr, QSk1. -/
import Derived.Test.YtbhemchnjpajiaaGreatDoorLF
import Derived.WalkKit
import Derived.LaidEql
import Derived.Stop.Asserts
import Derived.RowKitTokens
/- errors.Is and errors.As at a *faults.Fault that wraps a sentinel: Go's own text walked. Conditions: the sentinels' rows are such as errors.New makes. -/
namespace Go.Proofs.YtbhemchnjpajiaaGreatDoor
open Go.RowKit Go.Extern.Stop Go.Stop Go.Extern
set_option linter.unusedVariables false

/-- What the model lays for (rtype).Comparable. -/
def cmpEntry : Array Value → Sem Value := Extern.ReflectliteType.method fun t => do Extern.Rtype.noPackHeld "Comparable" t; pure (.bool (← typeInfo t).comparable)
theorem eTypeOf (v : Value) (w : World) : (Extern.ReflectliteType.typeOf #[.iface 308 v]).run Tryz.prog w = .ok (.iface 181 (.agg #[.pointer (some ⟨8, 308, none⟩)])) w := by kernel_rfl
theorem eComparable (w : World) : (cmpEntry #[.agg #[.pointer (some ⟨8, 308, none⟩)]]).run Tryz.prog w = .ok (.bool true) w := by kernel_rfl
theorem eMethodComparable (v : Value) (w : World) : (Go.method 437 181 v "Comparable").run Tryz.prog w = .ok (207, v) w := by kernel_rfl
theorem eComp : (Tryz.prog.info? 308).map (·.comparable) = some true := by kernel_rfl
theorem eSize : (Tryz.prog.info? 326).map (·.size) = some 1 := by kernel_rfl
theorem eNoIsE (v : Value) (xT : TypeId) (w : World) : (Instr.typeAssert (.iface 308 v) xT 192 true).run Tryz.prog w = .ok (.tuple #[.nilIface, .bool false]) w := run_typeAssert_lacksB Tryz.underlying192 (by kernel_rfl) (by kernel_rfl) v xT w
theorem eNoUnwrapE (v : Value) (xT : TypeId) (w : World) : (Instr.typeAssert (.iface 308 v) xT 188 true).run Tryz.prog w = .ok (.tuple #[.nilIface, .bool false]) w := run_typeAssert_lacksB Tryz.underlying188 (by kernel_rfl) (by kernel_rfl) v xT w
theorem eNoUnwrapsE (v : Value) (xT : TypeId) (w : World) : (Instr.typeAssert (.iface 308 v) xT 189 true).run Tryz.prog w = .ok (.tuple #[.nilIface, .bool false]) w := run_typeAssert_lacksB Tryz.underlying189 (by kernel_rfl) (by kernel_rfl) v xT w
theorem eNoIsF (v : Value) (xT : TypeId) (w : World) : (Instr.typeAssert (.iface 106 v) xT 192 true).run Tryz.prog w = .ok (.tuple #[.nilIface, .bool false]) w := run_typeAssert_lacksB Tryz.underlying192 (by kernel_rfl) (by kernel_rfl) v xT w
theorem eUnwrapF (v : Value) (xT : TypeId) (w : World) : (Instr.typeAssert (.iface 106 v) xT 188 true).run Tryz.prog w = .ok (.tuple #[.iface 106 v, .bool true]) w := run_typeAssert_hasB Tryz.underlying188 (by kernel_rfl) v xT w
theorem eMethodUnwrap (v : Value) (w : World) : (Go.method 437 106 v "Unwrap").run Tryz.prog w = .ok (200, v) w := by kernel_rfl

set_option maxRecDepth 100000 in
set_option maxHeartbeats 4000000 in
theorem is_hit (F : Nat) (b : Addr) (w : World) (h1 : w.cell? ⟨F, 2, none⟩ = some (errV b)) :
    Calls Tryz.prog 52 #[.iface 106 (.pointer (some ⟨F, 0, none⟩)), errV b] w fun e w' => e = .returned (.bool true) ∧ w' = w := by
  obtain ⟨i, hi, hcmp⟩ := Option.map_eq_some_iff.1 eComp
  obtain ⟨j, hj, hjs⟩ := Option.map_eq_some_iff.1 eSize
  have h8 := @run_callFunc_extern Tryz.prog 67 _ Extern.ReflectliteType.typeOf Tryz.func67 (by kernel_rfl) (by kernel_rfl) (by kernel_rfl) (by kernel_rfl)
  have h32 := @run_callFunc_extern Tryz.prog 207 _ cmpEntry Tryz.func207 (by kernel_rfl) (by kernel_rfl) (by kernel_rfl) (by kernel_rfl)
  have tT := eTypeOf
  have cT := eComparable
  have mR := eMethodComparable
  have nE := eNoIsE
  have uE := eNoUnwrapE
  have vE := eNoUnwrapsE
  have nW := eNoIsF
  have uW := eUnwrapF
  have mU := eMethodUnwrap
  have heq := run_eql_iface_ptr_same (P := Tryz.prog) w b Tryz.underlying92 Tryz.underlying308 hi hcmp hj
  have hty := run_eql_iface_types (P := Tryz.prog) 106 308 (.pointer (some ⟨F, 0, none⟩)) (.pointer (some b)) Tryz.underlying92 (by decide) w
  go_enter Tryz.func52, Tryz.ntmps52
  go_wp2
  refine wp_loop_rounds 2 ?_
  rw [rounds_succ]
  go_wp2
  rw [rounds_succ]
  go_wp2
  go_ret
  exact ⟨rfl, rfl⟩
set_option maxRecDepth 100000 in
set_option maxHeartbeats 4000000 in
theorem is_miss (F : Nat) (b a : Addr) (ca cb : Array Value) (ta tb : TypeId) (w : World) (h1 : w.cell? ⟨F, 2, none⟩ = some (errV a)) (hne : a ≠ b) (ha : w.heap[a.block]? = some (.cells ca ta (0, 0))) (hb : w.heap[b.block]? = some (.cells cb tb (0, 0))) :
    Calls Tryz.prog 52 #[.iface 106 (.pointer (some ⟨F, 0, none⟩)), errV b] w fun e w' => e = .returned (.bool false) ∧ w' = w := by
  obtain ⟨i, hi, hcmp⟩ := Option.map_eq_some_iff.1 eComp
  obtain ⟨j, hj, hjs⟩ := Option.map_eq_some_iff.1 eSize
  have h8 := @run_callFunc_extern Tryz.prog 67 _ Extern.ReflectliteType.typeOf Tryz.func67 (by kernel_rfl) (by kernel_rfl) (by kernel_rfl) (by kernel_rfl)
  have h32 := @run_callFunc_extern Tryz.prog 207 _ cmpEntry Tryz.func207 (by kernel_rfl) (by kernel_rfl) (by kernel_rfl) (by kernel_rfl)
  have tT := eTypeOf
  have cT := eComparable
  have mR := eMethodComparable
  have nE := eNoIsE
  have uE := eNoUnwrapE
  have vE := eNoUnwrapsE
  have nW := eNoIsF
  have uW := eUnwrapF
  have mU := eMethodUnwrap
  have heq := run_eql_iface_ptr_other (P := Tryz.prog) w Tryz.underlying92 Tryz.underlying308 hi hcmp hj (by rw [hjs]; decide) hne ha hb
  have hty := run_eql_iface_types (P := Tryz.prog) 106 308 (.pointer (some ⟨F, 0, none⟩)) (.pointer (some b)) Tryz.underlying92 (by decide) w
  go_enter Tryz.func52, Tryz.ntmps52
  go_wp2
  refine wp_loop_rounds 2 ?_
  rw [rounds_succ]
  go_wp2
  rw [rounds_succ]
  go_wp2
  go_ret
  exact ⟨rfl, rfl⟩
end Go.Proofs.YtbhemchnjpajiaaGreatDoor

/- Small functions of package skein: numberOf, stop, walked. -/
namespace Go.Proofs.YtbhemchnjpajiaaGreatDoor
open Go.RowKit
set_option linter.unusedVariables false
set_option linter.unusedSimpArgs false

/-- The sentinels' rows are such as errors.New makes. -/
def ErrRows (x : Fx) (w : World) : Prop := ∀ a ∈ [x.e, x.f, x.l, x.d, x.s, x.u], ∃ ca ta, w.heap[a.block]? = some (.cells ca ta (0, 0))
theorem ErrRows.only {x : Fx} {w w' : World} {G : Nat → Prop} (h : ErrRows x w) (hV : VarsAt x w) (ho : Only G w w') (hG : ∀ k, G k → x.base ≤ k) : ErrRows x w' := fun a ha => by
  obtain ⟨ca, ta, hc⟩ := h a ha
  have hb : a.block < x.base := by
    obtain ⟨b1, b2, b3, b4, b5, b6⟩ := hV.blocks
    simp only [List.mem_cons, List.not_mem_nil, or_false] at ha
    rcases ha with rfl | rfl | rfl | rfl | rfl | rfl <;> assumption
  refine ⟨ca, ta, ?_⟩
  rw [ho.block a.block (Nat.lt_of_lt_of_le hb hV.size) (fun e => by have := hG _ e; omega)]
  exact hc
theorem ErrRows.below {x : Fx} {w w' : World} (h : ErrRows x w) (hV : VarsAt x w) (hb : Below w.heap.size w w') : ErrRows x w' := h.only (G := fun _ => False) hV (below_only hb) (fun _ e => e.elim)
theorem ErrRows.same {x : Fx} {w w' : World} (h : ErrRows x w) (hh : w'.heap = w.heap) : ErrRows x w' := fun a ha => by rw [hh]; exact h a ha
theorem errA_mem (x : Fx) (n : Nat) : errA x n ∈ [x.e, x.f, x.l, x.d, x.s, x.u] := by
  unfold errA
  repeat' split
  all_goals simp
theorem is_any (x : Fx) (F n : Nat) (b : Addr) (w : World) (hb : b ∈ [x.e, x.f, x.l, x.d, x.s, x.u]) (h1 : w.cell? ⟨F, 2, none⟩ = some (errV (errA x n))) (hE : ErrRows x w) :
    Calls Tryz.prog 52 #[.iface 106 (.pointer (some ⟨F, 0, none⟩)), errV b] w fun e w' => e = .returned (.bool (decide (errA x n = b))) ∧ w' = w := by
  by_cases e : errA x n = b
  · rw [show decide (errA x n = b) = true by simpa using e]
    rw [e] at h1
    exact is_hit F b w h1
  · rw [show decide (errA x n = b) = false by simpa using e]
    obtain ⟨ca, ta, ha⟩ := hE _ (errA_mem x n)
    obtain ⟨cb, tb, hb'⟩ := hE _ hb
    exact is_miss F b (errA x n) ca cb ta tb w h1 e ha hb'
/-- Which sentinel an error's number names. -/
theorem errA_is {x : Fx} {w : World} (hV : VarsAt x w) {n : Nat} (hn : n = 2 ∨ n = 4 ∨ n = 5 ∨ n = 6 ∨ n = 7 ∨ n = 8) :
    decide (errA x n = x.e) = decide (n = 2) ∧ decide (errA x n = x.l) = decide (n = 5) ∧ decide (errA x n = x.d) = decide (n = 6) ∧ decide (errA x n = x.s) = decide (n = 7) ∧ decide (errA x n = x.u) = decide (n = 8) := by
  have h := hV.apart
  simp only [List.nodup_cons, List.mem_cons, List.not_mem_nil, or_false, not_or] at h
  obtain ⟨⟨a1, a2, a3, a4, a5⟩, ⟨b1, b2, b3, b4⟩, ⟨c1, c2, c3⟩, ⟨d1, d2⟩, e1, -⟩ := h
  rcases hn with rfl | rfl | rfl | rfl | rfl | rfl
  · have e : errA x 2 = x.e := rfl
    rw [e]
    simp [a1, a2, a3, a4, a5]
  · have e : errA x 4 = x.f := rfl
    rw [e]
    simp [Ne.symm a1, b1, b2, b3, b4]
  · have e : errA x 5 = x.l := rfl
    rw [e]
    simp [Ne.symm a2, c1, c2, c3]
  · have e : errA x 6 = x.d := rfl
    rw [e]
    simp [Ne.symm a3, Ne.symm c1, d1, d2]
  · have e : errA x 7 = x.s := rfl
    rw [e]
    simp [Ne.symm a4, Ne.symm c2, Ne.symm d1, e1]
  · have e : errA x 8 = x.u := rfl
    rw [e]
    simp [Ne.symm a5, Ne.symm c3, Ne.symm d2, Ne.symm e1]
set_option maxRecDepth 100000 in
set_option maxHeartbeats 4000000 in
theorem errno_any (x : Fx) (F n : Nat) (w : World) (hn : n = 2 ∨ n = 4 ∨ n = 5 ∨ n = 6 ∨ n = 7 ∨ n = 8) (h1 : w.cell? ⟨F, 2, none⟩ = some (errV (errA x n))) (hV : VarsAt x w) (hE : ErrRows x w) :
    Calls Tryz.prog 43 #[.iface 106 (.pointer (some ⟨F, 0, none⟩))] w fun e w' => e = .returned (.int .i64 n) ∧ w' = w := by
  obtain ⟨q1, q2, q3, q4, q5⟩ := errA_is hV hn
  have cE := hV.cE
  have cL := hV.cL
  have cD := hV.cD
  have cS := hV.cS
  have cU := hV.cU
  have i1 := is_any x F n x.e w (by simp) h1 hE
  have i2 := is_any x F n x.l w (by simp) h1 hE
  have i3 := is_any x F n x.d w (by simp) h1 hE
  have i4 := is_any x F n x.s w (by simp) h1 hE
  have i5 := is_any x F n x.u w (by simp) h1 hE
  rw [q1] at i1
  rw [q2] at i2
  rw [q3] at i3
  rw [q4] at i4
  rw [q5] at i5
  clear q1 q2 q3 q4 q5 hV hE
  rcases hn with rfl | rfl | rfl | rfl | rfl | rfl
  · go_enter Tryz.func43, Tryz.ntmps43
    go_wp2_with fail
    refine i1.mono ?_
    rintro e w1 ⟨rfl, hw⟩
    subst hw
    go_wp2_with fail
    go_ret
    exact ⟨rfl, rfl⟩
  · go_enter Tryz.func43, Tryz.ntmps43
    go_wp2_with fail
    refine i1.mono ?_
    rintro e w1 ⟨rfl, hw⟩
    subst hw
    go_wp2_with fail
    refine i2.mono ?_
    rintro e w1 ⟨rfl, hw⟩
    subst hw
    go_wp2_with fail
    refine i3.mono ?_
    rintro e w1 ⟨rfl, hw⟩
    subst hw
    go_wp2_with fail
    refine i4.mono ?_
    rintro e w1 ⟨rfl, hw⟩
    subst hw
    go_wp2_with fail
    refine i5.mono ?_
    rintro e w1 ⟨rfl, hw⟩
    subst hw
    go_wp2_with fail
    go_ret
    exact ⟨rfl, rfl⟩
  · go_enter Tryz.func43, Tryz.ntmps43
    go_wp2_with fail
    refine i1.mono ?_
    rintro e w1 ⟨rfl, hw⟩
    subst hw
    go_wp2_with fail
    refine i2.mono ?_
    rintro e w1 ⟨rfl, hw⟩
    subst hw
    go_wp2_with fail
    go_ret
    exact ⟨rfl, rfl⟩
  · go_enter Tryz.func43, Tryz.ntmps43
    go_wp2_with fail
    refine i1.mono ?_
    rintro e w1 ⟨rfl, hw⟩
    subst hw
    go_wp2_with fail
    refine i2.mono ?_
    rintro e w1 ⟨rfl, hw⟩
    subst hw
    go_wp2_with fail
    refine i3.mono ?_
    rintro e w1 ⟨rfl, hw⟩
    subst hw
    go_wp2_with fail
    go_ret
    exact ⟨rfl, rfl⟩
  · go_enter Tryz.func43, Tryz.ntmps43
    go_wp2_with fail
    refine i1.mono ?_
    rintro e w1 ⟨rfl, hw⟩
    subst hw
    go_wp2_with fail
    refine i2.mono ?_
    rintro e w1 ⟨rfl, hw⟩
    subst hw
    go_wp2_with fail
    refine i3.mono ?_
    rintro e w1 ⟨rfl, hw⟩
    subst hw
    go_wp2_with fail
    refine i4.mono ?_
    rintro e w1 ⟨rfl, hw⟩
    subst hw
    go_wp2_with fail
    go_ret
    exact ⟨rfl, rfl⟩
  · go_enter Tryz.func43, Tryz.ntmps43
    go_wp2_with fail
    refine i1.mono ?_
    rintro e w1 ⟨rfl, hw⟩
    subst hw
    go_wp2_with fail
    refine i2.mono ?_
    rintro e w1 ⟨rfl, hw⟩
    subst hw
    go_wp2_with fail
    refine i3.mono ?_
    rintro e w1 ⟨rfl, hw⟩
    subst hw
    go_wp2_with fail
    refine i4.mono ?_
    rintro e w1 ⟨rfl, hw⟩
    subst hw
    go_wp2_with fail
    refine i5.mono ?_
    rintro e w1 ⟨rfl, hw⟩
    subst hw
    go_wp2_with fail
    go_ret
    exact ⟨rfl, rfl⟩
end Go.Proofs.YtbhemchnjpajiaaGreatDoor

/- Proved: for every setting, every string and every two integers the law Copies returns true (the form's own reach, 2^47 - 4096 bytes a string or slice, is used; no condition of ours), over the six errors of package faults and the handle of the type error as the program's text lays them; what was handed in reads as it did. -/
import Derived.Test.YtbhemchnjpajiaaGreatDoorCards
import Derived.Test.YtbhemchnjpajiaaGreatDoorTie
import Derived.Test.YtbhemchnjpajiaaGreatDoorLN
import Derived.Test.YtbhemchnjpajiaaGreatDoorLV
import Derived.WalkKit
import Derived.ChangeMaps5
import Derived.ProofKit
import Derived.OpenShut
import Derived.ShutString
import Derived.ChangeOld
import Derived.Below
import Derived.Deep.DeepHandedRow
import Derived.Deep.DeepWitnessRowRef
namespace Go.Proofs.YtbhemchnjpajiaaGreatDoor.copiesLaw
open Go.ChangeShapes Go.WideShapes Go.ChangeAt Go.RowKit Go.ChangeMaps Go.Deep
set_option linter.unusedVariables false

theorem own : ownKnob Tryz.prog.godebug = none := by kernel_rfl
theorem laidOut : laidOutB Tryz.prog = true := by kernel_rfl
theorem wf64 {a : Int} (h : (Lit.int .i64 a).wf = true) : -9223372036854775808 ≤ a ∧ a ≤ 9223372036854775807 := by
  have h' : (decide ((-9223372036854775808 : Int) ≤ a) && decide (a ≤ 9223372036854775807)) = true := h
  simpa using h'
abbrev wArgs : Array Value := #[.agg #[.int .i64 0, .slice none 0 0], .string ⟨#[]⟩, .int .i64 0, .int .i64 0]
theorem laid_met (os : Os) : laidMetH Tryz.prog theLaid ((laidWorld os).forCall (fun _ _ => 0) ⟨#[], wArgs, []⟩).memory :=
  laidMetH_of_parts (laidMet_of_run' 8 (by kernel_rfl) (by kernel_rfl)) (by kernel_rfl)
theorem reads (os : Os) {H : Type} (enc : TypeId × Value → H) : ∃ places, DataW.whole enc Tryz.prog ((laidWorld os).forCall (fun _ _ => 0) ⟨#[], wArgs, []⟩).memory Tryz.f5.params.toList (OpenSpec.ofChange Rows.copiesSpec).vars false wArgs.toList 8 = some ([.agg [.lit (.int .i64 0), .nil], .lit (.string []), .lit (.int .i64 0), .lit (.int .i64 0)], [], places) :=
  ⟨[], by kernel_rfl⟩

theorem bytesDict : Tryz.prog.bytesOf 65 = 24 := by kernel_rfl
theorem weights_part {H : Type} {P : Program} {e : TypeId} {d : DataW H} {y : Nat} : ∀ {l : List (DataW H)}, d ∈ l → y ∈ d.weights P e → y ∈ DataW.weightsAll P e l
  | [], h, _ => by cases h
  | c :: r, h, hy => by
    unfold DataW.weightsAll
    cases List.mem_cons.1 h with
    | inl e => subst e; exact List.mem_append_left _ hy
    | inr e => exact List.mem_append_right _ (weights_part e hy)
set_option maxRecDepth 100000 in
theorem dicts_wide {H : Type} {enc : TypeId × Value → H} {W : World} {fuel : Nat} {v : Value} {x : DataW H × List MemPlace} (h : DataW.trod enc Tryz.prog W 0 (fun _ => true) true fuel 22 [v] = some x) (hb : ∀ y ∈ x.1.weights Tryz.prog 22, y ≤ 140737488351232) : ∃ ds, DictsArg W v ds ∧ ds.length ≤ 140737488355328 ∧ ∀ d ∈ ds, d.2.length ≤ 140737488355328 := by
  rcases open_slice_pairs Tryz.underlying22 Tryz.underlying65 cells_dict rfl rfl cells_int cells_string h with ⟨hcs, rfl⟩ | ⟨a, len, cap, m, n, V0, V1, D0, D1, P0, P1, hcs, _, hl, hm, hmm, rfl, hx⟩
  · obtain rfl := List.singleton_inj.1 hcs
    exact ⟨[], ⟨none, 0, rfl, Nat.le_refl _, .inl rfl⟩, by simp, by simp⟩
  · obtain rfl := List.singleton_inj.1 hcs
    simp only [if_true] at hmm
    subst hmm
    have each : ∀ i, i < m → ∃ d : Int × RD.Bytes, W.cell? (a.add (i * 2)) = some (.int .i64 d.1) ∧ W.cell? (a.add (i * 2 + 1)) = some (.string (RD.bs d.2)) ∧ D1 i = .lit (.string d.2) := by
      intro i hi
      obtain ⟨c0, c1, t0, t1⟩ := hx i hi
      obtain ⟨z, q0, -, -⟩ := DataW.trod_int Tryz.underlying3 t0
      obtain ⟨s, q1, q2, -⟩ := DataW.trod_string Tryz.underlying9 t1
      have q0' := List.singleton_inj.1 q0
      have q1' := List.singleton_inj.1 q1
      simp only [Prod.mk.injEq] at q2
      exact ⟨(z, s.data.toList), by rw [c0, q0'], by rw [c1, q1', ← RD.bs_of], q2.1⟩
    obtain ⟨f, hfs⟩ := choose_lt each
    have hb' : ∀ y ∈ (DataW.slice ((List.range len).map fun i => DataW.agg [D0 i, D1 i]) ((List.range (m - len)).map fun j => DataW.agg [D0 (len + j), D1 (len + j)]) : DataW H).weights Tryz.prog 22, y ≤ 140737488351232 := hb
    unfold DataW.weights at hb'
    rw [Tryz.underlying22] at hb'
    simp only [] at hb'
    refine ⟨(List.range len).map f, ⟨some a, m, by simp, by simpa using hl, ?_⟩, ?_, ?_⟩
    · by_cases h0 : len = 0
      · left
        simp [h0]
      · right
        obtain ⟨c0, -⟩ := hfs 0 (by omega)
        obtain ⟨b, o, rfl, hbl⟩ := cell_in (by simpa using c0)
        refine ⟨b, o, rfl, hbl, fun i hi => ?_⟩
        have hi' : i < len := by simpa using hi
        obtain ⟨c0, c1, -⟩ := hfs i (by omega)
        rw [addr_add] at c0 c1
        have e : ((List.range len).map f).getD i (0, []) = f i := by simp [List.getD_eq_getElem?_getD, hi']
        rw [e]
        exact ⟨c0, c1⟩
    · have := hb' _ (List.mem_cons_self ..)
      simp only [List.length_map, List.length_range, bytesDict] at this ⊢
      omega
    · intro d hd
      obtain ⟨i, hi, rfl⟩ := List.mem_map.1 hd
      have hi' := List.mem_range.1 hi
      obtain ⟨-, -, e⟩ := hfs i (by omega)
      have hy : (f i).2.length ∈ (DataW.agg [D0 i, D1 i] : DataW H).weights Tryz.prog 65 := by
        unfold DataW.weights
        rw [Tryz.underlying65]
        simp only []
        rw [e]
        show (f i).2.length ∈ DataW.weights Tryz.prog _ (D0 i) ++ ([(f i).2.length] ++ [])
        simp
      have := hb' _ (List.mem_cons_of_mem _ (List.mem_append_left _ (weights_part (List.mem_map.2 ⟨i, hi, rfl⟩ : DataW.agg [D0 i, D1 i] ∈ (List.range len).map fun i => DataW.agg [D0 i, D1 i]) hy)))
      omega

set_option maxRecDepth 100000 in
theorem contract (H : Type) (enc : TypeId × Value → H) (W : World) (base : Nat) (args : Array Value) (ds gs : List (DataW H)) (before : List MemPlace)
    (hval : ∀ (j : Nat) t v, Tryz.f5.params[j]? = some t → args[j]? = some v → Value.okWide Tryz.prog W .any base t v)
    (hW : DataW.Whole enc Tryz.prog Tryz.f5.params.toList Rows.copiesSpec.vars false W args.toList ds gs before) (hk : (DataW.weightsEach Tryz.prog (Tryz.f5.params.toList ++ (OpenSpec.ofChange Rows.copiesSpec).bare.plain.varTypes Tryz.prog) (ds ++ gs)).all (· ≤ reachBytes) = true) (hL : laidMetH Tryz.prog theLaid W) (hS : W.ShapedOpen Tryz.prog) :
    Calls Tryz.prog 5 args W fun e W' => ∃ v, e = .returned v ∧ Rows.copiesSpec.post enc Tryz.prog Tryz.f5 false true false false W args v W' := by
  have hW' := hW
  obtain ⟨p, q, hA0, hV, rfl, hfz, hnd⟩ := hW
  have hA : DataW.TrodAll enc Tryz.prog W 0 (fun _ => true) true Tryz.f5.params.toList args.toList ds p := hA0
  rw [Tryz.params5] at hA hval
  obtain ⟨v0, vs0, d0, ds0, p0, q0, hargs, rfl, rfl, h0, r0⟩ := trodAll_cons hA
  obtain ⟨v1, vs1, d1, ds1, p1, q1, rfl, rfl, rfl, h1, r1⟩ := trodAll_cons r0
  obtain ⟨v2, vs2, d2, ds2, p2, q2, rfl, rfl, rfl, h2, r2⟩ := trodAll_cons r1
  obtain ⟨v3, vs3, d3, ds3, p3, q3, rfl, rfl, rfl, h3, r3⟩ := trodAll_cons r2
  obtain ⟨rfl, rfl, rfl⟩ := trodAll_nil r3
  obtain rfl : args = #[v0, v1, v2, v3] := by cases args; simp_all
  obtain ⟨rfl, rfl⟩ := trodVars_none hV
  rw [Tryz.params5] at hk
  have hall := List.all_eq_true.1 hk
  obtain ⟨z3, rfl, rfl, rfl, w3⟩ := open_int Tryz.underlying3 (hval 3 3 v3 rfl rfl) h3
  obtain ⟨z2, rfl, rfl, rfl, w2⟩ := open_int Tryz.underlying3 (hval 2 3 v2 rfl rfl) h2
  obtain ⟨b1, rfl, rfl, rfl, w1⟩ := open_string Tryz.underlying9 (hval 1 9 v1 rfl rfl) h1
  obtain ⟨cs0, rfl, hcs0⟩ := okWide_struct Tryz.underlying24 (hval 0 24 v0 rfl rfl)
  have k0 := h0
  have lt0 : ∀ x ∈ p0, x.block < W.heap.size := by obtain ⟨m, hm⟩ := k0; exact DataW.trod_lt m _ _ _ hm
  obtain ⟨n0, h0⟩ := h0
  obtain ⟨y0, y1, n, hx, hl, t0, t1⟩ := trod_struct2 Tryz.underlying24 h0
  rw [cells_config] at hcs0
  obtain ⟨c0, c1, rfl⟩ : ∃ c0 c1, cs0 = #[c0, c1] := by
    obtain ⟨l⟩ := cs0
    match l, hcs0 with
    | [c0, c1], _ => exact ⟨c0, c1, rfl⟩
  have t0' : DataW.trod enc Tryz.prog W 0 (fun _ => true) true n 3 [c0] = some y0 := t0
  have t1' : DataW.trod enc Tryz.prog W 0 (fun _ => true) true n 22 [c1] = some y1 := t1
  obtain ⟨lim, e0, rfl, wl⟩ := DataW.trod_int Tryz.underlying3 t0'
  obtain rfl := List.singleton_inj.1 e0
  have hx1 : d0 = .agg [.lit (.int .i64 lim), y1.1] := congrArg Prod.fst hx
  have hreach : reachBytes = 140737488351232 := rfl
  have hw0 : ∀ y ∈ y1.1.weights Tryz.prog 22, y ≤ 140737488351232 := fun y hy => by
    have hy0 : y ∈ d0.weights Tryz.prog 24 := by
      rw [hx1]
      unfold DataW.weights
      rw [Tryz.underlying24]
      simp only []
      show y ∈ DataW.weights Tryz.prog 3 (DataW.lit (.int .i64 lim)) ++ (DataW.weights Tryz.prog 22 y1.1 ++ [])
      exact List.mem_append_right _ (List.mem_append_left _ hy)
    have := hall y (List.mem_append_left _ hy0)
    simpa [hreach] using this
  have hw1 : b1.data.toList.length ≤ 140737488351232 := by
    have := hall b1.data.toList.length (List.mem_append_right _ (List.mem_append_left _ (by show _ ∈ [_]; simp)))
    simpa [hreach] using this
  obtain ⟨dd, hD, hdl, hdt⟩ := dicts_wide t1' hw0
  obtain ⟨x, hVa, hEr⟩ := laid_vars (shaped_eight hS) hL
  have hka := copies_any x lim dd _ b1.data.toList z2 z3 W (wf64 wl) hD hdl hdt (by omega) (wf64 w2) (wf64 w3) hVa hEr
  rw [← RD.bs_of] at hka
  refine hka.mono fun e W' ⟨he, bel⟩ => ?_
  subst he
  exact ⟨_, rfl, _, _, _, [], _, [], hW', trodAll_mk1 (shut_bool Tryz.underlying4 _), (trodAll_cons_mk (Below.trod laidOut (by kernel_rfl) (of_decide_eq_true (by kernel_rfl)) k0 bel lt0) (trodAll_cons_mk (shut_string Tryz.underlying9 w1) (trodAll_cons_mk (shut_int Tryz.underlying3 w2) (trodAll_cons_mk (shut_int Tryz.underlying3 w3) trodAll_mk0)))), rfl, bel.frame _, fun h => by cases h⟩

set_option maxRecDepth 100000 in
theorem lifted (os : Os) (started : os.Started) (H : Type) (enc : TypeId × Value → H) (F : Stop.Interp) :
    ReturnsInHanded {} Tryz.checked os 5 .any ((OpenSpec.ofChange Rows.copiesSpec).preRow enc Tryz.prog Tryz.f5 Rows.copiesRow.domain false Rows.copiesRow.laid) (((OpenSpec.ofChange Rows.copiesSpec).at F).post enc Tryz.prog Tryz.f5 false true false false) := by
  obtain ⟨places, hx⟩ := reads os enc
  refine returnsInHanded_of_row (C := Tryz.checked) (s := OpenSpec.ofChange Rows.copiesSpec) own started (by kernel_rfl) Tryz.func5
    (witness_row_atRef (enc := enc) (C := Tryz.checked) false (laidWorld os) wArgs rfl (by kernel_rfl) (by kernel_rfl) (by kernel_rfl)
      (OpenSpec.preRow_of_cond 8 hx (by kernel_rfl) (fun k hk => by cases hk) (by kernel_rfl) (laid_met os))) ?_
  intro W base args ds gs before hval hW _ _ hsz hL hS _
  exact contract H enc W base args ds gs before hval hW hsz hL hS

theorem said : Rows.CopiesSaid :=
  OpenClaim.holds_of_cond 5 Tryz.f5 rfl rfl rfl rfl rfl rfl rfl ⟨rfl, rfl, rfl, rfl, rfl⟩ rfl rfl rfl rfl rfl (by kernel_rfl) Tryz.func5 (by kernel_rfl)
    (of_decide_eq_true (by kernel_rfl)) (by unfold Func.isWrapper; first | (rw [if_pos (by decide +kernel)]; kernel_rfl) | (rw [if_neg (by decide +kernel)]; exact ⟨rfl, rfl⟩))
    (fun os started H enc _ F => by rw [OpenClaim.pre_eq_preRow]; exact lifted os started H enc F)
theorem wants (t : TypeId) (h : t ∈ #[24, 9, 3, 3]) : Tryz.prog.wantsStandIn t = false := by
  simp only [List.mem_toArray, List.mem_cons, List.not_mem_nil, or_false] at h
  rcases h with rfl | rfl | rfl | rfl <;> kernel_rfl
theorem plain (f : FuncId) (fn : Func) (hf : Tryz.pinned.checked.prog.funcNamed "skein/skeinlaw.Copies" = some f) (hfn : Tryz.pinned.checked.prog.funcs[f]? = some fn) :
    true = Tryz.pinned.checked.prog.looks [] ∧ ∀ (j : Nat) t, fn.params[j]? = some t → Tryz.pinned.checked.prog.wantsStandIn t = false := by
  obtain rfl : f = 5 := Option.some.inj ((show Tryz.prog.funcNamed "skein/skeinlaw.Copies" = some 5 by kernel_rfl).symm.trans hf) |>.symm
  obtain rfl : fn = Tryz.f5 := (Option.some.inj (Tryz.func5.symm.trans hfn)).symm
  refine ⟨by kernel_rfl, fun j t ht => ?_⟩
  rw [Tryz.params5] at ht
  exact wants t (Array.mem_of_getElem? ht)
theorem card : Rows.CopiesCardSaid :=
  Claim7.holds_tied_plain_at .later [] _ _ _ _ said (fun _ h => by cases h) (by kernel_rfl) (fun _ h => by cases h) copies_row_tie rfl ⟨rfl, rfl⟩ (by kernel_rfl) rfl plain (by kernel_rfl)
end Go.Proofs.YtbhemchnjpajiaaGreatDoor.copiesLaw
namespace Go.Proofs.YtbhemchnjpajiaaGreatDoor
theorem copies_proved : Rows.CopiesCardSaid := copiesLaw.card
#print axioms copies_proved
end Go.Proofs.YtbhemchnjpajiaaGreatDoor

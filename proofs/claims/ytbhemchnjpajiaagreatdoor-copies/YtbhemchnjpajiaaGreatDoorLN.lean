/- Several texts in one: QArg, QLaid. -/
import Derived.Test.YtbhemchnjpajiaaGreatDoorRows
import Derived.Test.YtbhemchnjpajiaaGreatDoorLM
import Derived.Deep.SlicePairs
import Derived.Deep.Strs
import Derived.Test.YtbhemchnjpajiaaGreatDoorLG
import Derived.LaidLaws
import Derived.LaidHandle
/- What was handed to the laws, read: dictionaries, texts, pieces. -/
namespace Go.Proofs.YtbhemchnjpajiaaGreatDoor
open Go.RowKit Go.Deep Go.ChangeShapes Go.WideShapes
set_option linter.unusedVariables false

theorem cells_string : Tryz.prog.cellsOf 9 = 1 := by kernel_rfl
theorem cells_int : Tryz.prog.cellsOf 3 = 1 := by kernel_rfl
theorem cells_bool : Tryz.prog.cellsOf 4 = 1 := by kernel_rfl
theorem cells_strs : Tryz.prog.cellsOf 28 = 1 := by kernel_rfl
theorem cells_piece : Tryz.prog.cellsOf 30 = 4 := by kernel_rfl
theorem cells_dict : Tryz.prog.cellsOf 65 = 2 := by kernel_rfl
theorem cells_config : Tryz.prog.cellsOf 24 = 2 := by kernel_rfl
theorem cell_in {W : World} {a : Addr} {v : Value} (h : W.cell? (a.add 0) = some v) : ∃ b o, a = ⟨b, o, none⟩ ∧ b < W.heap.size := by
  obtain ⟨b, off, spot⟩ := a
  have hs : spot = none := by simpa [Addr.add] using World.cell?_spot h
  subst hs
  refine ⟨b, off, rfl, ?_⟩
  rw [addr_add] at h
  rcases Nat.lt_or_ge b W.heap.size with q | q
  · exact q
  · simp [World.cell?, Array.getElem?_eq_none q] at h


theorem bulk_one {H : Type} (d : DataW H) : 1 ≤ Rows.uptoBulk d := by
  cases d with
  | lit l => cases l <;> simp [Rows.uptoBulk]
  | _ => simp [Rows.uptoBulk]
theorem bulk_part {H : Type} {d : DataW H} {l : List (DataW H)} (h : d ∈ l) : Rows.uptoBulk d ≤ Rows.uptoBulkAll l := by
  induction l with
  | nil => cases h
  | cons x r ih =>
    simp only [Rows.uptoBulkAll]
    cases List.mem_cons.1 h with
    | inl e => subst e; omega
    | inr e => have := ih e; omega
theorem bulk_len {H : Type} (l : List (DataW H)) : l.length ≤ Rows.uptoBulkAll l := by
  induction l with
  | nil => simp
  | cons x r ih => have := bulk_one x; simp only [Rows.uptoBulkAll, List.length_cons]; omega
theorem bulk_strs {H : Type} (ts : List RD.Bytes) : Rows.uptoBulkAll (ts.map fun t => (DataW.lit (.string t) : DataW H)) = lens ts + ts.length := by
  induction ts with
  | nil => simp [Rows.uptoBulkAll, lens]
  | cons t ts ih =>
    rw [List.map_cons]
    simp only [Rows.uptoBulkAll, ih, Rows.uptoBulk, lens, List.map_cons, List.sum_cons, List.length_cons]
    omega
theorem bulk_slice {H : Type} (l r : List (DataW H)) : Rows.uptoBulkAll l + 1 ≤ Rows.uptoBulk (.slice l r) := by
  simp only [Rows.uptoBulk]
  omega

theorem tx_open {H : Type} {enc : TypeId × Value → H} {W : World} {fuel : Nat} {v : Value} {x : DataW H × List MemPlace} (h : DataW.trod enc Tryz.prog W 0 (fun _ => true) true fuel 28 [v] = some x) : ∃ ts, TxArg W v ts ∧ lens ts + ts.length + 1 ≤ Rows.uptoBulk x.1 := by
  rcases open_strs Tryz.underlying28 Tryz.underlying9 cells_string h with ⟨hcs, rfl⟩ | ⟨a, len, cap, m, Sx, hcs, _, hl, hm, hmm, rfl, hx⟩
  · obtain rfl := List.singleton_inj.1 hcs
    exact ⟨[], ⟨none, 0, rfl, Nat.le_refl _, .inl rfl⟩, by simp [lens]; exact bulk_one _⟩
  · obtain rfl := List.singleton_inj.1 hcs
    simp only [if_true] at hmm
    subst hmm
    refine ⟨(List.range len).map fun i => (Sx i).data.toList, ⟨some a, m, by simp, by simpa using hl, ?_⟩, ?_⟩
    · by_cases h0 : len = 0
      · left
        simp [h0]
      · right
        obtain ⟨b, o, rfl, hb⟩ := cell_in (hx 0 (by omega)).1
        refine ⟨b, o, rfl, hb, fun i hi => ?_⟩
        have hi' : i < len := by simpa using hi
        have := (hx i (by omega)).1
        rw [addr_add] at this
        rw [this]
        simp [List.getD_eq_getElem?_getD, hi', ← RD.bs_of]
    · refine Nat.le_trans ?_ (bulk_slice _ _)
      have := bulk_strs (H := H) ((List.range len).map fun i => (Sx i).data.toList)
      rw [List.map_map] at this
      have e : ((fun t => (DataW.lit (.string t) : DataW H)) ∘ fun i => (Sx i).data.toList) = fun i => .lit (.string (Sx i).data.toList) := rfl
      rw [e] at this
      omega

theorem costs_range {H : Type} (f : Nat → RD.Pc) (D : Nat → DataW H) (n : Nat) (h : ∀ i, i < n → cost (f i) ≤ 3 * Rows.uptoBulk (D i)) : ∀ l : List Nat, (∀ i ∈ l, i < n) → costs (l.map f) ≤ 3 * Rows.uptoBulkAll (l.map D)
  | [], _ => by simp [costs]
  | i :: l, hl => by
    have := costs_range f D n h l (fun j hj => hl j (by simp [hj]))
    have hi := h i (hl i (by simp))
    rw [List.map_cons, List.map_cons]
    have e : costs (f i :: l.map f) = cost (f i) + costs (l.map f) := by unfold costs; simp
    rw [e]
    simp only [Rows.uptoBulkAll]
    omega
set_option maxRecDepth 10000 in
theorem pcs_open {H : Type} {enc : TypeId × Value → H} {W : World} {fuel : Nat} {v : Value} {x : DataW H × List MemPlace} (h : DataW.trod enc Tryz.prog W 0 (fun _ => true) true fuel 25 [v] = some x) : ∃ ps, PcsArg W v ps ∧ costs ps ≤ 3 * Rows.uptoBulk x.1 := by
  rcases open_slice Tryz.underlying25 h with ⟨hcs, rfl⟩ | ⟨a, len, cap, m, n, D, Pl, hcs, _, hl, hm, hmm, rfl, hx⟩
  · obtain rfl := List.singleton_inj.1 hcs
    exact ⟨[], ⟨none, 0, rfl, Nat.le_refl _, .inl rfl⟩, by simp [costs]⟩
  · obtain rfl := List.singleton_inj.1 hcs
    simp only [if_true] at hmm
    subst hmm
    have each : ∀ i, i < m → ∃ p : RD.Pc, (∃ tv, TxArg W tv p.texts ∧ W.cell? (a.add (i * 4)) = some tv ∧ W.cell? (a.add (i * 4 + 1)) = some (.bool p.summed) ∧ W.cell? (a.add (i * 4 + 2)) = some (.bool p.wrong) ∧ W.cell? (a.add (i * 4 + 3)) = some (.bool p.skipped)) ∧ cost p ≤ 3 * Rows.uptoBulk (D i) := by
      intro i hi
      obtain ⟨cs', h1, h2⟩ := hx i hi
      rw [cells_piece] at h1
      obtain ⟨_, hlen, hcell⟩ := World.cells?_some h1
      obtain ⟨xs, k, hk, hxy, _, hxl, hf⟩ := DataW.trod_struct Tryz.underlying30 h2
      match xs, hxl, cs', hlen with
      | [y0, y1, y2, y3], _, [v0, v1, v2, v3], _ =>
        have g0 := hf 0 _ rfl
        have g1 := hf 1 _ rfl
        have g2 := hf 2 _ rfl
        have g3 := hf 3 _ rfl
        simp [cells_strs, cells_bool] at g0 g1 g2 g3
        have e0 := hcell 0 (by omega)
        have e1 := hcell 1 (by omega)
        have e2 := hcell 2 (by omega)
        have e3 := hcell 3 (by omega)
        rw [add_add] at e0 e1 e2 e3
        simp only [Prod.mk.injEq] at hxy
        obtain ⟨ts, ht, hb⟩ := tx_open g0
        obtain ⟨b1, q1, -⟩ := DataW.trod_bool Tryz.underlying4 g1
        obtain ⟨b2, q2, -⟩ := DataW.trod_bool Tryz.underlying4 g2
        obtain ⟨b3, q3, -⟩ := DataW.trod_bool Tryz.underlying4 g3
        obtain rfl := List.singleton_inj.1 q1
        obtain rfl := List.singleton_inj.1 q2
        obtain rfl := List.singleton_inj.1 q3
        refine ⟨⟨ts, b1, b2, b3⟩, ⟨v0, ht, by simpa using e0, by simpa using e1, by simpa using e2, by simpa using e3⟩, ?_⟩
        rw [hxy.1]
        simp only [List.map_cons, List.map_nil, Rows.uptoBulk, Rows.uptoBulkAll]
        show 11 + 3 * (ts.length + 1) + lens ts ≤ _
        have := bulk_one y1.1
        have := bulk_one y2.1
        have := bulk_one y3.1
        omega
    have : Inhabited RD.Pc := ⟨noPc⟩
    obtain ⟨f, hfs⟩ := choose_lt each
    refine ⟨(List.range len).map f, ⟨some a, m, by simp, by simpa using hl, ?_⟩, ?_⟩
    · by_cases h0 : len = 0
      · left
        simp [h0]
      · right
        obtain ⟨⟨tv, _, c0, _⟩, _⟩ := hfs 0 (by omega)
        obtain ⟨b, o, rfl, hb⟩ := cell_in (by simpa using c0)
        refine ⟨b, o, rfl, hb, fun i hi => ?_⟩
        have hi' : i < len := by simpa using hi
        obtain ⟨⟨tv, ht, c0, c1, c2, c3⟩, _⟩ := hfs i (by omega)
        rw [addr_add] at c0 c1 c2 c3
        have e : ((List.range len).map f).getD i noPc = f i := by simp [List.getD_eq_getElem?_getD, hi']
        rw [e]
        exact ⟨tv, ht, c0, c1, c2, c3⟩
    · have := costs_range f D m (fun i hi => (hfs i hi).2) (List.range len) (fun i hi => by have := List.mem_range.1 hi; omega)
      have q := bulk_slice ((List.range len).map D) ((List.range (m - len)).map fun j => D (len + j))
      show _ ≤ 3 * Rows.uptoBulk (DataW.slice ((List.range len).map D) ((List.range (m - len)).map fun j => D (len + j)))
      omega
theorem dicts_open {H : Type} {enc : TypeId × Value → H} {W : World} {fuel : Nat} {v : Value} {x : DataW H × List MemPlace} (h : DataW.trod enc Tryz.prog W 0 (fun _ => true) true fuel 22 [v] = some x) : ∃ ds, DictsArg W v ds ∧ ds.length ≤ Rows.uptoBulk x.1 ∧ ∀ d ∈ ds, d.2.length ≤ Rows.uptoBulk x.1 := by
  rcases open_slice_pairs Tryz.underlying22 Tryz.underlying65 cells_dict rfl rfl cells_int cells_string h with ⟨hcs, rfl⟩ | ⟨a, len, cap, m, n, V0, V1, D0, D1, P0, P1, hcs, _, hl, hm, hmm, rfl, hx⟩
  · obtain rfl := List.singleton_inj.1 hcs
    exact ⟨[], ⟨none, 0, rfl, Nat.le_refl _, .inl rfl⟩, by simp, by simp⟩
  · obtain rfl := List.singleton_inj.1 hcs
    simp only [if_true] at hmm
    subst hmm
    have each : ∀ i, i < m → ∃ d : Int × RD.Bytes, W.cell? (a.add (i * 2)) = some (.int .i64 d.1) ∧ W.cell? (a.add (i * 2 + 1)) = some (.string (RD.bs d.2)) ∧ D1 i = .lit (.string d.2) := by
      intro i hi
      obtain ⟨c0, c1, t0, t1⟩ := hx i hi
      obtain ⟨z, q0, -, -⟩ := DataW.trod_int Tryz.underlying3 t0
      obtain ⟨s, q1, q2, -⟩ := DataW.trod_string Tryz.underlying9 t1
      have q0' := List.singleton_inj.1 q0
      have q1' := List.singleton_inj.1 q1
      simp only [Prod.mk.injEq] at q2
      exact ⟨(z, s.data.toList), by rw [c0, q0'], by rw [c1, q1', ← RD.bs_of], q2.1⟩
    obtain ⟨f, hfs⟩ := choose_lt each
    have q := bulk_slice ((List.range len).map fun i => DataW.agg [D0 i, D1 i]) ((List.range (m - len)).map fun j => DataW.agg [D0 (len + j), D1 (len + j)])
    show ∃ ds, DictsArg W (.slice (some a) len m) ds ∧ ds.length ≤ Rows.uptoBulk (DataW.slice ((List.range len).map fun i => DataW.agg [D0 i, D1 i]) ((List.range (m - len)).map fun j => DataW.agg [D0 (len + j), D1 (len + j)])) ∧ ∀ d ∈ ds, d.2.length ≤ Rows.uptoBulk (DataW.slice ((List.range len).map fun i => DataW.agg [D0 i, D1 i]) ((List.range (m - len)).map fun j => DataW.agg [D0 (len + j), D1 (len + j)]))
    refine ⟨(List.range len).map f, ⟨some a, m, by simp, by simpa using hl, ?_⟩, ?_, ?_⟩
    · by_cases h0 : len = 0
      · left
        simp [h0]
      · right
        obtain ⟨c0, -⟩ := hfs 0 (by omega)
        obtain ⟨b, o, rfl, hb⟩ := cell_in (by simpa using c0)
        refine ⟨b, o, rfl, hb, fun i hi => ?_⟩
        have hi' : i < len := by simpa using hi
        obtain ⟨c0, c1, -⟩ := hfs i (by omega)
        rw [addr_add] at c0 c1
        have e : ((List.range len).map f).getD i (0, []) = f i := by simp [List.getD_eq_getElem?_getD, hi']
        rw [e]
        exact ⟨c0, c1⟩
    · have := bulk_len ((List.range len).map fun i => DataW.agg [D0 i, D1 i])
      simp only [List.length_map, List.length_range] at this ⊢
      omega
    · intro d hd
      obtain ⟨i, hi, rfl⟩ := List.mem_map.1 hd
      have hi' := List.mem_range.1 hi
      have h1 := bulk_part (d := DataW.agg [D0 i, D1 i]) (List.mem_map.2 ⟨i, hi, rfl⟩ : DataW.agg [D0 i, D1 i] ∈ (List.range len).map fun i => DataW.agg [D0 i, D1 i])
      obtain ⟨-, -, e⟩ := hfs i (by omega)
      rw [e] at h1
      simp only [Rows.uptoBulk, Rows.uptoBulkAll] at h1
      omega
end Go.Proofs.YtbhemchnjpajiaaGreatDoor

/- What the list of variables that are laid gives: the six errors of package faults, apart from one another, and the handle of the type error. -/
namespace Go.Proofs.YtbhemchnjpajiaaGreatDoor
open Go.RowKit Go.ChangeShapes Go.WideShapes
set_option linter.unusedVariables false

theorem cells_es : Tryz.prog.cellsOf 326 = 1 := by kernel_rfl
theorem star_es : "*" ++ "errors.errorString" = "*errors.errorString" := by decide
theorem row_es (u : TypeId) (h : Tryz.prog.typeName? 3 u = some "*errors.errorString") : u = 308 :=
  typeName_ptr_named (nm := "errors.errorString") (by rw [star_es]; kernel_rfl) (by kernel_rfl) (by decide) u (by rw [star_es]; exact h)
set_option maxRecDepth 100000 in
/-- One error that is laid, and the rest. -/
theorem sentinel {W : World} {nm : String} {g : Nat} {text : List UInt8} {rest : List (String × DataW Unit)} {ps : List MemPlace}
    (hg : Tryz.prog.globalNamed nm = some g) (hgt : (Tryz.prog.globals[g]?).map (·.type) = some 92)
    (h : DataW.LaidVars Tryz.prog W ((nm, .iface "*errors.errorString" (.ptr (.agg [.lit (.string text)]))) :: rest) ps)
    (hok : ∀ b off, MemPlace.cell b off ∈ ps → (∃ c t, W.heap[b]? = some (.cells c t (0, 0))) ∧ ∀ u v, W.cell? ⟨b, off, none⟩ = some (.iface u v) → Value.okWide Tryz.prog W .any 0 u v) :
    ∃ (a : Addr) (q : List MemPlace), W.cell? ⟨g, 0, none⟩ = some (errV a) ∧ (∃ c t, W.heap[a.block]? = some (.cells c t (0, 0))) ∧ DataW.LaidVars Tryz.prog W rest q ∧ ps = .cell g 0 :: .cell a.block a.off :: q ∧ a.spot = none := by
  obtain ⟨g', t, cs, fuel, p, q, e1, e2, e3, e4, e5, rfl⟩ := h
  obtain rfl := Option.some.inj (hg.symm.trans e1)
  obtain rfl := Option.some.inj (hgt.symm.trans e2)
  have hc0 : ∀ u v, cs.toList = [.iface u v] → Value.okWide Tryz.prog W .any 0 u v := fun u v hcs => by
    have hcs' : cs = #[.iface u v] := by cases cs; simp_all
    subst hcs'
    refine (hok g 0 (by simp [MemPlace.row])).2 u v ?_
    simpa using World.var?_cell hg e3 0
  obtain ⟨a, s, hcs, hcell, _, _, rfl⟩ := errorString_of_trod Tryz.underlying92 row_es Tryz.underlying308 Tryz.underlying326 rfl rfl Tryz.underlying9 cells_es cells_string e4 hc0
  have hcs' : cs = #[errV a] := by cases cs; simp_all
  subst hcs'
  have hsp : a.spot = none := World.cell?_spot hcell
  obtain ⟨b, o, sp⟩ := a
  simp only at hsp
  subst hsp
  refine ⟨⟨b, o, none⟩, q, by simpa using World.var?_cell hg e3 0, ?_, e5, by simp [MemPlace.row], rfl⟩
  exact (hok b o (by simp [MemPlace.row])).1
theorem gEnd : Tryz.prog.globalNamed "skein/faults.End" = some 0 := by kernel_rfl
theorem tEnd : (Tryz.prog.globals[0]?).map (·.type) = some 92 := by kernel_rfl
theorem gFormat : Tryz.prog.globalNamed "skein/faults.Format" = some 6 := by kernel_rfl
theorem tFormat : (Tryz.prog.globals[6]?).map (·.type) = some 92 := by kernel_rfl
theorem gLimit : Tryz.prog.globalNamed "skein/faults.Limit" = some 1 := by kernel_rfl
theorem tLimit : (Tryz.prog.globals[1]?).map (·.type) = some 92 := by kernel_rfl
theorem gDict : Tryz.prog.globalNamed "skein/faults.Dict" = some 2 := by kernel_rfl
theorem tDict : (Tryz.prog.globals[2]?).map (·.type) = some 92 := by kernel_rfl
theorem gShort : Tryz.prog.globalNamed "skein/faults.Short" = some 3 := by kernel_rfl
theorem tShort : (Tryz.prog.globals[3]?).map (·.type) = some 92 := by kernel_rfl
theorem gSum : Tryz.prog.globalNamed "skein/faults.Sum" = some 4 := by kernel_rfl
theorem tSum : (Tryz.prog.globals[4]?).map (·.type) = some 92 := by kernel_rfl
theorem gType : Tryz.prog.globalNamed "errors.errorType" = some 5 := by kernel_rfl
theorem rtType : (Tryz.prog.cutTypes.find? (·.1 == "internal/reflectlite.rtype")).map (·.2) = some 181 := by kernel_rfl
theorem oneType : ((List.range Tryz.prog.types.size).filter fun t => Tryz.prog.rowNamed t [101, 114, 114, 111, 114]) = [92] := by kernel_rfl
/-- The list that every row of the seat bears. -/
def theLaid : List (String × DataW Unit) := [("errors.errorType", Rows.laid_errors_errorType), ("skein/faults.End", Rows.laid_skein_faults_End), ("skein/faults.Format", Rows.laid_skein_faults_Format), ("skein/faults.Limit", Rows.laid_skein_faults_Limit), ("skein/faults.Dict", Rows.laid_skein_faults_Dict), ("skein/faults.Short", Rows.laid_skein_faults_Short), ("skein/faults.Sum", Rows.laid_skein_faults_Sum)]
theorem laid_parts {W : World} (h : laidMetH Tryz.prog theLaid W) : laidMet Tryz.prog (theLaid.drop 1) W ∧ handlesMet Tryz.prog (theLaid.take 1) W := h
theorem handle_of {W : World} (h : handlesMet Tryz.prog (theLaid.take 1) W) : W.cell? ⟨5, 0, none⟩ = some (.iface 181 (.agg #[.pointer (some ⟨8, 92, none⟩)])) := by
  obtain ⟨name, u, ty, e1, e2, e3, e4, e5⟩ := h _ (List.mem_singleton.2 rfl)
  have en : name = [101, 114, 114, 111, 114] := (Option.some.inj e1).symm
  subst en
  obtain rfl := Option.some.inj (rtType.symm.trans e2)
  have hm : ty ∈ (List.range Tryz.prog.types.size).filter fun t => Tryz.prog.rowNamed t [101, 114, 114, 111, 114] := List.mem_filter.2 ⟨List.mem_range.2 e3, e4⟩
  rw [oneType] at hm
  obtain rfl := List.mem_singleton.1 hm
  have hh : typeHandle Tryz.prog 92 = .pointer (some ⟨8, 92, none⟩) := by kernel_rfl
  rw [hh] at e5
  simpa using World.var?_cell gType e5 0
theorem laid_vars {W : World} (h8 : 8 ≤ W.heap.size) (h : laidMetH Tryz.prog theLaid W) : ∃ x : Fx, VarsAt x W ∧ ErrRows x W := by
  obtain ⟨⟨ps, hl, hn, hok⟩, hh⟩ := laid_parts h
  obtain ⟨e, q0, ce, re, l0, rfl, se⟩ := sentinel gEnd tEnd hl hok
  have o0 := fun b o (hm : MemPlace.cell b o ∈ q0) => hok b o (List.mem_cons_of_mem _ (List.mem_cons_of_mem _ hm))
  obtain ⟨f, q1, cf, rf, l1, rfl, sf⟩ := sentinel gFormat tFormat l0 o0
  have o1 := fun b o (hm : MemPlace.cell b o ∈ q1) => o0 b o (List.mem_cons_of_mem _ (List.mem_cons_of_mem _ hm))
  obtain ⟨l, q2, cl, rl, l2, rfl, sl⟩ := sentinel gLimit tLimit l1 o1
  have o2 := fun b o (hm : MemPlace.cell b o ∈ q2) => o1 b o (List.mem_cons_of_mem _ (List.mem_cons_of_mem _ hm))
  obtain ⟨d, q3, cd, rd, l3, rfl, sd⟩ := sentinel gDict tDict l2 o2
  have o3 := fun b o (hm : MemPlace.cell b o ∈ q3) => o2 b o (List.mem_cons_of_mem _ (List.mem_cons_of_mem _ hm))
  obtain ⟨s, q4, cs, rs, l4, rfl, ss⟩ := sentinel gShort tShort l3 o3
  have o4 := fun b o (hm : MemPlace.cell b o ∈ q4) => o3 b o (List.mem_cons_of_mem _ (List.mem_cons_of_mem _ hm))
  obtain ⟨u, q5, cu, ru, l5, rfl, su⟩ := sentinel gSum tSum l4 o4
  have o5 := fun b o (hm : MemPlace.cell b o ∈ q5) => o4 b o (List.mem_cons_of_mem _ (List.mem_cons_of_mem _ hm))
  have lt : ∀ a : Addr, (∃ c t, W.heap[a.block]? = some (.cells c t (0, 0))) → a.block < W.heap.size := fun a ⟨c, t, h⟩ => (Array.getElem?_eq_some_iff.1 h).1
  have hap : [e, f, l, d, s, u].Nodup := by
    refine List.Pairwise.of_map (fun a : Addr => MemPlace.cell a.block a.off) (S := (· ≠ ·)) (fun a b hne hab => hne (by rw [hab])) ?_
    refine List.Pairwise.sublist ?_ hn
    exact .cons _ (.cons_cons _ (.cons _ (.cons_cons _ (.cons _ (.cons_cons _ (.cons _ (.cons_cons _ (.cons _ (.cons_cons _ (.cons _ (.cons_cons _ (List.nil_sublist _))))))))))))
  refine ⟨⟨W.heap.size, e, f, l, d, s, u⟩, ⟨Nat.le_refl _, h8, ⟨lt _ re, lt _ rf, lt _ rl, lt _ rd, lt _ rs, lt _ ru⟩, hap, ce, cf, cl, cd, cs, cu, handle_of hh⟩, ?_⟩
  intro a ha
  simp only [List.mem_cons, List.not_mem_nil, or_false] at ha
  rcases ha with rfl | rfl | rfl | rfl | rfl | rfl <;> assumption
theorem shaped_eight {W : World} (h : W.ShapedOpen Tryz.prog) : 8 ≤ W.heap.size := by
  obtain ⟨cs, hc, -⟩ := h.1 7 #[.int .i64 0] 3 (of_decide_eq_true (by kernel_rfl)) (by kernel_rfl)
  exact (Array.getElem?_eq_some_iff.1 hc).1

/-! A world that meets the list. -/
abbrev xEnd : ByteArray := ⟨#[97, 108, 108, 32, 104, 97, 115, 32, 98, 101, 101, 110, 32, 114, 101, 97, 100]⟩
abbrev xFormat : ByteArray := ⟨#[98, 121, 116, 101, 115, 32, 116, 104, 97, 116, 32, 97, 114, 101, 32, 110, 111, 32, 115, 116, 114, 101, 97, 109]⟩
abbrev xLimit : ByteArray := ⟨#[97, 32, 119, 105, 110, 100, 111, 119, 32, 116, 104, 97, 116, 32, 105, 115, 32, 116, 111, 111, 32, 108, 97, 114, 103, 101]⟩
abbrev xDict : ByteArray := ⟨#[97, 32, 100, 105, 99, 116, 105, 111, 110, 97, 114, 121, 32, 116, 104, 97, 116, 32, 105, 115, 32, 110, 111, 116, 32, 116, 104, 101, 114, 101]⟩
abbrev xShort : ByteArray := ⟨#[97, 32, 115, 116, 114, 101, 97, 109, 32, 116, 104, 97, 116, 32, 101, 110, 100, 115, 32, 116, 111, 111, 32, 115, 111, 111, 110]⟩
abbrev xSum : ByteArray := ⟨#[97, 32, 102, 114, 97, 109, 101, 32, 119, 104, 111, 115, 101, 32, 115, 117, 109, 32, 105, 115, 32, 97, 110, 111, 116, 104, 101, 114, 32, 111, 110, 101]⟩
noncomputable def low : Nat := (World.holding Tryz.prog default ⟨#[], #[], []⟩).heap.size
noncomputable def laidWorld (os : Os) : World :=
  let w0 := World.holding Tryz.prog os ⟨#[.cells #[.string xEnd] 326, .cells #[.string xFormat] 326, .cells #[.string xLimit] 326, .cells #[.string xDict] 326, .cells #[.string xShort] 326, .cells #[.string xSum] 326], #[], []⟩
  { w0 with heap := (((((((((((((w0.heap).modify 0 fun
      | .cells _ t frozen => .cells #[.iface 308 (.pointer (some ⟨low + 0, 0, none⟩))] t frozen
      | o => o)).modify 6 fun
      | .cells _ t frozen => .cells #[.iface 308 (.pointer (some ⟨low + 1, 0, none⟩))] t frozen
      | o => o)).modify 1 fun
      | .cells _ t frozen => .cells #[.iface 308 (.pointer (some ⟨low + 2, 0, none⟩))] t frozen
      | o => o)).modify 2 fun
      | .cells _ t frozen => .cells #[.iface 308 (.pointer (some ⟨low + 3, 0, none⟩))] t frozen
      | o => o)).modify 3 fun
      | .cells _ t frozen => .cells #[.iface 308 (.pointer (some ⟨low + 4, 0, none⟩))] t frozen
      | o => o)).modify 4 fun
      | .cells _ t frozen => .cells #[.iface 308 (.pointer (some ⟨low + 5, 0, none⟩))] t frozen
      | o => o)).modify 5 fun
      | .cells _ t frozen => .cells #[.iface 181 (.agg #[.pointer (some ⟨8, 92, none⟩)])] t frozen
      | o => o }
end Go.Proofs.YtbhemchnjpajiaaGreatDoor

/- Several texts in one: QCfg, QCfg2, QCfg3. -/
import Derived.Test.YtbhemchnjpajiaaGreatDoorLG
import Derived.Test.YtbhemchnjpajiaaGreatDoorJG
import Derived.Test.YtbhemchnjpajiaaGreatDoorJI
/- Settings (package skein): rightDict, hasID, rightConfig, walked at settings that are right. -/
namespace Go.Proofs.YtbhemchnjpajiaaGreatDoor
open Go.RowKit
set_option linter.unusedVariables false

set_option maxRecDepth 100000 in
set_option maxHeartbeats 2000000 in
theorem rightDict_any (id : Int) (t : RD.Bytes) (w : World) (hi : 0 ≤ id ∧ id ≤ 255) (ht : 1 ≤ t.length ∧ t.length ≤ 256) :
    Calls Tryz.prog 54 #[.agg #[.int .i64 id, .string (RD.bs t)]] w fun e w' => e = .returned (.bool true) ∧ Below w.heap.size w w' := by
  have hz := RD.bs_size t
  have h1 : ((t.length : Int) ≤ 256) := by omega
  have h2 : decide ((t.length : Int) ≤ 256) = true := by simpa using h1
  go_enter Tryz.func54, Tryz.ntmps54
  go_wp2_with fail
  go_ret
  exact ⟨rfl, (Below.refl _ w).alloc (Nat.le_refl _) _⟩
set_option maxRecDepth 100000 in
set_option maxHeartbeats 2000000 in
theorem hasID1_any (id : Int) (C : Nat) (d : Int) (t : RD.Bytes) (w : World) (hC : w.cell? ⟨C, 0, none⟩ = some (.int .i64 id)) :
    Calls Tryz.prog 75 #[.agg #[.int .i64 d, .string (RD.bs t)], .pointer (some ⟨C, 0, none⟩)] w fun e w' => e = .returned (.bool (d == id)) ∧ Below w.heap.size w w' := by
  have hC' : (w.alloc (.cells #[.int .i64 d, .string (RD.bs t)] 65)).cell? ⟨C, 0, none⟩ = some (.int .i64 id) := by
    rw [World.cell?_alloc_lt _ _ _ (World.block_lt_of_cell? w _ hC)]; exact hC
  go_enter Tryz.func75, Tryz.ntmps75
  go_wp2_with fail
  go_ret
  exact ⟨rfl, (Below.refl _ w).alloc (Nat.le_refl _) _⟩
set_option maxRecDepth 100000 in
set_option maxHeartbeats 2000000 in
theorem indexFunc_none (id : Int) (C : Nat) (a : Option Addr) (cc : Nat) (ds : List (Int × RD.Bytes)) (w : World) (hC : w.cell? ⟨C, 0, none⟩ = some (.int .i64 id)) (hl : ds.length ≤ 4) (hcc : ds.length ≤ cc) (hno : ∀ i, i < ds.length → (ds.getD i (0, [])).1 ≠ id)
    (hd : ds = [] ∨ ∃ b, a = some ⟨b, 0, none⟩ ∧ b < w.heap.size ∧ ∀ i, i < ds.length → w.cell? ⟨b, i * 2, none⟩ = some (.int .i64 (ds.getD i (0, [])).1) ∧ w.cell? ⟨b, i * 2 + 1, none⟩ = some (.string (RD.bs (ds.getD i (0, [])).2))) :
    Calls Tryz.prog 92 #[.slice a ds.length cc, .func (.func 75) #[] #[.pointer (some ⟨C, 0, none⟩)]] w fun e w' => e = .returned (.int .i64 (-1)) ∧ Below w.heap.size w w' := by
  go_enter Tryz.func92, Tryz.ntmps92
  go_wp2_with fail
  go_loopg [8] (ds.length + 1) (fun gh kv wr => ∃ k : Nat, gh = ds.length + 1 - k ∧ k ≤ ds.length ∧ kv = .int .i64 (k : Int) ∧ Below w.heap.size w wr)
  case atStart => exact ⟨0, by omega, by omega, rfl, below_same w⟩
  case round =>
    obtain ⟨k, rfl, hk, rfl, hb⟩ := hrel
    replace hb := hid' hb
    by_cases hlt : k < ds.length
    · have hlt' : (k : Int) < (ds.length : Int) := by omega
      rcases hd with hd | ⟨b, rfl, hbl, hd⟩
      · rw [hd] at hlt; simp at hlt
      obtain ⟨d0, d1⟩ := hd k hlt
      have e0 := (hb.out.cell (p := ⟨b, k * 2, none⟩) hbl).trans d0
      have e1 := (hb.out.cell (p := ⟨b, k * 2 + 1, none⟩) hbl).trans d1
      have hne := hno k hlt
      obtain ⟨I, hI⟩ : ∃ I, I = (ds.getD k (0, [])).1 := ⟨_, rfl⟩
      obtain ⟨T, hT⟩ : ∃ T, T = (ds.getD k (0, [])).2 := ⟨_, rfl⟩
      rw [← hI] at e0 hne
      rw [← hT] at e1
      replace hI := hid' hI
      replace hT := hid' hT
      replace hd := hid' hd
      have hCr : wr.cell? ⟨C, 0, none⟩ = some (.int .i64 id) := (hb.out.cell (p := ⟨C, 0, none⟩) (World.block_lt_of_cell? w _ hC)).trans hC
      have hcl := hasID1_any id C I T wr hCr
      rw [show (I == id) = false by simpa using hne] at hcl
      go_wp2_with fail
      refine hcl.mono ?_
      rintro e w1 ⟨rfl, hb1⟩
      have hb2 := hid' (hb.out.trans ⟨hb1.os, hb1.tape, hb1.output, hb1.size, fun k hk => hb1.block k (Nat.lt_of_lt_of_le hk hb.out.size)⟩)
      go_wp2_with fail
      go_roundg (ds.length + 1 - (k + 1))
      case rel => exact ⟨k + 1, rfl, by omega, by go_num, hb2.out⟩
      case measure => omega
    · obtain rfl : k = ds.length := by omega
      go_wp2_with fail
      go_ret
      exact ⟨rfl, hb.out⟩
set_option maxRecDepth 100000 in
set_option maxHeartbeats 2000000 in
theorem hasID_none (id : Int) (v : Value) (ds : List (Int × RD.Bytes)) (w : World) (hD : DictsAt w v ds) (hl : ds.length ≤ 4) (hno : ∀ i, i < ds.length → (ds.getD i (0, [])).1 ≠ id) :
    Calls Tryz.prog 55 #[v, .int .i64 id] w fun e w' => e = .returned (.bool false) ∧ Below w.heap.size w w' := by
  obtain ⟨a, cc, rfl, hcc, hd⟩ := hD
  have hb0 : Below w.heap.size w (w.alloc (.cells #[.int .i64 id] 3)) := (Below.refl _ w).alloc (Nat.le_refl _) _
  have hix : Calls Tryz.prog 92 #[.slice a ds.length cc, .func (.func 75) #[] #[.pointer (some ⟨w.heap.size, 0, none⟩)]] (w.alloc (.cells #[.int .i64 id] 3)) fun e w' => e = .returned (.int .i64 (-1)) ∧ Below (w.alloc (.cells #[.int .i64 id] 3)).heap.size (w.alloc (.cells #[.int .i64 id] 3)) w' := by
    refine indexFunc_none id w.heap.size a cc ds _ ((Blk.new w 3 [.int .i64 id]).cell (j := 0) rfl) hl hcc hno ?_
    rcases hd with hd | ⟨b, rfl, hbl, hd⟩
    · exact .inl hd
    · exact .inr ⟨b, rfl, Nat.lt_of_lt_of_le hbl hb0.size, fun i hi => ⟨(hb0.cell (p := ⟨b, i * 2, none⟩) hbl).trans (hd i hi).1, (hb0.cell (p := ⟨b, i * 2 + 1, none⟩) hbl).trans (hd i hi).2⟩⟩
  have hcf : Calls Tryz.prog 74 #[.slice a ds.length cc, .func (.func 75) #[] #[.pointer (some ⟨w.heap.size, 0, none⟩)]] (w.alloc (.cells #[.int .i64 id] 3)) fun e w' => e = .returned (.bool false) ∧ Below (w.alloc (.cells #[.int .i64 id] 3)).heap.size (w.alloc (.cells #[.int .i64 id] 3)) w' := by
    generalize w.alloc (.cells #[.int .i64 id] 3) = W at *
    clear hb0
    go_enter Tryz.func74, Tryz.ntmps74
    go_wp2_with fail
    refine hix.mono ?_
    rintro e w1 ⟨rfl, hb1⟩
    go_wp2_with fail
    go_ret
    exact ⟨rfl, hb1⟩
  clear hix
  go_enter Tryz.func55, Tryz.ntmps55
  go_wp2_with fail
  refine hcf.mono ?_
  rintro e w1 ⟨rfl, hb1⟩
  go_wp2_with fail
  go_ret
  exact ⟨rfl, hb0.trans ⟨hb1.os, hb1.tape, hb1.output, hb1.size, fun k hk => hb1.block k (Nat.lt_of_lt_of_le hk hb0.size)⟩⟩
end Go.Proofs.YtbhemchnjpajiaaGreatDoor

/- Settings that are right (package skein): rightConfig, copied, walked. -/
namespace Go.Proofs.YtbhemchnjpajiaaGreatDoor
open Go.RowKit
set_option linter.unusedVariables false

theorem DictsAt.take {w : World} {a : Option Addr} {c : Nat} {ds : List (Int × RD.Bytes)} (h : DictsAt w (.slice a ds.length c) ds) (k : Nat) (hk : k ≤ ds.length) : DictsAt w (.slice a k c) (ds.take k) := by
  obtain ⟨a', c', e, h1, h2⟩ := h
  injection e with e1 e2 e3
  subst e1 e3
  have hl : (ds.take k).length = k := by rw [List.length_take]; omega
  refine ⟨a, c, by rw [hl], by omega, ?_⟩
  rcases h2 with h2 | ⟨b, rfl, hb, hd⟩
  · left; rw [h2]; simp
  · refine .inr ⟨b, rfl, hb, fun i hi => ?_⟩
    rw [hl] at hi
    have := hd i (by omega)
    have e : (ds.take k).getD i (0, []) = ds.getD i (0, []) := by
      rw [List.getD_eq_getElem?_getD, List.getD_eq_getElem?_getD, List.getElem?_take, if_pos hi]
    rw [e]
    exact this
/-- IDs from 0 to 255. -/
def IdsOk (c : RD.Cfg) : Prop := ∀ d ∈ c.dicts, 0 ≤ d.1 ∧ d.1 ≤ 255
theorem getD_mem {ds : List (Int × RD.Bytes)} {i : Nat} (h : i < ds.length) : ds.getD i (0, []) ∈ ds := by
  rw [List.getD_eq_getElem?_getD, List.getElem?_eq_getElem h]
  exact List.getElem_mem h
theorem ids_apart {c : RD.Cfg} (hc : CfgOk c) {i k : Nat} (hi : i < k) (hk : k < c.dicts.length) : (c.dicts.getD i (0, [])).1 ≠ (c.dicts.getD k (0, [])).1 := by
  have h := hc.ids
  unfold List.Nodup at h
  rw [List.pairwise_iff_getElem] at h
  have := h i k (by rw [List.length_map]; omega) (by rw [List.length_map]; exact hk) hi
  rw [List.getElem_map, List.getElem_map] at this
  rw [List.getD_eq_getElem?_getD, List.getD_eq_getElem?_getD, List.getElem?_eq_getElem (by omega), List.getElem?_eq_getElem hk]
  exact this
set_option maxRecDepth 100000 in
set_option maxHeartbeats 4000000 in
theorem rightConfig_ok (c : RD.Cfg) (hc : CfgOk c) (hi : IdsOk c) (v : Value) (w : World) (hD : DictsAt w v c.dicts) :
    Calls Tryz.prog 38 #[.agg #[.int .i64 c.limit, v]] w fun e w' => e = .returned (.bool true) ∧ Below w.heap.size w w' := by
  obtain ⟨a, cc, rfl, hcc, hd⟩ := id hD
  have hl := hc.lim
  have hf := hc.few
  have hb0 : Below w.heap.size w (w.alloc (.cells #[.int .i64 c.limit, .slice a c.dicts.length cc] 24)) := (Below.refl _ w).alloc (Nat.le_refl _) _
  have hB0 := Blk.new w 24 [.int .i64 c.limit, .slice a c.dicts.length cc]
  have hC0 : w.heap.size < (w.alloc (.cells #[.int .i64 c.limit, .slice a c.dicts.length cc] 24)).heap.size := by simp
  go_enter Tryz.func38, Tryz.ntmps38
  go_wp2_with fail
  generalize hW0 : w.alloc (.cells #[.int .i64 c.limit, .slice a c.dicts.length cc] 24) = W0 at *
  have hDW := hD.only (below_only (G := fun _ => False) hb0) (fun _ _ e => e)
  have hdW : c.dicts = [] ∨ ∃ b, a = some ⟨b, 0, none⟩ ∧ b < W0.heap.size ∧ ∀ i, i < c.dicts.length → W0.cell? ⟨b, i * 2, none⟩ = some (.int .i64 (c.dicts.getD i (0, [])).1) ∧ W0.cell? ⟨b, i * 2 + 1, none⟩ = some (.string (RD.bs (c.dicts.getD i (0, [])).2)) := by
    obtain ⟨a', c', e, _, h2⟩ := hDW
    injection e with e1 _ _
    rw [e1]
    exact h2
  obtain ⟨C, hC⟩ : ∃ C, C = w.heap.size := ⟨_, rfl⟩
  rw [← hC] at hB0 hC0 ⊢
  replace hC := hid' hC
  replace hW0 := hid' hW0
  replace hd := hid' hd
  replace hD := hid' hD
  replace hDW := hid' hDW
  go_loopg [22] (c.dicts.length + 1) (fun gh kv wr => ∃ k : Nat, gh = c.dicts.length + 1 - k ∧ k ≤ c.dicts.length ∧ kv = .int .i64 (k : Int) ∧ Below W0.heap.size W0 wr)
  case atStart => exact ⟨0, by omega, by omega, rfl, below_same W0⟩
  case round =>
    obtain ⟨k, rfl, hk, rfl, hb⟩ := hrel
    replace hb := hid' hb
    by_cases hlt : k < c.dicts.length
    · have hlt' : (k : Int) < (c.dicts.length : Int) := by omega
      have hmem := getD_mem hlt
      have hap : ∀ i, i < k → (c.dicts.getD i (0, [])).1 ≠ (c.dicts.getD k (0, [])).1 := fun i hik => ids_apart hc hik hlt
      have htx := hc.text _ hmem
      have hix := hi _ hmem
      rcases hdW with hdW | ⟨b, rfl, hbl, hdW⟩
      · rw [hdW] at hlt; simp at hlt
      obtain ⟨d0, d1⟩ := hdW k hlt
      have e0 := (hb.out.cell (p := ⟨b, k * 2, none⟩) hbl).trans d0
      have e1 := (hb.out.cell (p := ⟨b, k * 2 + 1, none⟩) hbl).trans d1
      have hDr := (hDW.out.only (below_only (G := fun _ => False) hb.out) (fun _ _ e => e)).take k hk
      obtain ⟨I, hI⟩ : ∃ I, I = (c.dicts.getD k (0, [])).1 := ⟨_, rfl⟩
      obtain ⟨T, hT⟩ : ∃ T, T = (c.dicts.getD k (0, [])).2 := ⟨_, rfl⟩
      rw [← hI] at e0 hap hix
      rw [← hT] at e1 htx
      have hnoI : ∀ i, i < (c.dicts.take k).length → ((c.dicts.take k).getD i (0, [])).1 ≠ I := fun i hil => by
        rw [List.length_take] at hil
        rw [List.getD_eq_getElem?_getD, List.getElem?_take, if_pos (by omega), ← List.getD_eq_getElem?_getD]
        exact hap i (by omega)
      replace hI := hid' hI
      replace hT := hid' hT
      replace hdW := hid' hdW
      replace hnoI := hid' hnoI
      replace hap := hid' hap
      have hBr := hB0.below hb.out hB0.lt
      have hb1 : Below wr.heap.size wr (wr.alloc (.cells #[.int .i64 I, .string (RD.bs T)] 65)) := (Below.refl _ wr).alloc (Nat.le_refl _) _
      have hN1 := Blk.new wr 65 [.int .i64 I, .string (RD.bs T)]
      have hB1 := hBr.alloc (.cells #[.int .i64 I, .string (RD.bs T)] 65)
      have hD1 := hDr.only (below_only (G := fun _ => False) hb1) (fun _ _ e => e)
      replace hDr := hid' hDr
      replace hmem := hid' hmem
      go_wp2_with fail
      generalize hW1 : wr.alloc (.cells #[.int .i64 I, .string (RD.bs T)] 65) = W1 at *
      replace hW1 := hid' hW1
      have hcall1 : ∀ z : WIn (Below W1.heap.size W1), Calls Tryz.prog 54 #[.agg #[.int .i64 I, .string (RD.bs T)]] z.w fun e w' => e = .returned (.bool true) ∧ ∃ z' : WIn (Below W1.heap.size W1), w' = z'.w := fun z => by
        refine (rightDict_any I T z.w hix htx).mono ?_
        rintro e w' ⟨rfl, hb'⟩
        exact ⟨rfl, ⟨w', z.ok.trans ⟨hb'.os, hb'.tape, hb'.output, hb'.size, fun k hk => hb'.block k (Nat.lt_of_lt_of_le hk z.ok.size)⟩⟩, rfl⟩
      have hcall2 : ∀ z : WIn (Below W1.heap.size W1), Calls Tryz.prog 55 #[.slice (some ⟨b, 0, none⟩) k cc, .int .i64 I] z.w fun e w' => e = .returned (.bool false) ∧ ∃ z' : WIn (Below W1.heap.size W1), w' = z'.w := fun z => by
        refine (hasID_none I _ (c.dicts.take k) z.w (hD1.only (below_only (G := fun _ => False) z.ok) (fun _ _ e => e)) (by rw [List.length_take]; omega) hnoI.out).mono ?_
        rintro e w' ⟨rfl, hb'⟩
        exact ⟨rfl, ⟨w', z.ok.trans ⟨hb'.os, hb'.tape, hb'.output, hb'.size, fun k hk => hb'.block k (Nat.lt_of_lt_of_le hk z.ok.size)⟩⟩, rfl⟩
      have hF1 : ∀ z : WIn (Below W1.heap.size W1), z.w.cell? ⟨C, 1, none⟩ = some (.slice (some ⟨b, 0, none⟩) c.dicts.length cc) := fun z => (hB1.below z.ok hB1.lt).cell (j := 1) rfl
      have hF2 : ∀ z : WIn (Below W1.heap.size W1), z.w.cell? ⟨wr.heap.size, 0, none⟩ = some (.int .i64 I) := fun z => (hN1.below z.ok hN1.lt).cell (j := 0) rfl
      have hF3 : ∀ z : WIn (Below W1.heap.size W1), z.w.cell? ⟨wr.heap.size, 1, none⟩ = some (.string (RD.bs T)) := fun z => (hN1.below z.ok hN1.lt).cell (j := 1) rfl
      have hkn : ¬ (k : Int) < 0 := by omega
      have hkc : k ≤ cc := by omega
      haveI : Nonempty (WIn (Below W1.heap.size W1)) := ⟨⟨W1, below_same W1⟩⟩
      refine wp_region_class (Below W1.heap.size W1) (by kernel_rfl) (by kernel_rfl) (below_drew (below_same W1)) ?_
      repeat (go_big_quiet_step (first | exact hcall1 _ | exact hcall2 _))
      refine wpQuiet_nil ?_
      rintro w2 ⟨⟨_, hb2⟩, rfl⟩
      have hb3 : Below W0.heap.size W0 w2 := by
        have h12 : Below wr.heap.size wr w2 := hb1.trans ⟨hb2.os, hb2.tape, hb2.output, hb2.size, fun k hk => hb2.block k (Nat.lt_of_lt_of_le hk hb1.size)⟩
        exact hb.out.trans ⟨h12.os, h12.tape, h12.output, h12.size, fun k hk => h12.block k (Nat.lt_of_lt_of_le hk hb.out.size)⟩
      replace hb3 := hid' hb3
      go_wp2_with fail
      go_roundg (c.dicts.length + 1 - (k + 1))
      case rel => exact ⟨k + 1, rfl, by omega, by go_num, hb3.out⟩
      case measure => omega
    · obtain rfl : k = c.dicts.length := by omega
      go_wp2_with fail
      go_ret
      exact ⟨rfl, hb0.trans ⟨hb.out.os, hb.out.tape, hb.out.output, hb.out.size, fun k hk => hb.out.block k (Nat.lt_of_lt_of_le hk hb0.size)⟩⟩
end Go.Proofs.YtbhemchnjpajiaaGreatDoor

/- Dictionaries that are copied (package skein): copied, walked. -/
namespace Go.Proofs.YtbhemchnjpajiaaGreatDoor
open Go.RowKit
set_option linter.unusedVariables false
set_option linter.unusedSimpArgs false

theorem own_below {w w' : World} {base : Nat} {e : TypeId} {size : Nat} {v : Value} {n : Nat} {xs : List Value} (h : w.ownsRow base e size v n xs) (hb : Below w.heap.size w w') : w'.ownsRow base e size v n xs := by
  obtain ⟨h1, h2⟩ := h
  refine ⟨h1, ?_⟩
  rcases h2 with h2 | ⟨g, cap, cur, hv, hbg, hg, r⟩
  · exact .inl h2
  · exact .inr ⟨g, cap, cur, hv, hbg, by rw [hb.block g (Array.getElem?_eq_some_iff.1 hg).1]; exact hg, r⟩
theorem infoDict : (Tryz.prog.info? 65).map (fun i => (i.zero, i.size, i.bytes)) = some (some (.agg #[.int .i64 0, .string ⟨#[]⟩]), 2, 24) := by kernel_rfl
theorem dict_new (w : World) (I : Int) (T : ByteArray) : ∀ j u, ([.int .i64 I, .string T] : List Value)[j]? = some u → (w.alloc (.cells #[.int .i64 I, .string T] 65)).cell? ((⟨w.heap.size, 0, none⟩ : Addr).add j) = some u := fun j u hu => by
  rw [Addr.add_mid, Nat.zero_add]
  exact (Blk.new w 65 [.int .i64 I, .string T]).cell hu
theorem dict_one (I : Int) (T : ByteArray) : ∀ u ∈ ([.int .i64 I, .string T] : List Value), u.oneCell' = true := by
  intro u hu
  simp only [List.mem_cons, List.not_mem_nil, or_false] at hu
  rcases hu with rfl | rfl <;> rfl
theorem dictCells_snoc (ds : List (Int × RD.Bytes)) (k : Nat) (h : k < ds.length) : dictCells (ds.take (k + 1)) = dictCells (ds.take k) ++ [.int .i64 (ds.getD k (0, [])).1, .string (RD.bs (ds.getD k (0, [])).2)] := by
  rw [List.take_succ_eq_append_getElem h, List.getD_eq_getElem?_getD, List.getElem?_eq_getElem h]
  unfold dictCells
  rw [List.flatMap_append]
  rfl
theorem step_callv {P : Program} {ops : Array Oper} {o : Oper} {a : Act} {w : World} {K : Act → World → Prop} {Q : Exit → Act → World → Prop} {E : Prop} (hgd : o.guard = none) (f : Nat) (vs : Array Value) (hrun : (execOp a.eval o).run P w = .ok (.enter f vs) w) {Post : Ending → World → Prop} (hc : Calls P f vs w Post) (hk : ∀ e w', Post e w' → ∃ v, e = .returned v ∧ K (a.put o.dst v) w') :
    if Region.wanted o (yielded ops a.tmps) = true then Oper.wp P o a w K Q else E := by
  have hw : Region.wanted o (yielded ops a.tmps) = true := by simp [Region.wanted, hgd]
  rw [if_pos hw]
  exact wp_callv f vs hrun hc hk
def CpPost (ds : List (Int × RD.Bytes)) (w : World) (e : Ending) (w' : World) : Prop := Below w.heap.size w w' ∧ ∃ v, e = .returned v ∧ w'.ownsRow w.heap.size 65 2 v ds.length (dictCells ds) ∧ ∃ a c, v = .slice a ds.length c
set_option maxRecDepth 100000 in
set_option maxHeartbeats 4000000 in
theorem copied_any (ds : List (Int × RD.Bytes)) (v : Value) (w : World) (hD : DictsAt w v ds) (hl : ds.length ≤ 4) (ht : ∀ d ∈ ds, d.2.length ≤ 256) :
    Calls Tryz.prog 40 #[v] w (CpPost ds w) := by
  obtain ⟨a, cc, rfl, hcc, hd⟩ := hD
  obtain ⟨i0, hi0, hz0, hz1, hz2⟩ := info_parts infoDict
  go_enter Tryz.func40, Tryz.ntmps40
  go_wp2_with fail
  go_loopg [3, 8] (ds.length + 1) (fun gh ov kv wr => ∃ k : Nat, gh = ds.length + 1 - k ∧ k ≤ ds.length ∧ kv = .int .i64 (k : Int) ∧ Below w.heap.size w wr ∧ wr.ownsRow w.heap.size 65 2 ov k (dictCells (ds.take k)) ∧ ∃ oa oc, ov = .slice oa k oc)
  case atStart => exact ⟨0, by omega, by omega, rfl, below_same w, World.ownsRow_nil _ _ _ _, none, 0, rfl⟩
  case round =>
    obtain ⟨k, rfl, hk, rfl, hb, hown, oa, oc, rfl⟩ := hrel
    replace hb := hid' hb
    have hwr := hb.out.size
    by_cases hlt : k < ds.length
    · have hlt' : (k : Int) < (ds.length : Int) := by omega
      rcases hd with hd | ⟨b, rfl, hbl, hd⟩
      · rw [hd] at hlt; simp at hlt
      obtain ⟨d0, d1⟩ := hd k hlt
      have e0 := (hb.out.cell (p := ⟨b, k * 2, none⟩) hbl).trans d0
      have e1 := (hb.out.cell (p := ⟨b, k * 2 + 1, none⟩) hbl).trans d1
      have hsn := dictCells_snoc ds k hlt
      have htl := ht _ (getD_mem hlt)
      obtain ⟨I, hI⟩ : ∃ I, I = (ds.getD k (0, [])).1 := ⟨_, rfl⟩
      obtain ⟨T, hT⟩ : ∃ T, T = (ds.getD k (0, [])).2 := ⟨_, rfl⟩
      rw [← hI] at e0 hsn
      rw [← hT] at e1 htl hsn
      replace hI := hid' hI
      replace hT := hid' hT
      replace hd := hid' hd
      replace hsn := hid' hsn
      have hb1 : Below wr.heap.size wr (wr.alloc (.cells #[.int .i64 I, .string (RD.bs T)] 65)) := (Below.refl _ wr).alloc (Nat.le_refl _) _
      have hN1 := Blk.new wr 65 [.int .i64 I, .string (RD.bs T)]
      have hown1 := hown.alloc (.cells #[.int .i64 I, .string (RD.bs T)] 65)
      replace hown := hid' hown
      go_wp2_with fail
      generalize hW1 : wr.alloc (.cells #[.int .i64 I, .string (RD.bs T)] 65) = W1 at *
      replace hW1 := hid' hW1
      have n0 := hN1.cell (j := 0) rfl
      have n1 := hN1.cell (j := 1) rfl
      have hcl : ∀ W : World, SameW W W1 → Calls Tryz.prog 47 #[.string (RD.bs T)] W fun e w' => e = .returned (.string (RD.bs T)) ∧ Below W1.heap.size W1 w' ∧ w'.cell? ⟨wr.heap.size, 0, none⟩ = some (.int .i64 I) ∧ w'.cell? ⟨wr.heap.size, 1, none⟩ = some (.string (RD.bs T)) := fun W hW => by
        refine (sclone_any (RD.bs T) W (by rw [RD.bs_size]; omega)).mono ?_
        rintro e w' ⟨rfl, hb'⟩
        have hb2 := hW.below hb'
        exact ⟨rfl, hb2, (hN1.below hb2 hN1.lt).cell (j := 0) rfl, (hN1.below hb2 hN1.lt).cell (j := 1) rfl⟩
      go_region_law (first | (refine step_callv rfl 47 #[.string (RD.bs T)] (by simp [execOp, resolve, invoke, go_sem, Act.eval]) (hcl _ (by exact ⟨rfl, rfl, rfl, rfl⟩)) ?_; rintro e w2 ⟨rfl, hb2, m0, m1⟩; refine ⟨_, rfl, ?_⟩) | (refine step_append_lies _ rfl (.tmp 12) (.tmp 19) 22 rfl w.heap.size 65 i0 _ 2 24 Tryz.underlying22 hi0 hz0 hz1 hz2 rfl (by decide) (.slice oa k oc) _ _ rfl (World.ownsRow.alloc (own_below hown1 hb2) _) ⟨w2.heap.size, 0, none⟩ 1 1 [.int .i64 I, .string (RD.bs T)] rfl rfl (dict_new _ _ _) (dict_one _ _) (by omega) (by unfold maxLen; omega) (by omega) (by have hq1 := hb2.size; have hq2 := hb1.size; simp; omega) _ rfl ?_; intro g cap w3 hown3 hgrow hg hlt3))
      all_goals
        have h12 : Below wr.heap.size wr w2 := hb1.trans ⟨hb2.os, hb2.tape, hb2.output, hb2.size, fun k hk => hb2.block k (Nat.lt_of_lt_of_le hk hb1.size)⟩
        have hbw : Below w.heap.size w w2 := hb.out.trans ⟨h12.os, h12.tape, h12.output, h12.size, fun k hk => h12.block k (Nat.lt_of_lt_of_le hk hb.out.size)⟩
        have hbd : Below w.heap.size w (w2.alloc (.cells #[.int .i64 I, .string (RD.bs T)] 65)) := hbw.alloc hbw.size _
        have hbel3 : Hid (Below w.heap.size w w3) := hbd.grown hgrow (by have := hbw.size; simp; omega) (fun k hk => (World.ownsRow.lt hown.out k hk).1)
        have hown3' : Hid (w3.ownsRow w.heap.size 65 2 (.slice (some ⟨g, 0, none⟩) (k + 1) cap) (k + 1) (dictCells (ds.take (k + 1)))) := by
          unfold Hid
          rw [hsn.out]
          exact hown3
        clear hgrow hown3 hg hbd
        go_wp2
        go_roundg (ds.length + 1 - (k + 1))
        case rel => exact ⟨k + 1, rfl, by omega, by go_num, hbel3.out, hown3'.out, _, _, rfl⟩
        case measure => omega
    · obtain rfl : k = ds.length := by omega
      go_wp2_with fail
      go_ret
      rw [List.take_length] at hown
      exact ⟨hb.out, _, rfl, hown, _, _, rfl⟩
end Go.Proofs.YtbhemchnjpajiaaGreatDoor

/- Several texts in one: PrRd3, PrBody, PrRd5. -/
import Derived.Test.YtbhemchnjpajiaaGreatDoorJL
/- The header of a frame, read (package frames): readHeader, walked, and held against the document's header. -/
namespace Go.Proofs.YtbhemchnjpajiaaGreatDoor
open Go.RowKit
attribute [local irreducible] setsAt
set_option linter.unusedVariables false

theorem find_fold (id : Int) : ∀ (ds : List (Int × RD.Bytes)) (d : RD.Bytes), (ds.map (·.1)).Nodup → ds.foldl (fun d x => if x.1 = id then x.2 else d) d = (firstD ds id).getD d
  | [], d, _ => rfl
  | a :: l, d, h => by
    rw [List.map_cons, List.nodup_cons] at h
    rw [List.foldl_cons, find_fold id l _ h.2]
    unfold firstD
    rw [List.find?_cons]
    by_cases e : a.1 = id
    · have e' : (a.1 == id) = true := by simpa using e
      rw [if_pos e, e']
      have hno : l.find? (fun d => d.1 == id) = none := by
        rw [List.find?_eq_none]
        intro y hy hh
        apply h.1
        have : y.1 = id := by simpa using hh
        rw [e, ← this]
        exact List.mem_map.2 ⟨y, hy, rfl⟩
      rw [hno]
      rfl
    · have e' : (a.1 == id) = false := by simpa using e
      rw [if_neg e, e']
theorem find_first {c : RD.Cfg} (hc : CfgOk c) (id : Int) : c.find id = (firstD c.dicts id).getD [] := find_fold id c.dicts [] hc.ids
theorem firstD_ne {c : RD.Cfg} (hc : CfgOk c) {id : Int} {t : RD.Bytes} (h : firstD c.dicts id = some t) : t ≠ [] ∧ t.length ≤ 256 := by
  obtain ⟨d, hd1, hd2⟩ := Option.map_eq_some_iff.1 h
  have := hc.text d (List.mem_of_find?_eq_some hd1)
  rw [hd2] at this
  exact ⟨fun e => by rw [e] at this; simp at this, this.2⟩
/-- The frame that a header tells. -/
def headFr (b : RD.Bytes) (dict : RD.Bytes) : RD.Fr := { RD.Fr.new with window := 64 * 2 ^ (RD.at' b 0 % 8), size := if RD.at' b 0 / 16 % 2 = 1 then (RD.num (b.drop (1 + RD.at' b 0 / 32 % 2)) : Nat) else -1, summed := decide (RD.at' b 0 / 8 % 2 = 1), dict := dict, last := [1, 4, 8] }
theorem header_is {c : RD.Cfg} (hc : CfgOk c) {b : RD.Bytes} (hb : b.length = hlen (RD.at' b 0)) :
    (64 ≤ RD.at' b 0 → RD.header c b = .err 4) ∧ (RD.at' b 0 < 64 → c.limit < ((64 * 2 ^ (RD.at' b 0 % 8) : Nat) : Int) → RD.header c b = .err 5) ∧
    (RD.at' b 0 < 64 → ¬ c.limit < ((64 * 2 ^ (RD.at' b 0 % 8) : Nat) : Int) → RD.at' b 0 / 32 % 2 = 1 → firstD c.dicts (RD.at' b 1) = none → RD.header c b = .err 6) ∧
    (RD.at' b 0 < 64 → ¬ c.limit < ((64 * 2 ^ (RD.at' b 0 % 8) : Nat) : Int) → ∀ dict, (RD.at' b 0 / 32 % 2 = 1 → firstD c.dicts (RD.at' b 1) = some dict) → (RD.at' b 0 / 32 % 2 = 0 → dict = []) → RD.header c b = .ok (headFr b dict, [])) := by
  have hl := hlen_le (RD.at' b 0)
  have h0 : ¬ b.length = 0 := by omega
  have hn : ¬ b.length < 1 + RD.at' b 0 / 32 % 2 + 3 * (RD.at' b 0 / 16 % 2) := by rw [hb, hlen]; omega
  have hd : b.drop (1 + RD.at' b 0 / 32 % 2 + 3 * (RD.at' b 0 / 16 % 2)) = [] := by rw [← hlen, ← hb, List.drop_length]
  refine ⟨fun h => ?_, fun h h1 => ?_, fun h h1 h2 h3 => ?_, fun h h1 dict h2 h3 => ?_⟩
  · unfold RD.header
    rw [if_neg h0]
    simp only []
    rw [if_neg hn, if_pos h]
  · unfold RD.header
    rw [if_neg h0]
    simp only []
    rw [if_neg hn, if_neg (by omega), if_pos h1]
  · unfold RD.header
    rw [if_neg h0]
    simp only []
    rw [if_neg hn, if_neg (by omega), if_neg h1, if_pos ⟨h2, by rw [find_first hc, h3]; rfl⟩]
  · have hdict : RD.at' b 0 / 32 % 2 = 1 → c.find (RD.at' b 1) = dict := fun e => by rw [find_first hc, h2 e]; rfl
    have hfin : (if RD.at' b 0 / 32 % 2 = 1 then c.find (RD.at' b 1) else []) = dict := by
      by_cases e : RD.at' b 0 / 32 % 2 = 1
      · rw [if_pos e, hdict e]
      · rw [if_neg e, h3 (by omega)]
    have hsz : (if RD.at' b 0 / 16 % 2 = 1 then ((RD.num ((b.drop (1 + RD.at' b 0 / 32 % 2 + 3 * (RD.at' b 0 / 16 % 2) - 3)).take 3) : Nat) : Int) else -1) = if RD.at' b 0 / 16 % 2 = 1 then ((RD.num (b.drop (1 + RD.at' b 0 / 32 % 2)) : Nat) : Int) else -1 := by
      by_cases e : RD.at' b 0 / 16 % 2 = 1
      · rw [if_pos e, if_pos e, e, show 1 + RD.at' b 0 / 32 % 2 + 3 * 1 - 3 = 1 + RD.at' b 0 / 32 % 2 by omega, List.take_of_length_le]
        rw [List.length_drop, hb, hlen, e]
        omega
      · rw [if_neg e, if_neg e]
    unfold RD.header
    rw [if_neg h0]
    simp only []
    rw [if_neg hn, if_neg (by omega), if_neg h1, if_neg (fun e => (firstD_ne hc (h2 e.1)).1 (by rw [← hdict e.1]; exact e.2)), hfin, hsz, hd]
    rfl
theorem sum_empty : sumCells (RD.bs []) = [.int .u32 606290984, .int .u32 2246822519, .int .u32 0, .int .u32 1640531535, .string ⟨#[]⟩, .int .u64 0] := by
  kernel_rfl

def RhPost (x : Fx) (c : RD.Cfg) (b : RD.Bytes) (S M : Nat) (ss : List Value) (w : World) (e : Ending) (w' : World) : Prop :=
  (∃ n, RD.header c b = .err n ∧ e = .returned (errV (errA x n)) ∧ Below w.heap.size w w') ∨
  ∃ dict v, RD.header c b = .ok (headFr b dict, []) ∧ dict.length ≤ 256 ∧ e = .returned .nilIface ∧
    Blk w' S 146 ((setsAt ss 8 (frCells (decide (RD.at' b 0 / 8 % 2 = 1)) (decide (RD.at' b 0 / 16 % 2 = 1)) (RD.num (b.drop (1 + RD.at' b 0 / 32 % 2)) : Nat) M (64 * 2 ^ (RD.at' b 0 % 8)) v)).set 5 (.int .i64 ((4 : Nat) : Int))) ∧ Row8 w.heap.size w' v dict ∧ Only (· = S) w w'
set_option maxRecDepth 100000 in
set_option maxHeartbeats 2000000 in
theorem readHeader_any (x : Fx) (G : Nat → Prop) (c : RD.Cfg) (hc : CfgOk c) (m : MS) (b : RD.Bytes) (S M : Nat) (ss : List Value) (v6 : Value) (w : World) (h : StrAt x G c m S ss v6 w) (hM : ss[2]? = some (.map (some M))) (hb : b.length = hlen (RD.at' b 0)) :
    Calls Tryz.prog 81 #[.pointer (some ⟨S, 0, none⟩), .string (RD.bs b)] w (RhPost x c b S M ss w) := by
  obtain ⟨dv, d1, d2, d3⟩ := h.dic
  have hp := parseHeader_any x S M 146 ss dv c.limit c.dicts b w h.blk h.lim d1 hM d2 (by have := hc.few; omega) (fun d hd => by have := (hc.text d hd).2; omega) h.vars hb
  obtain ⟨k4, k5, k6, kok⟩ := header_is hc hb
  have hB := h.blk
  have hl := h.len
  clear h d1 d2 d3 hM
  go_enter Tryz.func81, Tryz.ntmps81
  go_wp2_with fail
  refine hp.mono ?_
  rintro e w1 ⟨hb1, ⟨e1, rfl⟩ | ⟨e1, e2, rfl⟩ | ⟨e1, e2, e3, e4, rfl⟩ | ⟨e1, e2, dict, v, e3, e4, rfl, hrow⟩⟩
  · have kk := hid' (k4 e1)
    clear k4 k5 k6 kok e1
    have hN0 : Blk (w1.alloc (.cells #[.bool false, .bool false, .int .i64 0, .int .i64 0, .int .u32 0, .int .u32 0, .int .u32 0, .int .u32 0, .string ⟨#[]⟩, .int .u64 0, .pointer none, .map none, .int .i64 0, .slice none 0 0, .int .i64 0, .slice none 0 0, .int .i64 0, .slice none 0 0, .int .i64 0, .int .i64 0, .int .i64 0, .int .i64 0, .slice none 0 0] 142)) w1.heap.size 142 zeroFr := Blk.new w1 142 zeroFr
    have hb2 : Below w.heap.size w (w1.alloc (.cells #[.bool false, .bool false, .int .i64 0, .int .i64 0, .int .u32 0, .int .u32 0, .int .u32 0, .int .u32 0, .string ⟨#[]⟩, .int .u64 0, .pointer none, .map none, .int .i64 0, .slice none 0 0, .int .i64 0, .slice none 0 0, .int .i64 0, .slice none 0 0, .int .i64 0, .int .i64 0, .int .i64 0, .int .i64 0, .slice none 0 0] 142)) := hb1.alloc hb1.size _
    go_wp2_with (refine wpList_store_blk rfl 142 (.tmp 5) (.tmp 11) rfl 0 zeroFr.toArray rfl rfl hN0 (by exact Nat.le_of_eq rfl) sizeFrame zeroFr_one ?_; intro W1 hN1 hO1)
    go_ret
    have hb3 : Below w.heap.size w W1 := hb2.trans ⟨hO1.os, hO1.tape, hO1.output, hO1.size, fun k hk => hO1.block k (Nat.lt_of_lt_of_le hk hb2.size) (by have := hb1.size; omega)⟩
    exact .inl ⟨4, kk.out, rfl, hb3⟩
  · have kk := hid' (k5 e1 e2)
    clear k4 k5 k6 kok e1 e2
    have hN0 : Blk (w1.alloc (.cells #[.bool false, .bool false, .int .i64 0, .int .i64 0, .int .u32 0, .int .u32 0, .int .u32 0, .int .u32 0, .string ⟨#[]⟩, .int .u64 0, .pointer none, .map none, .int .i64 0, .slice none 0 0, .int .i64 0, .slice none 0 0, .int .i64 0, .slice none 0 0, .int .i64 0, .int .i64 0, .int .i64 0, .int .i64 0, .slice none 0 0] 142)) w1.heap.size 142 zeroFr := Blk.new w1 142 zeroFr
    have hb2 : Below w.heap.size w (w1.alloc (.cells #[.bool false, .bool false, .int .i64 0, .int .i64 0, .int .u32 0, .int .u32 0, .int .u32 0, .int .u32 0, .string ⟨#[]⟩, .int .u64 0, .pointer none, .map none, .int .i64 0, .slice none 0 0, .int .i64 0, .slice none 0 0, .int .i64 0, .slice none 0 0, .int .i64 0, .int .i64 0, .int .i64 0, .int .i64 0, .slice none 0 0] 142)) := hb1.alloc hb1.size _
    go_wp2_with (refine wpList_store_blk rfl 142 (.tmp 5) (.tmp 11) rfl 0 zeroFr.toArray rfl rfl hN0 (by exact Nat.le_of_eq rfl) sizeFrame zeroFr_one ?_; intro W1 hN1 hO1)
    go_ret
    have hb3 : Below w.heap.size w W1 := hb2.trans ⟨hO1.os, hO1.tape, hO1.output, hO1.size, fun k hk => hO1.block k (Nat.lt_of_lt_of_le hk hb2.size) (by have := hb1.size; omega)⟩
    exact .inl ⟨5, kk.out, rfl, hb3⟩
  · have kk := hid' (k6 e1 (by omega) e3 e4)
    clear k4 k5 k6 kok e1 e2 e3 e4
    have hN0 : Blk (w1.alloc (.cells #[.bool false, .bool false, .int .i64 0, .int .i64 0, .int .u32 0, .int .u32 0, .int .u32 0, .int .u32 0, .string ⟨#[]⟩, .int .u64 0, .pointer none, .map none, .int .i64 0, .slice none 0 0, .int .i64 0, .slice none 0 0, .int .i64 0, .slice none 0 0, .int .i64 0, .int .i64 0, .int .i64 0, .int .i64 0, .slice none 0 0] 142)) w1.heap.size 142 zeroFr := Blk.new w1 142 zeroFr
    have hb2 : Below w.heap.size w (w1.alloc (.cells #[.bool false, .bool false, .int .i64 0, .int .i64 0, .int .u32 0, .int .u32 0, .int .u32 0, .int .u32 0, .string ⟨#[]⟩, .int .u64 0, .pointer none, .map none, .int .i64 0, .slice none 0 0, .int .i64 0, .slice none 0 0, .int .i64 0, .slice none 0 0, .int .i64 0, .int .i64 0, .int .i64 0, .int .i64 0, .slice none 0 0] 142)) := hb1.alloc hb1.size _
    go_wp2_with (refine wpList_store_blk rfl 142 (.tmp 5) (.tmp 11) rfl 0 zeroFr.toArray rfl rfl hN0 (by exact Nat.le_of_eq rfl) sizeFrame zeroFr_one ?_; intro W1 hN1 hO1)
    go_ret
    have hb3 : Below w.heap.size w W1 := hb2.trans ⟨hO1.os, hO1.tape, hO1.output, hO1.size, fun k hk => hO1.block k (Nat.lt_of_lt_of_le hk hb2.size) (by have := hb1.size; omega)⟩
    exact .inl ⟨6, kk.out, rfl, hb3⟩
  · have kk := hid' (kok e1 (by omega) dict e3 e4)
    have hdl : Hid (dict.length ≤ 256) := by
      rw [Hid]
      by_cases e5 : RD.at' b 0 / 32 % 2 = 1
      · exact (firstD_ne hc (e3 e5)).2
      · rw [e4 (by omega)]; simp
    clear k4 k5 k6 kok e1 e2 e3 e4
    have hRh : ∀ e w', RhPost x c b S M ss w e w' ↔ RhPost x c b S M ss w e w' := fun _ _ => Iff.rfl
    obtain ⟨F, hF⟩ : ∃ F, F = frCells (decide (RD.at' b 0 / 8 % 2 = 1)) (decide (RD.at' b 0 / 16 % 2 = 1)) (RD.num (b.drop (1 + RD.at' b 0 / 32 % 2)) : Nat) M (64 * 2 ^ (RD.at' b 0 % 8)) v := ⟨_, rfl⟩
    have hFl : F.length = 23 := by rw [hF]; rfl
    have hone : F.toArray.all (·.oneCell') = true := by
      obtain ⟨aa, cc, rfl, _⟩ := hrow.form
      rw [hF]
      simp [frCells, Value.oneCell']
    rw [← hF]
    replace hF := hid' hF
    have hN0 : Blk (w1.alloc (.cells #[.bool false, .bool false, .int .i64 0, .int .i64 0, .int .u32 0, .int .u32 0, .int .u32 0, .int .u32 0, .string ⟨#[]⟩, .int .u64 0, .pointer none, .map none, .int .i64 0, .slice none 0 0, .int .i64 0, .slice none 0 0, .int .i64 0, .slice none 0 0, .int .i64 0, .int .i64 0, .int .i64 0, .int .i64 0, .slice none 0 0] 142)) w1.heap.size 142 zeroFr := Blk.new w1 142 zeroFr
    have hS0 : Blk (w1.alloc (.cells #[.bool false, .bool false, .int .i64 0, .int .i64 0, .int .u32 0, .int .u32 0, .int .u32 0, .int .u32 0, .string ⟨#[]⟩, .int .u64 0, .pointer none, .map none, .int .i64 0, .slice none 0 0, .int .i64 0, .slice none 0 0, .int .i64 0, .slice none 0 0, .int .i64 0, .int .i64 0, .int .i64 0, .int .i64 0, .slice none 0 0] 142)) S 146 ss := (hB.below hb1 hB.lt).alloc _
    have hO0 : Only (· = S) w (w1.alloc (.cells #[.bool false, .bool false, .int .i64 0, .int .i64 0, .int .u32 0, .int .u32 0, .int .u32 0, .int .u32 0, .string ⟨#[]⟩, .int .u64 0, .pointer none, .map none, .int .i64 0, .slice none 0 0, .int .i64 0, .slice none 0 0, .int .i64 0, .slice none 0 0, .int .i64 0, .int .i64 0, .int .i64 0, .int .i64 0, .slice none 0 0] 142)) := (below_only hb1).alloc _
    have hr0 : Row8 w.heap.size (w1.alloc (.cells #[.bool false, .bool false, .int .i64 0, .int .i64 0, .int .u32 0, .int .u32 0, .int .u32 0, .int .u32 0, .string ⟨#[]⟩, .int .u64 0, .pointer none, .map none, .int .i64 0, .slice none 0 0, .int .i64 0, .slice none 0 0, .int .i64 0, .slice none 0 0, .int .i64 0, .int .i64 0, .int .i64 0, .int .i64 0, .slice none 0 0] 142)) v dict := hrow.only (G := fun _ => False) (below_only ((Below.refl _ w1).alloc (Nat.le_refl _) _)) (fun _ _ e => e)
    have hsz1 := hb1.size
    have hvl : ∀ k, v.ownBlock = some k → k < w1.heap.size := fun k hk => (hrow.blk hk).2.lt
    have hSlt : S < w1.heap.size := Nat.lt_of_lt_of_le hB.lt hb1.size
    replace hSlt := hid' hSlt
    have hn0 : 0 + F.toArray.size ≤ zeroFr.length := by rw [List.size_toArray, hFl]; exact Nat.le_of_eq rfl
    have hn : 8 + F.toArray.size ≤ ss.length := by rw [hl, List.size_toArray, hFl]; omega
    have hsf : (Tryz.prog.info? 142).map (·.size) = some F.toArray.size := by rw [List.size_toArray, hFl]; exact sizeFrame
    have hsf' : (Tryz.prog.info? 142).map (·.size) = some F.length := by rw [hFl]; exact sizeFrame
    obtain ⟨z5, h51⟩ : ∃ z, (setsAt ss 8 F)[5]? = some z := get_some (by rw [setsAt_length, hl]; omega)
    have hin : ∀ j u, F[j]? = some u → (setsAt zeroFr 0 F)[0 + j]? = some u := fun j u hu => by
      rw [setsAt_in F zeroFr 0 j (by rw [hFl]; exact Nat.le_of_eq rfl) (List.getElem?_eq_some_iff.1 hu).1]; exact hu
    replace hFl := hid' hFl
    go_wp2_with (first | (refine wpList_store_blk rfl 142 (.tmp 5) (.tmp 11) rfl 0 F.toArray rfl rfl hN0 hn0 hsf hone ?_; intro W1 hN1 hO1; have hS1 := hS0.only hO1 (fun e => by have := hSlt.out; omega)) | (refine wpList_load_mid rfl 142 _ rfl w1.heap.size 0 rfl F _ (hN1.range hin) Tryz.underlying142 rfl hsf' ?_) | (refine wpList_store_blk rfl 142 _ _ rfl 8 F.toArray rfl rfl hS1 hn hsf hone ?_; intro W2 hS2 hO2; have d5 := hS2.cell h51; have fz2 := hS2.free))
    go_ret
    have hr1 := hr0.only hO1 (fun k hk e => by have := hvl k hk; omega)
    have hO01 : Only (· = S) w W1 := ⟨hO1.os.trans hO0.os, hO1.tape.trans hO0.tape, hO1.output.trans hO0.output, Nat.le_trans hO0.size hO1.size, fun k hk hn => (hO1.block k (Nat.lt_of_lt_of_le hk hO0.size) (by omega)).trans (hO0.block k hk hn)⟩
    have hr2 := hr1.only hO2 (fun k hk e => (hr1.blk hk).2.ne hS1 (by decide) e)
    have hO3 : Only (· = S) W2 (W2.setCell ⟨S, 5, none⟩ (.int .i64 ((4 : Nat) : Int))) := (Only.refl (· = S) W2).setCell ⟨S, 5, none⟩ _ (fun _ => rfl)
    refine .inr ⟨dict, v, kk.out, hdl.out, rfl, ?_, hr2.only hO3 (fun k hk e => (hr2.blk hk).2.ne hS2 (by decide) e), (hO01.trans hO2).trans hO3⟩
    rw [← hF.out]
    exact hS2.put 5 _
end Go.Proofs.YtbhemchnjpajiaaGreatDoor

/- The body of a raw block (package frames): content, add, walked. -/
namespace Go.Proofs.YtbhemchnjpajiaaGreatDoor
open Go.RowKit
set_option linter.unusedVariables false

set_option maxRecDepth 100000 in
set_option maxHeartbeats 2000000 in
theorem content_raw (S nm : Nat) (lk : Bool) (s : ByteArray) (w : World) :
    Calls Tryz.prog 97 #[.pointer (some ⟨S, 8, none⟩), .agg #[.bool lk, .int .i64 0, .int .i64 nm], .string s] w fun e w' => e = .returned (.tuple #[.string s, .nilIface]) ∧ Below w.heap.size w w' := by
  go_enter Tryz.func97, Tryz.ntmps97
  go_wp2_with fail
  go_ret2
  exact ⟨rfl, (Below.refl _ w).alloc (Nat.le_refl _) _⟩

/-- Is the size that was told against n bytes more? -/
def OverS (f : RD.Fr) (lk : Bool) (n : Nat) : Prop := 0 ≤ f.size ∧ (f.size < ((f.text.length + n : Nat) : Int) ∨ (lk = true ∧ ((f.text.length + n : Nat) : Int) ≠ f.size))
def AddPost (x : Fx) (S : Nat) (ss : List Value) (f : RD.Fr) (v : Value) (s : RD.Bytes) (lk : Bool) (w : World) (e : Ending) (w' : World) : Prop :=
  (OverS f lk s.length ∧ e = .returned (errV x.f) ∧ Below w.heap.size w w') ∨
  (¬ OverS f lk s.length ∧ e = .returned .nilIface ∧ ∃ ss' v' W8', Blk w' S 146 ss' ∧ ss'.length = 34 ∧ (∀ j, j < 8 ∨ 30 < j → ss'[j]? = ss[j]?) ∧ FrM (MS.grown f f s) ss' v' W8' w' ∧
    Only (fun k => k = S ∨ v.ownBlock = some k) w w' ∧ (v'.ownBlock = v.ownBlock ∨ ∃ k, v'.ownBlock = some k ∧ w.heap.size ≤ k))

theorem keepL_tail {d t p W8 s : RD.Bytes} {n : Nat} (h : d ++ t = p ++ W8) (hp : p = [] ∨ n ≤ W8.length) : ∃ p', d ++ (t ++ s) = p' ++ keepL n (W8 ++ s) ∧ (p' = [] ∨ n ≤ (keepL n (W8 ++ s)).length) := by
  unfold keepL
  refine ⟨p ++ (W8 ++ s).take ((W8 ++ s).length - n), ?_, ?_⟩
  · rw [List.append_assoc, List.take_append_drop, ← List.append_assoc, h, List.append_assoc]
  · by_cases hn : n ≤ (W8 ++ s).length
    · right
      rw [List.length_drop]
      omega
    · left
      rw [List.length_append] at hn
      rw [show (W8 ++ s).length - n = 0 by rw [List.length_append]; omega, List.take_zero, List.append_nil]
      rcases hp with hp | hp
      · exact hp
      · omega
theorem keepL_len (n : Nat) (l : RD.Bytes) : (keepL n l).length ≤ n := by unfold keepL; rw [List.length_drop]; omega
theorem bs_app (a b : RD.Bytes) : RD.bs (a ++ b) = RD.bs a ++ RD.bs b := (RD.bs_append a b).symm

set_option maxRecDepth 100000 in
set_option maxHeartbeats 4000000 in
theorem add_raw (x : Fx) (S : Nat) (ss : List Value) (f : RD.Fr) (v : Value) (W8 s : RD.Bytes) (lk : Bool) (w : World) (hB : Blk w S 146 ss) (hl : ss.length = 34) (hf : FrM f ss v W8 w) (hs : s.length ≤ 1024) (ht : f.text.length ≤ 1099511627776) (hV : VarsAt x w) :
    Calls Tryz.prog 98 #[.pointer (some ⟨S, 8, none⟩), .string (RD.bs s), .bool lk] w (AddPost x S ss f v s lk w) := by
  obtain ⟨n, hn1, hn2, hn3⟩ := hf.size
  have c8 := hB.cell hf.summed
  have c9 := hB.cell hf.sized
  have c10 := hB.cell hn1
  have c11 := hB.cell hf.len
  have fz := hB.free
  have cF := hV.cF
  have hz := RD.bs_size s
  obtain ⟨T, hT⟩ : ∃ T, T = f.text.length := ⟨_, rfl⟩
  obtain ⟨L, hL⟩ : ∃ L, L = T + s.length := ⟨_, rfl⟩
  rw [← hT] at c11
  have hLi : (T : Int) + (s.length : Int) = (L : Int) := by omega
  have hLb : L ≤ 2199023255552 := by omega
  obtain ⟨zd, hzd⟩ : ∃ zd, zd = decide (0 ≤ f.size) := ⟨_, rfl⟩
  rw [← hzd] at c9
  have hO1 : Only (· = S) w (w.setCell ⟨S, 11, none⟩ (.int .i64 (L : Int))) := (Only.refl (· = S) w).setCell ⟨S, 11, none⟩ _ (fun _ => rfl)
  have hB1 := hB.put 11 (.int .i64 (L : Int))
  have hf0 := hid' hf
  replace hL := hid' hL
  replace hT := hid' hT
  have hlen1 : (ss.set 11 (.int .i64 (L : Int))).length = 34 := by rw [List.length_set]; exact hl
  have hV1 : VarsAt x w := hV
  have hR1 : Row8 0 (w.setCell ⟨S, 11, none⟩ (.int .i64 (L : Int))) v W8 := hf.row.only hO1 (fun k hk e => hf.ne hB hk e)
  have hwa := winAdd_any 0 S 29 146 (ss.set 11 (.int .i64 (L : Int))) f.window v W8 s (w.setCell ⟨S, 11, none⟩ (.int .i64 (L : Int))) hB1 (by rw [set_ne' (by omega)]; exact hf.win) (by rw [set_ne' (by omega)]; exact hf.bytes) hR1 hf.small.1 (by omega) hf.small.2 (Nat.zero_le _) (by decide)
  by_cases hov : OverS f lk s.length
  · have h9 : zd = true := by rw [hzd]; simpa using hov.1
    have hn := hn2 hov.1
    replace hzd := hid' hzd
    rw [h9] at c9
    have hov' := hid' hov
    have hcond : (n : Int) < (L : Int) ∨ (¬ (n : Int) < (L : Int) ∧ lk = true ∧ ((L : Int) != (n : Int)) = true) := by
      have h1 := hov.2
      rw [← hT.out, show ((T + s.length : Nat) : Int) = (L : Int) by omega, ← hn] at h1
      rcases h1 with h1 | ⟨h1, h2⟩
      · exact .inl h1
      · by_cases h3 : (n : Int) < (L : Int)
        · exact .inl h3
        · exact .inr ⟨h3, h1, by simpa using h2⟩
    clear hwa hR1 hO1 hB1 hlen1 hn2 hf
    go_enter Tryz.func98, Tryz.ntmps98
    replace hn := hid' hn
    rcases hcond with h1 | ⟨h1, rfl, h2⟩
    · go_wp2_with fail
      go_ret
      exact .inl ⟨hov'.out, rfl, below_same w⟩
    · go_wp2_with fail
      go_ret
      exact .inl ⟨hov'.out, rfl, below_same w⟩
  · have hov' := hid' hov
    have hcond : zd = false ∨ (zd = true ∧ ¬ (n : Int) < (L : Int) ∧ (lk = false ∨ (lk = true ∧ ((L : Int) != (n : Int)) = false))) := by
      by_cases h0 : 0 ≤ f.size
      · have hn := hn2 h0
        refine .inr ⟨by rw [hzd]; simpa using h0, ?_⟩
        have h1 : ¬ (f.size < ((f.text.length + s.length : Nat) : Int) ∨ (lk = true ∧ ((f.text.length + s.length : Nat) : Int) ≠ f.size)) := fun e => hov ⟨h0, e⟩
        rw [← hT.out, show ((T + s.length : Nat) : Int) = (L : Int) by omega, ← hn] at h1
        refine ⟨fun e => h1 (.inl e), ?_⟩
        cases hlk : lk with
        | false => exact .inl rfl
        | true =>
          refine .inr ⟨rfl, ?_⟩
          have : (L : Int) = (n : Int) := by
            by_cases e : (L : Int) = (n : Int)
            · exact e
            · exact absurd (.inr ⟨hlk, e⟩) h1
          simpa using this
      · left
        rw [hzd]
        simpa using h0
    replace hzd := hid' hzd
    clear hov hn2
    obtain ⟨sm, hsm⟩ : ∃ sm, sm = f.summed := ⟨_, rfl⟩
    rw [← hsm] at c8
    have hsum0 := hf.sum
    have h8 := hf.summed
    rw [← hsm] at hsum0 h8
    replace hsm := hid' hsm
    replace hsum0 := hid' hsum0
    replace hf := hid' hf
    have hwin := hf0.out.win
    have hsz0 := hn1
    -- what is known behind the window's turn
    have hfin : ∀ (v2 : Value) (w2 : World), Blk w2 S 146 ((ss.set 11 (.int .i64 (L : Int))).set 30 v2) → Row8 0 w2 v2 (keepL f.window (W8 ++ s)) → ∀ (ss3 : List Value) (w3 : World), Blk w3 S 146 ss3 → ss3.length = 34 → (∀ j, j < 12 ∨ 18 ≤ j → ss3[j]? = ((ss.set 11 (.int .i64 (L : Int))).set 30 v2)[j]?) → (f.summed = true → ∀ j, j < 6 → ss3[12 + j]? = (sumCells (RD.bs (f.text ++ s)))[j]?) → Only (· = S) w2 w3 →
        (∀ j, j < 8 ∨ 30 < j → ss3[j]? = ss[j]?) ∧ FrM (MS.grown f f s) ss3 v2 (keepL f.window (W8 ++ s)) w3 := by
      intro v2 w2 b1 b2 ss3 w3 b3 b4 b5 b6 b7
      have hl2 : (ss.set 11 (.int .i64 (L : Int))).length = 34 := hlen1
      have hne : ∀ j, j ≠ 11 → j ≠ 30 → (j < 12 ∨ 18 ≤ j) → ss3[j]? = ss[j]? := fun j h1 h2 h3 => by rw [b5 j h3, set_ne' (by omega), set_ne' (by omega)]
      refine ⟨fun j hj => hne j (by omega) (by omega) (by omega), ?_⟩
      have F := hf0.out
      obtain ⟨n', g1, g2, g3⟩ := F.size
      refine ⟨by rw [hne 8 (by omega) (by omega) (by omega)]; exact F.summed, by rw [hne 9 (by omega) (by omega) (by omega)]; exact F.sized, ⟨n', by rw [hne 10 (by omega) (by omega) (by omega)]; exact g1, g2, g3⟩, ?_, b6, by rw [hne 29 (by omega) (by omega) (by omega)]; exact F.win, ?_, b2.only b7 (fun k hk e => (b2.blk hk).2.ne b1 (by decide) e), ?_, ?_, F.small.2⟩
      · rw [b5 11 (by omega), set_ne' (by omega), set_eq' hl (by omega)]
        show some (Value.int .i64 (L : Int)) = some (.int .i64 ((f.text ++ s).length : Nat))
        rw [List.length_append, ← hT.out, ← hL.out]
      · rw [b5 30 (by omega), set_eq' hl2 (by omega)]
      · obtain ⟨p, h1, h2⟩ := F.tail
        exact keepL_tail h1 h2
      · have := keepL_len f.window (W8 ++ s)
        have := F.small.2.2
        omega
    replace hfin := hid' hfin
    have hgo : ∀ (lk' : Bool), lk' = lk → bodyPost Tryz.prog Tryz.f98 (AddPost x S ss f v s lk w) = bodyPost Tryz.prog Tryz.f98 (AddPost x S ss f v s lk w) := fun _ _ => rfl
    clear hgo
    go_enter Tryz.func98, Tryz.ntmps98
    rcases hcond with rfl | ⟨rfl, h1, rfl | ⟨rfl, h2⟩⟩
    all_goals
      go_wp2_with fail
      refine hwa.mono ?_
      rintro e w2 ⟨rfl, v2, hR2, hB2, hO2, hat2⟩
      have d8 := hB2.cell (j := 8) (v := .bool sm) (by rw [set_ne' (by omega), set_ne' (by omega)]; exact h8)
      have hO12 : Only (fun k => k = S ∨ v.ownBlock = some k) w w2 := (hO1.weaken (fun _ _ e => .inl e)).trans hO2
      have hat : v2.ownBlock = v.ownBlock ∨ ∃ k, v2.ownBlock = some k ∧ w.heap.size ≤ k := by
        rcases hat2 with e | ⟨k, e1, e2⟩
        · exact .inl e
        · exact .inr ⟨k, e1, by simpa using e2⟩
      cases sm with
      | false =>
        go_wp2_with fail
        go_ret
        have hns : ¬ f.summed = true := by rw [← hsm.out]; simp
        obtain ⟨z1, z2⟩ := hfin.out v2 w2 hB2 hR2 _ w2 hB2 (by rw [List.length_set]; exact hlen1) (fun _ _ => rfl) (fun e => absurd e hns) (Only.refl _ _)
        exact .inr ⟨hov'.out, rfl, _, v2, _, hB2, by rw [List.length_set]; exact hlen1, z1, z2, hO12, hat⟩
      | true =>
        have hl2 : ((ss.set 11 (.int .i64 (L : Int))).set 30 v2).length = 34 := by rw [List.length_set]; exact hlen1
        obtain ⟨q1, q2⟩ := parted (cs := sumCells (RD.bs f.text)) hl2 (sumCells_length _) (fun j hj => by rw [set_ne' (by omega), set_ne' (by omega)]; exact hsum0.out rfl j hj)
        have hadd := add_any (RD.bs f.text) (RD.bs s) S 146 (((ss.set 11 (.int .i64 (L : Int))).set 30 v2).take 12) (((ss.set 11 (.int .i64 (L : Int))).set 30 v2).drop 18) w2 (by rw [← q1]; exact hB2) (by rw [RD.bs_size, RD.bs_size]; omega)
        rw [q2] at hadd
        replace q1 := hid' q1
        replace q2 := hid' q2
        go_wp2_with fail
        refine hadd.mono ?_
        rintro e w3 ⟨rfl, hB3, hO3⟩
        go_wp2_with fail
        go_ret
        obtain ⟨u1, u2, u3⟩ := unparted (cs := sumCells (RD.bs f.text ++ RD.bs s)) (post := []) hl2 (sumCells_length _) _ rfl
        obtain ⟨z1, z2⟩ := hfin.out v2 w2 hB2 hR2 _ w3 hB3 u3 u2 (fun _ j hj => by rw [bs_app]; exact u1 j hj) hO3
        exact .inr ⟨hov'.out, rfl, _, v2, _, hB3, u3, z1, z2, hO12.trans (hO3.weaken (fun _ _ e => .inl e)), hat⟩
end Go.Proofs.YtbhemchnjpajiaaGreatDoor

/- The units that are left (package frames): read at a header and at the body of a raw block, walked; read at whatever unit. -/
namespace Go.Proofs.YtbhemchnjpajiaaGreatDoor
open Go.RowKit
attribute [local irreducible] setsAt
set_option linter.unusedVariables false

/-- A stream carried along, whatever turned in its own blocks. -/
theorem StrAt.over {x : Fx} {G G' K : Nat → Prop} {c : RD.Cfg} {m m' : MS} {S : Nat} {ss ss' : List Value} {v6 v6' : Value} {w w' : World} (h : StrAt x G c m S ss v6 w) (hb : Blk w' S 146 ss') (hO : Only K w w') (hK : ∀ k, k < w.heap.size → K k → G k)
    (g1 : ∀ k, G k → G' k) (g2 : ∀ k, G' k → G k ∨ w.heap.size ≤ k) (hl : ss'.length = 34)
    (k0 : ∀ j, j < 3 → ss'[j]? = ss[j]?) (k3 : ss'[3]? = some (.int .i64 (m'.fr : Nat))) (k4 : ss'[4]? = some (.int .i64 (m'.f.blocks : Nat))) (k5 : ss'[5]? = some (.int .i64 (m'.nx : Nat))) (k6 : ss'[6]? = some v6') (hrow : Row8 0 w' v6' m'.bg) (hv6 : ∀ k, v6'.ownBlock = some k → G' k) (k7 : ss'[7]? = some (.int .i64 (m'.lf : Nat)))
    (k31 : ss'[31]? = some (.bool m'.lk)) (k32 : ss'[32]? = some (.int .i64 (m'.kd : Nat))) (k33 : ss'[33]? = some (.int .i64 (m'.nm : Nat))) (h7 : m'.nx < 7) (hn : m'.nm ≤ 1024 ∧ m'.lf ≤ 1099511627776 ∧ m'.bg.length ≤ 1048576) (he : m'.nx < 4 → m'.f.blocks = 0)
    (hf : 4 ≤ m'.nx → ∃ v W8, FrM m'.f ss' v W8 w' ∧ (∀ k, v.ownBlock = some k → G' k ∧ v6'.ownBlock ≠ some k) ∧ (m'.nx = 6 → m'.f.summed = true)) : StrAt x G' c m' S ss' v6' w' := by
  obtain ⟨v, d1, d2, d3⟩ := h.dic
  obtain ⟨M, hM⟩ := h.tabs
  have hO' : Only (fun k => k < w.heap.size ∧ K k) w w' := ⟨hO.os, hO.tape, hO.output, hO.size, fun k hk hn => hO.block k hk (fun e => hn ⟨hk, e⟩)⟩
  refine ⟨hb, hl, by rw [k0 0 (by omega)]; exact h.lim, ⟨v, by rw [k0 1 (by omega)]; exact d1, d2.only hO' (fun k hk e => (d3 k hk).1 (hK k e.1 e.2)), fun k hk => ⟨fun e => ?_, (d3 k hk).2⟩⟩, ⟨M, by rw [k0 2 (by omega)]; exact hM⟩, k3, k4, k5, k6, hrow, k7, k31, k32, k33, h7, hn, ⟨g1 S h.inG.1, hv6⟩, h.vars.only hO' (fun k e => h.base k (hK k e.1 e.2)), fun k hk => ?_, he, hf⟩
  · rcases g2 k e with e | e
    · exact (d3 k hk).1 e
    · have := (d3 k hk).2; have := h.blk.lt; omega
  · rcases g2 k hk with e | e
    · exact h.base k e
    · exact Nat.le_trans h.vars.size e

theorem num_lt3 (l : RD.Bytes) (h : l.length ≤ 3) : RD.num l ≤ 16777216 := by
  have h1 := RD.num_lt l
  have h2 : 256 ^ l.length ≤ 256 ^ 3 := Nat.pow_le_pow_right (by omega) h
  omega
theorem headFr_at {b dict : RD.Bytes} {M : Nat} {ss : List Value} {v : Value} {w : World} (hl : ss.length = 34) (hb : b.length = hlen (RD.at' b 0)) (hd : dict.length ≤ 256) (hr : Row8 0 w v dict) :
    FrM (headFr b dict) ((setsAt ss 8 (frCells (decide (RD.at' b 0 / 8 % 2 = 1)) (decide (RD.at' b 0 / 16 % 2 = 1)) (RD.num (b.drop (1 + RD.at' b 0 / 32 % 2)) : Nat) M (64 * 2 ^ (RD.at' b 0 % 8)) v)).set 5 (.int .i64 ((4 : Nat) : Int))) v dict w := by
  have hin : ∀ j, j < 23 → ((setsAt ss 8 (frCells (decide (RD.at' b 0 / 8 % 2 = 1)) (decide (RD.at' b 0 / 16 % 2 = 1)) (RD.num (b.drop (1 + RD.at' b 0 / 32 % 2)) : Nat) M (64 * 2 ^ (RD.at' b 0 % 8)) v)).set 5 (.int .i64 ((4 : Nat) : Int)))[8 + j]? = (frCells (decide (RD.at' b 0 / 8 % 2 = 1)) (decide (RD.at' b 0 / 16 % 2 = 1)) (RD.num (b.drop (1 + RD.at' b 0 / 32 % 2)) : Nat) M (64 * 2 ^ (RD.at' b 0 % 8)) v)[j]? := fun j hj => by
    rw [set_ne' (by omega)]
    exact setsAt_in _ ss 8 j (by rw [hl]; exact (by decide : 8 + 23 ≤ 34)) hj
  have hw := win_pow (RD.at' b 0 % 8) (by omega)
  refine ⟨hin 0 (by omega), ?_, ⟨RD.num (b.drop (1 + RD.at' b 0 / 32 % 2)), hin 2 (by omega), fun e => ?_, ?_⟩, hin 3 (by omega), fun _ j hj => ?_, hin 21 (by omega), hin 22 (by omega), hr, ⟨[], by show dict ++ [] = [] ++ dict; simp, .inl rfl⟩, ⟨by omega, by show 0 < 64 * 2 ^ (RD.at' b 0 % 8); omega, by show 64 * 2 ^ (RD.at' b 0 % 8) ≤ 1048576; omega⟩⟩
  · rw [hin 1 (by omega)]
    show some (Value.bool (decide (RD.at' b 0 / 16 % 2 = 1))) = some (.bool (decide (0 ≤ (if RD.at' b 0 / 16 % 2 = 1 then ((RD.num (b.drop (1 + RD.at' b 0 / 32 % 2)) : Nat) : Int) else -1))))
    by_cases e : RD.at' b 0 / 16 % 2 = 1
    · simp [e]
    · simp [e]
  · have e' : (0 : Int) ≤ (if RD.at' b 0 / 16 % 2 = 1 then ((RD.num (b.drop (1 + RD.at' b 0 / 32 % 2)) : Nat) : Int) else -1) := e
    show _ = (if RD.at' b 0 / 16 % 2 = 1 then ((RD.num (b.drop (1 + RD.at' b 0 / 32 % 2)) : Nat) : Int) else -1)
    by_cases e2 : RD.at' b 0 / 16 % 2 = 1
    · rw [if_pos e2]
    · rw [if_neg e2] at e'; omega
  · refine num_lt3 _ ?_
    rw [List.length_drop, hb, hlen]
    omega
  · rw [show 12 + j = 8 + (4 + j) by omega, hin (4 + j) (by omega)]
    show _ = (sumCells (RD.bs []))[j]?
    rw [sum_empty]
    rcases (by omega : j = 0 ∨ j = 1 ∨ j = 2 ∨ j = 3 ∨ j = 4 ∨ j = 5) with rfl | rfl | rfl | rfl | rfl | rfl <;> rfl

set_option maxRecDepth 100000 in
set_option maxHeartbeats 2000000 in
theorem read_3 (x : Fx) (G : Nat → Prop) (c : RD.Cfg) (hc : CfgOk c) (m : MS) (b : RD.Bytes) (S : Nat) (ss : List Value) (v6 : Value) (w : World) (h : StrAt x G c m S ss v6 w) (h0 : m.nx = 3) (hb : b.length = hlen (RD.at' b 0)) :
    Calls Tryz.prog 58 #[.pointer (some ⟨S, 0, none⟩), .string (RD.bs b)] w (RdPost x G c m b S v6 w) := by
  have c5 := h.blk.cell h.nx
  obtain ⟨M, hM⟩ := h.tabs
  have hp := readHeader_any x G c hc m b S M ss v6 w h hM hb
  rw [h0] at c5
  have hu : m.unit c b = match RD.header c b with
    | .ok r => .ok { m with nx := 4, f := r.1 } []
    | .err e => .err e
    | .wants => .err 0 := by unfold MS.unit; rw [if_neg (by omega), if_neg (by omega), if_neg (by omega), if_pos h0]; cases RD.header c b <;> rfl
  have hbl0 : m.f.blocks = 0 := h.early (by omega)
  replace hu := hid' hu
  replace h0 := hid' h0
  replace hbl0 := hid' hbl0
  replace hb := hid' hb
  replace hM := hid' hM
  go_enter Tryz.func58, Tryz.ntmps58
  go_wp2_with fail
  refine hp.mono ?_
  rintro e w1 (⟨n, hn, rfl, hbl⟩ | ⟨dict, v, hok, hdl, rfl, hB, hr, hO⟩)
  · replace hn := hid' hn
    go_wp2_with fail
    go_ret2
    exact RdPost.bad (n := n) h (by rw [hu.out, hn.out]) hbl
  · replace hok := hid' hok
    go_wp2_with fail
    go_ret2
    refine ⟨hO.weaken (fun k _ e => e ▸ h.inG.1), ?_⟩
    rw [hu.out, hok.out]
    refine ⟨rfl, fun k => G k ∨ v.ownBlock = some k, _, h.over (m' := { m with nx := 4, f := headFr b dict }) hB hO (fun k _ e => e ▸ h.inG.1) (fun k hk => .inl hk) (fun k hk => ?_) (by rw [List.length_set, setsAt_length]; exact h.len) (fun j hj => by rw [set_ne' (by omega), setsAt_out _ _ _ _ (by omega)]) (by rw [set_ne' (by omega), setsAt_out _ _ _ _ (by omega)]; exact h.fr) ?_ (set_eq' (by rw [setsAt_length]; exact h.len) (by omega)) (by rw [set_ne' (by omega), setsAt_out _ _ _ _ (by omega)]; exact h.bg) (h.row.only hO (fun k hk e => h.ne hk e)) (fun k hk => .inl (h.inG.2 k hk)) (by rw [set_ne' (by omega), setsAt_out _ _ _ _ (by omega)]; exact h.lf)
      (by rw [set_ne' (by omega), setsAt_out _ _ _ _ (by show 31 < 8 ∨ 8 + 23 ≤ 31; omega)]; exact h.lk) (by rw [set_ne' (by omega), setsAt_out _ _ _ _ (by show 32 < 8 ∨ 8 + 23 ≤ 32; omega)]; exact h.kd) (by rw [set_ne' (by omega), setsAt_out _ _ _ _ (by show 33 < 8 ∨ 8 + 23 ≤ 33; omega)]; exact h.nm) (by show 4 < 7; omega) h.nmb (fun e => by have : 4 < 4 := e; omega) (fun _ => ⟨v, dict, headFr_at h.len hb.out hdl (hr.base (Nat.zero_le _)), fun k hk => ⟨.inr hk, fun e => ?_⟩, fun e => by cases e⟩), fun k hk => ?_⟩
    · rcases hk with hk | hk
      · exact .inl hk
      · exact .inr (hr.blk hk).1
    · rw [set_ne' (by omega), setsAt_out _ _ _ _ (by omega)]
      have := h.bl
      rw [hbl0.out] at this
      exact this
    · have h1 := (hr.blk hk).1
      have h2 := (h.row.blk e).2.lt
      omega
    · rcases hk with hk | hk
      · exact .inl hk
      · exact .inr (hr.blk hk).1

theorem over_iff {f : RD.Fr} {lk : Bool} {n : Nat} (h : n ≤ 1024) : Over f lk n ↔ OverS f lk n := by
  unfold Over OverS
  constructor
  · rintro (e | e)
    · omega
    · exact e
  · exact .inr
set_option maxRecDepth 100000 in
set_option maxHeartbeats 4000000 in
theorem readBody_any (x : Fx) (G : Nat → Prop) (c : RD.Cfg) (m : MS) (b : RD.Bytes) (S : Nat) (ss : List Value) (v6 : Value) (w : World) (h : StrAt x G c m S ss v6 w) (h0 : m.nx = 5) (hkd : m.kd = 0) (hb : b.length = m.nm) (hf : m.fr ≤ 1099511627776) (hbk : m.f.blocks ≤ 1099511627776) (ht : m.f.text.length ≤ 1099511627776) :
    Calls Tryz.prog 83 #[.pointer (some ⟨S, 0, none⟩), .string (RD.bs b)] w (RdPost x G c m b S v6 w) := by
  obtain ⟨v, W8, g1, g2, -⟩ := h.frame (by omega)
  have hnm := h.nmb.1
  have hu : m.unit c b = if Over m.f m.lk b.length then .err 4 else .ok (m.behind (MS.grown m.f m.f b)) b := by
    unfold MS.unit
    rw [if_neg (by omega), if_neg (by omega), if_neg (by omega), if_neg (by omega), if_neg (by omega), if_pos h0, hkd]
    rfl
  have hoi := hid' (over_iff (f := m.f) (lk := m.lk) (n := b.length) (by omega))
  have c31 := h.blk.cell h.lk
  have c32 := h.blk.cell h.kd
  have c33 := h.blk.cell h.nm
  rw [hkd] at c32
  have hadd : ∀ W : World, Below w.heap.size w W → Calls Tryz.prog 98 #[.pointer (some ⟨S, 8, none⟩), .string (RD.bs b), .bool m.lk] W (AddPost x S ss m.f v b m.lk W) := fun W hW =>
    add_raw x S ss m.f v W8 b m.lk W (h.blk.below hW h.blk.lt) h.len (g1.turn (fun _ _ _ => rfl) (below_only (G := fun _ => False) hW) (fun _ _ e => e)) (by omega) ht (h.vars.below hW)
  have hcr := content_raw S m.nm m.lk (RD.bs b)
  obtain ⟨LK, hLK⟩ : ∃ LK, LK = m.lk := ⟨_, rfl⟩
  rw [← hLK] at c31 hadd hcr
  replace hLK := hid' hLK
  replace hu := hid' hu
  replace h0 := hid' h0
  replace hkd := hid' hkd
  replace g1 := hid' g1
  replace g2 := hid' g2
  go_enter Tryz.func83, Tryz.ntmps83
  go_wp2_with fail
  have hcall : ∀ z : WIn (Below w.heap.size w), Calls Tryz.prog 97 #[.pointer (some ⟨S, 8, none⟩), .agg #[.bool LK, .int .i64 0, .int .i64 m.nm], .string (RD.bs b)] z.w fun e w' => e = .returned (.tuple #[.string (RD.bs b), .nilIface]) ∧ ∃ z' : WIn (Below w.heap.size w), w' = z'.w := fun z => by
    refine (hcr z.w).mono ?_
    rintro e w' ⟨rfl, hb'⟩
    exact ⟨rfl, ⟨w', z.ok.trans ⟨hb'.os, hb'.tape, hb'.output, hb'.size, fun k hk => hb'.block k (Nat.lt_of_lt_of_le hk z.ok.size)⟩⟩, rfl⟩
  have hF31 : ∀ z : WIn (Below w.heap.size w), z.w.cell? ⟨S, 31, none⟩ = some (.bool LK) := fun z => by rw [hLK.out]; exact (h.blk.below z.ok h.blk.lt).cell h.lk
  have hF32 : ∀ z : WIn (Below w.heap.size w), z.w.cell? ⟨S, 32, none⟩ = some (.int .i64 0) := fun z => by
    have := (h.blk.below z.ok h.blk.lt).cell h.kd
    rw [hkd.out] at this
    exact this
  have hF33 : ∀ z : WIn (Below w.heap.size w), z.w.cell? ⟨S, 33, none⟩ = some (.int .i64 (m.nm : Nat)) := fun z => (h.blk.below z.ok h.blk.lt).cell h.nm
  haveI : Nonempty (WIn (Below w.heap.size w)) := ⟨⟨w, below_same w⟩⟩
  refine wp_region_class (Below w.heap.size w) (by kernel_rfl) (by kernel_rfl) (below_drew (below_same w)) ?_
  repeat (go_big_quiet_step (exact hcall _))
  refine wpQuiet_nil ?_
  rintro w2 ⟨⟨_, hb2⟩, rfl⟩
  have hS2 := h.blk.below hb2 h.blk.lt
  have e31 : w2.cell? ⟨S, 31, none⟩ = some (.bool LK) := by rw [hLK.out]; exact hS2.cell h.lk
  have haddS : ∀ W : World, SameW W w2 → Calls Tryz.prog 98 #[.pointer (some ⟨S, 8, none⟩), .string (RD.bs b), .bool LK] W (AddPost x S ss m.f v b m.lk w2) := fun W hW => by
    refine (hadd W ⟨hW.2.1.trans hb2.os, hW.2.2.1.trans hb2.tape, hW.2.2.2.trans hb2.output, by rw [hW.1]; exact hb2.size, fun k hk => by rw [hW.1]; exact hb2.block k hk⟩).mono ?_
    rw [hLK.out]
    rintro e w' (⟨h1, h2, h3⟩ | ⟨h1, h2, ss', v', W8', h3, h4, h5, h6, h7, h8⟩)
    · exact .inl ⟨h1, h2, hW.below h3⟩
    · refine .inr ⟨h1, h2, ss', v', W8', h3, h4, h5, h6, hW.only h7, ?_⟩
      rw [hW.1] at h8
      exact h8
  clear hadd hcr hcall hF31 hF32 hF33
  by_cases hov : OverS m.f m.lk b.length
  · have hbad : ∀ W : World, SameW W w2 → Calls Tryz.prog 98 #[.pointer (some ⟨S, 8, none⟩), .string (RD.bs b), .bool LK] W fun e w' => e = .returned (errV x.f) ∧ Below w2.heap.size w2 w' := fun W hW => by
      refine (haddS W hW).mono ?_
      rintro e w' (⟨h1, h2, h3⟩ | ⟨h1, h2⟩)
      · exact ⟨h2, h3⟩
      · exact absurd hov h1
    clear haddS
    replace hov := hid' hov
    go_wp2_with fail
    go_region_with (go_at_call 98; refine (hbad _ (by exact ⟨rfl, rfl, rfl, rfl⟩)).mono ?_; rintro e w3 ⟨rfl, hb3⟩)
    go_wp2_with fail
    go_ret2
    have hb23 : Below w.heap.size w w3 := hb2.trans ⟨hb3.os, hb3.tape, hb3.output, hb3.size, fun k hk => hb3.block k (Nat.lt_of_lt_of_le hk hb2.size)⟩
    exact RdPost.bad (n := 4) h (by rw [hu.out, if_pos (hoi.out.2 hov.out)]) hb23
  · have hgood : ∀ W : World, SameW W w2 → Calls Tryz.prog 98 #[.pointer (some ⟨S, 8, none⟩), .string (RD.bs b), .bool LK] W fun e w' => e = .returned .nilIface ∧ ∃ ss' v' W8', Blk w' S 146 ss' ∧ ss'.length = 34 ∧ (∀ j, j < 8 ∨ 30 < j → ss'[j]? = ss[j]?) ∧ FrM (MS.grown m.f m.f b) ss' v' W8' w' ∧
        Only (fun k => k = S ∨ v.ownBlock = some k) w2 w' ∧ (v'.ownBlock = v.ownBlock ∨ ∃ k, v'.ownBlock = some k ∧ w2.heap.size ≤ k) := fun W hW => by
      refine (haddS W hW).mono ?_
      rintro e w' (⟨h1, h2, h3⟩ | ⟨h1, h2, h3⟩)
      · exact absurd h1 hov
      · exact ⟨h2, h3⟩
    clear haddS
    replace hov := hid' hov
    go_wp2_with fail
    go_region_with (go_at_call 98; refine (hgood _ (by exact ⟨rfl, rfl, rfl, rfl⟩)).mono ?_; rintro e w3 ⟨rfl, ss2, v2, W82, hB3, hl3, hs3, hF3, hO3, hat3⟩)
    have hO23 : Only (fun k => k = S ∨ v.ownBlock = some k) w w3 := (below_only hb2).trans hO3
    have hKG : ∀ k, k < w.heap.size → (k = S ∨ v.ownBlock = some k) → G k := fun k _ e => by
      rcases e with rfl | e
      · exact h.inG.1
      · exact (g2.out k e).1
    have hv2 : ∀ k, v2.ownBlock = some k → (G k ∨ v2.ownBlock = some k) ∧ v6.ownBlock ≠ some k := fun k hk => by
      refine ⟨.inr hk, fun e => ?_⟩
      rcases hat3 with h1 | ⟨k', h1, h2⟩
      · exact (g2.out k (h1.symm.trans hk)).2 e
      · rw [h1] at hk
        injection hk with hk
        have h3 := (h.row.blk e).2.lt
        have h4 := hb2.size
        omega
    have hG2 : ∀ k, (G k ∨ v2.ownBlock = some k) → G k ∨ w.heap.size ≤ k := fun k hk => by
      rcases hk with hk | hk
      · exact .inl hk
      · rcases hat3 with h1 | ⟨k', h1, h2⟩
        · exact .inl (g2.out k (h1.symm.trans hk)).1
        · rw [h1] at hk
          injection hk with hk
          have h4 := hb2.size
          exact .inr (by omega)
    have hv6 : ∀ W, Only (fun k => k = S ∨ v.ownBlock = some k) w W → Row8 0 W v6 m.bg := fun W hW => h.row.only hW (fun k hk e => by
      rcases e with e | e
      · exact h.ne hk e
      · exact (g2.out k e).2 hk)
    have hn2 : ∀ k, v2.ownBlock = some k → k ≠ S := fun k hk => hF3.ne hB3 hk
    -- the stream behind the block, wherever it goes on
    have hgoes : ∀ (n : Nat) (ss4 : List Value) (w4 : World), Blk w4 S 146 ss4 → Only (· = S) w3 w4 → ss4.length = 34 → (∀ j, j ≠ 4 → j ≠ 5 → ss4[j]? = ss2[j]?) → ss4[4]? = some (.int .i64 ((m.f.blocks + 1 : Nat) : Int)) → ss4[5]? = some (.int .i64 (n : Nat)) → n < 7 → 4 ≤ n → (n = 6 → m.f.summed = true) →
        StrAt x (fun k => G k ∨ v2.ownBlock = some k) c { m with nx := n, f := MS.grown m.f m.f b } S ss4 v6 w4 := by
      intro n ss4 w4 b1 b2 b3 b4 b5 b6 b7 b8 b9
      have hk : ∀ j, j ≠ 4 → j ≠ 5 → (j < 8 ∨ 30 < j) → ss4[j]? = ss[j]? := fun j h1 h2 h3 => by rw [b4 j h1 h2, hs3 j h3]
      have hO4 : Only (fun k => k = S ∨ v.ownBlock = some k) w w4 := hO23.trans (b2.weaken (fun _ _ e => .inl e))
      exact h.over (m' := { m with nx := n, f := MS.grown m.f m.f b }) b1 hO4 hKG (fun k hk => .inl hk) hG2 b3 (fun j hj => hk j (by omega) (by omega) (by omega)) (by rw [hk 3 (by omega) (by omega) (by omega)]; exact h.fr) b5 b6 (by rw [hk 6 (by omega) (by omega) (by omega)]; exact h.bg) (hv6 w4 hO4) (fun k hk => .inl (h.inG.2 k hk)) (by rw [hk 7 (by omega) (by omega) (by omega)]; exact h.lf)
        (by rw [hk 31 (by omega) (by omega) (by omega)]; exact h.lk) (by rw [hk 32 (by omega) (by omega) (by omega)]; exact h.kd) (by rw [hk 33 (by omega) (by omega) (by omega)]; exact h.nm) b7 h.nmb (fun e => by have : n < 4 := e; omega) (fun _ => ⟨v2, W82, hF3.turn (fun j h1 h2 => b4 j (by omega) (by omega)) b2 (fun k hk e => hn2 k hk e), hv2, fun e => b9 e⟩)
    replace hgoes := hid' hgoes
    have hub : Hid (m.unit c b = .ok (m.behind (MS.grown m.f m.f b)) b) := by rw [Hid, hu.out, if_neg (fun e => hov.out (hoi.out.1 e))]
    have d4 := hB3.cell (j := 4) (v := .int .i64 (m.f.blocks : Nat)) (by rw [hs3 4 (by omega)]; exact h.bl)
    have d31 := hB3.cell (j := 31) (v := .bool LK) (by rw [hs3 31 (by omega), hLK.out]; exact h.lk)
    obtain ⟨SM', hSM⟩ : ∃ s, s = m.f.summed := ⟨_, rfl⟩
    have d8 := hB3.cell (j := 8) (v := .bool SM') (by rw [hSM]; exact hF3.summed)
    have d5 := hB3.cell (j := 5) (v := .int .i64 (m.nx : Nat)) (by rw [hs3 5 (by omega)]; exact h.nx)
    have fz3 := hB3.free
    obtain ⟨BL, hBL⟩ : ∃ BL, BL = m.f.blocks := ⟨_, rfl⟩
    rw [← hBL] at d4 hbk
    replace hBL := hid' hBL
    replace hSM := hid' hSM
    replace hF3 := hid' hF3
    have hB4 := hB3.put 4 (.int .i64 ((BL : Int) + 1))
    have hO4 : Only (· = S) w3 (w3.setCell ⟨S, 4, none⟩ (.int .i64 ((BL : Int) + 1))) := (Only.refl (· = S) w3).setCell ⟨S, 4, none⟩ _ (fun _ => rfl)
    have hl4 : (ss2.set 4 (.int .i64 ((BL : Int) + 1))).length = 34 := by rw [List.length_set]; exact hl3
    have hend := strEnd_any S 146 (ss2.set 4 (.int .i64 ((BL : Int) + 1))) m.fr (w3.setCell ⟨S, 4, none⟩ (.int .i64 ((BL : Int) + 1))) hB4 hl4 (by rw [set_ne' (by omega), hs3 3 (by omega)]; exact h.fr) hf
    have hOG : ∀ W, Only (· = S) w3 W → Only G w W := fun W hW => (hO23.trans (hW.weaken (fun _ _ e => .inl e))).weaken hKG
    have hcells : ∀ n : Nat, (∀ j, j ≠ 4 → j ≠ 5 → ((ss2.set 4 (.int .i64 ((BL : Int) + 1))).set 5 (.int .i64 (n : Nat)))[j]? = ss2[j]?) ∧ ((ss2.set 4 (.int .i64 ((BL : Int) + 1))).set 5 (.int .i64 (n : Nat)))[4]? = some (.int .i64 ((m.f.blocks + 1 : Nat) : Int)) ∧ ((ss2.set 4 (.int .i64 ((BL : Int) + 1))).set 5 (.int .i64 (n : Nat)))[5]? = some (.int .i64 (n : Nat)) ∧ ((ss2.set 4 (.int .i64 ((BL : Int) + 1))).set 5 (.int .i64 (n : Nat))).length = 34 := fun n =>
      ⟨fun j h1 h2 => by rw [set_ne' (by omega), set_ne' (by omega)], by rw [set_ne' (by omega), set_eq' hl3 (by omega), ← hBL.out]; rfl, set_eq' hl4 (by omega), by rw [List.length_set]; exact hl4⟩
    replace hcells := hid' hcells
    cases LK with
    | false =>
      go_wp2_with fail
      go_ret2
      have hO5 : Only (· = S) w3 ((w3.setCell ⟨S, 4, none⟩ (.int .i64 ((BL : Int) + 1))).setCell ⟨S, 5, none⟩ (.int .i64 ((4 : Nat) : Int))) := hO4.setCell ⟨S, 5, none⟩ _ (fun _ => rfl)
      obtain ⟨z1, z2, z3, z4⟩ := hcells.out 4
      refine ⟨hOG _ hO5, ?_⟩
      rw [hub.out]
      have hbh : m.behind (MS.grown m.f m.f b) = { m with nx := 4, f := MS.grown m.f m.f b } := by unfold MS.behind; rw [if_pos hLK.out.symm]
      rw [hbh]
      exact ⟨rfl, _, _, hgoes.out 4 _ _ (hB4.put 5 _) hO5 z4 z1 z2 z3 (by omega) (by omega) (by omega), hG2⟩
    | true =>
      have hlk : ¬ m.lk = false := by rw [← hLK.out]; simp
      replace hlk := hid' hlk
      cases SM' with
      | true =>
        go_wp2_with fail
        go_ret2
        have hO5 : Only (· = S) w3 ((w3.setCell ⟨S, 4, none⟩ (.int .i64 ((BL : Int) + 1))).setCell ⟨S, 5, none⟩ (.int .i64 ((6 : Nat) : Int))) := hO4.setCell ⟨S, 5, none⟩ _ (fun _ => rfl)
        obtain ⟨z1, z2, z3, z4⟩ := hcells.out 6
        refine ⟨hOG _ hO5, ?_⟩
        rw [hub.out]
        have hbh : m.behind (MS.grown m.f m.f b) = { m with nx := 6, f := MS.grown m.f m.f b } := by unfold MS.behind; rw [if_neg hlk.out, if_pos (show (MS.grown m.f m.f b).summed = true from hSM.out.symm)]
        rw [hbh]
        exact ⟨rfl, _, _, hgoes.out 6 _ _ (hB4.put 5 _) hO5 z4 z1 z2 z3 (by omega) (by omega) (fun _ => hSM.out.symm), hG2⟩
      | false =>
        go_wp2_with fail
        refine hend.mono ?_
        rintro e w5 ⟨rfl, hB5, hO5⟩
        go_wp2_with fail
        go_ret2
        have hO45 : Only (· = S) w3 w5 := hO4.trans hO5
        refine ⟨hOG _ hO45, ?_⟩
        rw [hub.out]
        have hbh : m.behind (MS.grown m.f m.f b) = ({ m with f := MS.grown m.f m.f b } : MS).ended := by unfold MS.behind; rw [if_neg hlk.out, if_neg (show ¬ (MS.grown m.f m.f b).summed = true from by rw [show (MS.grown m.f m.f b).summed = m.f.summed from rfl, ← hSM.out]; simp)]
        rw [hbh]
        obtain ⟨e1, e2, e3, e4, e5⟩ := endCells_facts hl4 m.fr
        have hk : ∀ j, (j < 3 ∨ (5 < j ∧ j < 8) ∨ 30 < j) → (endCells (ss2.set 4 (.int .i64 ((BL : Int) + 1))) m.fr)[j]? = ss[j]? := fun j hj => by rw [e2 j hj, set_ne' (by omega), hs3 j (by omega)]
        have hO6 : Only (fun k => k = S ∨ v.ownBlock = some k) w w5 := hO23.trans (hO45.weaken (fun _ _ e => .inl e))
        exact ⟨rfl, _, _, h.over (m' := ({ m with f := MS.grown m.f m.f b } : MS).ended) hB5 hO6 hKG (fun k hk => .inl hk) hG2 e1 (fun j hj => hk j (.inl hj)) e3 e4 e5 (by rw [hk 6 (by omega)]; exact h.bg) (hv6 w5 hO6) (fun k hk => .inl (h.inG.2 k hk)) (by rw [hk 7 (by omega)]; exact h.lf) (by rw [hk 31 (by omega)]; exact h.lk) (by rw [hk 32 (by omega)]; exact h.kd) (by rw [hk 33 (by omega)]; exact h.nm)
          (by show 0 < 7; omega) h.nmb (fun _ => rfl) (fun e => by have : 4 ≤ 0 := e; omega), hG2⟩
end Go.Proofs.YtbhemchnjpajiaaGreatDoor

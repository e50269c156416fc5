/- Several texts in one: QLaw1, QLaw2, QLaw3. -/
import Derived.Test.YtbhemchnjpajiaaGreatDoorLL
import Derived.Maps.AppendAt
/- Small functions of the law: pick, two, works, walked. -/
namespace Go.Proofs.YtbhemchnjpajiaaGreatDoor
open Go.RowKit
set_option linter.unusedVariables false

/-- The first small stream. -/
def firstS : RD.Bytes := [83, 75, 78, 49, 0, 25, 0, 97, 98, 99]
theorem first_gave (c : RD.Cfg) (hl : 64 ≤ c.limit) : RD.gave c firstS = ([97, 98, 99], 2) := by
  have h0 := RD.Inv.start c
  obtain ⟨h1, r1⟩ := h0.chunk (a := RD.St.start []) (.refl _) (RD.chunk_head c hl 0 [] false) (by simp) false false (fun _ => rfl) rfl
  obtain ⟨h2, r2⟩ := h1.chunk (a := ⟨0, .blocks, RD.rawAt false [] 0, [], []⟩) r1 (RD.chunk_block c 0 false [] 0 [] [97, 98, 99] true (by decide)) (by simp [RD.rawBlock, RD.two]) true true (fun e => by cases e) rfl
  have e1 := h2.gives 10 (by decide)
  have hs : ([] ++ (RD.readW ++ [RD.headOf false]) ++ RD.rawBlock [97, 98, 99] true).take 10 = firstS := by decide
  have : RD.gave c (([] ++ (RD.readW ++ [RD.headOf false]) ++ RD.rawBlock [97, 98, 99] true).take 10) = _ := e1
  rw [hs] at this
  rw [this]
  rfl
set_option maxRecDepth 100000 in
set_option maxHeartbeats 2000000 in
theorem works_any (x : Fx) (c : RD.Cfg) (hc : CfgOk c) (hi : IdsOk c) (v : Value) (w : World) (hD : DictsAt w v c.dicts) (hV : VarsAt x w) (hE : ErrRows x w) :
    Calls Tryz.prog 16 #[.agg #[.int .i64 c.limit, v]] w fun e w' => e = .returned (.bool true) ∧ Below w.heap.size w w' := by
  have g1 := first_gave c hc.lim.1
  obtain ⟨a, cc, rfl, -, -⟩ := id hD
  have hb0 : Below w.heap.size w (w.alloc (.cells #[.int .i64 c.limit, .slice a c.dicts.length cc] 24)) := (Below.refl _ w).alloc (Nat.le_refl _) _
  have hwh := whole_any x c hc hi firstS _ _ (hD.only (below_only (G := fun _ => False) hb0) (fun _ _ e => e)) (hV.below hb0) (hE.below hV hb0) (by decide)
  unfold WhPost at hwh
  rw [g1] at hwh
  simp only [show errOf 2 = 0 from rfl] at hwh
  have hT : ((RD.bs [97, 98, 99]).toList == [97, 98, 99]) = true := by rw [bs_toL]; rfl
  go_enter Tryz.func16, Tryz.ntmps16
  go_wp2_with fail
  refine hwh.mono ?_
  rintro e w1 ⟨rfl, hb1⟩
  go_wp2_with fail
  go_ret
  exact ⟨rfl, hb0.trans ⟨hb1.os, hb1.tape, hb1.output, hb1.size, fun k hk => hb1.block k (Nat.lt_of_lt_of_le hk hb0.size)⟩⟩
/-- A number that a raw one speaks of. -/
def pickN (c n : Int) : Int := (if c < 0 then -(c + 1) else c) % n
set_option maxRecDepth 100000 in
set_option maxHeartbeats 2000000 in
theorem pickv (c n : Int) (w : World) (hc : -9223372036854775808 ≤ c ∧ c ≤ 9223372036854775807) (hn : 1 ≤ n ∧ n ≤ 1099511627776) :
    Calls Tryz.prog 15 #[.int .i64 c, .int .i64 n] w fun e w' => e = .returned (.int .i64 (pickN c n)) ∧ w' = w := by
  unfold pickN
  by_cases h : c < 0
  · have h3 : -(c + 1).tmod n = -(c + 1) % n := by rw [← Int.neg_tmod, Int.tmod_eq_emod_of_nonneg (by omega)]
    rw [if_pos h, ← h3]
    replace h3 := hid' h3
    go_enter Tryz.func15, Tryz.ntmps15
    go_wp2_with fail
    go_ret
    exact ⟨rfl, rfl⟩
  · rw [if_neg h]
    go_enter Tryz.func15, Tryz.ntmps15
    go_wp2_with fail
    go_ret
    exact ⟨rfl, rfl⟩

theorem conv_many (w : World) (l : RD.Bytes) : (convert 36 9 (.slice (some ⟨w.heap.size, 0, none⟩) l.length l.length)).run Tryz.prog (w.alloc (.cells (u8s l).toArray 5)) = .ok (.string (RD.bs l)) (w.alloc (.cells (u8s l).toArray 5)) :=
  run_convert_bytes_back (P := Tryz.prog) _ 36 9 5 ⟨w.heap.size, 0, none⟩ l.length l Tryz.underlying36 Tryz.underlying5 Tryz.underlying9 (fun j hj => by
    rw [Addr.add_mid, Nat.zero_add, (Blk.new w 5 (u8s l)).cell (u8s_at l j hj), RD.at_getElem l j hj])
theorem u8s_two (n : Nat) (h : n < 65536) : (u8s (RD.two n)).toArray = #[.int .u8 ((n : Int) % 256), .int .u8 ((n : Int) / 256)] := by
  have e1 : ((UInt8.ofNat (n % 256)).toNat : Int) = (n : Int) % 256 := by rw [UInt8.toNat_ofNat']; omega
  have e2 : ((UInt8.ofNat (n / 256)).toNat : Int) = (n : Int) / 256 := by rw [UInt8.toNat_ofNat']; omega
  unfold u8s RD.two
  simp only [List.map_cons, List.map_nil, e1, e2]
set_option maxRecDepth 100000 in
set_option maxHeartbeats 2000000 in
theorem two_any (n : Nat) (w : World) (h : n < 65536) :
    Calls Tryz.prog 11 #[.int .i64 n] w fun e w' => e = .returned (.string (RD.bs (RD.two n))) ∧ Below w.heap.size w w' := by
  have hcv := conv_many w (RD.two n)
  rw [u8s_two n h, show (RD.two n).length = 2 from rfl] at hcv
  have hb : Below w.heap.size w (w.alloc (.cells #[.int .u8 ((n : Int) % 256), .int .u8 ((n : Int) / 256)] 5)) := (Below.refl _ w).alloc (Nat.le_refl _) _
  go_enter Tryz.func11, Tryz.ntmps11
  go_wp2_with fail
  go_ret
  exact ⟨rfl, hb⟩
set_option maxRecDepth 100000 in
set_option maxHeartbeats 2000000 in
theorem block_any (t : RD.Bytes) (last : Bool) (w : World) (h : t.length ≤ 1024) :
    Calls Tryz.prog 13 #[.string (RD.bs t), .bool last] w fun e w' => e = .returned (.string (RD.bs (RD.rawBlock t last))) ∧ Below w.heap.size w w' := by
  have hz := RD.bs_size t
  obtain ⟨H, hH⟩ : ∃ H, H = 8 * t.length + if last then 1 else 0 := ⟨_, rfl⟩
  have hHb : H < 65536 := by cases last <;> simp at hH <;> omega
  have htw := two_any H w hHb
  have hap := RD.bs_append (RD.two H) t
  have hz2 : (RD.bs (RD.two H)).size = 2 := RD.bs_size _
  have hr : RD.rawBlock t last = RD.two H ++ t := by unfold RD.rawBlock; rw [hH]
  rw [hr]
  replace hr := hid' hr
  cases last with
  | false =>
    have hHi : 8 * (t.length : Int) = (H : Int) := by simp at hH; omega
    replace hH := hid' hH
    go_enter Tryz.func13, Tryz.ntmps13
    go_wp2_with fail
    refine htw.mono ?_
    rintro e w1 ⟨rfl, hb1⟩
    go_wp2_with fail
    go_ret
    exact ⟨rfl, hb1⟩
  | true =>
    have hHi : 8 * (t.length : Int) + 1 = (H : Int) := by simp at hH; omega
    replace hH := hid' hH
    go_enter Tryz.func13, Tryz.ntmps13
    go_wp2_with fail
    refine htw.mono ?_
    rintro e w1 ⟨rfl, hb1⟩
    go_wp2_with fail
    go_ret
    exact ⟨rfl, hb1⟩
end Go.Proofs.YtbhemchnjpajiaaGreatDoor

/- Settings out of raw ones: limits, walked. -/
namespace Go.Proofs.YtbhemchnjpajiaaGreatDoor
open Go.RowKit
set_option linter.unusedVariables false
set_option linter.unusedSimpArgs false

/-- Dictionaries that can be read, wherever they lie. -/
def DictsArg (w : World) (v : Value) (ds : List (Int × RD.Bytes)) : Prop := ∃ a c, v = .slice a ds.length c ∧ ds.length ≤ c ∧ (ds = [] ∨ ∃ b o, a = some ⟨b, o, none⟩ ∧ b < w.heap.size ∧ ∀ i, i < ds.length → w.cell? ⟨b, o + i * 2, none⟩ = some (.int .i64 (ds.getD i (0, [])).1) ∧ w.cell? ⟨b, o + i * 2 + 1, none⟩ = some (.string (RD.bs (ds.getD i (0, [])).2)))
/-- A dictionary's text that may be. -/
def limT (t : RD.Bytes) : RD.Bytes := (t ++ [46]).take 256
def limD (ds : List (Int × RD.Bytes)) (k : Nat) : List (Int × RD.Bytes) := (List.range k).map fun i => (((3 * i : Nat) : Int), limT (ds.getD i (0, [])).2)
def limC (lim : Int) (ds : List (Int × RD.Bytes)) : RD.Cfg := ⟨64 + pickN lim 8129, limD ds (min ds.length 4)⟩
theorem limD_length (ds : List (Int × RD.Bytes)) (k : Nat) : (limD ds k).length = k := by simp [limD]
theorem limT_len (t : RD.Bytes) : 1 ≤ (limT t).length ∧ (limT t).length ≤ 256 := by
  unfold limT
  rw [List.length_take, List.length_append]
  simp
  omega
theorem limC_ok (lim : Int) (ds : List (Int × RD.Bytes)) : CfgOk (limC lim ds) ∧ IdsOk (limC lim ds) := by
  have h1 := Int.emod_nonneg (if lim < 0 then -(lim + 1) else lim) (show (8129 : Int) ≠ 0 by omega)
  have h2 := Int.emod_lt_of_pos (if lim < 0 then -(lim + 1) else lim) (show (0 : Int) < 8129 by omega)
  have hm : ∀ d ∈ limD ds (min ds.length 4), ∃ i : Nat, i < 4 ∧ d = (((3 * i : Nat) : Int), limT (ds.getD i (0, [])).2) := fun d hd => by
    unfold limD at hd
    obtain ⟨i, hi, e⟩ := List.mem_map.1 hd
    have := List.mem_range.1 hi
    exact ⟨i, by omega, e.symm⟩
  refine ⟨⟨⟨by show 64 ≤ 64 + pickN lim 8129; unfold pickN; omega, by show 64 + pickN lim 8129 ≤ 8192; unfold pickN; omega⟩, by show (limD ds _).length ≤ 4; rw [limD_length]; omega, fun d hd => ?_, ?_⟩, fun d hd => ?_⟩
  · obtain ⟨i, _, rfl⟩ := hm d hd
    exact limT_len _
  · show ((limD ds (min ds.length 4)).map (·.1)).Nodup
    unfold limD
    rw [List.map_map]
    have hk : min ds.length 4 = 0 ∨ min ds.length 4 = 1 ∨ min ds.length 4 = 2 ∨ min ds.length 4 = 3 ∨ min ds.length 4 = 4 := by omega
    have key : ∀ k : Nat, k ≤ 4 → ((List.range k).map (fun i => ((3 * i : Nat) : Int))).Nodup := fun k hk => by
      have : k = 0 ∨ k = 1 ∨ k = 2 ∨ k = 3 ∨ k = 4 := by omega
      rcases this with rfl | rfl | rfl | rfl | rfl <;> decide
    exact key _ (by omega)
  · obtain ⟨i, hi, rfl⟩ := hm d hd
    exact ⟨by show (0 : Int) ≤ ((3 * i : Nat) : Int); omega, by show ((3 * i : Nat) : Int) ≤ 255; omega⟩
def LimPost (lim : Int) (ds : List (Int × RD.Bytes)) (w : World) (e : Ending) (w' : World) : Prop := Below w.heap.size w w' ∧ ∃ v, e = .returned (.agg #[.int .i64 (limC lim ds).limit, v]) ∧ DictsAt w' v (limC lim ds).dicts
set_option maxRecDepth 100000 in
set_option maxHeartbeats 4000000 in
theorem limits_wide (lim : Int) (ds : List (Int × RD.Bytes)) (v : Value) (w : World) (hl : -9223372036854775808 ≤ lim ∧ lim ≤ 9223372036854775807) (hD : DictsArg w v ds) (hdl : ds.length ≤ 140737488355328) (ht : ∀ d ∈ ds, d.2.length ≤ 140737488355328) :
    Calls Tryz.prog 10 #[.agg #[.int .i64 lim, v]] w (LimPost lim ds w) := by
  obtain ⟨a, cc, rfl, hcc, hd⟩ := hD
  obtain ⟨i0, hi0, hz0, hz1, hz2⟩ := info_parts infoDict
  have hpk := fun W => pickv lim 8129 W hl (by omega)
  go_enter Tryz.func10, Tryz.ntmps10
  go_wp2_with fail
  refine (hpk _).mono ?_
  rintro e w1 ⟨rfl, hw1⟩
  subst hw1
  have hpn : 0 ≤ pickN lim 8129 ∧ pickN lim 8129 < 8129 := by
    unfold pickN
    exact ⟨Int.emod_nonneg _ (by omega), Int.emod_lt_of_pos _ (by omega)⟩
  obtain ⟨PK, hPK⟩ : ∃ P, P = pickN lim 8129 := ⟨_, rfl⟩
  rw [← hPK] at hpn ⊢
  replace hPK := hid' hPK
  go_wp2_with fail
  obtain ⟨w0, hw0⟩ : ∃ W, W = (((w.alloc (.cells #[.int .i64 lim, .slice a ds.length cc] 24)).alloc (.cells #[.int .i64 0, .slice none 0 0] 24)).alloc (.cells #[.int .i64 (64 + PK), .slice none 0 0] 24)) := ⟨_, rfl⟩
  have hA : Blk w0 w.heap.size 24 [.int .i64 lim, .slice a ds.length cc] := by
    rw [hw0]; exact ((Blk.new w 24 [.int .i64 lim, .slice a ds.length cc]).alloc _).alloc _
  have hB : Blk w0 (w.heap.size + 1) 24 [.int .i64 0, .slice none 0 0] := by
    rw [hw0]
    have := (Blk.new (w.alloc (.cells #[.int .i64 lim, .slice a ds.length cc] 24)) 24 [.int .i64 0, .slice none 0 0]).alloc (.cells #[.int .i64 (64 + PK), .slice none 0 0] 24)
    rw [World.size_alloc] at this
    exact this
  have hC : Blk w0 (w.heap.size + 1 + 1) 24 [.int .i64 (64 + PK), .slice none 0 0] := by
    rw [hw0]
    have := Blk.new ((w.alloc (.cells #[.int .i64 lim, .slice a ds.length cc] 24)).alloc (.cells #[.int .i64 0, .slice none 0 0] 24)) 24 [.int .i64 (64 + PK), .slice none 0 0]
    rw [World.size_alloc, World.size_alloc] at this
    exact this
  have hb0 : Below w.heap.size w w0 := by
    rw [hw0]
    exact (((Below.refl w.heap.size w).alloc (Nat.le_refl _) _).alloc (by simp) _).alloc (by simp; omega) _
  rw [← hw0]
  replace hw0 := hid' hw0
  go_loopg [4, 5] (ds.length + 1) (fun gh kv sv wr => ∃ (k : Nat) (ov : Value), gh = ds.length + 1 - k ∧ k ≤ ds.length ∧ k ≤ 4 ∧ kv = .int .i64 (k : Int) ∧ Below w.heap.size w wr ∧ Blk wr w.heap.size 24 [.int .i64 lim, .slice a ds.length cc] ∧ Blk wr (w.heap.size + 1) 24 [.int .i64 0, .slice none 0 0] ∧ Blk wr (w.heap.size + 1 + 1) 24 [.int .i64 (64 + PK), ov] ∧ wr.ownsRow (w.heap.size + 3) 65 2 ov k (dictCells (limD ds k)) ∧ ∃ oa oc, ov = .slice oa k oc)
  case atStart => exact ⟨0, _, by omega, by omega, by omega, rfl, hb0, hA, hB, hC, World.ownsRow_nil _ _ _ _, none, 0, rfl⟩
  case round =>
    obtain ⟨k, ov, rfl, hk, hk4, rfl, hb, hAk, hBk, hCk, hown, oa, oc, rfl⟩ := hrel
    have hclt := hCk.lt
    have a1 := hAk.cell (j := 1) rfl
    have c1 := hCk.cell (j := 1) rfl
    have c0 := hCk.cell (j := 0) rfl
    replace hb := hid' hb
    by_cases hlt : k < ds.length ∧ k < 4
    · have hlt1 : (k : Int) < (ds.length : Int) := by omega
      have hlt2 : (k : Int) < 4 := by omega
      rcases hd with hd | ⟨b, o, rfl, hbl, hd⟩
      · rw [hd] at hlt; simp at hlt
      obtain ⟨d0, d1⟩ := hd k hlt.1
      have e1 := (hb.out.cell (p := ⟨b, o + k * 2 + 1, none⟩) hbl).trans d1
      have htl := ht _ (getD_mem hlt.1)
      have hsn : dictCells (limD ds (k + 1)) = dictCells (limD ds k) ++ [.int .i64 ((3 * k : Nat) : Int), .string (RD.bs (limT (ds.getD k (0, [])).2))] := by
        unfold limD dictCells
        rw [List.range_succ, List.map_append, List.flatMap_append]
        rfl
      obtain ⟨T, hT⟩ : ∃ T, T = (ds.getD k (0, [])).2 := ⟨_, rfl⟩
      rw [← hT] at e1 htl hsn
      replace hT := hid' hT
      replace hd := hid' hd
      have hap : RD.bs T ++ (⟨#[46]⟩ : ByteArray) = RD.bs (T ++ [46]) := RD.bs_append T [46]
      have hzT := RD.bs_size T
      have hzT2 : (RD.bs (T ++ [46])).size = T.length + 1 := by rw [RD.bs_size]; simp
      obtain ⟨J, hJ⟩ : ∃ J : Int, (k : Int) * 3 = J := ⟨_, rfl⟩
      have hJ2 : 0 ≤ J ∧ J ≤ 12 := by omega
      have hJ3 : ((3 * k : Nat) : Int) = J := by omega
      rw [hJ3] at hsn
      replace hJ3 := hid' hJ3
      replace hsn := hid' hsn
      replace hown := hid' hown
      have hbd : Below wr.heap.size wr (wr.alloc (.cells #[.int .i64 J, .string (RD.bs (limT T))] 65)) := (Below.refl _ wr).alloc (Nat.le_refl _) _
      by_cases hlong : 256 < T.length + 1
      · have hl1 : (256 : Int) < ((T.length + 1 : Nat) : Int) := by omega
        have hl2 : ((T.length + 1 : Nat) : Int) > 256 := by omega
        have hex : (RD.bs (T ++ [46])).extract 0 256 = RD.bs (limT T) := RD.bs_take (T ++ [46]) 256
        go_wp2_with (at_builtin; refine wpList_append_own _ rfl _ _ 22 rfl (w.heap.size + 3) 65 i0 _ 2 24 Tryz.underlying22 hi0 hz0 hz1 hz2 rfl (by decide) _ _ _ rfl (World.ownsRow.alloc hown.out _) ⟨wr.heap.size, 0, none⟩ 1 1 [.int .i64 J, .string (RD.bs (limT T))] rfl rfl (dict_new _ _ _) (dict_one _ _) (by unfold maxLen; omega) (by omega) (by simp; omega) ?_)
        intro v' w5 hown5 hgrow _
        have hbel5 : Below (w.heap.size + 3) wr w5 := ((Below.refl (w.heap.size + 3) wr).alloc (by omega) (.cells #[.int .i64 J, .string (RD.bs (limT T))] 65)).grown hgrow (by simp; omega) (fun j hj => (World.ownsRow.lt hown.out j hj).1)
        have hA5 := hAk.below hbel5 (by omega)
        have hB5 := hBk.below hbel5 (by omega)
        have hC5 := hCk.below hbel5 (by omega)
        have hb5 : Hid (Below w.heap.size w w5) := hb.out.trans ⟨hbel5.os, hbel5.tape, hbel5.output, hbel5.size, fun k hk => hbel5.block k (by omega)⟩
        rw [← hsn.out] at hown5
        obtain ⟨g5, c5, rest5, rfl, hg5, -, -, -, -⟩ := owns_slice hown5 (by omega)
        have hC6 := hC5.put 1 (.slice (some ⟨g5, 0, none⟩) (k + 1) c5)
        have hA6 := hA5.other ⟨w.heap.size + 1 + 1, 1, none⟩ (.slice (some ⟨g5, 0, none⟩) (k + 1) c5) (by show w.heap.size ≠ w.heap.size + 1 + 1; omega)
        have hB6 := hB5.other ⟨w.heap.size + 1 + 1, 1, none⟩ (.slice (some ⟨g5, 0, none⟩) (k + 1) c5) (by show w.heap.size + 1 ≠ w.heap.size + 1 + 1; omega)
        have ho6 : Only (fun b => b = w.heap.size + 1 + 1) w5 (w5.setCell ⟨w.heap.size + 1 + 1, 1, none⟩ (.slice (some ⟨g5, 0, none⟩) (k + 1) c5)) := (Only.refl _ w5).setCell ⟨w.heap.size + 1 + 1, 1, none⟩ _ (fun _ => rfl)
        have hown6 := ownsRow_only hown5 ho6 (fun j hj e => by omega)
        have hb6 : Hid (Below w.heap.size w (w5.setCell ⟨w.heap.size + 1 + 1, 1, none⟩ (.slice (some ⟨g5, 0, none⟩) (k + 1) c5))) := hb5.out.trans ⟨ho6.os, ho6.tape, ho6.output, ho6.size, fun k hk => ho6.block k (by have := hC5.lt; omega) (by omega)⟩
        have q1 := hC5.cell (j := 1) rfl
        have q2 := hC5.free 1
        replace hown6 := hid' hown6
        clear hgrow hown5 hbd hown
        go_wp2_with fail
        go_roundg (ds.length + 1 - (k + 1))
        case rel => exact ⟨k + 1, _, rfl, by omega, by omega, by go_num, hb6.out, hA6, hB6, hC6, hown6.out, _, _, rfl⟩
        case measure => omega
      · have hl1 : ¬ (256 : Int) < ((T.length + 1 : Nat) : Int) := by omega
        have hl2 : ¬ ((T.length + 1 : Nat) : Int) > 256 := by omega
        have hex : T ++ [46] = limT T := (List.take_of_length_le (by simp; omega)).symm
        rw [hex] at hap hzT2
        replace hex := hid' hex
        go_wp2_with (at_builtin; refine wpList_append_own _ rfl _ _ 22 rfl (w.heap.size + 3) 65 i0 _ 2 24 Tryz.underlying22 hi0 hz0 hz1 hz2 rfl (by decide) _ _ _ rfl (World.ownsRow.alloc hown.out _) ⟨wr.heap.size, 0, none⟩ 1 1 [.int .i64 J, .string (RD.bs (limT T))] rfl rfl (dict_new _ _ _) (dict_one _ _) (by unfold maxLen; omega) (by omega) (by simp; omega) ?_)
        intro v' w5 hown5 hgrow _
        have hbel5 : Below (w.heap.size + 3) wr w5 := ((Below.refl (w.heap.size + 3) wr).alloc (by omega) (.cells #[.int .i64 J, .string (RD.bs (limT T))] 65)).grown hgrow (by simp; omega) (fun j hj => (World.ownsRow.lt hown.out j hj).1)
        have hA5 := hAk.below hbel5 (by omega)
        have hB5 := hBk.below hbel5 (by omega)
        have hC5 := hCk.below hbel5 (by omega)
        have hb5 : Hid (Below w.heap.size w w5) := hb.out.trans ⟨hbel5.os, hbel5.tape, hbel5.output, hbel5.size, fun k hk => hbel5.block k (by omega)⟩
        rw [← hsn.out] at hown5
        obtain ⟨g5, c5, rest5, rfl, hg5, -, -, -, -⟩ := owns_slice hown5 (by omega)
        have hC6 := hC5.put 1 (.slice (some ⟨g5, 0, none⟩) (k + 1) c5)
        have hA6 := hA5.other ⟨w.heap.size + 1 + 1, 1, none⟩ (.slice (some ⟨g5, 0, none⟩) (k + 1) c5) (by show w.heap.size ≠ w.heap.size + 1 + 1; omega)
        have hB6 := hB5.other ⟨w.heap.size + 1 + 1, 1, none⟩ (.slice (some ⟨g5, 0, none⟩) (k + 1) c5) (by show w.heap.size + 1 ≠ w.heap.size + 1 + 1; omega)
        have ho6 : Only (fun b => b = w.heap.size + 1 + 1) w5 (w5.setCell ⟨w.heap.size + 1 + 1, 1, none⟩ (.slice (some ⟨g5, 0, none⟩) (k + 1) c5)) := (Only.refl _ w5).setCell ⟨w.heap.size + 1 + 1, 1, none⟩ _ (fun _ => rfl)
        have hown6 := ownsRow_only hown5 ho6 (fun j hj e => by omega)
        have hb6 : Hid (Below w.heap.size w (w5.setCell ⟨w.heap.size + 1 + 1, 1, none⟩ (.slice (some ⟨g5, 0, none⟩) (k + 1) c5))) := hb5.out.trans ⟨ho6.os, ho6.tape, ho6.output, ho6.size, fun k hk => ho6.block k (by have := hC5.lt; omega) (by omega)⟩
        have q1 := hC5.cell (j := 1) rfl
        have q2 := hC5.free 1
        replace hown6 := hid' hown6
        clear hgrow hown5 hbd hown
        go_wp2_with fail
        go_roundg (ds.length + 1 - (k + 1))
        case rel => exact ⟨k + 1, _, rfl, by omega, by omega, by go_num, hb6.out, hA6, hB6, hC6, hown6.out, _, _, rfl⟩
        case measure => omega
    · have hend : k = min ds.length 4 := by omega
      have b0 := hBk.cell (j := 0) rfl
      have b1 := hBk.cell (j := 1) rfl
      have f0 := hBk.free 0
      have f1 := hBk.free 1
      have ho6 : Only (fun b => b = w.heap.size + 1) wr ((wr.setCell ⟨w.heap.size + 1, 0, none⟩ (.int .i64 (64 + PK))).setCell ⟨w.heap.size + 1, 1, none⟩ (.slice oa k oc)) := ((Only.refl (fun b => b = w.heap.size + 1) wr).setCell ⟨w.heap.size + 1, 0, none⟩ _ (fun _ => rfl)).setCell ⟨w.heap.size + 1, 1, none⟩ _ (fun _ => rfl)
      have hB6 := (hBk.put 0 (.int .i64 (64 + PK))).put 1 (.slice oa k oc)
      have hown6 := ownsRow_only hown ho6 (fun j hj e => by omega)
      have hD6 := dicts_owned (ds := limD ds k) (by rw [limD_length]; exact hown6)
      have hfin : Hid (LimPost lim ds w (.returned (.agg #[.int .i64 (64 + PK), .slice oa k oc])) ((wr.setCell ⟨w.heap.size + 1, 0, none⟩ (.int .i64 (64 + PK))).setCell ⟨w.heap.size + 1, 1, none⟩ (.slice oa k oc))) := by
        refine ⟨hb.out.trans ⟨ho6.os, ho6.tape, ho6.output, ho6.size, fun k hk => ho6.block k (by omega) (by omega)⟩, .slice oa k oc, ?_, ?_⟩
        · unfold limC
          rw [← hPK.out]
        · unfold limC
          rw [← hend]
          exact hD6.1
      have r0 := hB6.cell (j := 0) rfl
      have r1 := hB6.cell (j := 1) rfl
      replace hend := hid' hend
      replace hown := hid' hown
      replace hown6 := hid' hown6
      replace ho6 := hid' ho6
      replace hD6 := hid' hD6
      by_cases hlt3 : k < ds.length
      · have h1 : (k : Int) < (ds.length : Int) := by omega
        have h2 : ¬ (k : Int) < 4 := by omega
        replace hlt := hid' hlt
        go_wp2_with fail
        exact bodyPost_ret (v := .agg #[.int .i64 (64 + PK), .slice oa k oc]) (by simp [results, Tryz.results10, go_sem, r0, r1]) rfl hfin.out
      · have h1 : ¬ (k : Int) < (ds.length : Int) := by omega
        replace hlt := hid' hlt
        go_wp2_with fail
        exact bodyPost_ret (v := .agg #[.int .i64 (64 + PK), .slice oa k oc]) (by simp [results, Tryz.results10, go_sem, r0, r1]) rfl hfin.out
theorem limits_any (lim : Int) (ds : List (Int × RD.Bytes)) (v : Value) (w : World) (hl : -9223372036854775808 ≤ lim ∧ lim ≤ 9223372036854775807) (hD : DictsArg w v ds) (hdl : ds.length ≤ 1048576) (ht : ∀ d ∈ ds, d.2.length ≤ 1048576) :
    Calls Tryz.prog 10 #[.agg #[.int .i64 lim, v]] w (LimPost lim ds w) := limits_wide lim ds v w hl hD (by omega) (fun d hd => by have := ht d hd; omega)
end Go.Proofs.YtbhemchnjpajiaaGreatDoor

/- Blanks, and the rows that the law Raws builds. -/
namespace Go.Proofs.YtbhemchnjpajiaaGreatDoor
open Go.RowKit
set_option linter.unusedVariables false
set_option linter.unusedSimpArgs false

theorem u8s_zero (n : Nat) : (u8s (List.replicate n 0)) = List.replicate n (.int .u8 0) := by
  unfold u8s
  rw [List.map_replicate]
  rfl
theorem infoU8c : (Tryz.prog.info? 5).map (fun i => (i.zero, i.size, i.bytes)) = some (some (.int .u8 0), 1, 1) := by kernel_rfl
theorem infoIntc : (Tryz.prog.info? 3).map (fun i => (i.zero, i.size, i.bytes)) = some (some (.int .i64 0), 1, 8) := by kernel_rfl
theorem infoStrc : (Tryz.prog.info? 9).map (fun i => (i.zero, i.size, i.bytes)) = some (some (.string ⟨#[]⟩), 1, 16) := by kernel_rfl
theorem made_rep (v : Value) (h : v.cells = #[v]) (n : Nat) : (madeCells v.cells n).toList = List.replicate n v := by
  rw [h]
  exact toList_madeCells_one v n
set_option maxRecDepth 100000 in
set_option maxHeartbeats 2000000 in
theorem blanks_any (n : Nat) (w : World) (h : n ≤ 255) :
    Calls Tryz.prog 12 #[.int .i64 n] w fun e w' => e = .returned (.string (RD.bs (List.replicate n 0))) ∧ Below w.heap.size w w' := by
  obtain ⟨i0, hi, hz0, hz1, hz2⟩ := info_parts infoU8c
  have hmk : (Instr.makeSlice 36 (.int .i64 (n : Int)) (.int .i64 (n : Int))).run Tryz.prog w = .ok (.slice (some ⟨w.heap.size, 0, none⟩) n n) (w.alloc (.cells (u8s (List.replicate n 0)).toArray 5)) := by
    have h := run_make (P := Tryz.prog) w 36 5 i0 (.int .u8 0) Tryz.underlying36 hi hz0 .i64 .i64 (n : Int) (n : Int) (by omega) (by omega) (by rw [hz2]; omega) (by omega)
    have hM : madeCells (Value.int .u8 0).cells ((n : Int).toNat * i0.size) = (u8s (List.replicate n 0)).toArray := by
      rw [hz1, u8s_zero]
      have := made_rep (.int .u8 0) rfl ((n : Int).toNat * 1)
      rw [show (n : Int).toNat * 1 = n by omega] at this ⊢
      rw [← this]
    rw [hM] at h
    simpa using h
  have hcv := conv_many w (List.replicate n 0)
  rw [List.length_replicate] at hcv
  have hb : Below w.heap.size w (w.alloc (.cells (u8s (List.replicate n 0)).toArray 5)) := (Below.refl _ w).alloc (Nat.le_refl _) _
  generalize (u8s (List.replicate n 0)).toArray = M at *
  go_enter Tryz.func12, Tryz.ntmps12
  go_wp2_with fail
  go_ret
  exact ⟨rfl, hb⟩

def ints (l : List Nat) : List Value := l.map fun (e : Nat) => .int .i64 (e : Int)
def strs (l : List RD.Bytes) : List Value := l.map fun t => .string (RD.bs t)
/-- A row of the law's own, at block g. -/
def Own1 (w : World) (B : Nat) (T : TypeId) (g : Nat) (v : Value) (xs : List Value) : Prop := w.ownsRow B T 1 v xs.length xs ∧ v.ownBlock = some g ∧ ∃ c, v = .slice (some ⟨g, 0, none⟩) xs.length c
theorem Own1.lt {w : World} {B : Nat} {T : TypeId} {g : Nat} {v : Value} {xs : List Value} (h : Own1 w B T g v xs) : B ≤ g ∧ g < w.heap.size := World.ownsRow.lt h.1 g h.2.1
theorem Own1.below {w w' : World} {B : Nat} {T : TypeId} {g : Nat} {v : Value} {xs : List Value} (h : Own1 w B T g v xs) (hb : Below w.heap.size w w') : Own1 w' B T g v xs := ⟨own_below h.1 hb, h.2⟩
theorem Own1.grown {w w' : World} {B : Nat} {T : TypeId} {g k : Nat} {v : Value} {xs : List Value} (h : Own1 w B T g v xs) (hg : w.grownBy w' (some k)) (hne : g ≠ k) : Own1 w' B T g v xs := by
  have hl := h.lt
  obtain ⟨⟨h1, h2⟩, h3, h4⟩ := h
  refine ⟨⟨h1, ?_⟩, h3, h4⟩
  rcases h2 with h2 | ⟨g', cap, cur, hv, hbg, hg', r⟩
  · exact .inl h2
  · have e : g' = g := by
      rw [hv] at h3
      exact Option.some.inj h3
    subst e
    exact .inr ⟨g', cap, cur, hv, hbg, by rw [hg.block g' hl.2 (fun e => hne (Option.some.inj e))]; exact hg', r⟩
theorem Own1.cell {w : World} {B : Nat} {T : TypeId} {g : Nat} {v : Value} {xs : List Value} (h : Own1 w B T g v xs) {j : Nat} {u : Value} (hj : xs[j]? = some u) : w.cell? ⟨g, j, none⟩ = some u := by
  obtain ⟨h1, h2, c, rfl⟩ := h
  have := h1.cells (g := g) rfl j u hj
  rw [Addr.add_mid, Nat.zero_add] at this
  exact this
/-- Behind append(v, u). -/
theorem Own1.app {w w' : World} {B : Nat} {T : TypeId} {g : Nat} {v v' u : Value} {xs : List Value} (h : Own1 w B T g v xs) (ho : w'.ownsRow B T 1 v' (xs.length + 1) (xs ++ [u])) (hat : v'.ownBlock = v.ownBlock ∨ v'.ownBlock = some w.heap.size) : ∃ g', Own1 w' B T g' v' (xs ++ [u]) ∧ (g' = g ∨ g' = w.heap.size) := by
  obtain ⟨g5, c5, rest5, rfl, hg5, -, -, -, -⟩ := owns_slice ho (by omega)
  refine ⟨g5, ⟨by rw [List.length_append]; exact ho, rfl, c5, by rw [List.length_append]; rfl⟩, ?_⟩
  rcases hat with e | e
  · rw [h.2.1] at e
    exact .inl (Option.some.inj e)
  · exact .inr (Option.some.inj e)
/-- The three rows: where frames end, where blocks end, what has come out there. -/
structure Tri3 (w : World) (B : Nat) (e s t : Value) (es ss : List Nat) (ts : List RD.Bytes) : Prop where
  ex : ∃ g1 g2 g3, Own1 w B 3 g1 e (ints es) ∧ Own1 w B 3 g2 s (ints ss) ∧ Own1 w B 9 g3 t (strs ts) ∧ g1 ≠ g2 ∧ g1 ≠ g3 ∧ g2 ≠ g3
theorem Tri3.below {w w' : World} {B : Nat} {e s t : Value} {es ss : List Nat} {ts : List RD.Bytes} (h : Tri3 w B e s t es ss ts) (hb : Below w.heap.size w w') : Tri3 w' B e s t es ss ts := by
  obtain ⟨g1, g2, g3, h1, h2, h3, n⟩ := h.ex
  exact ⟨g1, g2, g3, h1.below hb, h2.below hb, h3.below hb, n⟩
theorem ints_snoc (l : List Nat) (n : Nat) : ints (l ++ [n]) = ints l ++ [.int .i64 (n : Int)] := by simp [ints]
theorem strs_snoc (l : List RD.Bytes) (t : RD.Bytes) : strs (l ++ [t]) = strs l ++ [.string (RD.bs t)] := by simp [strs]
theorem ints_len (l : List Nat) : (ints l).length = l.length := by simp [ints]
theorem strs_len (l : List RD.Bytes) : (strs l).length = l.length := by simp [strs]
/-- Behind an append to the first, to the second, to the third. -/
theorem Tri3.app1 {w w' : World} {B : Nat} {e s t v' : Value} {es ss : List Nat} {ts : List RD.Bytes} {n : Nat} (h : Tri3 w B e s t es ss ts) (ho : w'.ownsRow B 3 1 v' ((ints es).length + 1) (ints es ++ [.int .i64 (n : Int)])) (hg : w.grownBy w' e.ownBlock) (hat : v'.ownBlock = e.ownBlock ∨ v'.ownBlock = some w.heap.size) : Tri3 w' B v' s t (es ++ [n]) ss ts := by
  obtain ⟨g1, g2, g3, h1, h2, h3, n1, n2, n3⟩ := h.ex
  obtain ⟨g', k1, k2⟩ := h1.app ho hat
  rw [h1.2.1] at hg
  have l2 := h2.lt
  have l3 := h3.lt
  exact ⟨g', g2, g3, by rw [ints_snoc]; exact k1, h2.grown hg (by omega), h3.grown hg (by omega), by omega, by omega, n3⟩
theorem Tri3.app2 {w w' : World} {B : Nat} {e s t v' : Value} {es ss : List Nat} {ts : List RD.Bytes} {n : Nat} (h : Tri3 w B e s t es ss ts) (ho : w'.ownsRow B 3 1 v' ((ints ss).length + 1) (ints ss ++ [.int .i64 (n : Int)])) (hg : w.grownBy w' s.ownBlock) (hat : v'.ownBlock = s.ownBlock ∨ v'.ownBlock = some w.heap.size) : Tri3 w' B e v' t es (ss ++ [n]) ts := by
  obtain ⟨g1, g2, g3, h1, h2, h3, n1, n2, n3⟩ := h.ex
  obtain ⟨g', k1, k2⟩ := h2.app ho hat
  rw [h2.2.1] at hg
  have l1 := h1.lt
  have l3 := h3.lt
  exact ⟨g1, g', g3, h1.grown hg (by omega), by rw [ints_snoc]; exact k1, h3.grown hg (by omega), by omega, by omega, by omega⟩
theorem Tri3.app3 {w w' : World} {B : Nat} {e s t v' : Value} {es ss : List Nat} {ts : List RD.Bytes} {x : RD.Bytes} (h : Tri3 w B e s t es ss ts) (ho : w'.ownsRow B 9 1 v' ((strs ts).length + 1) (strs ts ++ [.string (RD.bs x)])) (hg : w.grownBy w' t.ownBlock) (hat : v'.ownBlock = t.ownBlock ∨ v'.ownBlock = some w.heap.size) : Tri3 w' B e s v' es ss (ts ++ [x]) := by
  obtain ⟨g1, g2, g3, h1, h2, h3, n1, n2, n3⟩ := h.ex
  obtain ⟨g', k1, k2⟩ := h3.app ho hat
  rw [h3.2.1] at hg
  have l1 := h1.lt
  have l2 := h2.lt
  exact ⟨g1, g2, g', h1.grown hg (by omega), h2.grown hg (by omega), by rw [strs_snoc]; exact k1, by omega, by omega, by omega⟩
/-- Texts, pieces that can be read. -/
def TxArg (w : World) (v : Value) (ts : List RD.Bytes) : Prop := ∃ a c, v = .slice a ts.length c ∧ ts.length ≤ c ∧ (ts = [] ∨ ∃ b o, a = some ⟨b, o, none⟩ ∧ b < w.heap.size ∧ ∀ i, i < ts.length → w.cell? ⟨b, o + i, none⟩ = some (.string (RD.bs (ts.getD i []))))
def noPc : RD.Pc := ⟨[], false, false, false⟩
def PcsArg (w : World) (v : Value) (ps : List RD.Pc) : Prop := ∃ a c, v = .slice a ps.length c ∧ ps.length ≤ c ∧ (ps = [] ∨ ∃ b o, a = some ⟨b, o, none⟩ ∧ b < w.heap.size ∧ ∀ i, i < ps.length → ∃ tv, TxArg w tv (ps.getD i noPc).texts ∧ w.cell? ⟨b, o + i * 4, none⟩ = some tv ∧ w.cell? ⟨b, o + i * 4 + 1, none⟩ = some (.bool (ps.getD i noPc).summed) ∧ w.cell? ⟨b, o + i * 4 + 2, none⟩ = some (.bool (ps.getD i noPc).wrong) ∧ w.cell? ⟨b, o + i * 4 + 3, none⟩ = some (.bool (ps.getD i noPc).skipped))
/-- What a piece costs, at most. -/
def lens (ts : List RD.Bytes) : Nat := (ts.map List.length).sum
def cost (p : RD.Pc) : Nat := 11 + 3 * (p.texts.length + 1) + lens p.texts
def costs (ps : List RD.Pc) : Nat := (ps.map cost).sum
theorem lens_take (ts : List RD.Bytes) (k : Nat) (h : k < ts.length) : lens (ts.take (k + 1)) = lens (ts.take k) + (ts.getD k []).length := by
  unfold lens
  rw [List.take_succ_eq_append_getElem h, List.map_append, List.sum_append, List.getD_eq_getElem?_getD, List.getElem?_eq_getElem h]
  simp
theorem lens_le (ts : List RD.Bytes) (k : Nat) : lens (ts.take k) ≤ lens ts := by
  have : lens ts = lens (ts.take k) + lens (ts.drop k) := by
    unfold lens
    rw [← List.sum_append, ← List.map_append, List.take_append_drop]
  omega
theorem nth_le (ts : List RD.Bytes) (k : Nat) : (RD.nth ts k).length ≤ 1024 ∧ (RD.nth ts k).length ≤ (ts.getD k []).length := by
  unfold RD.nth
  rw [List.length_take]
  omega
theorem rawBlock_len (t : RD.Bytes) (l : Bool) : (RD.rawBlock t l).length = 2 + t.length := by
  unfold RD.rawBlock
  rw [List.length_append]
  rfl
/-- How great the middle of a frame is. -/
theorem mid_len (text : RD.Bytes) (i : RD.Mid) (ts : List RD.Bytes) : ∀ k, k ≤ ts.length + 1 → (RD.midAt text i ts k).s.length ≤ i.s.length + 2 * k + lens (ts.take k) ∧ (RD.midAt text i ts k).all.length ≤ i.all.length + lens (ts.take k) ∧ (RD.midAt text i ts k).starts.length = i.starts.length + k ∧ (RD.midAt text i ts k).texts.length = i.texts.length + k
  | 0, _ => by unfold RD.midAt; simp
  | k + 1, hk => by
    obtain ⟨h1, h2, h3, h4⟩ := mid_len text i ts k (by omega)
    have hn := nth_le ts k
    have hl : lens (ts.take k) + (ts.getD k []).length = lens (ts.take (k + 1)) := by
      by_cases h : k < ts.length
      · exact (lens_take ts k h).symm
      · rw [List.take_of_length_le (by omega), List.take_of_length_le (by omega), List.getD_eq_getElem?_getD, List.getElem?_eq_none (by omega)]
        rfl
    unfold RD.midAt RD.Mid.add
    simp only [List.length_append, rawBlock_len, List.length_cons, List.length_nil]
    omega
theorem four_len (n : Int) : (RD.four n).length = 4 := rfl
theorem skip_len (n : Nat) : (RD.skipOf n).length ≤ 7 + n := by
  unfold RD.skipOf
  simp only [List.length_append, List.length_replicate]
  have : RD.skipW.length = 4 := rfl
  have : (RD.two (n % 256)).length = 2 := rfl
  have : ([0] : RD.Bytes).length = 1 := rfl
  omega
/-- How great all is behind one piece more. -/
structure Room (F : RD.Full) (n : Nat) : Prop where
  s : F.L.s.length ≤ n
  text : F.text.length ≤ n
  ends : F.L.ends.length ≤ n + 1
  starts : F.L.starts.length ≤ n + 1
  texts : F.L.texts.length = F.L.starts.length
theorem Room.add {F : RD.Full} {n : Nat} (h : Room F n) (p : RD.Pc) : Room (F.add p) (n + cost p) := by
  obtain ⟨h1, h2, h3, h4, h5⟩ := h
  unfold RD.Full.add cost
  by_cases hs : p.skipped
  · rw [if_pos hs]
    have := skip_len p.texts.length
    refine ⟨?_, ?_, ?_, ?_, ?_⟩
    all_goals simp only [List.length_append, List.length_cons, List.length_nil]
    all_goals omega
  · rw [if_neg hs]
    obtain ⟨m1, m2, m3, m4⟩ := mid_len F.text (RD.midStart F.L p) p.texts (p.texts.length + 1) (Nat.le_refl _)
    have hL := lens_le p.texts (p.texts.length + 1)
    have e1 : (RD.midStart F.L p).s.length = F.L.s.length + 5 := by
      unfold RD.midStart
      simp only [List.length_append]
      rfl
    have e2 : (RD.midStart F.L p).all.length = 0 := rfl
    have e3 : (RD.midStart F.L p).starts = F.L.starts := rfl
    have e4 : (RD.midStart F.L p).texts = F.L.texts := rfl
    have e5 : (RD.tailOf p (RD.midEnd F p).all).length ≤ 4 := by
      unfold RD.tailOf
      split
      · rw [four_len]; omega
      · simp
    rw [e3] at m3
    rw [e4] at m4
    unfold RD.midEnd at e5 ⊢
    refine ⟨?_, ?_, ?_, ?_, ?_⟩
    all_goals simp only [List.length_append, List.length_cons, List.length_nil]
    all_goals omega
end Go.Proofs.YtbhemchnjpajiaaGreatDoor

/- Several texts in one: PrLaw8. -/
import Derived.Test.YtbhemchnjpajiaaGreatDoorJV
/- The law Raws, walked. -/
namespace Go.Proofs.YtbhemchnjpajiaaGreatDoor
open Go.RowKit
set_option linter.unusedVariables false
set_option linter.unusedSimpArgs false

/-- The law's loop: what holds before round k. -/
structure RawsAt (W1 : World) (B : Nat) (ps : List RD.Pc) (k : Nat) (F : RD.Full) (e s t : Value) (wr : World) : Prop where
  below : Below B W1 wr
  tri : Tri3 wr B e s t F.L.ends F.L.starts F.L.texts
  left : RD.build RD.Full.start ps = RD.build F (ps.drop k)
  room : ∃ n, Room F n ∧ n + costs (ps.drop k) ≤ 16777216
  wrong : F.wrong = -1 ∨ (0 ≤ F.wrong ∧ F.wrong ≤ 33554432)
theorem DictsAt.shape {w : World} {v : Value} {ds : List (Int × RD.Bytes)} (h : DictsAt w v ds) : ∃ a c, v = .slice a ds.length c := by
  obtain ⟨a, c, e, -⟩ := h
  exact ⟨a, c, e⟩
theorem own1_lit (w : World) (B : Nat) (T : TypeId) (u : Value) (h : B ≤ w.heap.size) : Own1 (w.alloc (.cells #[u] T)) B T w.heap.size (.slice (some ⟨w.heap.size, 0, none⟩) 1 1) [u] :=
  ⟨World.ownsRow_lit w #[u] 1 h (by unfold maxLen; omega) rfl, rfl, 1, rfl⟩
theorem tri_start (W : World) (B : Nat) (hB : B = W.heap.size) : Tri3 (((W.alloc (.cells #[.int .i64 0] 3)).alloc (.cells #[.int .i64 0] 3)).alloc (.cells #[.string ⟨#[]⟩] 9)) B (.slice (some ⟨W.heap.size, 0, none⟩) 1 1) (.slice (some ⟨W.heap.size + 1, 0, none⟩) 1 1) (.slice (some ⟨W.heap.size + 1 + 1, 0, none⟩) 1 1) [0] [0] [[]] := by
  have h1 := own1_lit W B 3 (.int .i64 0) (by omega)
  have h2 := own1_lit (W.alloc (.cells #[.int .i64 0] 3)) B 3 (.int .i64 0) (by rw [World.size_alloc]; omega)
  have h3 := own1_lit ((W.alloc (.cells #[.int .i64 0] 3)).alloc (.cells #[.int .i64 0] 3)) B 9 (.string ⟨#[]⟩) (by rw [World.size_alloc, World.size_alloc]; omega)
  rw [World.size_alloc] at h2
  rw [World.size_alloc, World.size_alloc] at h3
  have b1 : Below (W.heap.size + 1) (W.alloc (.cells #[.int .i64 0] 3)) ((W.alloc (.cells #[.int .i64 0] 3)).alloc (.cells #[.int .i64 0] 3)) := (Below.refl _ _).alloc (by rw [World.size_alloc]; omega) _
  have b2 : Below (W.heap.size + 1 + 1) ((W.alloc (.cells #[.int .i64 0] 3)).alloc (.cells #[.int .i64 0] 3)) (((W.alloc (.cells #[.int .i64 0] 3)).alloc (.cells #[.int .i64 0] 3)).alloc (.cells #[.string ⟨#[]⟩] 9)) := (Below.refl _ _).alloc (by rw [World.size_alloc, World.size_alloc]; omega) _
  exact ⟨W.heap.size, W.heap.size + 1, W.heap.size + 1 + 1, (h1.below (by rw [World.size_alloc]; exact b1)).below (by rw [World.size_alloc, World.size_alloc]; exact b2), h2.below (by rw [World.size_alloc, World.size_alloc]; exact b2), h3, by omega, by omega, by omega⟩
theorem cat {a b c : RD.Bytes} (h : c = a ++ b) : RD.bs a ++ RD.bs b = RD.bs c := by rw [h]; exact RD.bs_append a b
theorem drop_here {ps : List RD.Pc} {k : Nat} (h : k < ps.length) : ps.drop k = ps.getD k noPc :: ps.drop (k + 1) := by
  rw [List.drop_eq_getElem_cons h, List.getD_eq_getElem?_getD, List.getElem?_eq_getElem h]
  rfl
theorem one_int (n : Int) : ∀ u ∈ ([.int .i64 n] : List Value), u.oneCell' = true := by
  intro u hu
  rw [List.mem_singleton.1 hu]
  rfl
theorem one_str (b : ByteArray) : ∀ u ∈ ([.string b] : List Value), u.oneCell' = true := by
  intro u hu
  rw [List.mem_singleton.1 hu]
  rfl
/-- One piece more. -/
theorem RawsAt.add {W1 : World} {B : Nat} {ps : List RD.Pc} {k : Nat} {F : RD.Full} {e s t e' s' t' : Value} {wr w' : World} (h : RawsAt W1 B ps k F e s t wr) (hk : k < ps.length) (hw : F.wrong < 0) (p : RD.Pc) (hp : ps.getD k noPc = p) (hb : Below B W1 w') (ht : Tri3 w' B e' s' t' (F.add p).L.ends (F.add p).L.starts (F.add p).L.texts) : RawsAt W1 B ps (k + 1) (F.add p) e' s' t' w' := by
  have hd := drop_here hk
  rw [hp] at hd
  obtain ⟨n, hn1, hn2⟩ := h.room
  have hr := hn1.add p
  rw [hd] at hn2
  have hcc : costs (p :: ps.drop (k + 1)) = cost p + costs (ps.drop (k + 1)) := by unfold costs; simp
  refine ⟨hb, ht, ?_, ⟨n + cost p, hr, by omega⟩, ?_⟩
  · rw [h.left, hd]
    show (if F.wrong < 0 then RD.build (F.add p) _ else F) = _
    rw [if_pos hw]
  · have h1 := hr.s
    revert h1
    unfold RD.Full.add
    by_cases hs : p.skipped
    · rw [if_pos hs]
      exact fun _ => .inl rfl
    · rw [if_neg hs]
      simp only [List.length_append]
      intro h1
      split
      · refine .inr ?_
        omega
      · exact .inl rfl
theorem Own1.ne {w : World} {B : Nat} {T t : TypeId} {g p : Nat} {v : Value} {xs cs : List Value} (h : Own1 w B T g v xs) (hp : Blk w p t cs) (hne : T ≠ t) : g ≠ p := by
  intro e
  obtain ⟨⟨-, h2⟩, h3, -⟩ := h
  rcases h2 with ⟨rfl, -⟩ | ⟨g', cap, cur, rfl, -, hg, -⟩
  · cases h3
  · have e1 : g' = g := Option.some.inj h3
    rw [e1, e] at hg
    unfold Blk at hp
    rw [hg] at hp
    injection hp with hp
    injection hp with _ q _
    exact hne q
theorem Blk.grown {w w' : World} {g p : Nat} {t : TypeId} {cs : List Value} (h : Blk w p t cs) (hg : w.grownBy w' (some g)) (hne : g ≠ p) : Blk w' p t cs := by
  have hl := h.lt
  unfold Blk at h ⊢
  rw [hg.block p hl (fun e => hne (Option.some.inj e).symm)]
  exact h
/-- In the middle of a piece: what holds before its text j. -/
structure MidOk (W1 : World) (B q : Nat) (cs : List Value) (M : RD.Mid) (ends : List Nat) (e s t : Value) (wj : World) : Prop where
  below : Below B W1 wj
  tri : Tri3 wj B e s t ends M.starts M.texts
  blk : Blk wj q 30 cs
theorem len_costs : ∀ ps : List RD.Pc, ps.length ≤ costs ps
  | [] => Nat.le_refl _
  | p :: ps => by
    have := len_costs ps
    have e : costs (p :: ps) = cost p + costs ps := by unfold costs; simp
    have : 11 ≤ cost p := by unfold cost; omega
    rw [e, List.length_cons]
    omega
theorem below_up {A B : Nat} {a b c : World} (h : Below A a b) (k : Below B b c) (hAB : A ≤ B) : Below A a c := h.trans ⟨k.os, k.tape, k.output, k.size, fun j hj => k.block j (by omega)⟩
theorem u8s_four (n : Int) (h : 0 ≤ n ∧ n ≤ 4294967295) : (u8s (RD.four n)).toArray = #[.int .u8 (n % 256), .int .u8 (n / 256 % 256), .int .u8 (n / 65536 % 256), .int .u8 (n / 16777216)] := by
  have e : ∀ z : Int, 0 ≤ z → z < 256 → ((UInt8.ofNat z.toNat).toNat : Int) = z := fun z h0 h1 => by rw [UInt8.toNat_ofNat']; omega
  unfold u8s RD.four
  simp only [List.map_cons, List.map_nil, e (n % 256) (by omega) (by omega), e (n / 256 % 256) (by omega) (by omega), e (n / 65536 % 256) (by omega) (by omega), e (n / 16777216 % 256) (by omega) (by omega)]
  rw [show n / 16777216 % 256 = n / 16777216 by omega]
theorem ints_at (l : List Nat) (i : Nat) (h : i < l.length) : (ints l)[i]? = some (.int .i64 ((l.getD i 0 : Nat) : Int)) := by
  unfold ints
  rw [List.getElem?_map, List.getD_eq_getElem?_getD, List.getElem?_eq_getElem h]
  rfl
theorem strs_at (l : List RD.Bytes) (i : Nat) (h : i < l.length) : (strs l)[i]? = some (.string (RD.bs (l.getD i []))) := by
  unfold strs
  rw [List.getElem?_map, List.getD_eq_getElem?_getD, List.getElem?_eq_getElem h]
  rfl
theorem want_take (n : Nat) (xs : List Nat) (ts : List RD.Bytes) (hl : ts.length = xs.length) (i : Nat) (h : i < xs.length) : RD.wantOf n (xs.take (i + 1)) (ts.take (i + 1)) [] = if xs.getD i 0 ≤ n then ts.getD i [] else RD.wantOf n (xs.take i) (ts.take i) [] := by
  rw [List.take_succ_eq_append_getElem h, List.take_succ_eq_append_getElem (by omega), RD.wantOf_snoc _ _ _ _ _ _ (by rw [List.length_take, List.length_take]; omega)]
  rw [List.getD_eq_getElem?_getD, List.getD_eq_getElem?_getD, List.getElem?_eq_getElem h, List.getElem?_eq_getElem (by omega : i < ts.length)]
  rfl
theorem mem_take_succ (n : Nat) (xs : List Nat) (i : Nat) (h : i < xs.length) : n ∈ xs.take (i + 1) ↔ n ∈ xs.take i ∨ xs.getD i 0 = n := by
  rw [List.take_succ_eq_append_getElem h, List.mem_append, List.mem_singleton, List.getD_eq_getElem?_getD, List.getElem?_eq_getElem h]
  constructor
  · rintro (h | h)
    · exact .inl h
    · exact .inr h.symm
  · rintro (h | h)
    · exact .inl h
    · exact .inr h.symm
def RawsPost (w : World) (e : Ending) (w' : World) : Prop := e = .returned (.bool true) ∧ Below w.heap.size w w'
set_option maxRecDepth 100000 in
set_option maxHeartbeats 40000000 in
theorem raws_any (x : Fx) (lim cut : Int) (ds : List (Int × RD.Bytes)) (v pv : Value) (ps : List RD.Pc) (w : World) (hl : -9223372036854775808 ≤ lim ∧ lim ≤ 9223372036854775807) (hcut : -9223372036854775808 ≤ cut ∧ cut ≤ 9223372036854775807) (hD : DictsArg w v ds) (hdl : ds.length ≤ 1048576) (ht : ∀ d ∈ ds, d.2.length ≤ 1048576)
    (hP : PcsArg w pv ps) (hcs : costs ps ≤ 16777216) (hV : VarsAt x w) (hE : ErrRows x w) :
    Calls Tryz.prog 3 #[.agg #[.int .i64 lim, v], pv, .int .i64 cut] w (RawsPost w) := by
  have hlm : Hid (∀ W, Below w.heap.size w W → Calls Tryz.prog 10 #[.agg #[.int .i64 lim, v]] W (LimPost lim ds W)) := fun W hW => limits_any lim ds v W hl (by
    obtain ⟨a, c, e, h1, h2⟩ := hD
    refine ⟨a, c, e, h1, ?_⟩
    rcases h2 with h2 | ⟨b, o, e2, hb, h2⟩
    · exact .inl h2
    · exact .inr ⟨b, o, e2, Nat.lt_of_lt_of_le hb hW.size, fun i hi => ⟨(hW.cell (p := ⟨b, _, none⟩) hb).trans (h2 i hi).1, (hW.cell (p := ⟨b, _, none⟩) hb).trans (h2 i hi).2⟩⟩) hdl ht
  obtain ⟨hcok, hiok⟩ := limC_ok lim ds
  generalize hC : limC lim ds = C at *
  obtain ⟨a, cc, rfl, hcc, hdd⟩ := hD
  obtain ⟨pa, pc, rfl, hpc, hpp⟩ := hP
  have hb0 : Below w.heap.size w (w.alloc (.cells #[.int .i64 lim, .slice a ds.length cc] 24)) := (Below.refl _ w).alloc (Nat.le_refl _) _
  have hN0 := Blk.new w 24 [.int .i64 lim, .slice a ds.length cc]
  have hs0 : (w.alloc (.cells #[.int .i64 lim, .slice a ds.length cc] 24)).heap.size = w.heap.size + 1 := World.size_alloc _ _
  go_enter Tryz.func3, Tryz.ntmps3
  go_wp2_with fail
  refine (hlm.out _ hb0).mono ?_
  rintro e w1 ⟨hb1, v1, rfl, hD1⟩
  rw [hC] at hD1 ⊢
  obtain ⟨a1, c1, rfl⟩ := hD1.shape
  rw [hs0] at hb1
  have hN1 := hN0.below hb1 (by omega)
  have n0 := hN1.cell (j := 0) rfl
  have n1 := hN1.cell (j := 1) rfl
  have f0 := hN1.free 0
  have f1 := hN1.free 1
  have hN2 := (hN1.put 0 (.int .i64 C.limit)).put 1 (.slice a1 C.dicts.length c1)
  have ho2 : Only (fun b => b = w.heap.size) w1 ((w1.setCell ⟨w.heap.size, 0, none⟩ (.int .i64 C.limit)).setCell ⟨w.heap.size, 1, none⟩ (.slice a1 C.dicts.length c1)) := ((Only.refl (fun b => b = w.heap.size) w1).setCell ⟨w.heap.size, 0, none⟩ _ (fun _ => rfl)).setCell ⟨w.heap.size, 1, none⟩ _ (fun _ => rfl)
  replace ho2 := hid' ho2
  replace hN0 := hid' hN0
  replace hb1 := hid' hb1
  replace hb0 := hid' hb0
  replace hpp := hid' hpp
  replace hdd := hid' hdd
  go_wp2_with (first | fail)
  have hs2 : ((w1.setCell ⟨w.heap.size, 0, none⟩ (.int .i64 C.limit)).setCell ⟨w.heap.size, 1, none⟩ (.slice a1 C.dicts.length c1)).heap.size = w1.heap.size := by simp
  obtain ⟨W2, hW2⟩ : ∃ W, W = ((w1.setCell ⟨w.heap.size, 0, none⟩ (.int .i64 C.limit)).setCell ⟨w.heap.size, 1, none⟩ (.slice a1 C.dicts.length c1)) := ⟨_, rfl⟩
  rw [← hW2] at hN2 ho2 hs2
  rw [← hW2]
  rw [← hs2]
  replace hW2 := hid' hW2
  have hb2 : Below w.heap.size w W2 := by
    have hs1 := hb1.out.size
    rw [hs0] at hs1
    refine hb0.out.trans ⟨(ho2.out.os).trans hb1.out.os, (ho2.out.tape).trans hb1.out.tape, (ho2.out.output).trans hb1.out.output, by have := ho2.out.size; omega, fun k hk => ?_⟩
    exact (ho2.out.block k (by omega) (by omega)).trans (hb1.out.block k (by omega))
  have hD2 : DictsAt W2 (.slice a1 C.dicts.length c1) C.dicts := by
    obtain ⟨a', c', e', q1, q2⟩ := hD1
    obtain ⟨rfl, -, rfl⟩ := Value.slice.inj e'
    refine ⟨_, _, rfl, q1, ?_⟩
    rcases q2 with q2 | ⟨b, rfl, hbl, hd⟩
    · exact .inl q2
    · by_cases h0 : C.dicts = []
      · exact .inl h0
      · have hne : b ≠ w.heap.size := fun e => by
          have := (hd 0 (List.length_pos_iff.2 h0)).2
          rw [e] at this
          rw [show (0 * 2 + 1 : Nat) = 1 from rfl, n1] at this
          cases this
        exact .inr ⟨b, rfl, Nat.lt_of_lt_of_le hbl ho2.out.size, fun i hi => ⟨ho2.out.cell (hd i hi).1 hbl hne, ho2.out.cell (hd i hi).2 hbl hne⟩⟩
  have hN : Blk W2 w.heap.size 24 [.int .i64 C.limit, .slice a1 C.dicts.length c1] := hN2
  have hT := tri_start W2 W2.heap.size rfl
  have hbT : Below W2.heap.size W2 (((W2.alloc (.cells #[.int .i64 0] 3)).alloc (.cells #[.int .i64 0] 3)).alloc (.cells #[.string ⟨#[]⟩] 9)) := (((Below.refl _ W2).alloc (Nat.le_refl _) _).alloc (by simp) _).alloc (by simp; omega) _
  generalize ((W2.alloc (.cells #[.int .i64 0] 3)).alloc (.cells #[.int .i64 0] 3)).alloc (.cells #[.string ⟨#[]⟩] 9) = W3 at *
  clear hN2 n0 n1 f0 f1 hs0 hD1
  replace hs2 := hid' hs2
  go_loopg [7, 8, 9, 10, 11, 12, 13] (ps.length + 1) (fun gh sv tv e s t wv kv wr => ∃ (k : Nat) (F : RD.Full), gh = ps.length + 1 - k ∧ k ≤ ps.length ∧ sv = .string (RD.bs F.L.s) ∧ tv = .string (RD.bs F.text) ∧ wv = .int .i64 F.wrong ∧ kv = .int .i64 (k : Int) ∧ RawsAt W2 W2.heap.size ps k F e s t wr)
  case atStart =>
    exact ⟨0, RD.Full.start, by omega, by omega, rfl, rfl, rfl, rfl, ⟨hbT, hT, rfl, ⟨0, ⟨by decide, by decide, by decide, by decide, rfl⟩, by rw [List.drop_zero]; omega⟩, .inl rfl⟩⟩
  case round =>
    obtain ⟨k, F, rfl, hk, rfl, rfl, rfl, rfl, hR⟩ := hrel
    have hwr := hR.wrong
    have hpsl : ps.length ≤ 16777216 := Nat.le_trans (len_costs ps) hcs
    have hbw : Below w.heap.size w wr := hb2.trans ⟨hR.below.os, hR.below.tape, hR.below.output, hR.below.size, fun j hj => hR.below.block j (by have := hb2.size; omega)⟩
    obtain ⟨rn, hrm, hrc⟩ := hR.room
    obtain ⟨r1, r2, r3, r4, r5⟩ := hrm
    obtain ⟨i0, hi0, hz0, hz1, hz2⟩ := info_parts infoIntc
    obtain ⟨j0, hj0, hy0, hy1, hy2⟩ := info_parts infoStrc
    by_cases hlt : k < ps.length ∧ F.wrong < 0
    · have hlt1 : (k : Int) < (ps.length : Int) := by omega
      have hlt2 : F.wrong < 0 := hlt.2
      have hw1 : F.wrong = -1 := by omega
      have hadd := hid' (fun (p : RD.Pc) (hp : ps.getD k noPc = p) (e' s' t' : Value) (w' : World) => hR.add (e' := e') (s' := s') (t' := t') (w' := w') hlt.1 hlt2 p hp)
      rw [hw1]
      replace hw1 := hid' hw1
      replace hlt2 := hid' hlt2
      replace hwr := hid' hwr
      rcases hpp.out with hpe | ⟨pb, po, rfl, hpl, hpq⟩
      · rw [hpe] at hlt
        exact absurd hlt.1 (by simp)
      obtain ⟨tv, hTx, p0, p1, p2, p3⟩ := hpq k hlt.1
      have hdr := drop_here hlt.1
      obtain ⟨P, hPe⟩ : ∃ P, ps.getD k noPc = P := ⟨_, rfl⟩
      rw [hPe] at hTx p1 p2 p3 hdr
      have hcc : costs (P :: ps.drop (k + 1)) = cost P + costs (ps.drop (k + 1)) := by unfold costs; simp
      rw [hdr, hcc] at hrc
      obtain ⟨ts, sm, wg, sk⟩ := P
      simp only [] at hTx p1 p2 p3
      have hcost : cost ⟨ts, sm, wg, sk⟩ = 11 + 3 * (ts.length + 1) + lens ts := rfl
      obtain ⟨ta, tc, rfl, htc, htx⟩ := hTx
      have q0 := (hbw.cell (p := ⟨pb, _, none⟩) hpl).trans p0
      have q1 := (hbw.cell (p := ⟨pb, _, none⟩) hpl).trans p1
      have q2 := (hbw.cell (p := ⟨pb, _, none⟩) hpl).trans p2
      have q3 := (hbw.cell (p := ⟨pb, _, none⟩) hpl).trans p3
      have hT := hR.tri
      have hbR := hR.below
      clear p0 p1 p2 p3 hdr hcc
      replace hpq := hid' hpq
      replace htx := hid' htx
      replace hR := hid' hR
      replace hbw := hid' hbw
      have hbA : Below wr.heap.size wr (wr.alloc (.cells #[.slice ta ts.length tc, .bool sm, .bool wg, .bool sk] 30)) := (Below.refl _ wr).alloc (Nat.le_refl _) _
      have hNA := Blk.new wr 30 [.slice ta ts.length tc, .bool sm, .bool wg, .bool sk]
      obtain ⟨WA, hWA⟩ : ∃ W, W = wr.alloc (.cells #[.slice ta ts.length tc, .bool sm, .bool wg, .bool sk] 30) := ⟨_, rfl⟩
      cases sk with
      | true =>
        obtain ⟨m, hm⟩ : ∃ m, m = ts.length % 256 := ⟨_, rfl⟩
        have hm2 : m ≤ 255 := by omega
        have hmi : (ts.length : Int) % 256 = (m : Int) := by omega
        obtain ⟨A1, hA1⟩ : ∃ A, A = F.L.s ++ RD.skipW := ⟨_, rfl⟩
        obtain ⟨A2, hA2⟩ : ∃ A, A = A1 ++ RD.two m := ⟨_, rfl⟩
        obtain ⟨A3, hA3⟩ : ∃ A, A = A2 ++ [0] := ⟨_, rfl⟩
        obtain ⟨A4, hA4⟩ : ∃ A, A = A3 ++ List.replicate m 0 := ⟨_, rfl⟩
        have hA : Hid (A4 = F.L.s ++ RD.skipOf ts.length) := by
          unfold Hid RD.skipOf
          rw [hA4, hA3, hA2, hA1, ← hm]
          simp only [List.append_assoc]
        have d1 : RD.bs F.L.s ++ (⟨#[83, 75, 73, 80]⟩ : ByteArray) = RD.bs A1 := cat (b := RD.skipW) hA1
        have d2 := cat hA2
        have d3 : RD.bs A2 ++ (⟨#[0]⟩ : ByteArray) = RD.bs A3 := cat (b := [0]) hA3
        have d4 := cat hA4
        have z0 := RD.bs_size F.L.s
        have z1 : (RD.bs A1).size = F.L.s.length + 4 := by rw [RD.bs_size, hA1, List.length_append]; rfl
        have z2 : (RD.bs A2).size = F.L.s.length + 6 := by rw [RD.bs_size, hA2, hA1, List.length_append, List.length_append]; rfl
        have z3 : (RD.bs A3).size = F.L.s.length + 7 := by rw [RD.bs_size, hA3, hA2, hA1, List.length_append, List.length_append, List.length_append]; rfl
        obtain ⟨N4, hN4⟩ : ∃ n, n = A4.length := ⟨_, rfl⟩
        have hN4b : N4 ≤ F.L.s.length + 7 + m := by rw [hN4, hA4, List.length_append, ← RD.bs_size A3, z3, List.length_replicate]; omega
        have z4 : (RD.bs A4).size = N4 := by rw [RD.bs_size, hN4]
        replace hN4 := hid' hN4
        have zm : (RD.bs (RD.two m)).size = 2 := RD.bs_size _
        have zb : (RD.bs (List.replicate m 0)).size = m := by rw [RD.bs_size, List.length_replicate]
        replace hA1 := hid' hA1
        replace hA2 := hid' hA2
        replace hA3 := hid' hA3
        replace hA4 := hid' hA4
        replace hm := hid' hm
        go_wp2_with fail
        refine (two_any m _ (by omega)).mono ?_
        rintro e w3 ⟨rfl, hb3⟩
        go_wp2_with fail
        refine (blanks_any m _ hm2).mono ?_
        rintro e w4 ⟨rfl, hb4⟩
        have hT4 := ((hT.below hbA).below hb3).below hb4
        have hbB : Below W2.heap.size W2 w4 := by
          have k1 := hbA.size
          have k2 := hb3.size
          have k0 := hbR.size
          exact ((hbR.trans ⟨hbA.os, hbA.tape, hbA.output, hbA.size, fun j hj => hbA.block j (by omega)⟩).trans ⟨hb3.os, hb3.tape, hb3.output, hb3.size, fun j hj => hb3.block j (by omega)⟩).trans ⟨hb4.os, hb4.tape, hb4.output, hb4.size, fun j hj => hb4.block j (by omega)⟩
        have hb5 : Below w4.heap.size w4 (w4.alloc (.cells #[.int .i64 (N4 : Int)] 3)) := (Below.refl _ w4).alloc (Nat.le_refl _) _
        have hT5 := hT4.below hb5
        obtain ⟨g1, g2, g3, o1, o2, o3, -⟩ := id hT5.ex
        have el : (ints F.L.ends).length ≤ 16777217 := by rw [ints_len]; omega
        have hbs := hbB.size
        replace o1 := hid' o1
        replace o2 := hid' o2
        replace o3 := hid' o3
        replace hT5 := hid' hT5
        replace hT4 := hid' hT4
        replace hT := hid' hT
        replace hb5 := hid' hb5
        replace hbB := hid' hbB
        replace hb4 := hid' hb4
        replace hb3 := hid' hb3
        replace hbA := hid' hbA
        go_wp2_with (at_builtin; refine wpList_append_own_at _ rfl _ _ 27 rfl W2.heap.size 3 i0 _ 1 8 Tryz.underlying27 hi0 hz0 hz1 hz2 rfl (by decide) _ _ _ rfl o1.out.1 ⟨w4.heap.size, 0, none⟩ 1 1 [.int .i64 (N4 : Int)] rfl rfl (cell_one_new _ _ _) (one_int _) (by unfold maxLen; omega) (by omega) (by simp; omega) ?_)
        intro v' w6 hown6 hgrow hnil6 hat6
        have hT6 := hT5.out.app1 hown6 hgrow (by rw [World.size_alloc]; exact hat6)
        have hb6 : Hid (Below W2.heap.size W2 w6) := (hbB.out.alloc hbs _).grown hgrow (by simp; omega) (fun j hj => by have := o1.out.lt; rw [o1.out.2.1] at hj; have := Option.some.inj hj; omega)
        have hfin : Hid (RawsAt W2 W2.heap.size ps (k + 1) (F.add ⟨ts, sm, wg, true⟩) v' u10 u11 w6 ∧ (F.add ⟨ts, sm, wg, true⟩).L.s = A4 ∧ (F.add ⟨ts, sm, wg, true⟩).text = F.text ∧ (F.add ⟨ts, sm, wg, true⟩).wrong = -1) := by
          have ea : F.add ⟨ts, sm, wg, true⟩ = ⟨⟨A4, F.L.ends ++ [A4.length], F.L.starts, F.L.texts⟩, F.text, -1⟩ := by
            unfold RD.Full.add
            rw [hA.out]
            rfl
          refine ⟨hadd.out _ hPe _ _ _ _ hb6.out ?_, ?_, ?_, ?_⟩
          · rw [ea]
            rw [hN4.out] at hT6
            exact hT6
          · rw [ea]
          · rw [ea]
          · rw [ea]
        replace hT6 := hid' hT6
        clear hown6 hgrow hat6
        go_wp2_with fail
        go_roundg (ps.length + 1 - (k + 1))
        case rel => exact ⟨k + 1, F.add ⟨ts, sm, wg, true⟩, rfl, by omega, by rw [hfin.out.2.1], by rw [hfin.out.2.2.1], by rw [hfin.out.2.2.2], by go_num, hfin.out.1⟩
        case measure => omega
      | false =>
        obtain ⟨hd, hhd⟩ : ∃ h, h = RD.headOf sm := ⟨_, rfl⟩
        have hbW : Below W2.heap.size W2 (wr.alloc (.cells #[.slice ta ts.length tc, .bool sm, .bool wg, .bool false] 30)) := hbR.trans ⟨hbA.os, hbA.tape, hbA.output, hbA.size, fun j hj => hbA.block j (by have := hbR.size; omega)⟩
        have hM0 : MidOk W2 W2.heap.size wr.heap.size [.slice ta ts.length tc, .bool sm, .bool wg, .bool false] (RD.midAt F.text (RD.midStart F.L ⟨ts, sm, wg, false⟩) ts 0) F.L.ends u9 u10 u11 (wr.alloc (.cells #[.slice ta ts.length tc, .bool sm, .bool wg, .bool false] 30)) := ⟨hbW, hT.below hbA, hNA⟩
        obtain ⟨A0, hA0⟩ : ∃ A, A = F.L.s ++ RD.readW := ⟨_, rfl⟩
        obtain ⟨A1, hA1⟩ : ∃ A, A = A0 ++ [hd] := ⟨_, rfl⟩
        have hAs : Hid ((RD.midAt F.text (RD.midStart F.L ⟨ts, sm, wg, false⟩) ts 0).s = A1 ∧ (RD.midAt F.text (RD.midStart F.L ⟨ts, sm, wg, false⟩) ts 0).all = []) := by
          refine ⟨?_, rfl⟩
          rw [hA1, hA0, hhd, List.append_assoc]
          rfl
        have d0 : RD.bs F.L.s ++ (⟨#[83, 75, 78, 49]⟩ : ByteArray) = RD.bs A0 := cat (b := RD.readW) hA0
        have d1 : RD.bs A0 ++ RD.bs [hd] = RD.bs A1 := cat hA1
        have z0 := RD.bs_size F.L.s
        have z1 : (RD.bs A0).size = F.L.s.length + 4 := by rw [RD.bs_size, hA0, List.length_append]; rfl
        have z2 : (RD.bs [hd]).size = 1 := RD.bs_size _
        replace hA0 := hid' hA0
        replace hA1 := hid' hA1
        replace hhd := hid' hhd
        have hhead : Hid (RD.bs [hd] = if sm then (⟨#[8]⟩ : ByteArray) else ⟨#[0]⟩) := by
          unfold Hid
          rw [hhd.out]
          cases sm <;> rfl
        have n1 := hNA.cell (j := 1) rfl
        have n0 := hNA.cell (j := 0) rfl
        have n3 := hNA.cell (j := 3) rfl
        cases sm with
        | false =>
          have hh : RD.bs [hd] = (⟨#[0]⟩ : ByteArray) := hhead.out
          rw [hh] at d1 z2
          replace hh := hid' hh
          as_aux_lemma =>
            go_wp2_with fail
            obtain ⟨M0, hM0e⟩ : ∃ M, M = RD.midStart F.L ⟨ts, false, wg, false⟩ := ⟨_, rfl⟩
            rw [← hM0e] at hM0 hAs
            have hml := hid' (mid_len F.text M0 ts)
            have hM0l : M0.s.length = F.L.s.length + 5 ∧ M0.all.length = 0 ∧ M0.starts = F.L.starts ∧ M0.texts = F.L.texts := by
              rw [hM0e]
              refine ⟨?_, rfl, rfl, rfl⟩
              unfold RD.midStart
              simp only [List.length_append]
              rfl
            obtain ⟨m0a, m0b, m0c, m0d⟩ := hM0l
            replace hM0e := hid' hM0e
            obtain ⟨Q, hQ⟩ : ∃ q, wr.heap.size = q := ⟨_, rfl⟩
            rw [hQ] at hM0 ⊢
            replace hQ := hid' hQ
            replace hM0 := hid' hM0
            replace hNA := hid' hNA
            generalize hWA2 : wr.alloc (.cells #[.slice ta ts.length tc, .bool false, .bool wg, .bool false] 30) = WB at *
            replace hWA2 := hid' hWA2
            clear n0 n1 n3
            go_loopg [7, 10, 11, 17, 18] (ts.length + 2) (fun gh sv s t av jv wj => ∃ j : Nat, gh = ts.length + 2 - j ∧ j ≤ ts.length + 1 ∧ sv = .string (RD.bs (RD.midAt F.text M0 ts j).s) ∧ av = .string (RD.bs (RD.midAt F.text M0 ts j).all) ∧ jv = .int .i64 (j : Int) ∧ MidOk W2 W2.heap.size Q [.slice ta ts.length tc, .bool false, .bool wg, .bool false] (RD.midAt F.text M0 ts j) F.L.ends u9 s t wj)
            case atStart => exact ⟨0, by omega, by omega, by rw [hAs.out.1], by rw [hAs.out.2]; rfl, rfl, hM0.out⟩
            case round =>
              obtain ⟨j, rfl, hj, rfl, rfl, rfl, hMok⟩ := hrel
              obtain ⟨l1, l2, l3, l4⟩ := hml.out j hj
              have hlj := lens_le ts j
              obtain ⟨Mj, hMj⟩ : ∃ M, RD.midAt F.text M0 ts j = M := ⟨_, rfl⟩
              obtain ⟨hbj, hTj, hKj⟩ := hMok
              rw [hMj] at l1 l2 l3 l4 hTj ⊢
              rw [m0c] at l3
              rw [m0d] at l4
              obtain ⟨Ms, Ma, Mst, Mtx⟩ := Mj
              simp only [] at l1 l2 l3 l4 hTj ⊢
              replace hMj := hid' hMj
              have k0 := hKj.cell (j := 0) rfl
              have k1 := hKj.cell (j := 1) rfl
              have k2 := hKj.cell (j := 2) rfl
              have hbjw : Below w.heap.size w wr := hb2.trans ⟨hbj.os, hbj.tape, hbj.output, hbj.size, fun i hi => hbj.block i (by have := hb2.size; omega)⟩
              have hwjs := hbj.size
              replace hbjw := hid' hbjw
              by_cases hjl : j ≤ ts.length
              · have hj1 : (j : Int) ≤ (ts.length : Int) := by omega
                by_cases hje : j < ts.length
                · have hj2 : (j : Int) < (ts.length : Int) := by omega
                  have hj3 : ((j : Int) == (ts.length : Int)) = false := by simp; omega
                  have hj4 : ¬ ((j : Int) = (ts.length : Int)) := by omega
                  have hj5 : ¬ (j = ts.length) := by omega
                  have hlast : Hid (decide (j = ts.length) = false) := by unfold Hid; simp; omega
                  rcases htx.out with hte | ⟨tb, to', rfl, htb, htq⟩
                  · rw [hte] at hje; simp at hje
                  have hcell := (hbjw.out.cell (p := ⟨tb, to' + j, none⟩) htb).trans (htq j hje)
                  have hlt5 := lens_take ts j hje
                  have hlj5 := lens_le ts (j + 1)
                  obtain ⟨T0, hT0⟩ : ∃ T, T = ts.getD j [] := ⟨_, rfl⟩
                  rw [← hT0] at hcell hlt5
                  have z0t := RD.bs_size T0
                  replace hlt5 := hid' hlt5
                  have hT0l : lens (ts.take j) + T0.length ≤ lens ts := by have := hlt5.out; omega
                  by_cases hlong : 1024 < T0.length
                  · have hlo : (1024 : Int) < (T0.length : Int) := by omega
                    obtain ⟨T, hTt⟩ : ∃ T, T = T0.take 1024 := ⟨_, rfl⟩
                    have hex : (RD.bs T0).extract 0 1024 = RD.bs T := by rw [hTt]; exact RD.bs_take T0 1024
                    have hT1 : T.length ≤ 1024 := by rw [hTt, List.length_take]; omega
                    have hT2 : T.length ≤ T0.length := by rw [hTt, List.length_take]; omega
                    have hTe : Hid (T = RD.nth ts j) := by unfold Hid RD.nth; rw [hTt, hT0]
                    replace hTt := hid' hTt
                    replace hT0 := hid' hT0
                    obtain ⟨A, hA⟩ : ∃ A, A = Ms ++ RD.rawBlock T false := ⟨_, rfl⟩
                    obtain ⟨D, hD⟩ : ∃ D, D = Ma ++ T := ⟨_, rfl⟩
                    obtain ⟨E, hEe⟩ : ∃ E, E = F.text ++ D := ⟨_, rfl⟩
                    have d1 := cat hA
                    have d2 := cat hD
                    have d3 := cat hEe
                    obtain ⟨Na, hNa⟩ : ∃ n, n = A.length := ⟨_, rfl⟩
                    have hNb : Na ≤ Ms.length + 2 + T.length := by rw [hNa, hA, List.length_append, rawBlock_len]; omega
                    have zA : (RD.bs A).size = Na := by rw [RD.bs_size, hNa]
                    obtain ⟨Nd, hNd⟩ : ∃ n, n = D.length := ⟨_, rfl⟩
                    have hNdb : Nd ≤ Ma.length + T.length := by rw [hNd, hD, List.length_append]; omega
                    have zD : (RD.bs D).size = Nd := by rw [RD.bs_size, hNd]
                    have zs := RD.bs_size Ms
                    have za := RD.bs_size Ma
                    have zt := RD.bs_size T
                    have zx := RD.bs_size F.text
                    have zr : (RD.bs (RD.rawBlock T false)).size = 2 + T.length := by rw [RD.bs_size, rawBlock_len]
                    replace hA := hid' hA
                    replace hD := hid' hD
                    replace hEe := hid' hEe
                    replace hNa := hid' hNa
                    replace hNd := hid' hNd
                    go_wp2_with fail
                    refine (block_any T false _ hT1).mono ?_
                    rintro e w3 ⟨rfl, hb3⟩
                    have hb3s := hb3.size
                    have hbj3 : Below W2.heap.size W2 w3 := hbj.trans ⟨hb3.os, hb3.tape, hb3.output, hb3.size, fun i hi => hb3.block i (by omega)⟩
                    have hT3 := hTj.below hb3
                    have hK3 := hKj.below hb3 hKj.lt
                    have hb4 : Below w3.heap.size w3 (w3.alloc (.cells #[.int .i64 (Na : Int)] 3)) := (Below.refl _ w3).alloc (Nat.le_refl _) _
                    have hT4 := hT3.below hb4
                    have hK4 := hK3.below hb4 hK3.lt
                    obtain ⟨g1, g2, g3, o1, o2, o3, -⟩ := id hT4.ex
                    have hne4 := o2.ne hK4 (by decide)
                    have hls4 : (ints Mst).length ≤ 16777217 := by rw [ints_len]; omega
                    have hlt4 : (strs Mtx).length ≤ 16777217 := by rw [strs_len]; omega
                    have hs3 : W2.heap.size ≤ w3.heap.size := hbj3.size
                    replace o1 := hid' o1
                    replace o2 := hid' o2
                    replace o3 := hid' o3
                    replace hT4 := hid' hT4
                    replace hT3 := hid' hT3
                    replace hTj := hid' hTj
                    replace hb3 := hid' hb3
                    replace hb4 := hid' hb4
                    replace hK3 := hid' hK3
                    replace hbj3 := hid' hbj3
                    go_wp2_with (at_builtin; refine wpList_append_own_at _ rfl _ _ 27 rfl W2.heap.size 3 i0 _ 1 8 Tryz.underlying27 hi0 hz0 hz1 hz2 rfl (by decide) _ _ _ rfl o2.out.1 ⟨w3.heap.size, 0, none⟩ 1 1 [.int .i64 (Na : Int)] rfl rfl (cell_one_new _ _ _) (one_int _) (by unfold maxLen; omega) (by omega) (by simp; omega) ?_)
                    intro v5 w5 hown5 hgrow5 hnil5 hat5
                    have hT5 := hT4.out.app2 hown5 hgrow5 (by rw [World.size_alloc]; exact hat5)
                    have hb5 : Below W2.heap.size W2 w5 := (hbj3.out.alloc hs3 _).grown hgrow5 (by simp; omega) (fun i hi => by have := o2.out.lt; rw [o2.out.2.1] at hi; have := Option.some.inj hi; omega)
                    rw [o2.out.2.1] at hgrow5
                    have hK5 := hK4.grown hgrow5 hne4
                    have hs5 : W2.heap.size ≤ w5.heap.size := hb5.size
                    have hb6 : Below w5.heap.size w5 (w5.alloc (.cells #[.string (RD.bs E)] 9)) := (Below.refl _ w5).alloc (Nat.le_refl _) _
                    have hT6 := hT5.below hb6
                    have hK6 := hK5.below hb6 hK5.lt
                    obtain ⟨g4, g5, g6, o4, o5, o6, -⟩ := id hT6.ex
                    have hne6 := o6.ne hK6 (by decide)
                    replace o4 := hid' o4
                    replace o5 := hid' o5
                    replace o6 := hid' o6
                    replace hT6 := hid' hT6
                    replace hT5 := hid' hT5
                    replace hb6 := hid' hb6
                    replace hb5 := hid' hb5
                    replace hK5 := hid' hK5
                    clear hown5 hgrow5 hnil5 hat5
                    go_wp2_with (at_builtin; refine wpList_append_own_at _ rfl _ _ 28 rfl W2.heap.size 9 j0 _ 1 16 Tryz.underlying28 hj0 hy0 hy1 hy2 rfl (by decide) _ _ _ rfl o6.out.1 ⟨w5.heap.size, 0, none⟩ 1 1 [.string (RD.bs E)] rfl rfl (cell_one_new _ _ _) (one_str _) (by unfold maxLen; omega) (by omega) (by simp; omega) ?_)
                    intro v7 w7 hown7 hgrow7 hnil7 hat7
                    have hT7 := hT6.out.app3 hown7 hgrow7 (by rw [World.size_alloc]; exact hat7)
                    have hb7 : Below W2.heap.size W2 w7 := (hb5.out.alloc hs5 _).grown hgrow7 (by simp; omega) (fun i hi => by have := o6.out.lt; rw [o6.out.2.1] at hi; have := Option.some.inj hi; omega)
                    rw [o6.out.2.1] at hgrow7
                    have hK7 := hK6.grown hgrow7 hne6
                    have hnx : Hid (RD.midAt F.text M0 ts (j + 1) = ⟨A, D, Mst ++ [Na], Mtx ++ [E]⟩) := by
                      unfold Hid
                      show (RD.midAt F.text M0 ts j).add F.text (RD.nth ts j) (decide (j = ts.length)) = _
                      rw [hMj.out, ← hTe.out, hlast.out]
                      unfold RD.Mid.add
                      simp only []
                      rw [← hA.out, ← hD.out, ← hEe.out, ← hNa.out]
                    have hfin : Hid (MidOk W2 W2.heap.size Q [.slice (some ⟨tb, to', none⟩) ts.length tc, .bool false, .bool wg, .bool false] (RD.midAt F.text M0 ts (j + 1)) F.L.ends u9 v5 v7 w7) := by
                      unfold Hid
                      rw [hnx.out]
                      exact ⟨hb7, hT7, hK7⟩
                    have hfs : Hid ((RD.midAt F.text M0 ts (j + 1)).s = A ∧ (RD.midAt F.text M0 ts (j + 1)).all = D) := by
                      unfold Hid
                      rw [hnx.out]
                      exact ⟨rfl, rfl⟩
                    replace hT7 := hid' hT7
                    replace hb7 := hid' hb7
                    replace hK7 := hid' hK7
                    clear hown7 hgrow7 hnil7 hat7
                    go_wp2_with fail
                    go_roundg (ts.length + 2 - (j + 1))
                    case rel => exact ⟨j + 1, rfl, by omega, by rw [hfs.out.1], by rw [hfs.out.2], by go_num, hfin.out⟩
                    case measure => omega
                  · have hlo : ¬ (1024 : Int) < (T0.length : Int) := by omega
                    have hT1 : T0.length ≤ 1024 := by omega
                    have hTe : Hid (T0 = RD.nth ts j) := by unfold Hid RD.nth; rw [← hT0, List.take_of_length_le hT1]
                    replace hT0 := hid' hT0
                    obtain ⟨A, hA⟩ : ∃ A, A = Ms ++ RD.rawBlock T0 false := ⟨_, rfl⟩
                    obtain ⟨D, hD⟩ : ∃ D, D = Ma ++ T0 := ⟨_, rfl⟩
                    obtain ⟨E, hEe⟩ : ∃ E, E = F.text ++ D := ⟨_, rfl⟩
                    have d1 := cat hA
                    have d2 := cat hD
                    have d3 := cat hEe
                    obtain ⟨Na, hNa⟩ : ∃ n, n = A.length := ⟨_, rfl⟩
                    have hNb : Na ≤ Ms.length + 2 + T0.length := by rw [hNa, hA, List.length_append, rawBlock_len]; omega
                    have zA : (RD.bs A).size = Na := by rw [RD.bs_size, hNa]
                    obtain ⟨Nd, hNd⟩ : ∃ n, n = D.length := ⟨_, rfl⟩
                    have hNdb : Nd ≤ Ma.length + T0.length := by rw [hNd, hD, List.length_append]; omega
                    have zD : (RD.bs D).size = Nd := by rw [RD.bs_size, hNd]
                    have zs := RD.bs_size Ms
                    have za := RD.bs_size Ma
                    have zt := RD.bs_size T0
                    have zx := RD.bs_size F.text
                    have zr : (RD.bs (RD.rawBlock T0 false)).size = 2 + T0.length := by rw [RD.bs_size, rawBlock_len]
                    replace hA := hid' hA
                    replace hD := hid' hD
                    replace hEe := hid' hEe
                    replace hNa := hid' hNa
                    replace hNd := hid' hNd
                    go_wp2_with fail
                    refine (block_any T0 false _ hT1).mono ?_
                    rintro e w3 ⟨rfl, hb3⟩
                    have hb3s := hb3.size
                    have hbj3 : Below W2.heap.size W2 w3 := hbj.trans ⟨hb3.os, hb3.tape, hb3.output, hb3.size, fun i hi => hb3.block i (by omega)⟩
                    have hT3 := hTj.below hb3
                    have hK3 := hKj.below hb3 hKj.lt
                    have hb4 : Below w3.heap.size w3 (w3.alloc (.cells #[.int .i64 (Na : Int)] 3)) := (Below.refl _ w3).alloc (Nat.le_refl _) _
                    have hT4 := hT3.below hb4
                    have hK4 := hK3.below hb4 hK3.lt
                    obtain ⟨g1, g2, g3, o1, o2, o3, -⟩ := id hT4.ex
                    have hne4 := o2.ne hK4 (by decide)
                    have hls4 : (ints Mst).length ≤ 16777217 := by rw [ints_len]; omega
                    have hlt4 : (strs Mtx).length ≤ 16777217 := by rw [strs_len]; omega
                    have hs3 : W2.heap.size ≤ w3.heap.size := hbj3.size
                    replace o1 := hid' o1
                    replace o2 := hid' o2
                    replace o3 := hid' o3
                    replace hT4 := hid' hT4
                    replace hT3 := hid' hT3
                    replace hTj := hid' hTj
                    replace hb3 := hid' hb3
                    replace hb4 := hid' hb4
                    replace hK3 := hid' hK3
                    replace hbj3 := hid' hbj3
                    go_wp2_with (at_builtin; refine wpList_append_own_at _ rfl _ _ 27 rfl W2.heap.size 3 i0 _ 1 8 Tryz.underlying27 hi0 hz0 hz1 hz2 rfl (by decide) _ _ _ rfl o2.out.1 ⟨w3.heap.size, 0, none⟩ 1 1 [.int .i64 (Na : Int)] rfl rfl (cell_one_new _ _ _) (one_int _) (by unfold maxLen; omega) (by omega) (by simp; omega) ?_)
                    intro v5 w5 hown5 hgrow5 hnil5 hat5
                    have hT5 := hT4.out.app2 hown5 hgrow5 (by rw [World.size_alloc]; exact hat5)
                    have hb5 : Below W2.heap.size W2 w5 := (hbj3.out.alloc hs3 _).grown hgrow5 (by simp; omega) (fun i hi => by have := o2.out.lt; rw [o2.out.2.1] at hi; have := Option.some.inj hi; omega)
                    rw [o2.out.2.1] at hgrow5
                    have hK5 := hK4.grown hgrow5 hne4
                    have hs5 : W2.heap.size ≤ w5.heap.size := hb5.size
                    have hb6 : Below w5.heap.size w5 (w5.alloc (.cells #[.string (RD.bs E)] 9)) := (Below.refl _ w5).alloc (Nat.le_refl _) _
                    have hT6 := hT5.below hb6
                    have hK6 := hK5.below hb6 hK5.lt
                    obtain ⟨g4, g5, g6, o4, o5, o6, -⟩ := id hT6.ex
                    have hne6 := o6.ne hK6 (by decide)
                    replace o4 := hid' o4
                    replace o5 := hid' o5
                    replace o6 := hid' o6
                    replace hT6 := hid' hT6
                    replace hT5 := hid' hT5
                    replace hb6 := hid' hb6
                    replace hb5 := hid' hb5
                    replace hK5 := hid' hK5
                    clear hown5 hgrow5 hnil5 hat5
                    go_wp2_with (at_builtin; refine wpList_append_own_at _ rfl _ _ 28 rfl W2.heap.size 9 j0 _ 1 16 Tryz.underlying28 hj0 hy0 hy1 hy2 rfl (by decide) _ _ _ rfl o6.out.1 ⟨w5.heap.size, 0, none⟩ 1 1 [.string (RD.bs E)] rfl rfl (cell_one_new _ _ _) (one_str _) (by unfold maxLen; omega) (by omega) (by simp; omega) ?_)
                    intro v7 w7 hown7 hgrow7 hnil7 hat7
                    have hT7 := hT6.out.app3 hown7 hgrow7 (by rw [World.size_alloc]; exact hat7)
                    have hb7 : Below W2.heap.size W2 w7 := (hb5.out.alloc hs5 _).grown hgrow7 (by simp; omega) (fun i hi => by have := o6.out.lt; rw [o6.out.2.1] at hi; have := Option.some.inj hi; omega)
                    rw [o6.out.2.1] at hgrow7
                    have hK7 := hK6.grown hgrow7 hne6
                    have hnx : Hid (RD.midAt F.text M0 ts (j + 1) = ⟨A, D, Mst ++ [Na], Mtx ++ [E]⟩) := by
                      unfold Hid
                      show (RD.midAt F.text M0 ts j).add F.text (RD.nth ts j) (decide (j = ts.length)) = _
                      rw [hMj.out, ← hTe.out, hlast.out]
                      unfold RD.Mid.add
                      simp only []
                      rw [← hA.out, ← hD.out, ← hEe.out, ← hNa.out]
                    have hfin : Hid (MidOk W2 W2.heap.size Q [.slice (some ⟨tb, to', none⟩) ts.length tc, .bool false, .bool wg, .bool false] (RD.midAt F.text M0 ts (j + 1)) F.L.ends u9 v5 v7 w7) := by
                      unfold Hid
                      rw [hnx.out]
                      exact ⟨hb7, hT7, hK7⟩
                    have hfs : Hid ((RD.midAt F.text M0 ts (j + 1)).s = A ∧ (RD.midAt F.text M0 ts (j + 1)).all = D) := by
                      unfold Hid
                      rw [hnx.out]
                      exact ⟨rfl, rfl⟩
                    replace hT7 := hid' hT7
                    replace hb7 := hid' hb7
                    replace hK7 := hid' hK7
                    clear hown7 hgrow7 hnil7 hat7
                    go_wp2_with fail
                    go_roundg (ts.length + 2 - (j + 1))
                    case rel => exact ⟨j + 1, rfl, by omega, by rw [hfs.out.1], by rw [hfs.out.2], by go_num, hfin.out⟩
                    case measure => omega
                · obtain rfl : j = ts.length := by omega
                  have hj2 : ¬ (ts.length : Int) < (ts.length : Int) := by omega
                  have hlast : Hid (decide (ts.length = ts.length) = true) := by unfold Hid; simp
                  have hT1 : ([] : RD.Bytes).length ≤ 1024 := by simp
                  have hTe : Hid (([] : RD.Bytes) = RD.nth ts ts.length) := by
                    unfold Hid RD.nth
                    rw [List.getD_eq_getElem?_getD, List.getElem?_eq_none (Nat.le_refl _)]
                    rfl
                  obtain ⟨A, hA⟩ : ∃ A, A = Ms ++ RD.rawBlock [] true := ⟨_, rfl⟩
                  have hD : Ma = Ma ++ [] := (List.append_nil Ma).symm
                  obtain ⟨E, hEe⟩ : ∃ E, E = F.text ++ Ma := ⟨_, rfl⟩
                  have d1 := cat hA
                  have d2 : RD.bs Ma ++ (⟨#[]⟩ : ByteArray) = RD.bs Ma := cat (b := []) hD
                  have d3 := cat hEe
                  obtain ⟨Na, hNa⟩ : ∃ n, n = A.length := ⟨_, rfl⟩
                  have hNb : Na ≤ Ms.length + 2 := by rw [hNa, hA, List.length_append, rawBlock_len]; simp
                  have zA : (RD.bs A).size = Na := by rw [RD.bs_size, hNa]
                  have zs := RD.bs_size Ms
                  have za := RD.bs_size Ma
                  have zx := RD.bs_size F.text
                  have zr : (RD.bs (RD.rawBlock [] true)).size = 2 := by rw [RD.bs_size, rawBlock_len]; rfl
                  replace hA := hid' hA
                  replace hD := hid' hD
                  replace hEe := hid' hEe
                  replace hNa := hid' hNa
                  go_wp2_with fail
                  refine (block_any [] true _ hT1).mono ?_
                  rintro e w3 ⟨rfl, hb3⟩
                  have hb3s := hb3.size
                  have hbj3 : Below W2.heap.size W2 w3 := hbj.trans ⟨hb3.os, hb3.tape, hb3.output, hb3.size, fun i hi => hb3.block i (by omega)⟩
                  have hT3 := hTj.below hb3
                  have hK3 := hKj.below hb3 hKj.lt
                  have hb4 : Below w3.heap.size w3 (w3.alloc (.cells #[.int .i64 (Na : Int)] 3)) := (Below.refl _ w3).alloc (Nat.le_refl _) _
                  have hT4 := hT3.below hb4
                  have hK4 := hK3.below hb4 hK3.lt
                  obtain ⟨g1, g2, g3, o1, o2, o3, -⟩ := id hT4.ex
                  have hne4 := o2.ne hK4 (by decide)
                  have hls4 : (ints Mst).length ≤ 16777217 := by rw [ints_len]; omega
                  have hlt4 : (strs Mtx).length ≤ 16777217 := by rw [strs_len]; omega
                  have hs3 : W2.heap.size ≤ w3.heap.size := hbj3.size
                  replace o1 := hid' o1
                  replace o2 := hid' o2
                  replace o3 := hid' o3
                  replace hT4 := hid' hT4
                  replace hT3 := hid' hT3
                  replace hTj := hid' hTj
                  replace hb3 := hid' hb3
                  replace hb4 := hid' hb4
                  replace hK3 := hid' hK3
                  replace hbj3 := hid' hbj3
                  go_wp2_with (at_builtin; refine wpList_append_own_at _ rfl _ _ 27 rfl W2.heap.size 3 i0 _ 1 8 Tryz.underlying27 hi0 hz0 hz1 hz2 rfl (by decide) _ _ _ rfl o2.out.1 ⟨w3.heap.size, 0, none⟩ 1 1 [.int .i64 (Na : Int)] rfl rfl (cell_one_new _ _ _) (one_int _) (by unfold maxLen; omega) (by omega) (by simp; omega) ?_)
                  intro v5 w5 hown5 hgrow5 hnil5 hat5
                  have hT5 := hT4.out.app2 hown5 hgrow5 (by rw [World.size_alloc]; exact hat5)
                  have hb5 : Below W2.heap.size W2 w5 := (hbj3.out.alloc hs3 _).grown hgrow5 (by simp; omega) (fun i hi => by have := o2.out.lt; rw [o2.out.2.1] at hi; have := Option.some.inj hi; omega)
                  rw [o2.out.2.1] at hgrow5
                  have hK5 := hK4.grown hgrow5 hne4
                  have hs5 : W2.heap.size ≤ w5.heap.size := hb5.size
                  have hb6 : Below w5.heap.size w5 (w5.alloc (.cells #[.string (RD.bs E)] 9)) := (Below.refl _ w5).alloc (Nat.le_refl _) _
                  have hT6 := hT5.below hb6
                  have hK6 := hK5.below hb6 hK5.lt
                  obtain ⟨g4, g5, g6, o4, o5, o6, -⟩ := id hT6.ex
                  have hne6 := o6.ne hK6 (by decide)
                  replace o4 := hid' o4
                  replace o5 := hid' o5
                  replace o6 := hid' o6
                  replace hT6 := hid' hT6
                  replace hT5 := hid' hT5
                  replace hb6 := hid' hb6
                  replace hb5 := hid' hb5
                  replace hK5 := hid' hK5
                  clear hown5 hgrow5 hnil5 hat5
                  go_wp2_with (at_builtin; refine wpList_append_own_at _ rfl _ _ 28 rfl W2.heap.size 9 j0 _ 1 16 Tryz.underlying28 hj0 hy0 hy1 hy2 rfl (by decide) _ _ _ rfl o6.out.1 ⟨w5.heap.size, 0, none⟩ 1 1 [.string (RD.bs E)] rfl rfl (cell_one_new _ _ _) (one_str _) (by unfold maxLen; omega) (by omega) (by simp; omega) ?_)
                  intro v7 w7 hown7 hgrow7 hnil7 hat7
                  have hT7 := hT6.out.app3 hown7 hgrow7 (by rw [World.size_alloc]; exact hat7)
                  have hb7 : Below W2.heap.size W2 w7 := (hb5.out.alloc hs5 _).grown hgrow7 (by simp; omega) (fun i hi => by have := o6.out.lt; rw [o6.out.2.1] at hi; have := Option.some.inj hi; omega)
                  rw [o6.out.2.1] at hgrow7
                  have hK7 := hK6.grown hgrow7 hne6
                  have hnx : Hid (RD.midAt F.text M0 ts (ts.length + 1) = ⟨A, Ma, Mst ++ [Na], Mtx ++ [E]⟩) := by
                    unfold Hid
                    show (RD.midAt F.text M0 ts ts.length).add F.text (RD.nth ts ts.length) (decide (ts.length = ts.length)) = _
                    rw [hMj.out, ← hTe.out, show decide (ts.length = ts.length) = true from decide_eq_true rfl]
                    unfold RD.Mid.add
                    simp only []
                    rw [← hA.out, List.append_nil, ← hEe.out, ← hNa.out]
                  have hfin : Hid (MidOk W2 W2.heap.size Q [.slice ta ts.length tc, .bool false, .bool wg, .bool false] (RD.midAt F.text M0 ts (ts.length + 1)) F.L.ends u9 v5 v7 w7) := by
                    unfold Hid
                    rw [hnx.out]
                    exact ⟨hb7, hT7, hK7⟩
                  have hfs : Hid ((RD.midAt F.text M0 ts (ts.length + 1)).s = A ∧ (RD.midAt F.text M0 ts (ts.length + 1)).all = Ma) := by
                    unfold Hid
                    rw [hnx.out]
                    exact ⟨rfl, rfl⟩
                  replace hT7 := hid' hT7
                  replace hb7 := hid' hb7
                  replace hK7 := hid' hK7
                  clear hown7 hgrow7 hnil7 hat7
                  go_wp2_with fail
                  go_roundg (ts.length + 2 - (ts.length + 1))
                  case rel => exact ⟨ts.length + 1, rfl, by omega, by rw [hfs.out.1], by rw [hfs.out.2], by go_num, hfin.out⟩
                  case measure => omega
              · have hj1 : ¬ (j : Int) ≤ (ts.length : Int) := by omega
                obtain rfl : j = ts.length + 1 := by omega
                obtain ⟨X, hX⟩ : ∃ X, X = F.text ++ Ma := ⟨_, rfl⟩
                have d3 := cat hX
                have zs := RD.bs_size Ms
                have za := RD.bs_size Ma
                have zx := RD.bs_size F.text
                have hb4 : Below wr.heap.size wr (wr.alloc (.cells #[.int .i64 (Ms.length : Int)] 3)) := (Below.refl _ wr).alloc (Nat.le_refl _) _
                have hT4 := hTj.below hb4
                obtain ⟨g1, g2, g3, o1, o2, o3, -⟩ := id hT4.ex
                have hls4 : (ints F.L.ends).length ≤ 16777217 := by rw [ints_len]; omega
                replace o1 := hid' o1
                replace o2 := hid' o2
                replace o3 := hid' o3
                replace hT4 := hid' hT4
                replace hTj := hid' hTj
                replace hb4 := hid' hb4
                replace hX := hid' hX
                go_wp2_with (at_builtin; refine wpList_append_own_at _ rfl _ _ 27 rfl W2.heap.size 3 i0 _ 1 8 Tryz.underlying27 hi0 hz0 hz1 hz2 rfl (by decide) _ _ _ rfl o1.out.1 ⟨wr.heap.size, 0, none⟩ 1 1 [.int .i64 (Ms.length : Int)] rfl rfl (cell_one_new _ _ _) (one_int _) (by unfold maxLen; omega) (by omega) (by simp; omega) ?_)
                intro v' w6 hown6 hgrow hnil6 hat6
                have hT6 := hT4.out.app1 hown6 hgrow (by rw [World.size_alloc]; exact hat6)
                have hb6 : Hid (Below W2.heap.size W2 w6) := (hbj.alloc hwjs _).grown hgrow (by simp; omega) (fun i hi => by have := o1.out.lt; rw [o1.out.2.1] at hi; have := Option.some.inj hi; omega)
                have ea : Hid (F.add ⟨ts, false, wg, false⟩ = ⟨⟨Ms, F.L.ends ++ [Ms.length], Mst, Mtx⟩, X, -1⟩) := by
                  unfold Hid
                  have em : RD.midEnd F ⟨ts, false, wg, false⟩ = ⟨Ms, Ma, Mst, Mtx⟩ := by
                    unfold RD.midEnd
                    rw [← hM0e.out]
                    exact hMj.out
                  unfold RD.Full.add
                  rw [if_neg (by simp), em, hX.out]
                  simp only [RD.tailOf, Bool.false_eq_true, if_false, List.append_nil, Bool.false_and]
                have hfin : Hid (RawsAt W2 W2.heap.size ps (k + 1) (F.add ⟨ts, false, wg, false⟩) v' u10 u11 w6 ∧ (F.add ⟨ts, false, wg, false⟩).L.s = Ms ∧ (F.add ⟨ts, false, wg, false⟩).text = X ∧ (F.add ⟨ts, false, wg, false⟩).wrong = -1) := by
                  refine ⟨hadd.out _ hPe _ _ _ _ hb6.out ?_, ?_, ?_, ?_⟩
                  · rw [ea.out]
                    exact hT6
                  · rw [ea.out]
                  · rw [ea.out]
                  · rw [ea.out]
                replace hT6 := hid' hT6
                clear hown6 hgrow hat6
                go_wp2_with fail
                go_roundg (ps.length + 1 - (k + 1))
                case rel => exact ⟨k + 1, F.add ⟨ts, false, wg, false⟩, rfl, by omega, by rw [hfin.out.2.1], by rw [hfin.out.2.2.1], by rw [hfin.out.2.2.2], by go_num, hfin.out.1⟩
                case measure => omega
        | true =>
          have hh : RD.bs [hd] = (⟨#[8]⟩ : ByteArray) := hhead.out
          rw [hh] at d1 z2
          replace hh := hid' hh
          as_aux_lemma =>
            go_wp2_with fail
            obtain ⟨M0, hM0e⟩ : ∃ M, M = RD.midStart F.L ⟨ts, true, wg, false⟩ := ⟨_, rfl⟩
            rw [← hM0e] at hM0 hAs
            have hml := hid' (mid_len F.text M0 ts)
            have hM0l : M0.s.length = F.L.s.length + 5 ∧ M0.all.length = 0 ∧ M0.starts = F.L.starts ∧ M0.texts = F.L.texts := by
              rw [hM0e]
              refine ⟨?_, rfl, rfl, rfl⟩
              unfold RD.midStart
              simp only [List.length_append]
              rfl
            obtain ⟨m0a, m0b, m0c, m0d⟩ := hM0l
            replace hM0e := hid' hM0e
            obtain ⟨Q, hQ⟩ : ∃ q, wr.heap.size = q := ⟨_, rfl⟩
            rw [hQ] at hM0 ⊢
            replace hQ := hid' hQ
            replace hM0 := hid' hM0
            replace hNA := hid' hNA
            generalize hWA2 : wr.alloc (.cells #[.slice ta ts.length tc, .bool true, .bool wg, .bool false] 30) = WB at *
            replace hWA2 := hid' hWA2
            clear n0 n1 n3
            go_loopg [7, 10, 11, 17, 18] (ts.length + 2) (fun gh sv s t av jv wj => ∃ j : Nat, gh = ts.length + 2 - j ∧ j ≤ ts.length + 1 ∧ sv = .string (RD.bs (RD.midAt F.text M0 ts j).s) ∧ av = .string (RD.bs (RD.midAt F.text M0 ts j).all) ∧ jv = .int .i64 (j : Int) ∧ MidOk W2 W2.heap.size Q [.slice ta ts.length tc, .bool true, .bool wg, .bool false] (RD.midAt F.text M0 ts j) F.L.ends u9 s t wj)
            case atStart => exact ⟨0, by omega, by omega, by rw [hAs.out.1], by rw [hAs.out.2]; rfl, rfl, hM0.out⟩
            case round =>
              obtain ⟨j, rfl, hj, rfl, rfl, rfl, hMok⟩ := hrel
              obtain ⟨l1, l2, l3, l4⟩ := hml.out j hj
              have hlj := lens_le ts j
              obtain ⟨Mj, hMj⟩ : ∃ M, RD.midAt F.text M0 ts j = M := ⟨_, rfl⟩
              obtain ⟨hbj, hTj, hKj⟩ := hMok
              rw [hMj] at l1 l2 l3 l4 hTj ⊢
              rw [m0c] at l3
              rw [m0d] at l4
              obtain ⟨Ms, Ma, Mst, Mtx⟩ := Mj
              simp only [] at l1 l2 l3 l4 hTj ⊢
              replace hMj := hid' hMj
              have k0 := hKj.cell (j := 0) rfl
              have k1 := hKj.cell (j := 1) rfl
              have k2 := hKj.cell (j := 2) rfl
              have hbjw : Below w.heap.size w wr := hb2.trans ⟨hbj.os, hbj.tape, hbj.output, hbj.size, fun i hi => hbj.block i (by have := hb2.size; omega)⟩
              have hwjs := hbj.size
              replace hbjw := hid' hbjw
              by_cases hjl : j ≤ ts.length
              · have hj1 : (j : Int) ≤ (ts.length : Int) := by omega
                by_cases hje : j < ts.length
                · have hj2 : (j : Int) < (ts.length : Int) := by omega
                  have hj3 : ((j : Int) == (ts.length : Int)) = false := by simp; omega
                  have hj4 : ¬ ((j : Int) = (ts.length : Int)) := by omega
                  have hj5 : ¬ (j = ts.length) := by omega
                  have hlast : Hid (decide (j = ts.length) = false) := by unfold Hid; simp; omega
                  rcases htx.out with hte | ⟨tb, to', rfl, htb, htq⟩
                  · rw [hte] at hje; simp at hje
                  have hcell := (hbjw.out.cell (p := ⟨tb, to' + j, none⟩) htb).trans (htq j hje)
                  have hlt5 := lens_take ts j hje
                  have hlj5 := lens_le ts (j + 1)
                  obtain ⟨T0, hT0⟩ : ∃ T, T = ts.getD j [] := ⟨_, rfl⟩
                  rw [← hT0] at hcell hlt5
                  have z0t := RD.bs_size T0
                  replace hlt5 := hid' hlt5
                  have hT0l : lens (ts.take j) + T0.length ≤ lens ts := by have := hlt5.out; omega
                  by_cases hlong : 1024 < T0.length
                  · have hlo : (1024 : Int) < (T0.length : Int) := by omega
                    obtain ⟨T, hTt⟩ : ∃ T, T = T0.take 1024 := ⟨_, rfl⟩
                    have hex : (RD.bs T0).extract 0 1024 = RD.bs T := by rw [hTt]; exact RD.bs_take T0 1024
                    have hT1 : T.length ≤ 1024 := by rw [hTt, List.length_take]; omega
                    have hT2 : T.length ≤ T0.length := by rw [hTt, List.length_take]; omega
                    have hTe : Hid (T = RD.nth ts j) := by unfold Hid RD.nth; rw [hTt, hT0]
                    replace hTt := hid' hTt
                    replace hT0 := hid' hT0
                    obtain ⟨A, hA⟩ : ∃ A, A = Ms ++ RD.rawBlock T false := ⟨_, rfl⟩
                    obtain ⟨D, hD⟩ : ∃ D, D = Ma ++ T := ⟨_, rfl⟩
                    obtain ⟨E, hEe⟩ : ∃ E, E = F.text ++ D := ⟨_, rfl⟩
                    have d1 := cat hA
                    have d2 := cat hD
                    have d3 := cat hEe
                    obtain ⟨Na, hNa⟩ : ∃ n, n = A.length := ⟨_, rfl⟩
                    have hNb : Na ≤ Ms.length + 2 + T.length := by rw [hNa, hA, List.length_append, rawBlock_len]; omega
                    have zA : (RD.bs A).size = Na := by rw [RD.bs_size, hNa]
                    obtain ⟨Nd, hNd⟩ : ∃ n, n = D.length := ⟨_, rfl⟩
                    have hNdb : Nd ≤ Ma.length + T.length := by rw [hNd, hD, List.length_append]; omega
                    have zD : (RD.bs D).size = Nd := by rw [RD.bs_size, hNd]
                    have zs := RD.bs_size Ms
                    have za := RD.bs_size Ma
                    have zt := RD.bs_size T
                    have zx := RD.bs_size F.text
                    have zr : (RD.bs (RD.rawBlock T false)).size = 2 + T.length := by rw [RD.bs_size, rawBlock_len]
                    replace hA := hid' hA
                    replace hD := hid' hD
                    replace hEe := hid' hEe
                    replace hNa := hid' hNa
                    replace hNd := hid' hNd
                    go_wp2_with fail
                    refine (block_any T false _ hT1).mono ?_
                    rintro e w3 ⟨rfl, hb3⟩
                    have hb3s := hb3.size
                    have hbj3 : Below W2.heap.size W2 w3 := hbj.trans ⟨hb3.os, hb3.tape, hb3.output, hb3.size, fun i hi => hb3.block i (by omega)⟩
                    have hT3 := hTj.below hb3
                    have hK3 := hKj.below hb3 hKj.lt
                    have hb4 : Below w3.heap.size w3 (w3.alloc (.cells #[.int .i64 (Na : Int)] 3)) := (Below.refl _ w3).alloc (Nat.le_refl _) _
                    have hT4 := hT3.below hb4
                    have hK4 := hK3.below hb4 hK3.lt
                    obtain ⟨g1, g2, g3, o1, o2, o3, -⟩ := id hT4.ex
                    have hne4 := o2.ne hK4 (by decide)
                    have hls4 : (ints Mst).length ≤ 16777217 := by rw [ints_len]; omega
                    have hlt4 : (strs Mtx).length ≤ 16777217 := by rw [strs_len]; omega
                    have hs3 : W2.heap.size ≤ w3.heap.size := hbj3.size
                    replace o1 := hid' o1
                    replace o2 := hid' o2
                    replace o3 := hid' o3
                    replace hT4 := hid' hT4
                    replace hT3 := hid' hT3
                    replace hTj := hid' hTj
                    replace hb3 := hid' hb3
                    replace hb4 := hid' hb4
                    replace hK3 := hid' hK3
                    replace hbj3 := hid' hbj3
                    go_wp2_with (at_builtin; refine wpList_append_own_at _ rfl _ _ 27 rfl W2.heap.size 3 i0 _ 1 8 Tryz.underlying27 hi0 hz0 hz1 hz2 rfl (by decide) _ _ _ rfl o2.out.1 ⟨w3.heap.size, 0, none⟩ 1 1 [.int .i64 (Na : Int)] rfl rfl (cell_one_new _ _ _) (one_int _) (by unfold maxLen; omega) (by omega) (by simp; omega) ?_)
                    intro v5 w5 hown5 hgrow5 hnil5 hat5
                    have hT5 := hT4.out.app2 hown5 hgrow5 (by rw [World.size_alloc]; exact hat5)
                    have hb5 : Below W2.heap.size W2 w5 := (hbj3.out.alloc hs3 _).grown hgrow5 (by simp; omega) (fun i hi => by have := o2.out.lt; rw [o2.out.2.1] at hi; have := Option.some.inj hi; omega)
                    rw [o2.out.2.1] at hgrow5
                    have hK5 := hK4.grown hgrow5 hne4
                    have hs5 : W2.heap.size ≤ w5.heap.size := hb5.size
                    have hb6 : Below w5.heap.size w5 (w5.alloc (.cells #[.string (RD.bs E)] 9)) := (Below.refl _ w5).alloc (Nat.le_refl _) _
                    have hT6 := hT5.below hb6
                    have hK6 := hK5.below hb6 hK5.lt
                    obtain ⟨g4, g5, g6, o4, o5, o6, -⟩ := id hT6.ex
                    have hne6 := o6.ne hK6 (by decide)
                    replace o4 := hid' o4
                    replace o5 := hid' o5
                    replace o6 := hid' o6
                    replace hT6 := hid' hT6
                    replace hT5 := hid' hT5
                    replace hb6 := hid' hb6
                    replace hb5 := hid' hb5
                    replace hK5 := hid' hK5
                    clear hown5 hgrow5 hnil5 hat5
                    go_wp2_with (at_builtin; refine wpList_append_own_at _ rfl _ _ 28 rfl W2.heap.size 9 j0 _ 1 16 Tryz.underlying28 hj0 hy0 hy1 hy2 rfl (by decide) _ _ _ rfl o6.out.1 ⟨w5.heap.size, 0, none⟩ 1 1 [.string (RD.bs E)] rfl rfl (cell_one_new _ _ _) (one_str _) (by unfold maxLen; omega) (by omega) (by simp; omega) ?_)
                    intro v7 w7 hown7 hgrow7 hnil7 hat7
                    have hT7 := hT6.out.app3 hown7 hgrow7 (by rw [World.size_alloc]; exact hat7)
                    have hb7 : Below W2.heap.size W2 w7 := (hb5.out.alloc hs5 _).grown hgrow7 (by simp; omega) (fun i hi => by have := o6.out.lt; rw [o6.out.2.1] at hi; have := Option.some.inj hi; omega)
                    rw [o6.out.2.1] at hgrow7
                    have hK7 := hK6.grown hgrow7 hne6
                    have hnx : Hid (RD.midAt F.text M0 ts (j + 1) = ⟨A, D, Mst ++ [Na], Mtx ++ [E]⟩) := by
                      unfold Hid
                      show (RD.midAt F.text M0 ts j).add F.text (RD.nth ts j) (decide (j = ts.length)) = _
                      rw [hMj.out, ← hTe.out, hlast.out]
                      unfold RD.Mid.add
                      simp only []
                      rw [← hA.out, ← hD.out, ← hEe.out, ← hNa.out]
                    have hfin : Hid (MidOk W2 W2.heap.size Q [.slice (some ⟨tb, to', none⟩) ts.length tc, .bool true, .bool wg, .bool false] (RD.midAt F.text M0 ts (j + 1)) F.L.ends u9 v5 v7 w7) := by
                      unfold Hid
                      rw [hnx.out]
                      exact ⟨hb7, hT7, hK7⟩
                    have hfs : Hid ((RD.midAt F.text M0 ts (j + 1)).s = A ∧ (RD.midAt F.text M0 ts (j + 1)).all = D) := by
                      unfold Hid
                      rw [hnx.out]
                      exact ⟨rfl, rfl⟩
                    replace hT7 := hid' hT7
                    replace hb7 := hid' hb7
                    replace hK7 := hid' hK7
                    clear hown7 hgrow7 hnil7 hat7
                    go_wp2_with fail
                    go_roundg (ts.length + 2 - (j + 1))
                    case rel => exact ⟨j + 1, rfl, by omega, by rw [hfs.out.1], by rw [hfs.out.2], by go_num, hfin.out⟩
                    case measure => omega
                  · have hlo : ¬ (1024 : Int) < (T0.length : Int) := by omega
                    have hT1 : T0.length ≤ 1024 := by omega
                    have hTe : Hid (T0 = RD.nth ts j) := by unfold Hid RD.nth; rw [← hT0, List.take_of_length_le hT1]
                    replace hT0 := hid' hT0
                    obtain ⟨A, hA⟩ : ∃ A, A = Ms ++ RD.rawBlock T0 false := ⟨_, rfl⟩
                    obtain ⟨D, hD⟩ : ∃ D, D = Ma ++ T0 := ⟨_, rfl⟩
                    obtain ⟨E, hEe⟩ : ∃ E, E = F.text ++ D := ⟨_, rfl⟩
                    have d1 := cat hA
                    have d2 := cat hD
                    have d3 := cat hEe
                    obtain ⟨Na, hNa⟩ : ∃ n, n = A.length := ⟨_, rfl⟩
                    have hNb : Na ≤ Ms.length + 2 + T0.length := by rw [hNa, hA, List.length_append, rawBlock_len]; omega
                    have zA : (RD.bs A).size = Na := by rw [RD.bs_size, hNa]
                    obtain ⟨Nd, hNd⟩ : ∃ n, n = D.length := ⟨_, rfl⟩
                    have hNdb : Nd ≤ Ma.length + T0.length := by rw [hNd, hD, List.length_append]; omega
                    have zD : (RD.bs D).size = Nd := by rw [RD.bs_size, hNd]
                    have zs := RD.bs_size Ms
                    have za := RD.bs_size Ma
                    have zt := RD.bs_size T0
                    have zx := RD.bs_size F.text
                    have zr : (RD.bs (RD.rawBlock T0 false)).size = 2 + T0.length := by rw [RD.bs_size, rawBlock_len]
                    replace hA := hid' hA
                    replace hD := hid' hD
                    replace hEe := hid' hEe
                    replace hNa := hid' hNa
                    replace hNd := hid' hNd
                    go_wp2_with fail
                    refine (block_any T0 false _ hT1).mono ?_
                    rintro e w3 ⟨rfl, hb3⟩
                    have hb3s := hb3.size
                    have hbj3 : Below W2.heap.size W2 w3 := hbj.trans ⟨hb3.os, hb3.tape, hb3.output, hb3.size, fun i hi => hb3.block i (by omega)⟩
                    have hT3 := hTj.below hb3
                    have hK3 := hKj.below hb3 hKj.lt
                    have hb4 : Below w3.heap.size w3 (w3.alloc (.cells #[.int .i64 (Na : Int)] 3)) := (Below.refl _ w3).alloc (Nat.le_refl _) _
                    have hT4 := hT3.below hb4
                    have hK4 := hK3.below hb4 hK3.lt
                    obtain ⟨g1, g2, g3, o1, o2, o3, -⟩ := id hT4.ex
                    have hne4 := o2.ne hK4 (by decide)
                    have hls4 : (ints Mst).length ≤ 16777217 := by rw [ints_len]; omega
                    have hlt4 : (strs Mtx).length ≤ 16777217 := by rw [strs_len]; omega
                    have hs3 : W2.heap.size ≤ w3.heap.size := hbj3.size
                    replace o1 := hid' o1
                    replace o2 := hid' o2
                    replace o3 := hid' o3
                    replace hT4 := hid' hT4
                    replace hT3 := hid' hT3
                    replace hTj := hid' hTj
                    replace hb3 := hid' hb3
                    replace hb4 := hid' hb4
                    replace hK3 := hid' hK3
                    replace hbj3 := hid' hbj3
                    go_wp2_with (at_builtin; refine wpList_append_own_at _ rfl _ _ 27 rfl W2.heap.size 3 i0 _ 1 8 Tryz.underlying27 hi0 hz0 hz1 hz2 rfl (by decide) _ _ _ rfl o2.out.1 ⟨w3.heap.size, 0, none⟩ 1 1 [.int .i64 (Na : Int)] rfl rfl (cell_one_new _ _ _) (one_int _) (by unfold maxLen; omega) (by omega) (by simp; omega) ?_)
                    intro v5 w5 hown5 hgrow5 hnil5 hat5
                    have hT5 := hT4.out.app2 hown5 hgrow5 (by rw [World.size_alloc]; exact hat5)
                    have hb5 : Below W2.heap.size W2 w5 := (hbj3.out.alloc hs3 _).grown hgrow5 (by simp; omega) (fun i hi => by have := o2.out.lt; rw [o2.out.2.1] at hi; have := Option.some.inj hi; omega)
                    rw [o2.out.2.1] at hgrow5
                    have hK5 := hK4.grown hgrow5 hne4
                    have hs5 : W2.heap.size ≤ w5.heap.size := hb5.size
                    have hb6 : Below w5.heap.size w5 (w5.alloc (.cells #[.string (RD.bs E)] 9)) := (Below.refl _ w5).alloc (Nat.le_refl _) _
                    have hT6 := hT5.below hb6
                    have hK6 := hK5.below hb6 hK5.lt
                    obtain ⟨g4, g5, g6, o4, o5, o6, -⟩ := id hT6.ex
                    have hne6 := o6.ne hK6 (by decide)
                    replace o4 := hid' o4
                    replace o5 := hid' o5
                    replace o6 := hid' o6
                    replace hT6 := hid' hT6
                    replace hT5 := hid' hT5
                    replace hb6 := hid' hb6
                    replace hb5 := hid' hb5
                    replace hK5 := hid' hK5
                    clear hown5 hgrow5 hnil5 hat5
                    go_wp2_with (at_builtin; refine wpList_append_own_at _ rfl _ _ 28 rfl W2.heap.size 9 j0 _ 1 16 Tryz.underlying28 hj0 hy0 hy1 hy2 rfl (by decide) _ _ _ rfl o6.out.1 ⟨w5.heap.size, 0, none⟩ 1 1 [.string (RD.bs E)] rfl rfl (cell_one_new _ _ _) (one_str _) (by unfold maxLen; omega) (by omega) (by simp; omega) ?_)
                    intro v7 w7 hown7 hgrow7 hnil7 hat7
                    have hT7 := hT6.out.app3 hown7 hgrow7 (by rw [World.size_alloc]; exact hat7)
                    have hb7 : Below W2.heap.size W2 w7 := (hb5.out.alloc hs5 _).grown hgrow7 (by simp; omega) (fun i hi => by have := o6.out.lt; rw [o6.out.2.1] at hi; have := Option.some.inj hi; omega)
                    rw [o6.out.2.1] at hgrow7
                    have hK7 := hK6.grown hgrow7 hne6
                    have hnx : Hid (RD.midAt F.text M0 ts (j + 1) = ⟨A, D, Mst ++ [Na], Mtx ++ [E]⟩) := by
                      unfold Hid
                      show (RD.midAt F.text M0 ts j).add F.text (RD.nth ts j) (decide (j = ts.length)) = _
                      rw [hMj.out, ← hTe.out, hlast.out]
                      unfold RD.Mid.add
                      simp only []
                      rw [← hA.out, ← hD.out, ← hEe.out, ← hNa.out]
                    have hfin : Hid (MidOk W2 W2.heap.size Q [.slice (some ⟨tb, to', none⟩) ts.length tc, .bool true, .bool wg, .bool false] (RD.midAt F.text M0 ts (j + 1)) F.L.ends u9 v5 v7 w7) := by
                      unfold Hid
                      rw [hnx.out]
                      exact ⟨hb7, hT7, hK7⟩
                    have hfs : Hid ((RD.midAt F.text M0 ts (j + 1)).s = A ∧ (RD.midAt F.text M0 ts (j + 1)).all = D) := by
                      unfold Hid
                      rw [hnx.out]
                      exact ⟨rfl, rfl⟩
                    replace hT7 := hid' hT7
                    replace hb7 := hid' hb7
                    replace hK7 := hid' hK7
                    clear hown7 hgrow7 hnil7 hat7
                    go_wp2_with fail
                    go_roundg (ts.length + 2 - (j + 1))
                    case rel => exact ⟨j + 1, rfl, by omega, by rw [hfs.out.1], by rw [hfs.out.2], by go_num, hfin.out⟩
                    case measure => omega
                · obtain rfl : j = ts.length := by omega
                  have hj2 : ¬ (ts.length : Int) < (ts.length : Int) := by omega
                  have hlast : Hid (decide (ts.length = ts.length) = true) := by unfold Hid; simp
                  have hT1 : ([] : RD.Bytes).length ≤ 1024 := by simp
                  have hTe : Hid (([] : RD.Bytes) = RD.nth ts ts.length) := by
                    unfold Hid RD.nth
                    rw [List.getD_eq_getElem?_getD, List.getElem?_eq_none (Nat.le_refl _)]
                    rfl
                  obtain ⟨A, hA⟩ : ∃ A, A = Ms ++ RD.rawBlock [] true := ⟨_, rfl⟩
                  have hD : Ma = Ma ++ [] := (List.append_nil Ma).symm
                  obtain ⟨E, hEe⟩ : ∃ E, E = F.text ++ Ma := ⟨_, rfl⟩
                  have d1 := cat hA
                  have d2 : RD.bs Ma ++ (⟨#[]⟩ : ByteArray) = RD.bs Ma := cat (b := []) hD
                  have d3 := cat hEe
                  obtain ⟨Na, hNa⟩ : ∃ n, n = A.length := ⟨_, rfl⟩
                  have hNb : Na ≤ Ms.length + 2 := by rw [hNa, hA, List.length_append, rawBlock_len]; simp
                  have zA : (RD.bs A).size = Na := by rw [RD.bs_size, hNa]
                  have zs := RD.bs_size Ms
                  have za := RD.bs_size Ma
                  have zx := RD.bs_size F.text
                  have zr : (RD.bs (RD.rawBlock [] true)).size = 2 := by rw [RD.bs_size, rawBlock_len]; rfl
                  replace hA := hid' hA
                  replace hD := hid' hD
                  replace hEe := hid' hEe
                  replace hNa := hid' hNa
                  go_wp2_with fail
                  refine (block_any [] true _ hT1).mono ?_
                  rintro e w3 ⟨rfl, hb3⟩
                  have hb3s := hb3.size
                  have hbj3 : Below W2.heap.size W2 w3 := hbj.trans ⟨hb3.os, hb3.tape, hb3.output, hb3.size, fun i hi => hb3.block i (by omega)⟩
                  have hT3 := hTj.below hb3
                  have hK3 := hKj.below hb3 hKj.lt
                  have hb4 : Below w3.heap.size w3 (w3.alloc (.cells #[.int .i64 (Na : Int)] 3)) := (Below.refl _ w3).alloc (Nat.le_refl _) _
                  have hT4 := hT3.below hb4
                  have hK4 := hK3.below hb4 hK3.lt
                  obtain ⟨g1, g2, g3, o1, o2, o3, -⟩ := id hT4.ex
                  have hne4 := o2.ne hK4 (by decide)
                  have hls4 : (ints Mst).length ≤ 16777217 := by rw [ints_len]; omega
                  have hlt4 : (strs Mtx).length ≤ 16777217 := by rw [strs_len]; omega
                  have hs3 : W2.heap.size ≤ w3.heap.size := hbj3.size
                  replace o1 := hid' o1
                  replace o2 := hid' o2
                  replace o3 := hid' o3
                  replace hT4 := hid' hT4
                  replace hT3 := hid' hT3
                  replace hTj := hid' hTj
                  replace hb3 := hid' hb3
                  replace hb4 := hid' hb4
                  replace hK3 := hid' hK3
                  replace hbj3 := hid' hbj3
                  go_wp2_with (at_builtin; refine wpList_append_own_at _ rfl _ _ 27 rfl W2.heap.size 3 i0 _ 1 8 Tryz.underlying27 hi0 hz0 hz1 hz2 rfl (by decide) _ _ _ rfl o2.out.1 ⟨w3.heap.size, 0, none⟩ 1 1 [.int .i64 (Na : Int)] rfl rfl (cell_one_new _ _ _) (one_int _) (by unfold maxLen; omega) (by omega) (by simp; omega) ?_)
                  intro v5 w5 hown5 hgrow5 hnil5 hat5
                  have hT5 := hT4.out.app2 hown5 hgrow5 (by rw [World.size_alloc]; exact hat5)
                  have hb5 : Below W2.heap.size W2 w5 := (hbj3.out.alloc hs3 _).grown hgrow5 (by simp; omega) (fun i hi => by have := o2.out.lt; rw [o2.out.2.1] at hi; have := Option.some.inj hi; omega)
                  rw [o2.out.2.1] at hgrow5
                  have hK5 := hK4.grown hgrow5 hne4
                  have hs5 : W2.heap.size ≤ w5.heap.size := hb5.size
                  have hb6 : Below w5.heap.size w5 (w5.alloc (.cells #[.string (RD.bs E)] 9)) := (Below.refl _ w5).alloc (Nat.le_refl _) _
                  have hT6 := hT5.below hb6
                  have hK6 := hK5.below hb6 hK5.lt
                  obtain ⟨g4, g5, g6, o4, o5, o6, -⟩ := id hT6.ex
                  have hne6 := o6.ne hK6 (by decide)
                  replace o4 := hid' o4
                  replace o5 := hid' o5
                  replace o6 := hid' o6
                  replace hT6 := hid' hT6
                  replace hT5 := hid' hT5
                  replace hb6 := hid' hb6
                  replace hb5 := hid' hb5
                  replace hK5 := hid' hK5
                  clear hown5 hgrow5 hnil5 hat5
                  go_wp2_with (at_builtin; refine wpList_append_own_at _ rfl _ _ 28 rfl W2.heap.size 9 j0 _ 1 16 Tryz.underlying28 hj0 hy0 hy1 hy2 rfl (by decide) _ _ _ rfl o6.out.1 ⟨w5.heap.size, 0, none⟩ 1 1 [.string (RD.bs E)] rfl rfl (cell_one_new _ _ _) (one_str _) (by unfold maxLen; omega) (by omega) (by simp; omega) ?_)
                  intro v7 w7 hown7 hgrow7 hnil7 hat7
                  have hT7 := hT6.out.app3 hown7 hgrow7 (by rw [World.size_alloc]; exact hat7)
                  have hb7 : Below W2.heap.size W2 w7 := (hb5.out.alloc hs5 _).grown hgrow7 (by simp; omega) (fun i hi => by have := o6.out.lt; rw [o6.out.2.1] at hi; have := Option.some.inj hi; omega)
                  rw [o6.out.2.1] at hgrow7
                  have hK7 := hK6.grown hgrow7 hne6
                  have hnx : Hid (RD.midAt F.text M0 ts (ts.length + 1) = ⟨A, Ma, Mst ++ [Na], Mtx ++ [E]⟩) := by
                    unfold Hid
                    show (RD.midAt F.text M0 ts ts.length).add F.text (RD.nth ts ts.length) (decide (ts.length = ts.length)) = _
                    rw [hMj.out, ← hTe.out, show decide (ts.length = ts.length) = true from decide_eq_true rfl]
                    unfold RD.Mid.add
                    simp only []
                    rw [← hA.out, List.append_nil, ← hEe.out, ← hNa.out]
                  have hfin : Hid (MidOk W2 W2.heap.size Q [.slice ta ts.length tc, .bool true, .bool wg, .bool false] (RD.midAt F.text M0 ts (ts.length + 1)) F.L.ends u9 v5 v7 w7) := by
                    unfold Hid
                    rw [hnx.out]
                    exact ⟨hb7, hT7, hK7⟩
                  have hfs : Hid ((RD.midAt F.text M0 ts (ts.length + 1)).s = A ∧ (RD.midAt F.text M0 ts (ts.length + 1)).all = Ma) := by
                    unfold Hid
                    rw [hnx.out]
                    exact ⟨rfl, rfl⟩
                  replace hT7 := hid' hT7
                  replace hb7 := hid' hb7
                  replace hK7 := hid' hK7
                  clear hown7 hgrow7 hnil7 hat7
                  go_wp2_with fail
                  go_roundg (ts.length + 2 - (ts.length + 1))
                  case rel => exact ⟨ts.length + 1, rfl, by omega, by rw [hfs.out.1], by rw [hfs.out.2], by go_num, hfin.out⟩
                  case measure => omega
              · have hj1 : ¬ (j : Int) ≤ (ts.length : Int) := by omega
                obtain rfl : j = ts.length + 1 := by omega
                obtain ⟨X, hX⟩ : ∃ X, X = F.text ++ Ma := ⟨_, rfl⟩
                have d3 := cat hX
                have zs := RD.bs_size Ms
                have za := RD.bs_size Ma
                have zx := RD.bs_size F.text
                obtain ⟨G, hG⟩ : ∃ G, SM.sum Ma = G := ⟨_, rfl⟩
                have hps : ∀ W, Calls Tryz.prog 14 #[.string (RD.bs Ma)] W fun e w' => e = .returned (.int .u32 G) ∧ Below W.heap.size W w' := fun W => by
                  have := psum_any (RD.bs Ma) W (by rw [za]; omega)
                  rw [RD.bs_data, hG] at this
                  exact this
                have hGb : 0 ≤ G ∧ G ≤ 4294967295 := by rw [← hG]; exact RD.sum_range Ma
                replace hG := hid' hG
                replace hps := hid' hps
                replace hX := hid' hX
                go_wp2_with fail
                refine (hps.out _).mono ?_
                rintro e w3 ⟨rfl, hb3⟩
                have hT3 := hTj.below hb3
                have hs3' := hb3.size
                have hs3 : W2.heap.size ≤ w3.heap.size := by omega
                have hbj3 : Below W2.heap.size W2 w3 := below_up hbj hb3 hwjs
                have hK3 := hKj.below hb3 hKj.lt
                have k32 := hK3.cell (j := 2) rfl
                replace hT3 := hid' hT3
                replace hTj := hid' hTj
                replace hb3 := hid' hb3
                cases wg with
                | false =>
                  obtain ⟨K, hKe⟩ : ∃ K : Int, RD.sumOf Ma false = K := ⟨_, rfl⟩
                  have hKb : 0 ≤ K ∧ K ≤ 4294967295 := by
                    rw [← hKe]
                    unfold RD.sumOf
                    have := RD.sum_range Ma
                    first | (rw [if_pos rfl]; omega) | (rw [if_neg (by decide)]; omega)
                  have hK1 : K = G := by rw [← hKe, ← hG.out]; rfl
                  subst hK1
                  obtain ⟨A, hA⟩ : ∃ A, A = Ms ++ RD.four K := ⟨_, rfl⟩
                  have d4 := cat hA
                  obtain ⟨NA, hNA2⟩ : ∃ n, n = A.length := ⟨_, rfl⟩
                  have zA : (RD.bs A).size = NA := by rw [RD.bs_size, hNA2]
                  have hNAb : NA = Ms.length + 4 := by rw [hNA2, hA, List.length_append]; rfl
                  have hNAc : NA ≤ 33554432 := by omega
                  replace hNAb := hid' hNAb
                  replace hNA2 := hid' hNA2
                  have z4 : (RD.bs (RD.four K)).size = 4 := RD.bs_size _
                  have hcv := conv_many w3 (RD.four K)
                  rw [u8s_four K hKb, show (RD.four K).length = 4 from rfl] at hcv
                  replace hKe := hid' hKe
                  replace hA := hid' hA
                  have hb5 : Below w3.heap.size w3 (w3.alloc (.cells #[.int .u8 (K % 256), .int .u8 (K / 256 % 256), .int .u8 (K / 65536 % 256), .int .u8 (K / 16777216)] 5)) := (Below.refl _ w3).alloc (Nat.le_refl _) _
                  have hT5 := hT3.out.below hb5
                  have hbs5 : Below W2.heap.size W2 (w3.alloc (.cells #[.int .u8 (K % 256), .int .u8 (K / 256 % 256), .int .u8 (K / 65536 % 256), .int .u8 (K / 16777216)] 5)) := below_up hbj3 hb5 hs3
                  replace hb5 := hid' hb5
                  replace hT5 := hid' hT5
                  replace hbs5 := hid' hbs5
                  replace hcv := hid' hcv
                  go_wp2_with fail
                  rw [hcv.out]
                  generalize w3.alloc (.cells #[.int .u8 (K % 256), .int .u8 (K / 256 % 256), .int .u8 (K / 65536 % 256), .int .u8 (K / 16777216)] 5) = W5 at *
                  have hb6 : Below W5.heap.size W5 (W5.alloc (.cells #[.int .i64 (NA : Int)] 3)) := (Below.refl _ W5).alloc (Nat.le_refl _) _
                  have hT6 := hT5.out.below hb6
                  have hs5 : W2.heap.size ≤ W5.heap.size := hbs5.out.size
                  obtain ⟨g1, g2, g3, o1, o2, o3, -⟩ := id hT6.ex
                  have hls4 : (ints F.L.ends).length ≤ 16777217 := by rw [ints_len]; omega
                  replace o1 := hid' o1
                  replace o2 := hid' o2
                  replace o3 := hid' o3
                  replace hT6 := hid' hT6
                  replace hb6 := hid' hb6
                  go_wp2_with (at_builtin; refine wpList_append_own_at _ rfl _ _ 27 rfl W2.heap.size 3 i0 _ 1 8 Tryz.underlying27 hi0 hz0 hz1 hz2 rfl (by decide) _ _ _ rfl o1.out.1 ⟨W5.heap.size, 0, none⟩ 1 1 [.int .i64 (NA : Int)] rfl rfl (cell_one_new _ _ _) (one_int _) (by unfold maxLen; omega) (by omega) (by simp; omega) ?_)
                  intro v' w7 hown7 hgrow hnil7 hat7
                  have hT7 := hT6.out.app1 hown7 hgrow (by rw [World.size_alloc]; exact hat7)
                  have hb7 : Hid (Below W2.heap.size W2 w7) := (hbs5.out.alloc hs5 _).grown hgrow (by simp; omega) (fun i hi => by have := o1.out.lt; rw [o1.out.2.1] at hi; have := Option.some.inj hi; omega)
                  have ea : Hid (F.add ⟨ts, true, false, false⟩ = ⟨⟨A, F.L.ends ++ [NA], Mst, Mtx⟩, X, -1⟩) := by
                    unfold Hid
                    have em : RD.midEnd F ⟨ts, true, false, false⟩ = ⟨Ms, Ma, Mst, Mtx⟩ := by
                      unfold RD.midEnd
                      rw [← hM0e.out]
                      exact hMj.out
                    unfold RD.Full.add
                    rw [if_neg (by simp), em, hX.out, hNA2.out, hA.out, ← hKe.out]
                    rfl
                  have hfin : Hid (RawsAt W2 W2.heap.size ps (k + 1) (F.add ⟨ts, true, false, false⟩) v' u10 u11 w7 ∧ (F.add ⟨ts, true, false, false⟩).L.s = A ∧ (F.add ⟨ts, true, false, false⟩).text = X ∧ (F.add ⟨ts, true, false, false⟩).wrong = -1) := by
                    refine ⟨hadd.out _ hPe _ _ _ _ hb7.out ?_, ?_, ?_, ?_⟩
                    · rw [ea.out]
                      exact hT7
                    · rw [ea.out]
                    · rw [ea.out]
                    · rw [ea.out]
                  replace hT7 := hid' hT7
                  clear hown7 hgrow hat7
                  go_wp2_with fail
                  go_roundg (ps.length + 1 - (k + 1))
                  case rel => exact ⟨k + 1, F.add ⟨ts, true, false, false⟩, rfl, by omega, by rw [hfin.out.2.1], by rw [hfin.out.2.2.1], by rw [hfin.out.2.2.2], by go_num, hfin.out.1⟩
                  case measure => omega
                | true =>
                  obtain ⟨K, hKe⟩ : ∃ K : Int, RD.sumOf Ma true = K := ⟨_, rfl⟩
                  have hKb : 0 ≤ K ∧ K ≤ 4294967295 := by
                    rw [← hKe]
                    unfold RD.sumOf
                    have := RD.sum_range Ma
                    first | (rw [if_pos rfl]; omega) | (rw [if_neg (by decide)]; omega)
                  have hK1 : (G + 1) % 4294967296 = K := by rw [← hKe, ← hG.out]; rfl
                  obtain ⟨A, hA⟩ : ∃ A, A = Ms ++ RD.four K := ⟨_, rfl⟩
                  have d4 := cat hA
                  obtain ⟨NA, hNA2⟩ : ∃ n, n = A.length := ⟨_, rfl⟩
                  have zA : (RD.bs A).size = NA := by rw [RD.bs_size, hNA2]
                  have hNAb : NA = Ms.length + 4 := by rw [hNA2, hA, List.length_append]; rfl
                  have hNAc : NA ≤ 33554432 := by omega
                  replace hNAb := hid' hNAb
                  replace hNA2 := hid' hNA2
                  have z4 : (RD.bs (RD.four K)).size = 4 := RD.bs_size _
                  have hcv := conv_many w3 (RD.four K)
                  rw [u8s_four K hKb, show (RD.four K).length = 4 from rfl] at hcv
                  replace hKe := hid' hKe
                  replace hA := hid' hA
                  have hb5 : Below w3.heap.size w3 (w3.alloc (.cells #[.int .u8 (K % 256), .int .u8 (K / 256 % 256), .int .u8 (K / 65536 % 256), .int .u8 (K / 16777216)] 5)) := (Below.refl _ w3).alloc (Nat.le_refl _) _
                  have hT5 := hT3.out.below hb5
                  have hbs5 : Below W2.heap.size W2 (w3.alloc (.cells #[.int .u8 (K % 256), .int .u8 (K / 256 % 256), .int .u8 (K / 65536 % 256), .int .u8 (K / 16777216)] 5)) := below_up hbj3 hb5 hs3
                  replace hb5 := hid' hb5
                  replace hT5 := hid' hT5
                  replace hbs5 := hid' hbs5
                  replace hcv := hid' hcv
                  go_wp2_with fail
                  rw [hcv.out]
                  generalize w3.alloc (.cells #[.int .u8 (K % 256), .int .u8 (K / 256 % 256), .int .u8 (K / 65536 % 256), .int .u8 (K / 16777216)] 5) = W5 at *
                  have hb6 : Below W5.heap.size W5 (W5.alloc (.cells #[.int .i64 (NA : Int)] 3)) := (Below.refl _ W5).alloc (Nat.le_refl _) _
                  have hT6 := hT5.out.below hb6
                  have hs5 : W2.heap.size ≤ W5.heap.size := hbs5.out.size
                  obtain ⟨g1, g2, g3, o1, o2, o3, -⟩ := id hT6.ex
                  have hls4 : (ints F.L.ends).length ≤ 16777217 := by rw [ints_len]; omega
                  replace o1 := hid' o1
                  replace o2 := hid' o2
                  replace o3 := hid' o3
                  replace hT6 := hid' hT6
                  replace hb6 := hid' hb6
                  go_wp2_with (at_builtin; refine wpList_append_own_at _ rfl _ _ 27 rfl W2.heap.size 3 i0 _ 1 8 Tryz.underlying27 hi0 hz0 hz1 hz2 rfl (by decide) _ _ _ rfl o1.out.1 ⟨W5.heap.size, 0, none⟩ 1 1 [.int .i64 (NA : Int)] rfl rfl (cell_one_new _ _ _) (one_int _) (by unfold maxLen; omega) (by omega) (by simp; omega) ?_)
                  intro v' w7 hown7 hgrow hnil7 hat7
                  have hT7 := hT6.out.app1 hown7 hgrow (by rw [World.size_alloc]; exact hat7)
                  have hb7 : Hid (Below W2.heap.size W2 w7) := (hbs5.out.alloc hs5 _).grown hgrow (by simp; omega) (fun i hi => by have := o1.out.lt; rw [o1.out.2.1] at hi; have := Option.some.inj hi; omega)
                  have ea : Hid (F.add ⟨ts, true, true, false⟩ = ⟨⟨A, F.L.ends ++ [NA], Mst, Mtx⟩, X, ((Ms.length + 4 : Nat) : Int)⟩) := by
                    unfold Hid
                    have em : RD.midEnd F ⟨ts, true, true, false⟩ = ⟨Ms, Ma, Mst, Mtx⟩ := by
                      unfold RD.midEnd
                      rw [← hM0e.out]
                      exact hMj.out
                    unfold RD.Full.add
                    rw [if_neg (by simp), em, hX.out, hNA2.out, hA.out, ← hKe.out]
                    rfl
                  have hfin : Hid (RawsAt W2 W2.heap.size ps (k + 1) (F.add ⟨ts, true, true, false⟩) v' u10 u11 w7 ∧ (F.add ⟨ts, true, true, false⟩).L.s = A ∧ (F.add ⟨ts, true, true, false⟩).text = X ∧ (F.add ⟨ts, true, true, false⟩).wrong = (Ms.length : Int) + 4) := by
                    refine ⟨hadd.out _ hPe _ _ _ _ hb7.out ?_, ?_, ?_, ?_⟩
                    · rw [ea.out]
                      exact hT7
                    · rw [ea.out]
                    · rw [ea.out]
                    · rw [ea.out]
                      exact Int.natCast_add _ _
                  replace hT7 := hid' hT7
                  clear hown7 hgrow hat7
                  go_wp2_with fail
                  go_roundg (ps.length + 1 - (k + 1))
                  case rel => exact ⟨k + 1, F.add ⟨ts, true, true, false⟩, rfl, by omega, by rw [hfin.out.2.1], by rw [hfin.out.2.2.1], by rw [hfin.out.2.2.2], by go_num, hfin.out.1⟩
                  case measure => omega
    · have hFe : RD.build RD.Full.start ps = F := by
        rw [hR.left]
        by_cases hk2 : k < ps.length
        · have hw0 : ¬ F.wrong < 0 := fun h => hlt ⟨hk2, h⟩
          rw [drop_here hk2]
          show (if F.wrong < 0 then _ else F) = F
          rw [if_neg hw0]
        · rw [List.drop_of_length_le (by omega)]
          rfl
      obtain ⟨g1, g2, g3, o1, o2, o3, -⟩ := id hR.tri.ex
      obtain ⟨c9, e9⟩ := o1.2.2
      obtain ⟨c10, e10⟩ := o2.2.2
      obtain ⟨c11, e11⟩ := o3.2.2
      rw [ints_len] at e9 e10
      rw [strs_len] at e11
      have q9 := hid' (fun i (h : i < F.L.ends.length) => o1.cell (ints_at _ i h))
      have q10 := hid' (fun i (h : i < F.L.starts.length) => o2.cell (ints_at _ i h))
      have q11 := hid' (fun i (h : i < F.L.texts.length) => o3.cell (strs_at _ i h))
      replace o1 := hid' o1
      replace o2 := hid' o2
      replace o3 := hid' o3
      subst e9 e10 e11
      have hgv := hid' (RD.raws_gave hcok.lim.1 ps RD.Full.start (RD.Good.start C))
      rw [hFe] at hgv
      obtain ⟨S, hS⟩ : ∃ S, F.L.s = S := ⟨_, rfl⟩
      rw [hS] at r1 ⊢
      have zS := RD.bs_size S
      obtain ⟨N, hNe⟩ : ∃ n, S.length = n := ⟨_, rfl⟩
      rw [hNe] at zS r1
      obtain ⟨Z, hZ⟩ : ∃ z : Int, 2 * (N : Int) + 1 = z := ⟨_, rfl⟩
      have hZb : 1 ≤ Z ∧ Z ≤ 1099511627776 := by omega
      have hpk := hid' (fun W => pickv cut Z W hcut hZb)
      have hPb : 0 ≤ pickN cut Z := Int.emod_nonneg _ (by omega)
      obtain ⟨PK, hPK⟩ : ∃ P, pickN cut Z = P := ⟨_, rfl⟩
      rw [hPK] at hpk hPb
      replace hPK := hid' hPK
      obtain ⟨AT, hAT⟩ : ∃ n : Nat, (if PK > (N : Int) then (N : Int) else PK) = (n : Int) := ⟨(if PK > (N : Int) then (N : Int) else PK).toNat, by split <;> omega⟩
      have hATb : AT ≤ N := by split at hAT <;> omega
      replace hFe := hid' hFe
      have hlen : F.wrong ≤ 33554432 := by omega
      by_cases hk2 : k < ps.length
      · have h1k : (k : Int) < (ps.length : Int) := by omega
        have h2k : ¬ F.wrong < 0 := by omega
        replace hlt := hid' hlt
        go_wp2_with fail
        refine (hpk.out _).mono ?_
        rintro e w3 ⟨rfl, hw3⟩
        subst hw3
        by_cases hgt : PK > (N : Int)
        · have hgt2 : (N : Int) < PK := hgt
          have hATe : AT = N := by rw [if_pos hgt] at hAT; omega
          subst hATe
          replace hAT := hid' hAT
          go_wp2_with fail
          go_loopg [22, 23] (F.L.starts.length + 1) (fun gh wv iv wx => ∃ i : Nat, gh = F.L.starts.length + 1 - i ∧ i ≤ F.L.starts.length ∧ wv = .string (RD.bs (RD.wantOf AT (F.L.starts.take i) (F.L.texts.take i) [])) ∧ iv = .int .i64 (i : Int) ∧ wx = w3)
          case atStart => exact ⟨0, by omega, by omega, by simp [RD.wantOf]; rfl, rfl, rfl⟩
          case round =>
            obtain ⟨i, rfl, hi, rfl, rfl, rfl⟩ := hrel
            by_cases hil : i < F.L.starts.length
            · have hil2 : (i : Int) < (F.L.starts.length : Int) := by omega
              have hil3 : (i : Int) < (F.L.texts.length : Int) := by omega
              have y1 := q10.out i hil
              have y2 := q11.out i (by omega)
              have hwt := hid' (want_take AT F.L.starts F.L.texts r5 i hil)
              obtain ⟨V, hVe⟩ : ∃ V, F.L.starts.getD i 0 = V := ⟨_, rfl⟩
              obtain ⟨X, hXe⟩ : ∃ X, F.L.texts.getD i [] = X := ⟨_, rfl⟩
              obtain ⟨Y, hYe⟩ : ∃ Y, RD.wantOf AT (F.L.starts.take i) (F.L.texts.take i) [] = Y := ⟨_, rfl⟩
              rw [hVe] at y1 hwt
              rw [hXe] at y2 hwt
              rw [hYe] at hwt ⊢
              replace hVe := hid' hVe
              replace hXe := hid' hXe
              replace hYe := hid' hYe
              by_cases hva : V ≤ AT
              · have hva2 : (V : Int) ≤ (AT : Int) := by omega
                go_wp2_with fail
                go_roundg (F.L.starts.length + 1 - (i + 1))
                case rel => exact ⟨i + 1, rfl, by omega, by rw [hwt.out, if_pos hva], by go_num, rfl⟩
                case measure => omega
              · have hva2 : ¬ (V : Int) ≤ (AT : Int) := by omega
                go_wp2_with fail
                go_roundg (F.L.starts.length + 1 - (i + 1))
                case rel => exact ⟨i + 1, rfl, by omega, by rw [hwt.out, if_neg hva], by go_num, rfl⟩
                case measure => omega
            · have hie : i = F.L.starts.length := by omega
              subst hie
              have hil2 : ¬ (F.L.starts.length : Int) < (F.L.starts.length : Int) := by omega
              rw [List.take_length, List.take_of_length_le (by omega)]
              go_wp2_with fail
              obtain ⟨WT, hWT⟩ : ∃ Y, RD.wantOf AT F.L.starts F.L.texts [] = Y := ⟨_, rfl⟩
              rw [hWT]
              replace hWT := hid' hWT
              obtain ⟨W9, hW9⟩ : ∃ W, W = wr := ⟨_, rfl⟩
              subst hW9
              go_loopg [24, 25] (F.L.ends.length + 1) (fun gh fv iv wx => ∃ i : Nat, gh = F.L.ends.length + 1 - i ∧ i ≤ F.L.ends.length ∧ fv = .int .i64 (if AT ∈ F.L.ends.take i then 0 else 7) ∧ iv = .int .i64 (i : Int) ∧ wx = W9)
              case atStart => exact ⟨0, by omega, by omega, by simp, rfl, rfl⟩
              case round =>
                obtain ⟨i, rfl, hi, rfl, rfl, rfl⟩ := hrel
                by_cases hil : i < F.L.ends.length
                · have hil2 : (i : Int) < (F.L.ends.length : Int) := by omega
                  have y1 := q9.out i hil
                  have hwt := hid' (mem_take_succ AT F.L.ends i hil)
                  obtain ⟨V, hVe⟩ : ∃ V, F.L.ends.getD i 0 = V := ⟨_, rfl⟩
                  obtain ⟨Y, hYe⟩ : ∃ Y : Int, (if AT ∈ F.L.ends.take i then (0 : Int) else 7) = Y := ⟨_, rfl⟩
                  rw [hVe] at y1 hwt
                  rw [hYe]
                  replace hVe := hid' hVe
                  replace hYe := hid' hYe
                  by_cases hva : V = AT
                  · have hva2 : ((V : Int) == (AT : Int)) = true := by simp; omega
                    have hva3 : (V : Int) = (AT : Int) := by omega
                    go_wp2_with fail
                    go_roundg (F.L.ends.length + 1 - (i + 1))
                    case rel => exact ⟨i + 1, rfl, by omega, by rw [if_pos (hwt.out.2 (.inr hva))], by go_num, rfl⟩
                    case measure => omega
                  · have hva2 : ((V : Int) == (AT : Int)) = false := by simp; omega
                    have hva3 : ¬ (V : Int) = (AT : Int) := by omega
                    go_wp2_with fail
                    go_roundg (F.L.ends.length + 1 - (i + 1))
                    case rel =>
                      refine ⟨i + 1, rfl, by omega, ?_, by go_num, rfl⟩
                      rw [← hYe.out]
                      by_cases hm : AT ∈ F.L.ends.take i
                      · rw [if_pos hm, if_pos (hwt.out.2 (.inl hm))]
                      · rw [if_neg hm, if_neg (fun h => (hwt.out.1 h).elim hm hva)]
                    case measure => omega
                · have hie : i = F.L.ends.length := by omega
                  subst hie
                  have hil2 : ¬ (F.L.ends.length : Int) < (F.L.ends.length : Int) := by omega
                  rw [List.take_length]
                  have hga0 := hid' (hgv.out AT (by rw [hS]; omega))
                  have hraw : Raw C (S.take AT) := by
                    have := hga0.out.2
                    rw [hS] at this
                    exact this
                  have hwh0 := fun W hD hV hE => whole_raw x C hcok hiok (S.take AT) (.slice a1 C.dicts.length c1) W hD hV hE (by rw [List.length_take]; omega) hraw
                  have hbr := hR.below
                  have hD4 := hD2.only (below_only (G := fun _ => False) hbr) (fun _ _ e => e)
                  have hV4 := (hV.below hb2).below hbr
                  have hE4 := (hE.below hV hb2).below (hV.below hb2) hbr
                  have hN4 := hN.below hbr (by have := hN.lt; omega)
                  have hwk := works_any x C hcok hiok (.slice a1 C.dicts.length c1) wr hD4 hV4 hE4
                  have hex := RD.bs_take S AT
                  have n40 := hN4.cell (j := 0) rfl
                  have n41 := hN4.cell (j := 1) rfl
                  replace hwk := hid' hwk
                  replace hwh0 := hid' hwh0
                  replace hD4 := hid' hD4
                  replace hV4 := hid' hV4
                  replace hE4 := hid' hE4
                  replace hbr := hid' hbr
                  replace hgv := hid' hgv
                  have h0w : 0 ≤ F.wrong := by omega
                  by_cases hwa : F.wrong ≤ (AT : Int)
                  · have hwa2 : (AT : Int) ≥ F.wrong := hwa
                    have hga : RD.gave C (S.take AT) = (WT, 8) := by
                      have := hga0.out.1
                      rw [hS, hWT.out, if_pos ⟨h0w, hwa⟩] at this
                      exact this
                    replace hga := hid' hga
                    replace hwa := hid' hwa
                    go_wp2_with fail
                    refine hwk.out.mono ?_
                    rintro e w5 ⟨rfl, hb5⟩
                    have hwhW : ∀ W : World, SameW W w5 → Calls Tryz.prog 17 #[.agg #[.int .i64 C.limit, .slice a1 C.dicts.length c1], .string (RD.bs (S.take AT))] W fun e w' => e = .returned (.tuple #[.string (RD.bs WT), .int .i64 8]) ∧ Below w5.heap.size w5 w' := fun W hW => by
                      have hbW : Below w5.heap.size w5 W := ⟨hW.2.1, hW.2.2.1, hW.2.2.2, by rw [hW.1]; exact Nat.le_refl _, fun k _ => by rw [hW.1]⟩
                      have hV5 := hV4.out.below hb5
                      have hE5 := hE4.out.below hV4.out hb5
                      have hwh := hwh0.out W ((hD4.out.only (below_only (G := fun _ => False) hb5) (fun _ _ e => e)).only (below_only (G := fun _ => False) hbW) (fun _ _ e => e)) (hV5.below hbW) (hE5.below hV5 hbW)
                      refine hwh.mono ?_
                      rintro e w' ⟨rfl, hb'⟩
                      rw [hga.out]
                      exact ⟨rfl, hW.below hb'⟩
                    have hN5 := hN4.below hb5 hN4.lt
                    have n50 := hN5.cell (j := 0) rfl
                    have n51 := hN5.cell (j := 1) rfl
                    have hWTe : ((RD.bs WT).toList == WT) = true := by rw [bs_toL]; simp
                    go_wp2_with fail
                    go_region_with (go_at_call 17; refine (hwhW _ (by exact ⟨rfl, rfl, rfl, rfl⟩)).mono ?_; rintro e w6 ⟨rfl, hb6⟩)
                    all_goals go_wp2_with fail
                    go_ret
                    have u1 := hb2.size
                    have u2 := hbr.out.size
                    have u3 := hb5.size
                    exact ⟨rfl, below_up (below_up (below_up hb2 hbr.out (by omega)) hb5 (by omega)) hb6 (by omega)⟩
                  · have hwa2 : ¬ (AT : Int) ≥ F.wrong := hwa
                    have hwa3 : ¬ (F.wrong ≤ (AT : Int)) := hwa
                    replace hwa : ¬ (0 ≤ F.wrong ∧ F.wrong ≤ (AT : Int)) := fun h => hwa2 h.2
                    by_cases hmem : AT ∈ F.L.ends
                    · rw [if_pos hmem]
                      have hga : RD.gave C (S.take AT) = (WT, 2) := by
                        have := hga0.out.1
                        rw [hS, hWT.out, if_neg (fun h => hwa h), RD.codeOf, if_pos hmem] at this
                        exact this
                      replace hga := hid' hga
                      replace hwa := hid' hwa
                      go_wp2_with fail
                      refine hwk.out.mono ?_
                      rintro e w5 ⟨rfl, hb5⟩
                      have hwhW : ∀ W : World, SameW W w5 → Calls Tryz.prog 17 #[.agg #[.int .i64 C.limit, .slice a1 C.dicts.length c1], .string (RD.bs (S.take AT))] W fun e w' => e = .returned (.tuple #[.string (RD.bs WT), .int .i64 0]) ∧ Below w5.heap.size w5 w' := fun W hW => by
                        have hbW : Below w5.heap.size w5 W := ⟨hW.2.1, hW.2.2.1, hW.2.2.2, by rw [hW.1]; exact Nat.le_refl _, fun k _ => by rw [hW.1]⟩
                        have hV5 := hV4.out.below hb5
                        have hE5 := hE4.out.below hV4.out hb5
                        have hwh := hwh0.out W ((hD4.out.only (below_only (G := fun _ => False) hb5) (fun _ _ e => e)).only (below_only (G := fun _ => False) hbW) (fun _ _ e => e)) (hV5.below hbW) (hE5.below hV5 hbW)
                        refine hwh.mono ?_
                        rintro e w' ⟨rfl, hb'⟩
                        rw [hga.out]
                        exact ⟨rfl, hW.below hb'⟩
                      have hN5 := hN4.below hb5 hN4.lt
                      have n50 := hN5.cell (j := 0) rfl
                      have n51 := hN5.cell (j := 1) rfl
                      have hWTe : ((RD.bs WT).toList == WT) = true := by rw [bs_toL]; simp
                      go_wp2_with fail
                      go_region_with (go_at_call 17; refine (hwhW _ (by exact ⟨rfl, rfl, rfl, rfl⟩)).mono ?_; rintro e w6 ⟨rfl, hb6⟩)
                      all_goals go_wp2_with fail
                      go_ret
                      have u1 := hb2.size
                      have u2 := hbr.out.size
                      have u3 := hb5.size
                      exact ⟨rfl, below_up (below_up (below_up hb2 hbr.out (by omega)) hb5 (by omega)) hb6 (by omega)⟩
                    · rw [if_neg hmem]
                      have hga : RD.gave C (S.take AT) = (WT, 7) := by
                        have := hga0.out.1
                        rw [hS, hWT.out, if_neg (fun h => hwa h), RD.codeOf, if_neg hmem] at this
                        exact this
                      replace hga := hid' hga
                      replace hwa := hid' hwa
                      go_wp2_with fail
                      refine hwk.out.mono ?_
                      rintro e w5 ⟨rfl, hb5⟩
                      have hwhW : ∀ W : World, SameW W w5 → Calls Tryz.prog 17 #[.agg #[.int .i64 C.limit, .slice a1 C.dicts.length c1], .string (RD.bs (S.take AT))] W fun e w' => e = .returned (.tuple #[.string (RD.bs WT), .int .i64 7]) ∧ Below w5.heap.size w5 w' := fun W hW => by
                        have hbW : Below w5.heap.size w5 W := ⟨hW.2.1, hW.2.2.1, hW.2.2.2, by rw [hW.1]; exact Nat.le_refl _, fun k _ => by rw [hW.1]⟩
                        have hV5 := hV4.out.below hb5
                        have hE5 := hE4.out.below hV4.out hb5
                        have hwh := hwh0.out W ((hD4.out.only (below_only (G := fun _ => False) hb5) (fun _ _ e => e)).only (below_only (G := fun _ => False) hbW) (fun _ _ e => e)) (hV5.below hbW) (hE5.below hV5 hbW)
                        refine hwh.mono ?_
                        rintro e w' ⟨rfl, hb'⟩
                        rw [hga.out]
                        exact ⟨rfl, hW.below hb'⟩
                      have hN5 := hN4.below hb5 hN4.lt
                      have n50 := hN5.cell (j := 0) rfl
                      have n51 := hN5.cell (j := 1) rfl
                      have hWTe : ((RD.bs WT).toList == WT) = true := by rw [bs_toL]; simp
                      go_wp2_with fail
                      go_region_with (go_at_call 17; refine (hwhW _ (by exact ⟨rfl, rfl, rfl, rfl⟩)).mono ?_; rintro e w6 ⟨rfl, hb6⟩)
                      all_goals go_wp2_with fail
                      go_ret
                      have u1 := hb2.size
                      have u2 := hbr.out.size
                      have u3 := hb5.size
                      exact ⟨rfl, below_up (below_up (below_up hb2 hbr.out (by omega)) hb5 (by omega)) hb6 (by omega)⟩
        · have hPKe : PK = (AT : Int) := by rw [if_neg hgt] at hAT; exact hAT
          replace hAT := hid' hAT
          subst hPKe
          have hgt2 : ¬ (N : Int) < (AT : Int) := hgt
          have hgt3 : ¬ N < AT := by omega
          have hgt4 : decide (N < AT) = false := decide_eq_false hgt3
          go_wp2_with fail
          go_loopg [22, 23] (F.L.starts.length + 1) (fun gh wv iv wx => ∃ i : Nat, gh = F.L.starts.length + 1 - i ∧ i ≤ F.L.starts.length ∧ wv = .string (RD.bs (RD.wantOf AT (F.L.starts.take i) (F.L.texts.take i) [])) ∧ iv = .int .i64 (i : Int) ∧ wx = w3)
          case atStart => exact ⟨0, by omega, by omega, by simp [RD.wantOf]; rfl, rfl, rfl⟩
          case round =>
            obtain ⟨i, rfl, hi, rfl, rfl, rfl⟩ := hrel
            by_cases hil : i < F.L.starts.length
            · have hil2 : (i : Int) < (F.L.starts.length : Int) := by omega
              have hil3 : (i : Int) < (F.L.texts.length : Int) := by omega
              have y1 := q10.out i hil
              have y2 := q11.out i (by omega)
              have hwt := hid' (want_take AT F.L.starts F.L.texts r5 i hil)
              obtain ⟨V, hVe⟩ : ∃ V, F.L.starts.getD i 0 = V := ⟨_, rfl⟩
              obtain ⟨X, hXe⟩ : ∃ X, F.L.texts.getD i [] = X := ⟨_, rfl⟩
              obtain ⟨Y, hYe⟩ : ∃ Y, RD.wantOf AT (F.L.starts.take i) (F.L.texts.take i) [] = Y := ⟨_, rfl⟩
              rw [hVe] at y1 hwt
              rw [hXe] at y2 hwt
              rw [hYe] at hwt ⊢
              replace hVe := hid' hVe
              replace hXe := hid' hXe
              replace hYe := hid' hYe
              by_cases hva : V ≤ AT
              · have hva2 : (V : Int) ≤ (AT : Int) := by omega
                go_wp2_with fail
                go_roundg (F.L.starts.length + 1 - (i + 1))
                case rel => exact ⟨i + 1, rfl, by omega, by rw [hwt.out, if_pos hva], by go_num, rfl⟩
                case measure => omega
              · have hva2 : ¬ (V : Int) ≤ (AT : Int) := by omega
                go_wp2_with fail
                go_roundg (F.L.starts.length + 1 - (i + 1))
                case rel => exact ⟨i + 1, rfl, by omega, by rw [hwt.out, if_neg hva], by go_num, rfl⟩
                case measure => omega
            · have hie : i = F.L.starts.length := by omega
              subst hie
              have hil2 : ¬ (F.L.starts.length : Int) < (F.L.starts.length : Int) := by omega
              rw [List.take_length, List.take_of_length_le (by omega)]
              go_wp2_with fail
              obtain ⟨WT, hWT⟩ : ∃ Y, RD.wantOf AT F.L.starts F.L.texts [] = Y := ⟨_, rfl⟩
              rw [hWT]
              replace hWT := hid' hWT
              obtain ⟨W9, hW9⟩ : ∃ W, W = wr := ⟨_, rfl⟩
              subst hW9
              go_loopg [24, 25] (F.L.ends.length + 1) (fun gh fv iv wx => ∃ i : Nat, gh = F.L.ends.length + 1 - i ∧ i ≤ F.L.ends.length ∧ fv = .int .i64 (if AT ∈ F.L.ends.take i then 0 else 7) ∧ iv = .int .i64 (i : Int) ∧ wx = W9)
              case atStart => exact ⟨0, by omega, by omega, by simp, rfl, rfl⟩
              case round =>
                obtain ⟨i, rfl, hi, rfl, rfl, rfl⟩ := hrel
                by_cases hil : i < F.L.ends.length
                · have hil2 : (i : Int) < (F.L.ends.length : Int) := by omega
                  have y1 := q9.out i hil
                  have hwt := hid' (mem_take_succ AT F.L.ends i hil)
                  obtain ⟨V, hVe⟩ : ∃ V, F.L.ends.getD i 0 = V := ⟨_, rfl⟩
                  obtain ⟨Y, hYe⟩ : ∃ Y : Int, (if AT ∈ F.L.ends.take i then (0 : Int) else 7) = Y := ⟨_, rfl⟩
                  rw [hVe] at y1 hwt
                  rw [hYe]
                  replace hVe := hid' hVe
                  replace hYe := hid' hYe
                  by_cases hva : V = AT
                  · have hva2 : ((V : Int) == (AT : Int)) = true := by simp; omega
                    have hva3 : (V : Int) = (AT : Int) := by omega
                    go_wp2_with fail
                    go_roundg (F.L.ends.length + 1 - (i + 1))
                    case rel => exact ⟨i + 1, rfl, by omega, by rw [if_pos (hwt.out.2 (.inr hva))], by go_num, rfl⟩
                    case measure => omega
                  · have hva2 : ((V : Int) == (AT : Int)) = false := by simp; omega
                    have hva3 : ¬ (V : Int) = (AT : Int) := by omega
                    go_wp2_with fail
                    go_roundg (F.L.ends.length + 1 - (i + 1))
                    case rel =>
                      refine ⟨i + 1, rfl, by omega, ?_, by go_num, rfl⟩
                      rw [← hYe.out]
                      by_cases hm : AT ∈ F.L.ends.take i
                      · rw [if_pos hm, if_pos (hwt.out.2 (.inl hm))]
                      · rw [if_neg hm, if_neg (fun h => (hwt.out.1 h).elim hm hva)]
                    case measure => omega
                · have hie : i = F.L.ends.length := by omega
                  subst hie
                  have hil2 : ¬ (F.L.ends.length : Int) < (F.L.ends.length : Int) := by omega
                  rw [List.take_length]
                  have hga0 := hid' (hgv.out AT (by rw [hS]; omega))
                  have hraw : Raw C (S.take AT) := by
                    have := hga0.out.2
                    rw [hS] at this
                    exact this
                  have hwh0 := fun W hD hV hE => whole_raw x C hcok hiok (S.take AT) (.slice a1 C.dicts.length c1) W hD hV hE (by rw [List.length_take]; omega) hraw
                  have hbr := hR.below
                  have hD4 := hD2.only (below_only (G := fun _ => False) hbr) (fun _ _ e => e)
                  have hV4 := (hV.below hb2).below hbr
                  have hE4 := (hE.below hV hb2).below (hV.below hb2) hbr
                  have hN4 := hN.below hbr (by have := hN.lt; omega)
                  have hwk := works_any x C hcok hiok (.slice a1 C.dicts.length c1) wr hD4 hV4 hE4
                  have hex := RD.bs_take S AT
                  have n40 := hN4.cell (j := 0) rfl
                  have n41 := hN4.cell (j := 1) rfl
                  replace hwk := hid' hwk
                  replace hwh0 := hid' hwh0
                  replace hD4 := hid' hD4
                  replace hV4 := hid' hV4
                  replace hE4 := hid' hE4
                  replace hbr := hid' hbr
                  replace hgv := hid' hgv
                  have h0w : 0 ≤ F.wrong := by omega
                  by_cases hwa : F.wrong ≤ (AT : Int)
                  · have hwa2 : (AT : Int) ≥ F.wrong := hwa
                    have hga : RD.gave C (S.take AT) = (WT, 8) := by
                      have := hga0.out.1
                      rw [hS, hWT.out, if_pos ⟨h0w, hwa⟩] at this
                      exact this
                    replace hga := hid' hga
                    replace hwa := hid' hwa
                    go_wp2_with fail
                    refine hwk.out.mono ?_
                    rintro e w5 ⟨rfl, hb5⟩
                    have hwhW : ∀ W : World, SameW W w5 → Calls Tryz.prog 17 #[.agg #[.int .i64 C.limit, .slice a1 C.dicts.length c1], .string (RD.bs (S.take AT))] W fun e w' => e = .returned (.tuple #[.string (RD.bs WT), .int .i64 8]) ∧ Below w5.heap.size w5 w' := fun W hW => by
                      have hbW : Below w5.heap.size w5 W := ⟨hW.2.1, hW.2.2.1, hW.2.2.2, by rw [hW.1]; exact Nat.le_refl _, fun k _ => by rw [hW.1]⟩
                      have hV5 := hV4.out.below hb5
                      have hE5 := hE4.out.below hV4.out hb5
                      have hwh := hwh0.out W ((hD4.out.only (below_only (G := fun _ => False) hb5) (fun _ _ e => e)).only (below_only (G := fun _ => False) hbW) (fun _ _ e => e)) (hV5.below hbW) (hE5.below hV5 hbW)
                      refine hwh.mono ?_
                      rintro e w' ⟨rfl, hb'⟩
                      rw [hga.out]
                      exact ⟨rfl, hW.below hb'⟩
                    have hN5 := hN4.below hb5 hN4.lt
                    have n50 := hN5.cell (j := 0) rfl
                    have n51 := hN5.cell (j := 1) rfl
                    have hWTe : ((RD.bs WT).toList == WT) = true := by rw [bs_toL]; simp
                    go_wp2_with fail
                    go_region_with (go_at_call 17; refine (hwhW _ (by exact ⟨rfl, rfl, rfl, rfl⟩)).mono ?_; rintro e w6 ⟨rfl, hb6⟩)
                    all_goals go_wp2_with fail
                    go_ret
                    have u1 := hb2.size
                    have u2 := hbr.out.size
                    have u3 := hb5.size
                    exact ⟨rfl, below_up (below_up (below_up hb2 hbr.out (by omega)) hb5 (by omega)) hb6 (by omega)⟩
                  · have hwa2 : ¬ (AT : Int) ≥ F.wrong := hwa
                    have hwa3 : ¬ (F.wrong ≤ (AT : Int)) := hwa
                    replace hwa : ¬ (0 ≤ F.wrong ∧ F.wrong ≤ (AT : Int)) := fun h => hwa2 h.2
                    by_cases hmem : AT ∈ F.L.ends
                    · rw [if_pos hmem]
                      have hga : RD.gave C (S.take AT) = (WT, 2) := by
                        have := hga0.out.1
                        rw [hS, hWT.out, if_neg (fun h => hwa h), RD.codeOf, if_pos hmem] at this
                        exact this
                      replace hga := hid' hga
                      replace hwa := hid' hwa
                      go_wp2_with fail
                      refine hwk.out.mono ?_
                      rintro e w5 ⟨rfl, hb5⟩
                      have hwhW : ∀ W : World, SameW W w5 → Calls Tryz.prog 17 #[.agg #[.int .i64 C.limit, .slice a1 C.dicts.length c1], .string (RD.bs (S.take AT))] W fun e w' => e = .returned (.tuple #[.string (RD.bs WT), .int .i64 0]) ∧ Below w5.heap.size w5 w' := fun W hW => by
                        have hbW : Below w5.heap.size w5 W := ⟨hW.2.1, hW.2.2.1, hW.2.2.2, by rw [hW.1]; exact Nat.le_refl _, fun k _ => by rw [hW.1]⟩
                        have hV5 := hV4.out.below hb5
                        have hE5 := hE4.out.below hV4.out hb5
                        have hwh := hwh0.out W ((hD4.out.only (below_only (G := fun _ => False) hb5) (fun _ _ e => e)).only (below_only (G := fun _ => False) hbW) (fun _ _ e => e)) (hV5.below hbW) (hE5.below hV5 hbW)
                        refine hwh.mono ?_
                        rintro e w' ⟨rfl, hb'⟩
                        rw [hga.out]
                        exact ⟨rfl, hW.below hb'⟩
                      have hN5 := hN4.below hb5 hN4.lt
                      have n50 := hN5.cell (j := 0) rfl
                      have n51 := hN5.cell (j := 1) rfl
                      have hWTe : ((RD.bs WT).toList == WT) = true := by rw [bs_toL]; simp
                      go_wp2_with fail
                      go_region_with (go_at_call 17; refine (hwhW _ (by exact ⟨rfl, rfl, rfl, rfl⟩)).mono ?_; rintro e w6 ⟨rfl, hb6⟩)
                      all_goals go_wp2_with fail
                      go_ret
                      have u1 := hb2.size
                      have u2 := hbr.out.size
                      have u3 := hb5.size
                      exact ⟨rfl, below_up (below_up (below_up hb2 hbr.out (by omega)) hb5 (by omega)) hb6 (by omega)⟩
                    · rw [if_neg hmem]
                      have hga : RD.gave C (S.take AT) = (WT, 7) := by
                        have := hga0.out.1
                        rw [hS, hWT.out, if_neg (fun h => hwa h), RD.codeOf, if_neg hmem] at this
                        exact this
                      replace hga := hid' hga
                      replace hwa := hid' hwa
                      go_wp2_with fail
                      refine hwk.out.mono ?_
                      rintro e w5 ⟨rfl, hb5⟩
                      have hwhW : ∀ W : World, SameW W w5 → Calls Tryz.prog 17 #[.agg #[.int .i64 C.limit, .slice a1 C.dicts.length c1], .string (RD.bs (S.take AT))] W fun e w' => e = .returned (.tuple #[.string (RD.bs WT), .int .i64 7]) ∧ Below w5.heap.size w5 w' := fun W hW => by
                        have hbW : Below w5.heap.size w5 W := ⟨hW.2.1, hW.2.2.1, hW.2.2.2, by rw [hW.1]; exact Nat.le_refl _, fun k _ => by rw [hW.1]⟩
                        have hV5 := hV4.out.below hb5
                        have hE5 := hE4.out.below hV4.out hb5
                        have hwh := hwh0.out W ((hD4.out.only (below_only (G := fun _ => False) hb5) (fun _ _ e => e)).only (below_only (G := fun _ => False) hbW) (fun _ _ e => e)) (hV5.below hbW) (hE5.below hV5 hbW)
                        refine hwh.mono ?_
                        rintro e w' ⟨rfl, hb'⟩
                        rw [hga.out]
                        exact ⟨rfl, hW.below hb'⟩
                      have hN5 := hN4.below hb5 hN4.lt
                      have n50 := hN5.cell (j := 0) rfl
                      have n51 := hN5.cell (j := 1) rfl
                      have hWTe : ((RD.bs WT).toList == WT) = true := by rw [bs_toL]; simp
                      go_wp2_with fail
                      go_region_with (go_at_call 17; refine (hwhW _ (by exact ⟨rfl, rfl, rfl, rfl⟩)).mono ?_; rintro e w6 ⟨rfl, hb6⟩)
                      all_goals go_wp2_with fail
                      go_ret
                      have u1 := hb2.size
                      have u2 := hbr.out.size
                      have u3 := hb5.size
                      exact ⟨rfl, below_up (below_up (below_up hb2 hbr.out (by omega)) hb5 (by omega)) hb6 (by omega)⟩
      · have h1k : ¬ (k : Int) < (ps.length : Int) := by omega
        replace hlt := hid' hlt
        go_wp2_with fail
        refine (hpk.out _).mono ?_
        rintro e w3 ⟨rfl, hw3⟩
        subst hw3
        by_cases hgt : PK > (N : Int)
        · have hgt2 : (N : Int) < PK := hgt
          have hATe : AT = N := by rw [if_pos hgt] at hAT; omega
          subst hATe
          replace hAT := hid' hAT
          go_wp2_with fail
          go_loopg [22, 23] (F.L.starts.length + 1) (fun gh wv iv wx => ∃ i : Nat, gh = F.L.starts.length + 1 - i ∧ i ≤ F.L.starts.length ∧ wv = .string (RD.bs (RD.wantOf AT (F.L.starts.take i) (F.L.texts.take i) [])) ∧ iv = .int .i64 (i : Int) ∧ wx = w3)
          case atStart => exact ⟨0, by omega, by omega, by simp [RD.wantOf]; rfl, rfl, rfl⟩
          case round =>
            obtain ⟨i, rfl, hi, rfl, rfl, rfl⟩ := hrel
            by_cases hil : i < F.L.starts.length
            · have hil2 : (i : Int) < (F.L.starts.length : Int) := by omega
              have hil3 : (i : Int) < (F.L.texts.length : Int) := by omega
              have y1 := q10.out i hil
              have y2 := q11.out i (by omega)
              have hwt := hid' (want_take AT F.L.starts F.L.texts r5 i hil)
              obtain ⟨V, hVe⟩ : ∃ V, F.L.starts.getD i 0 = V := ⟨_, rfl⟩
              obtain ⟨X, hXe⟩ : ∃ X, F.L.texts.getD i [] = X := ⟨_, rfl⟩
              obtain ⟨Y, hYe⟩ : ∃ Y, RD.wantOf AT (F.L.starts.take i) (F.L.texts.take i) [] = Y := ⟨_, rfl⟩
              rw [hVe] at y1 hwt
              rw [hXe] at y2 hwt
              rw [hYe] at hwt ⊢
              replace hVe := hid' hVe
              replace hXe := hid' hXe
              replace hYe := hid' hYe
              by_cases hva : V ≤ AT
              · have hva2 : (V : Int) ≤ (AT : Int) := by omega
                go_wp2_with fail
                go_roundg (F.L.starts.length + 1 - (i + 1))
                case rel => exact ⟨i + 1, rfl, by omega, by rw [hwt.out, if_pos hva], by go_num, rfl⟩
                case measure => omega
              · have hva2 : ¬ (V : Int) ≤ (AT : Int) := by omega
                go_wp2_with fail
                go_roundg (F.L.starts.length + 1 - (i + 1))
                case rel => exact ⟨i + 1, rfl, by omega, by rw [hwt.out, if_neg hva], by go_num, rfl⟩
                case measure => omega
            · have hie : i = F.L.starts.length := by omega
              subst hie
              have hil2 : ¬ (F.L.starts.length : Int) < (F.L.starts.length : Int) := by omega
              rw [List.take_length, List.take_of_length_le (by omega)]
              go_wp2_with fail
              obtain ⟨WT, hWT⟩ : ∃ Y, RD.wantOf AT F.L.starts F.L.texts [] = Y := ⟨_, rfl⟩
              rw [hWT]
              replace hWT := hid' hWT
              obtain ⟨W9, hW9⟩ : ∃ W, W = wr := ⟨_, rfl⟩
              subst hW9
              go_loopg [24, 25] (F.L.ends.length + 1) (fun gh fv iv wx => ∃ i : Nat, gh = F.L.ends.length + 1 - i ∧ i ≤ F.L.ends.length ∧ fv = .int .i64 (if AT ∈ F.L.ends.take i then 0 else 7) ∧ iv = .int .i64 (i : Int) ∧ wx = W9)
              case atStart => exact ⟨0, by omega, by omega, by simp, rfl, rfl⟩
              case round =>
                obtain ⟨i, rfl, hi, rfl, rfl, rfl⟩ := hrel
                by_cases hil : i < F.L.ends.length
                · have hil2 : (i : Int) < (F.L.ends.length : Int) := by omega
                  have y1 := q9.out i hil
                  have hwt := hid' (mem_take_succ AT F.L.ends i hil)
                  obtain ⟨V, hVe⟩ : ∃ V, F.L.ends.getD i 0 = V := ⟨_, rfl⟩
                  obtain ⟨Y, hYe⟩ : ∃ Y : Int, (if AT ∈ F.L.ends.take i then (0 : Int) else 7) = Y := ⟨_, rfl⟩
                  rw [hVe] at y1 hwt
                  rw [hYe]
                  replace hVe := hid' hVe
                  replace hYe := hid' hYe
                  by_cases hva : V = AT
                  · have hva2 : ((V : Int) == (AT : Int)) = true := by simp; omega
                    have hva3 : (V : Int) = (AT : Int) := by omega
                    go_wp2_with fail
                    go_roundg (F.L.ends.length + 1 - (i + 1))
                    case rel => exact ⟨i + 1, rfl, by omega, by rw [if_pos (hwt.out.2 (.inr hva))], by go_num, rfl⟩
                    case measure => omega
                  · have hva2 : ((V : Int) == (AT : Int)) = false := by simp; omega
                    have hva3 : ¬ (V : Int) = (AT : Int) := by omega
                    go_wp2_with fail
                    go_roundg (F.L.ends.length + 1 - (i + 1))
                    case rel =>
                      refine ⟨i + 1, rfl, by omega, ?_, by go_num, rfl⟩
                      rw [← hYe.out]
                      by_cases hm : AT ∈ F.L.ends.take i
                      · rw [if_pos hm, if_pos (hwt.out.2 (.inl hm))]
                      · rw [if_neg hm, if_neg (fun h => (hwt.out.1 h).elim hm hva)]
                    case measure => omega
                · have hie : i = F.L.ends.length := by omega
                  subst hie
                  have hil2 : ¬ (F.L.ends.length : Int) < (F.L.ends.length : Int) := by omega
                  rw [List.take_length]
                  have hga0 := hid' (hgv.out AT (by rw [hS]; omega))
                  have hraw : Raw C (S.take AT) := by
                    have := hga0.out.2
                    rw [hS] at this
                    exact this
                  have hwh0 := fun W hD hV hE => whole_raw x C hcok hiok (S.take AT) (.slice a1 C.dicts.length c1) W hD hV hE (by rw [List.length_take]; omega) hraw
                  have hbr := hR.below
                  have hD4 := hD2.only (below_only (G := fun _ => False) hbr) (fun _ _ e => e)
                  have hV4 := (hV.below hb2).below hbr
                  have hE4 := (hE.below hV hb2).below (hV.below hb2) hbr
                  have hN4 := hN.below hbr (by have := hN.lt; omega)
                  have hwk := works_any x C hcok hiok (.slice a1 C.dicts.length c1) wr hD4 hV4 hE4
                  have hex := RD.bs_take S AT
                  have n40 := hN4.cell (j := 0) rfl
                  have n41 := hN4.cell (j := 1) rfl
                  replace hwk := hid' hwk
                  replace hwh0 := hid' hwh0
                  replace hD4 := hid' hD4
                  replace hV4 := hid' hV4
                  replace hE4 := hid' hE4
                  replace hbr := hid' hbr
                  replace hgv := hid' hgv
                  by_cases h0w : 0 ≤ F.wrong
                  · by_cases hwa : F.wrong ≤ (AT : Int)
                    · have hwa2 : (AT : Int) ≥ F.wrong := hwa
                      have hga : RD.gave C (S.take AT) = (WT, 8) := by
                        have := hga0.out.1
                        rw [hS, hWT.out, if_pos ⟨h0w, hwa⟩] at this
                        exact this
                      replace hga := hid' hga
                      replace hwa := hid' hwa
                      go_wp2_with fail
                      refine hwk.out.mono ?_
                      rintro e w5 ⟨rfl, hb5⟩
                      have hwhW : ∀ W : World, SameW W w5 → Calls Tryz.prog 17 #[.agg #[.int .i64 C.limit, .slice a1 C.dicts.length c1], .string (RD.bs (S.take AT))] W fun e w' => e = .returned (.tuple #[.string (RD.bs WT), .int .i64 8]) ∧ Below w5.heap.size w5 w' := fun W hW => by
                        have hbW : Below w5.heap.size w5 W := ⟨hW.2.1, hW.2.2.1, hW.2.2.2, by rw [hW.1]; exact Nat.le_refl _, fun k _ => by rw [hW.1]⟩
                        have hV5 := hV4.out.below hb5
                        have hE5 := hE4.out.below hV4.out hb5
                        have hwh := hwh0.out W ((hD4.out.only (below_only (G := fun _ => False) hb5) (fun _ _ e => e)).only (below_only (G := fun _ => False) hbW) (fun _ _ e => e)) (hV5.below hbW) (hE5.below hV5 hbW)
                        refine hwh.mono ?_
                        rintro e w' ⟨rfl, hb'⟩
                        rw [hga.out]
                        exact ⟨rfl, hW.below hb'⟩
                      have hN5 := hN4.below hb5 hN4.lt
                      have n50 := hN5.cell (j := 0) rfl
                      have n51 := hN5.cell (j := 1) rfl
                      have hWTe : ((RD.bs WT).toList == WT) = true := by rw [bs_toL]; simp
                      go_wp2_with fail
                      go_region_with (go_at_call 17; refine (hwhW _ (by exact ⟨rfl, rfl, rfl, rfl⟩)).mono ?_; rintro e w6 ⟨rfl, hb6⟩)
                      all_goals go_wp2_with fail
                      go_ret
                      have u1 := hb2.size
                      have u2 := hbr.out.size
                      have u3 := hb5.size
                      exact ⟨rfl, below_up (below_up (below_up hb2 hbr.out (by omega)) hb5 (by omega)) hb6 (by omega)⟩
                    · have hwa2 : ¬ (AT : Int) ≥ F.wrong := hwa
                      have hwa3 : ¬ (F.wrong ≤ (AT : Int)) := hwa
                      replace hwa : ¬ (0 ≤ F.wrong ∧ F.wrong ≤ (AT : Int)) := fun h => hwa2 h.2
                      by_cases hmem : AT ∈ F.L.ends
                      · rw [if_pos hmem]
                        have hga : RD.gave C (S.take AT) = (WT, 2) := by
                          have := hga0.out.1
                          rw [hS, hWT.out, if_neg (fun h => hwa h), RD.codeOf, if_pos hmem] at this
                          exact this
                        replace hga := hid' hga
                        replace hwa := hid' hwa
                        go_wp2_with fail
                        refine hwk.out.mono ?_
                        rintro e w5 ⟨rfl, hb5⟩
                        have hwhW : ∀ W : World, SameW W w5 → Calls Tryz.prog 17 #[.agg #[.int .i64 C.limit, .slice a1 C.dicts.length c1], .string (RD.bs (S.take AT))] W fun e w' => e = .returned (.tuple #[.string (RD.bs WT), .int .i64 0]) ∧ Below w5.heap.size w5 w' := fun W hW => by
                          have hbW : Below w5.heap.size w5 W := ⟨hW.2.1, hW.2.2.1, hW.2.2.2, by rw [hW.1]; exact Nat.le_refl _, fun k _ => by rw [hW.1]⟩
                          have hV5 := hV4.out.below hb5
                          have hE5 := hE4.out.below hV4.out hb5
                          have hwh := hwh0.out W ((hD4.out.only (below_only (G := fun _ => False) hb5) (fun _ _ e => e)).only (below_only (G := fun _ => False) hbW) (fun _ _ e => e)) (hV5.below hbW) (hE5.below hV5 hbW)
                          refine hwh.mono ?_
                          rintro e w' ⟨rfl, hb'⟩
                          rw [hga.out]
                          exact ⟨rfl, hW.below hb'⟩
                        have hN5 := hN4.below hb5 hN4.lt
                        have n50 := hN5.cell (j := 0) rfl
                        have n51 := hN5.cell (j := 1) rfl
                        have hWTe : ((RD.bs WT).toList == WT) = true := by rw [bs_toL]; simp
                        go_wp2_with fail
                        go_region_with (go_at_call 17; refine (hwhW _ (by exact ⟨rfl, rfl, rfl, rfl⟩)).mono ?_; rintro e w6 ⟨rfl, hb6⟩)
                        all_goals go_wp2_with fail
                        go_ret
                        have u1 := hb2.size
                        have u2 := hbr.out.size
                        have u3 := hb5.size
                        exact ⟨rfl, below_up (below_up (below_up hb2 hbr.out (by omega)) hb5 (by omega)) hb6 (by omega)⟩
                      · rw [if_neg hmem]
                        have hga : RD.gave C (S.take AT) = (WT, 7) := by
                          have := hga0.out.1
                          rw [hS, hWT.out, if_neg (fun h => hwa h), RD.codeOf, if_neg hmem] at this
                          exact this
                        replace hga := hid' hga
                        replace hwa := hid' hwa
                        go_wp2_with fail
                        refine hwk.out.mono ?_
                        rintro e w5 ⟨rfl, hb5⟩
                        have hwhW : ∀ W : World, SameW W w5 → Calls Tryz.prog 17 #[.agg #[.int .i64 C.limit, .slice a1 C.dicts.length c1], .string (RD.bs (S.take AT))] W fun e w' => e = .returned (.tuple #[.string (RD.bs WT), .int .i64 7]) ∧ Below w5.heap.size w5 w' := fun W hW => by
                          have hbW : Below w5.heap.size w5 W := ⟨hW.2.1, hW.2.2.1, hW.2.2.2, by rw [hW.1]; exact Nat.le_refl _, fun k _ => by rw [hW.1]⟩
                          have hV5 := hV4.out.below hb5
                          have hE5 := hE4.out.below hV4.out hb5
                          have hwh := hwh0.out W ((hD4.out.only (below_only (G := fun _ => False) hb5) (fun _ _ e => e)).only (below_only (G := fun _ => False) hbW) (fun _ _ e => e)) (hV5.below hbW) (hE5.below hV5 hbW)
                          refine hwh.mono ?_
                          rintro e w' ⟨rfl, hb'⟩
                          rw [hga.out]
                          exact ⟨rfl, hW.below hb'⟩
                        have hN5 := hN4.below hb5 hN4.lt
                        have n50 := hN5.cell (j := 0) rfl
                        have n51 := hN5.cell (j := 1) rfl
                        have hWTe : ((RD.bs WT).toList == WT) = true := by rw [bs_toL]; simp
                        go_wp2_with fail
                        go_region_with (go_at_call 17; refine (hwhW _ (by exact ⟨rfl, rfl, rfl, rfl⟩)).mono ?_; rintro e w6 ⟨rfl, hb6⟩)
                        all_goals go_wp2_with fail
                        go_ret
                        have u1 := hb2.size
                        have u2 := hbr.out.size
                        have u3 := hb5.size
                        exact ⟨rfl, below_up (below_up (below_up hb2 hbr.out (by omega)) hb5 (by omega)) hb6 (by omega)⟩
                  · have h0w2 : F.wrong < 0 := by omega
                    have hwa : ¬ (0 ≤ F.wrong ∧ F.wrong ≤ (AT : Int)) := fun h => h0w h.1
                    by_cases hmem : AT ∈ F.L.ends
                    · rw [if_pos hmem]
                      have hga : RD.gave C (S.take AT) = (WT, 2) := by
                        have := hga0.out.1
                        rw [hS, hWT.out, if_neg (fun h => hwa h), RD.codeOf, if_pos hmem] at this
                        exact this
                      replace hga := hid' hga
                      replace hwa := hid' hwa
                      go_wp2_with fail
                      refine hwk.out.mono ?_
                      rintro e w5 ⟨rfl, hb5⟩
                      have hwhW : ∀ W : World, SameW W w5 → Calls Tryz.prog 17 #[.agg #[.int .i64 C.limit, .slice a1 C.dicts.length c1], .string (RD.bs (S.take AT))] W fun e w' => e = .returned (.tuple #[.string (RD.bs WT), .int .i64 0]) ∧ Below w5.heap.size w5 w' := fun W hW => by
                        have hbW : Below w5.heap.size w5 W := ⟨hW.2.1, hW.2.2.1, hW.2.2.2, by rw [hW.1]; exact Nat.le_refl _, fun k _ => by rw [hW.1]⟩
                        have hV5 := hV4.out.below hb5
                        have hE5 := hE4.out.below hV4.out hb5
                        have hwh := hwh0.out W ((hD4.out.only (below_only (G := fun _ => False) hb5) (fun _ _ e => e)).only (below_only (G := fun _ => False) hbW) (fun _ _ e => e)) (hV5.below hbW) (hE5.below hV5 hbW)
                        refine hwh.mono ?_
                        rintro e w' ⟨rfl, hb'⟩
                        rw [hga.out]
                        exact ⟨rfl, hW.below hb'⟩
                      have hN5 := hN4.below hb5 hN4.lt
                      have n50 := hN5.cell (j := 0) rfl
                      have n51 := hN5.cell (j := 1) rfl
                      have hWTe : ((RD.bs WT).toList == WT) = true := by rw [bs_toL]; simp
                      go_wp2_with fail
                      go_region_with (go_at_call 17; refine (hwhW _ (by exact ⟨rfl, rfl, rfl, rfl⟩)).mono ?_; rintro e w6 ⟨rfl, hb6⟩)
                      all_goals go_wp2_with fail
                      go_ret
                      have u1 := hb2.size
                      have u2 := hbr.out.size
                      have u3 := hb5.size
                      exact ⟨rfl, below_up (below_up (below_up hb2 hbr.out (by omega)) hb5 (by omega)) hb6 (by omega)⟩
                    · rw [if_neg hmem]
                      have hga : RD.gave C (S.take AT) = (WT, 7) := by
                        have := hga0.out.1
                        rw [hS, hWT.out, if_neg (fun h => hwa h), RD.codeOf, if_neg hmem] at this
                        exact this
                      replace hga := hid' hga
                      replace hwa := hid' hwa
                      go_wp2_with fail
                      refine hwk.out.mono ?_
                      rintro e w5 ⟨rfl, hb5⟩
                      have hwhW : ∀ W : World, SameW W w5 → Calls Tryz.prog 17 #[.agg #[.int .i64 C.limit, .slice a1 C.dicts.length c1], .string (RD.bs (S.take AT))] W fun e w' => e = .returned (.tuple #[.string (RD.bs WT), .int .i64 7]) ∧ Below w5.heap.size w5 w' := fun W hW => by
                        have hbW : Below w5.heap.size w5 W := ⟨hW.2.1, hW.2.2.1, hW.2.2.2, by rw [hW.1]; exact Nat.le_refl _, fun k _ => by rw [hW.1]⟩
                        have hV5 := hV4.out.below hb5
                        have hE5 := hE4.out.below hV4.out hb5
                        have hwh := hwh0.out W ((hD4.out.only (below_only (G := fun _ => False) hb5) (fun _ _ e => e)).only (below_only (G := fun _ => False) hbW) (fun _ _ e => e)) (hV5.below hbW) (hE5.below hV5 hbW)
                        refine hwh.mono ?_
                        rintro e w' ⟨rfl, hb'⟩
                        rw [hga.out]
                        exact ⟨rfl, hW.below hb'⟩
                      have hN5 := hN4.below hb5 hN4.lt
                      have n50 := hN5.cell (j := 0) rfl
                      have n51 := hN5.cell (j := 1) rfl
                      have hWTe : ((RD.bs WT).toList == WT) = true := by rw [bs_toL]; simp
                      go_wp2_with fail
                      go_region_with (go_at_call 17; refine (hwhW _ (by exact ⟨rfl, rfl, rfl, rfl⟩)).mono ?_; rintro e w6 ⟨rfl, hb6⟩)
                      all_goals go_wp2_with fail
                      go_ret
                      have u1 := hb2.size
                      have u2 := hbr.out.size
                      have u3 := hb5.size
                      exact ⟨rfl, below_up (below_up (below_up hb2 hbr.out (by omega)) hb5 (by omega)) hb6 (by omega)⟩
        · have hPKe : PK = (AT : Int) := by rw [if_neg hgt] at hAT; exact hAT
          replace hAT := hid' hAT
          subst hPKe
          have hgt2 : ¬ (N : Int) < (AT : Int) := hgt
          have hgt3 : ¬ N < AT := by omega
          have hgt4 : decide (N < AT) = false := decide_eq_false hgt3
          go_wp2_with fail
          go_loopg [22, 23] (F.L.starts.length + 1) (fun gh wv iv wx => ∃ i : Nat, gh = F.L.starts.length + 1 - i ∧ i ≤ F.L.starts.length ∧ wv = .string (RD.bs (RD.wantOf AT (F.L.starts.take i) (F.L.texts.take i) [])) ∧ iv = .int .i64 (i : Int) ∧ wx = w3)
          case atStart => exact ⟨0, by omega, by omega, by simp [RD.wantOf]; rfl, rfl, rfl⟩
          case round =>
            obtain ⟨i, rfl, hi, rfl, rfl, rfl⟩ := hrel
            by_cases hil : i < F.L.starts.length
            · have hil2 : (i : Int) < (F.L.starts.length : Int) := by omega
              have hil3 : (i : Int) < (F.L.texts.length : Int) := by omega
              have y1 := q10.out i hil
              have y2 := q11.out i (by omega)
              have hwt := hid' (want_take AT F.L.starts F.L.texts r5 i hil)
              obtain ⟨V, hVe⟩ : ∃ V, F.L.starts.getD i 0 = V := ⟨_, rfl⟩
              obtain ⟨X, hXe⟩ : ∃ X, F.L.texts.getD i [] = X := ⟨_, rfl⟩
              obtain ⟨Y, hYe⟩ : ∃ Y, RD.wantOf AT (F.L.starts.take i) (F.L.texts.take i) [] = Y := ⟨_, rfl⟩
              rw [hVe] at y1 hwt
              rw [hXe] at y2 hwt
              rw [hYe] at hwt ⊢
              replace hVe := hid' hVe
              replace hXe := hid' hXe
              replace hYe := hid' hYe
              by_cases hva : V ≤ AT
              · have hva2 : (V : Int) ≤ (AT : Int) := by omega
                go_wp2_with fail
                go_roundg (F.L.starts.length + 1 - (i + 1))
                case rel => exact ⟨i + 1, rfl, by omega, by rw [hwt.out, if_pos hva], by go_num, rfl⟩
                case measure => omega
              · have hva2 : ¬ (V : Int) ≤ (AT : Int) := by omega
                go_wp2_with fail
                go_roundg (F.L.starts.length + 1 - (i + 1))
                case rel => exact ⟨i + 1, rfl, by omega, by rw [hwt.out, if_neg hva], by go_num, rfl⟩
                case measure => omega
            · have hie : i = F.L.starts.length := by omega
              subst hie
              have hil2 : ¬ (F.L.starts.length : Int) < (F.L.starts.length : Int) := by omega
              rw [List.take_length, List.take_of_length_le (by omega)]
              go_wp2_with fail
              obtain ⟨WT, hWT⟩ : ∃ Y, RD.wantOf AT F.L.starts F.L.texts [] = Y := ⟨_, rfl⟩
              rw [hWT]
              replace hWT := hid' hWT
              obtain ⟨W9, hW9⟩ : ∃ W, W = wr := ⟨_, rfl⟩
              subst hW9
              go_loopg [24, 25] (F.L.ends.length + 1) (fun gh fv iv wx => ∃ i : Nat, gh = F.L.ends.length + 1 - i ∧ i ≤ F.L.ends.length ∧ fv = .int .i64 (if AT ∈ F.L.ends.take i then 0 else 7) ∧ iv = .int .i64 (i : Int) ∧ wx = W9)
              case atStart => exact ⟨0, by omega, by omega, by simp, rfl, rfl⟩
              case round =>
                obtain ⟨i, rfl, hi, rfl, rfl, rfl⟩ := hrel
                by_cases hil : i < F.L.ends.length
                · have hil2 : (i : Int) < (F.L.ends.length : Int) := by omega
                  have y1 := q9.out i hil
                  have hwt := hid' (mem_take_succ AT F.L.ends i hil)
                  obtain ⟨V, hVe⟩ : ∃ V, F.L.ends.getD i 0 = V := ⟨_, rfl⟩
                  obtain ⟨Y, hYe⟩ : ∃ Y : Int, (if AT ∈ F.L.ends.take i then (0 : Int) else 7) = Y := ⟨_, rfl⟩
                  rw [hVe] at y1 hwt
                  rw [hYe]
                  replace hVe := hid' hVe
                  replace hYe := hid' hYe
                  by_cases hva : V = AT
                  · have hva2 : ((V : Int) == (AT : Int)) = true := by simp; omega
                    have hva3 : (V : Int) = (AT : Int) := by omega
                    go_wp2_with fail
                    go_roundg (F.L.ends.length + 1 - (i + 1))
                    case rel => exact ⟨i + 1, rfl, by omega, by rw [if_pos (hwt.out.2 (.inr hva))], by go_num, rfl⟩
                    case measure => omega
                  · have hva2 : ((V : Int) == (AT : Int)) = false := by simp; omega
                    have hva3 : ¬ (V : Int) = (AT : Int) := by omega
                    go_wp2_with fail
                    go_roundg (F.L.ends.length + 1 - (i + 1))
                    case rel =>
                      refine ⟨i + 1, rfl, by omega, ?_, by go_num, rfl⟩
                      rw [← hYe.out]
                      by_cases hm : AT ∈ F.L.ends.take i
                      · rw [if_pos hm, if_pos (hwt.out.2 (.inl hm))]
                      · rw [if_neg hm, if_neg (fun h => (hwt.out.1 h).elim hm hva)]
                    case measure => omega
                · have hie : i = F.L.ends.length := by omega
                  subst hie
                  have hil2 : ¬ (F.L.ends.length : Int) < (F.L.ends.length : Int) := by omega
                  rw [List.take_length]
                  have hga0 := hid' (hgv.out AT (by rw [hS]; omega))
                  have hraw : Raw C (S.take AT) := by
                    have := hga0.out.2
                    rw [hS] at this
                    exact this
                  have hwh0 := fun W hD hV hE => whole_raw x C hcok hiok (S.take AT) (.slice a1 C.dicts.length c1) W hD hV hE (by rw [List.length_take]; omega) hraw
                  have hbr := hR.below
                  have hD4 := hD2.only (below_only (G := fun _ => False) hbr) (fun _ _ e => e)
                  have hV4 := (hV.below hb2).below hbr
                  have hE4 := (hE.below hV hb2).below (hV.below hb2) hbr
                  have hN4 := hN.below hbr (by have := hN.lt; omega)
                  have hwk := works_any x C hcok hiok (.slice a1 C.dicts.length c1) wr hD4 hV4 hE4
                  have hex := RD.bs_take S AT
                  have n40 := hN4.cell (j := 0) rfl
                  have n41 := hN4.cell (j := 1) rfl
                  replace hwk := hid' hwk
                  replace hwh0 := hid' hwh0
                  replace hD4 := hid' hD4
                  replace hV4 := hid' hV4
                  replace hE4 := hid' hE4
                  replace hbr := hid' hbr
                  replace hgv := hid' hgv
                  by_cases h0w : 0 ≤ F.wrong
                  · by_cases hwa : F.wrong ≤ (AT : Int)
                    · have hwa2 : (AT : Int) ≥ F.wrong := hwa
                      have hga : RD.gave C (S.take AT) = (WT, 8) := by
                        have := hga0.out.1
                        rw [hS, hWT.out, if_pos ⟨h0w, hwa⟩] at this
                        exact this
                      replace hga := hid' hga
                      replace hwa := hid' hwa
                      go_wp2_with fail
                      refine hwk.out.mono ?_
                      rintro e w5 ⟨rfl, hb5⟩
                      have hwhW : ∀ W : World, SameW W w5 → Calls Tryz.prog 17 #[.agg #[.int .i64 C.limit, .slice a1 C.dicts.length c1], .string (RD.bs (S.take AT))] W fun e w' => e = .returned (.tuple #[.string (RD.bs WT), .int .i64 8]) ∧ Below w5.heap.size w5 w' := fun W hW => by
                        have hbW : Below w5.heap.size w5 W := ⟨hW.2.1, hW.2.2.1, hW.2.2.2, by rw [hW.1]; exact Nat.le_refl _, fun k _ => by rw [hW.1]⟩
                        have hV5 := hV4.out.below hb5
                        have hE5 := hE4.out.below hV4.out hb5
                        have hwh := hwh0.out W ((hD4.out.only (below_only (G := fun _ => False) hb5) (fun _ _ e => e)).only (below_only (G := fun _ => False) hbW) (fun _ _ e => e)) (hV5.below hbW) (hE5.below hV5 hbW)
                        refine hwh.mono ?_
                        rintro e w' ⟨rfl, hb'⟩
                        rw [hga.out]
                        exact ⟨rfl, hW.below hb'⟩
                      have hN5 := hN4.below hb5 hN4.lt
                      have n50 := hN5.cell (j := 0) rfl
                      have n51 := hN5.cell (j := 1) rfl
                      have hWTe : ((RD.bs WT).toList == WT) = true := by rw [bs_toL]; simp
                      go_wp2_with fail
                      go_region_with (go_at_call 17; refine (hwhW _ (by exact ⟨rfl, rfl, rfl, rfl⟩)).mono ?_; rintro e w6 ⟨rfl, hb6⟩)
                      all_goals go_wp2_with fail
                      go_ret
                      have u1 := hb2.size
                      have u2 := hbr.out.size
                      have u3 := hb5.size
                      exact ⟨rfl, below_up (below_up (below_up hb2 hbr.out (by omega)) hb5 (by omega)) hb6 (by omega)⟩
                    · have hwa2 : ¬ (AT : Int) ≥ F.wrong := hwa
                      have hwa3 : ¬ (F.wrong ≤ (AT : Int)) := hwa
                      replace hwa : ¬ (0 ≤ F.wrong ∧ F.wrong ≤ (AT : Int)) := fun h => hwa2 h.2
                      by_cases hmem : AT ∈ F.L.ends
                      · rw [if_pos hmem]
                        have hga : RD.gave C (S.take AT) = (WT, 2) := by
                          have := hga0.out.1
                          rw [hS, hWT.out, if_neg (fun h => hwa h), RD.codeOf, if_pos hmem] at this
                          exact this
                        replace hga := hid' hga
                        replace hwa := hid' hwa
                        go_wp2_with fail
                        refine hwk.out.mono ?_
                        rintro e w5 ⟨rfl, hb5⟩
                        have hwhW : ∀ W : World, SameW W w5 → Calls Tryz.prog 17 #[.agg #[.int .i64 C.limit, .slice a1 C.dicts.length c1], .string (RD.bs (S.take AT))] W fun e w' => e = .returned (.tuple #[.string (RD.bs WT), .int .i64 0]) ∧ Below w5.heap.size w5 w' := fun W hW => by
                          have hbW : Below w5.heap.size w5 W := ⟨hW.2.1, hW.2.2.1, hW.2.2.2, by rw [hW.1]; exact Nat.le_refl _, fun k _ => by rw [hW.1]⟩
                          have hV5 := hV4.out.below hb5
                          have hE5 := hE4.out.below hV4.out hb5
                          have hwh := hwh0.out W ((hD4.out.only (below_only (G := fun _ => False) hb5) (fun _ _ e => e)).only (below_only (G := fun _ => False) hbW) (fun _ _ e => e)) (hV5.below hbW) (hE5.below hV5 hbW)
                          refine hwh.mono ?_
                          rintro e w' ⟨rfl, hb'⟩
                          rw [hga.out]
                          exact ⟨rfl, hW.below hb'⟩
                        have hN5 := hN4.below hb5 hN4.lt
                        have n50 := hN5.cell (j := 0) rfl
                        have n51 := hN5.cell (j := 1) rfl
                        have hWTe : ((RD.bs WT).toList == WT) = true := by rw [bs_toL]; simp
                        go_wp2_with fail
                        go_region_with (go_at_call 17; refine (hwhW _ (by exact ⟨rfl, rfl, rfl, rfl⟩)).mono ?_; rintro e w6 ⟨rfl, hb6⟩)
                        all_goals go_wp2_with fail
                        go_ret
                        have u1 := hb2.size
                        have u2 := hbr.out.size
                        have u3 := hb5.size
                        exact ⟨rfl, below_up (below_up (below_up hb2 hbr.out (by omega)) hb5 (by omega)) hb6 (by omega)⟩
                      · rw [if_neg hmem]
                        have hga : RD.gave C (S.take AT) = (WT, 7) := by
                          have := hga0.out.1
                          rw [hS, hWT.out, if_neg (fun h => hwa h), RD.codeOf, if_neg hmem] at this
                          exact this
                        replace hga := hid' hga
                        replace hwa := hid' hwa
                        go_wp2_with fail
                        refine hwk.out.mono ?_
                        rintro e w5 ⟨rfl, hb5⟩
                        have hwhW : ∀ W : World, SameW W w5 → Calls Tryz.prog 17 #[.agg #[.int .i64 C.limit, .slice a1 C.dicts.length c1], .string (RD.bs (S.take AT))] W fun e w' => e = .returned (.tuple #[.string (RD.bs WT), .int .i64 7]) ∧ Below w5.heap.size w5 w' := fun W hW => by
                          have hbW : Below w5.heap.size w5 W := ⟨hW.2.1, hW.2.2.1, hW.2.2.2, by rw [hW.1]; exact Nat.le_refl _, fun k _ => by rw [hW.1]⟩
                          have hV5 := hV4.out.below hb5
                          have hE5 := hE4.out.below hV4.out hb5
                          have hwh := hwh0.out W ((hD4.out.only (below_only (G := fun _ => False) hb5) (fun _ _ e => e)).only (below_only (G := fun _ => False) hbW) (fun _ _ e => e)) (hV5.below hbW) (hE5.below hV5 hbW)
                          refine hwh.mono ?_
                          rintro e w' ⟨rfl, hb'⟩
                          rw [hga.out]
                          exact ⟨rfl, hW.below hb'⟩
                        have hN5 := hN4.below hb5 hN4.lt
                        have n50 := hN5.cell (j := 0) rfl
                        have n51 := hN5.cell (j := 1) rfl
                        have hWTe : ((RD.bs WT).toList == WT) = true := by rw [bs_toL]; simp
                        go_wp2_with fail
                        go_region_with (go_at_call 17; refine (hwhW _ (by exact ⟨rfl, rfl, rfl, rfl⟩)).mono ?_; rintro e w6 ⟨rfl, hb6⟩)
                        all_goals go_wp2_with fail
                        go_ret
                        have u1 := hb2.size
                        have u2 := hbr.out.size
                        have u3 := hb5.size
                        exact ⟨rfl, below_up (below_up (below_up hb2 hbr.out (by omega)) hb5 (by omega)) hb6 (by omega)⟩
                  · have h0w2 : F.wrong < 0 := by omega
                    have hwa : ¬ (0 ≤ F.wrong ∧ F.wrong ≤ (AT : Int)) := fun h => h0w h.1
                    by_cases hmem : AT ∈ F.L.ends
                    · rw [if_pos hmem]
                      have hga : RD.gave C (S.take AT) = (WT, 2) := by
                        have := hga0.out.1
                        rw [hS, hWT.out, if_neg (fun h => hwa h), RD.codeOf, if_pos hmem] at this
                        exact this
                      replace hga := hid' hga
                      replace hwa := hid' hwa
                      go_wp2_with fail
                      refine hwk.out.mono ?_
                      rintro e w5 ⟨rfl, hb5⟩
                      have hwhW : ∀ W : World, SameW W w5 → Calls Tryz.prog 17 #[.agg #[.int .i64 C.limit, .slice a1 C.dicts.length c1], .string (RD.bs (S.take AT))] W fun e w' => e = .returned (.tuple #[.string (RD.bs WT), .int .i64 0]) ∧ Below w5.heap.size w5 w' := fun W hW => by
                        have hbW : Below w5.heap.size w5 W := ⟨hW.2.1, hW.2.2.1, hW.2.2.2, by rw [hW.1]; exact Nat.le_refl _, fun k _ => by rw [hW.1]⟩
                        have hV5 := hV4.out.below hb5
                        have hE5 := hE4.out.below hV4.out hb5
                        have hwh := hwh0.out W ((hD4.out.only (below_only (G := fun _ => False) hb5) (fun _ _ e => e)).only (below_only (G := fun _ => False) hbW) (fun _ _ e => e)) (hV5.below hbW) (hE5.below hV5 hbW)
                        refine hwh.mono ?_
                        rintro e w' ⟨rfl, hb'⟩
                        rw [hga.out]
                        exact ⟨rfl, hW.below hb'⟩
                      have hN5 := hN4.below hb5 hN4.lt
                      have n50 := hN5.cell (j := 0) rfl
                      have n51 := hN5.cell (j := 1) rfl
                      have hWTe : ((RD.bs WT).toList == WT) = true := by rw [bs_toL]; simp
                      go_wp2_with fail
                      go_region_with (go_at_call 17; refine (hwhW _ (by exact ⟨rfl, rfl, rfl, rfl⟩)).mono ?_; rintro e w6 ⟨rfl, hb6⟩)
                      all_goals go_wp2_with fail
                      go_ret
                      have u1 := hb2.size
                      have u2 := hbr.out.size
                      have u3 := hb5.size
                      exact ⟨rfl, below_up (below_up (below_up hb2 hbr.out (by omega)) hb5 (by omega)) hb6 (by omega)⟩
                    · rw [if_neg hmem]
                      have hga : RD.gave C (S.take AT) = (WT, 7) := by
                        have := hga0.out.1
                        rw [hS, hWT.out, if_neg (fun h => hwa h), RD.codeOf, if_neg hmem] at this
                        exact this
                      replace hga := hid' hga
                      replace hwa := hid' hwa
                      go_wp2_with fail
                      refine hwk.out.mono ?_
                      rintro e w5 ⟨rfl, hb5⟩
                      have hwhW : ∀ W : World, SameW W w5 → Calls Tryz.prog 17 #[.agg #[.int .i64 C.limit, .slice a1 C.dicts.length c1], .string (RD.bs (S.take AT))] W fun e w' => e = .returned (.tuple #[.string (RD.bs WT), .int .i64 7]) ∧ Below w5.heap.size w5 w' := fun W hW => by
                        have hbW : Below w5.heap.size w5 W := ⟨hW.2.1, hW.2.2.1, hW.2.2.2, by rw [hW.1]; exact Nat.le_refl _, fun k _ => by rw [hW.1]⟩
                        have hV5 := hV4.out.below hb5
                        have hE5 := hE4.out.below hV4.out hb5
                        have hwh := hwh0.out W ((hD4.out.only (below_only (G := fun _ => False) hb5) (fun _ _ e => e)).only (below_only (G := fun _ => False) hbW) (fun _ _ e => e)) (hV5.below hbW) (hE5.below hV5 hbW)
                        refine hwh.mono ?_
                        rintro e w' ⟨rfl, hb'⟩
                        rw [hga.out]
                        exact ⟨rfl, hW.below hb'⟩
                      have hN5 := hN4.below hb5 hN4.lt
                      have n50 := hN5.cell (j := 0) rfl
                      have n51 := hN5.cell (j := 1) rfl
                      have hWTe : ((RD.bs WT).toList == WT) = true := by rw [bs_toL]; simp
                      go_wp2_with fail
                      go_region_with (go_at_call 17; refine (hwhW _ (by exact ⟨rfl, rfl, rfl, rfl⟩)).mono ?_; rintro e w6 ⟨rfl, hb6⟩)
                      all_goals go_wp2_with fail
                      go_ret
                      have u1 := hb2.size
                      have u2 := hbr.out.size
                      have u3 := hb5.size
                      exact ⟨rfl, below_up (below_up (below_up hb2 hbr.out (by omega)) hb5 (by omega)) hb6 (by omega)⟩
end Go.Proofs.YtbhemchnjpajiaaGreatDoor

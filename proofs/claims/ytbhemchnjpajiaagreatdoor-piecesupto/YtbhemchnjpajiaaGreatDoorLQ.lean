/- Several texts in one: QSk5, QRdr. -/
import Derived.Test.YtbhemchnjpajiaaGreatDoorLK
import Derived.Test.YtbhemchnjpajiaaGreatDoorLL
/- What is ready (package skein): Read by any number, walked; a reader that is not closed, and one that is. -/
namespace Go.Proofs.YtbhemchnjpajiaaGreatDoor
open Go.RowKit
set_option linter.unusedVariables false

/-- How many bytes Read gives of what is ready. -/
def rdN (k : Int) (T : Nat) : Nat := (max 0 (min k (T : Int))).toNat
theorem rdN_le (k : Int) (T : Nat) : rdN k T ≤ T := by unfold rdN; omega
def rdVal (T : RD.Bytes) (k : Int) (n : Nat) : Value := .tuple #[.string (RD.bs (T.take (rdN k T.length))), .int .i64 ((if T = [] then n else 0 : Nat) : Int)]
theorem rdVal_nil (k : Int) (n : Nat) : rdVal [] k n = .tuple #[.string ⟨#[]⟩, .int .i64 (n : Int)] := by
  unfold rdVal
  simp [RD.bs]
theorem rdVal_some {T : RD.Bytes} (h : T ≠ []) (k : Int) (n : Nat) : rdVal T k n = .tuple #[.string (RD.bs (T.take (rdN k T.length))), .int .i64 0] := by
  unfold rdVal
  rw [if_neg h]
  rfl
def RkPost (R : Nat) (v0 vr ve v3 : Value) (T : RD.Bytes) (k : Int) (n : Nat) (w : World) (e : Ending) (w' : World) : Prop :=
  e = .returned (rdVal T k n) ∧ Only (· = R) w w' ∧ ∃ vr', Blk w' R 94 [v0, vr', ve, v3] ∧ Row8 0 w' vr' (T.drop (rdN k T.length)) ∧ ∀ j, vr'.ownBlock = some j → vr.ownBlock = some j
set_option maxRecDepth 100000 in
set_option maxHeartbeats 4000000 in
theorem read_blk (R n : Nat) (v0 vr ve v3 : Value) (T : RD.Bytes) (k : Int) (w : World) (hk : -9223372036854775808 ≤ k ∧ k ≤ 9223372036854775807) (h : Blk w R 94 [v0, vr, ve, v3]) (hrow : Row8 0 w vr T)
    (hno : Calls Tryz.prog 43 #[ve] w fun e w' => e = .returned (.int .i64 n) ∧ w' = w) :
    Calls Tryz.prog 24 #[.pointer (some ⟨R, 0, none⟩), .int .i64 k] w (RkPost R v0 vr ve v3 T k n w) := by
  have hBk := h
  have c1 := h.cell (j := 1) rfl
  have c2 := h.cell (j := 2) rfl
  have fz := h.free
  obtain ⟨ad, cc, rfl, q1, q2, q3⟩ := id hrow.form
  by_cases h0 : T = []
  · subst h0
    have hN : Hid (rdN k 0 = 0) := by have := rdN_le k 0; exact hid' (by omega)
    go_enter Tryz.func24, Tryz.ntmps24
    go_wp2_with fail
    refine hno.mono ?_
    rintro e w1 ⟨rfl, hw⟩
    subst hw
    go_wp2_with fail
    go_ret2
    refine ⟨by rw [rdVal_nil]; rfl, Only.refl _ _, _, h, ?_, fun j hj => hj⟩
    rw [List.drop_nil]
    exact hrow
  · have hpos : 0 < T.length := List.length_pos_iff.2 h0
    have hne : ((T.length : Int) == 0) = false := by simp; omega
    obtain ⟨g, off, rfl, hg1, hg2⟩ : ∃ g off, ad = some ⟨g, off, none⟩ ∧ 0 ≤ g ∧ U8 w g := by
      rcases q3 with ⟨_, e, _⟩ | e
      · exact absurd e h0
      · exact e
    have hgR : g ≠ R := hg2.ne h (by decide)
    unfold RkPost
    rw [rdVal_some h0]
    obtain ⟨M, hM⟩ : ∃ M, M = rdN k T.length := ⟨_, rfl⟩
    rw [← hM]
    have hMl : M ≤ T.length := by rw [hM]; exact rdN_le _ _
    have hrT := Row8.take hrow M hMl
    have hrD := Row8.drop hrow M hMl
    have hconv := fun W hW => row_string 0 w W _ (T.take M) hrT hW
    have hconv1 := hconv w rfl
    by_cases hlt : M < T.length
    · have hmin : min k (T.length : Int) = k := by unfold rdN at hM; omega
      have hmax : max 0 k = (M : Int) := by unfold rdN at hM; omega
      have hne2 : (((T.length : Int) - (M : Int)) == 0) = false := by simp; omega
      replace h0 := hid' h0
      replace hM := hid' hM
      go_enter Tryz.func24, Tryz.ntmps24
      go_wp2_with fail
      go_ret2
      have hO : Only (· = R) w (w.setCell ⟨R, 1, none⟩ (.slice (some ⟨g, off + M, none⟩) (T.length - M) (cc - M))) := (Only.refl (· = R) w).setCell ⟨R, 1, none⟩ _ (fun _ => rfl)
      exact ⟨rfl, hO, _, hBk.put 1 _, hrD.only hO (fun k hk e => by simp only [Value.ownBlock, Option.some.injEq] at hk; exact hgR (hk.trans e)), fun j hj => hj⟩
    · have hMe : M = T.length := by omega
      have hmin : min k (T.length : Int) = (T.length : Int) := by unfold rdN at hM; omega
      have hmax : max 0 (T.length : Int) = (T.length : Int) := by omega
      subst hMe
      replace h0 := hid' h0
      replace hM := hid' hM
      go_enter Tryz.func24, Tryz.ntmps24
      go_wp2_with fail
      all_goals
        go_ret2
        refine ⟨rfl, ((Only.refl (· = R) w).setCell ⟨R, 1, none⟩ _ (fun _ => rfl)).setCell ⟨R, 1, none⟩ _ (fun _ => rfl), _, (hBk.put 1 _).put 1 _, Row8.nil _ _, fun j hj => by cases hj⟩
end Go.Proofs.YtbhemchnjpajiaaGreatDoor

/- A reader that is not closed, and one that is (package skein): Feed, Read, Close, Place by what they answer. -/
namespace Go.Proofs.YtbhemchnjpajiaaGreatDoor
open Go.RowKit
set_option linter.unusedVariables false

set_option maxRecDepth 100000 in
theorem errno_nil (w : World) : Calls Tryz.prog 43 #[.nilIface] w fun e w' => e = .returned (.int .i64 1) ∧ w' = w := by
  go_enter Tryz.func43, Tryz.ntmps43
  go_wp2_with fail
  go_ret
  exact ⟨rfl, rfl⟩
/-- A reader that is not closed: what it was fed, and how much of what came out was given. -/
def OpenAt (x : Fx) (G : Nat → Prop) (c : RD.Cfg) (fed : RD.Bytes) (given R : Nat) (w : World) : Prop :=
  ∃ a, RD.Reach c (RD.St.start fed) a ∧ ((RD.step c a = .wants ∧ ∃ S m G1 ss v6 vr, LiveAt x G c fed a.text given R w S m a G1 ss v6 vr) ∨ ∃ n F vr, RD.step c a = .err n ∧ StopAt x G a.text n (a.frames, a.f.blocks) false given R w F vr)
/-- A reader that is closed. -/
def ShutAt (x : Fx) (G : Nat → Prop) (c : RD.Cfg) (fed : RD.Bytes) (given R : Nat) (w : World) : Prop :=
  ∃ text n pl F vr, RD.told c fed true = (text, n, pl) ∧ StopAt x G text n pl true given R w F vr
theorem OpenAt.le {x : Fx} {G : Nat → Prop} {c : RD.Cfg} {fed : RD.Bytes} {given R : Nat} {w : World} (h : OpenAt x G c fed given R w) : given ≤ (RD.told c fed false).1.length := by
  obtain ⟨a, hr, ⟨hw, S, m, G1, ss, v6, vr, hL⟩ | ⟨n, F, vr, hn, hS⟩⟩ := h
  · rw [RD.told_wants false hr hw]; exact hL.le
  · rw [RD.told_err false hr hn]; exact hS.le
theorem OpenAt.small {x : Fx} {G : Nat → Prop} {c : RD.Cfg} {fed : RD.Bytes} {given R : Nat} {w : World} (h : OpenAt x G c fed given R w) : ((RD.told c fed false).1.drop given).length ≤ maxLen := by
  obtain ⟨a, hr, ⟨hw, S, m, G1, ss, v6, vr, hL⟩ | ⟨n, F, vr, hn, hS⟩⟩ := h
  · rw [RD.told_wants false hr hw]
    obtain ⟨_, c', e, h1, h2, _⟩ := hL.row.form
    exact Nat.le_trans h1 h2
  · rw [RD.told_err false hr hn]
    obtain ⟨_, c', e, h1, h2, _⟩ := hS.row.form
    exact Nat.le_trans h1 h2
theorem OpenAt.base {x : Fx} {G : Nat → Prop} {c : RD.Cfg} {fed : RD.Bytes} {given R : Nat} {w : World} (h : OpenAt x G c fed given R w) : ∀ k, G k → x.base ≤ k := by
  obtain ⟨a, hr, ⟨hw, S, m, G1, ss, v6, vr, hL⟩ | ⟨n, F, vr, hn, hS⟩⟩ := h
  · exact hL.base
  · exact hS.base
/-- What was told without an end is no end. -/
theorem told_num (c : RD.Cfg) (fed : RD.Bytes) : (RD.told c fed false).2.1 = 1 ∨ (RD.told c fed false).2.1 = 4 ∨ (RD.told c fed false).2.1 = 5 ∨ (RD.told c fed false).2.1 = 6 ∨ (RD.told c fed false).2.1 = 8 := by
  obtain ⟨a, h1, h2 | ⟨e, h2⟩⟩ := RD.stops c (fed.length + 1) (RD.St.start fed) (by show fed.length < _; omega)
  · rw [RD.told_wants false h1 h2]
    exact .inl rfl
  · rw [RD.told_err false h1 h2]
    exact .inr (step_num h2)
set_option maxRecDepth 100000 in
set_option maxHeartbeats 2000000 in
theorem rdFeed_stop (x : Fx) (G : Nat → Prop) (text t : RD.Bytes) (n : Nat) (pl : Nat × Nat) (given R F : Nat) (vr : Value) (w : World) (h : StopAt x G text n pl false given R w F vr) :
    Calls Tryz.prog 23 #[.pointer (some ⟨R, 0, none⟩), .string (RD.bs t)] w fun e w' => e = .returned (.int .i64 0) ∧ w' = w := by
  have c2 := h.blk.cell (j := 2) rfl
  have c3 := h.blk.cell (j := 3) rfl
  go_enter Tryz.func23, Tryz.ntmps23
  go_wp2_with fail
  go_ret
  exact ⟨rfl, rfl⟩
theorem open_feed (x : Fx) (G : Nat → Prop) (c : RD.Cfg) (hc : CfgOk c) (fed text : RD.Bytes) (given R : Nat) (w : World) (h : OpenAt x G c fed given R w) (hlen : (fed ++ text).length ≤ 268435456) :
    Calls Tryz.prog 23 #[.pointer (some ⟨R, 0, none⟩), .string (RD.bs text)] w fun e w' => e = .returned (.int .i64 0) ∧ Only G w w' ∧ ∃ G', (∀ k, G' k → G k ∨ w.heap.size ≤ k) ∧ OpenAt x G' c (fed ++ text) given R w' := by
  obtain ⟨a, hr, ⟨hw, S, m, G1, ss, v6, vr, hL⟩ | ⟨n, F, vr, hn, hS⟩⟩ := h
  · refine (rdFeed_live x G c hc fed text a.text given R S m a G1 ss v6 vr w hL hlen).mono ?_
    rintro e w' ⟨rfl, ho, a', G', hG, hr', hcase⟩
    exact ⟨rfl, ho, G', hG, a', hr', hcase⟩
  · refine (rdFeed_stop x G a.text text n _ given R F vr w hS).mono ?_
    rintro e w' ⟨rfl, hw⟩
    subst hw
    refine ⟨rfl, Only.refl _ _, G, fun k hk => .inl hk, a.more text, hr.more text, .inr ⟨n, F, vr, ?_, hS⟩⟩
    rw [RD.step_app c a text (by rw [hn]; intro z; cases z), hn]
    rfl
theorem open_close (x : Fx) (G : Nat → Prop) (c : RD.Cfg) (fed : RD.Bytes) (given R : Nat) (w : World) (h : OpenAt x G c fed given R w) :
    Calls Tryz.prog 25 #[.pointer (some ⟨R, 0, none⟩)] w fun e w' => e = .returned (.int .i64 0) ∧ Only G w w' ∧ ShutAt x G c fed given R w' := by
  obtain ⟨a, hr, ⟨hw, S, m, G1, ss, v6, vr, hL⟩ | ⟨n, F, vr, hn, hS⟩⟩ := h
  · refine (rdClose_live x G c fed a.text given R S m a G1 ss v6 vr w hL).mono ?_
    rintro e w' ⟨rfl, ho, n, F, ht, hS⟩
    exact ⟨rfl, ho, _, n, _, F, vr, ht, hS⟩
  · refine (rdClose_stop x G a.text n _ given R F vr w hS).mono ?_
    rintro e w' ⟨rfl, ho, hS⟩
    exact ⟨rfl, ho, _, n, _, F, vr, RD.told_err true hr hn, hS⟩
theorem StopAt.read {x : Fx} {G : Nat → Prop} {text : RD.Bytes} {n : Nat} {pl : Nat × Nat} {cl : Bool} {given R F : Nat} {vr vr' : Value} {w w' : World} {m : Nat} (h : StopAt x G text n pl cl given R w F vr) (ho : Only (· = R) w w') (hb : Blk w' R 94 [.pointer none, vr', .iface 106 (.pointer (some ⟨F, 0, none⟩)), .bool cl])
    (hr : Row8 0 w' vr' ((text.drop given).drop m)) (hm : m ≤ (text.drop given).length) (hv : ∀ j, vr'.ownBlock = some j → vr.ownBlock = some j) : StopAt x G text n pl cl (given + m) R w' F vr' := by
  have hFR : F ≠ R := fun e => by
    have h1 : w.heap[F]? = some (.cells _ _ _) := h.flt
    have h2 : w.heap[R]? = some (.cells _ _ _) := h.blk
    rw [e, h2] at h1
    injection h1 with h1
    injection h1 with _ h1 _
    exact absurd h1 (by decide)
  refine ⟨hb, by rw [List.drop_drop] at hr; exact hr, ?_, h.flt.only ho hFR, h.num, h.inG, fun k hk => h.nv k (hv k hk), h.base, h.vars.only ho (fun k e => e ▸ h.base R h.inG), h.rows.only h.vars ho (fun k e => e ▸ h.base R h.inG)⟩
  rw [List.length_drop] at hm
  have := h.le
  omega
theorem stop_read (x : Fx) (G : Nat → Prop) (text : RD.Bytes) (n : Nat) (pl : Nat × Nat) (cl : Bool) (given R F : Nat) (vr : Value) (k : Int) (w : World) (hk : -9223372036854775808 ≤ k ∧ k ≤ 9223372036854775807) (h : StopAt x G text n pl cl given R w F vr) :
    Calls Tryz.prog 24 #[.pointer (some ⟨R, 0, none⟩), .int .i64 k] w fun e w' => e = .returned (rdVal (text.drop given) k n) ∧ Only G w w' ∧ ∃ vr', StopAt x G text n pl cl (given + rdN k (text.drop given).length) R w' F vr' := by
  refine (read_blk R n _ vr _ _ (text.drop given) k w hk h.blk h.row (errno_any x F n w h.num (h.flt.cell (j := 2) rfl) h.vars h.rows)).mono ?_
  rintro e w' ⟨rfl, ho, vr', hb, hr, hv⟩
  exact ⟨rfl, ho.weaken (fun k _ e => e ▸ h.inG), vr', h.read ho hb hr (rdN_le _ _) hv⟩
theorem shut_read (x : Fx) (G : Nat → Prop) (c : RD.Cfg) (fed : RD.Bytes) (given R : Nat) (k : Int) (w : World) (hk : -9223372036854775808 ≤ k ∧ k ≤ 9223372036854775807) (h : ShutAt x G c fed given R w) :
    Calls Tryz.prog 24 #[.pointer (some ⟨R, 0, none⟩), .int .i64 k] w fun e w' => e = .returned (rdVal ((RD.told c fed true).1.drop given) k (RD.told c fed true).2.1) ∧ Only G w w' ∧ ShutAt x G c fed (given + rdN k ((RD.told c fed true).1.drop given).length) R w' := by
  obtain ⟨text, n, pl, F, vr, ht, hS⟩ := h
  rw [ht]
  refine (stop_read x G text n pl true given R F vr k w hk hS).mono ?_
  rintro e w' ⟨rfl, ho, vr', h'⟩
  exact ⟨rfl, ho, text, n, pl, F, vr', ht, h'⟩
theorem open_read (x : Fx) (G : Nat → Prop) (c : RD.Cfg) (fed : RD.Bytes) (given R : Nat) (k : Int) (w : World) (hk : -9223372036854775808 ≤ k ∧ k ≤ 9223372036854775807) (h : OpenAt x G c fed given R w) :
    Calls Tryz.prog 24 #[.pointer (some ⟨R, 0, none⟩), .int .i64 k] w fun e w' => e = .returned (rdVal ((RD.told c fed false).1.drop given) k (RD.told c fed false).2.1) ∧ Only G w w' ∧ OpenAt x G c fed (given + rdN k ((RD.told c fed false).1.drop given).length) R w' := by
  obtain ⟨a, hr, ⟨hw, S, m, G1, ss, v6, vr, hL⟩ | ⟨n, F, vr, hn, hS⟩⟩ := h
  · rw [RD.told_wants false hr hw]
    refine (read_blk R 1 _ vr _ _ (a.text.drop given) k w hk hL.blk hL.row (errno_nil w)).mono ?_
    rintro e w' ⟨rfl, ho, vr', hb, hrw, hv⟩
    have hm := rdN_le k (a.text.drop given).length
    refine ⟨rfl, ho.weaken (fun k _ e => e ▸ hL.inG), a, hr, .inl ⟨hw, S, m, G1, ss, v6, vr', hb, by rw [List.drop_drop] at hrw; exact hrw, ?_, hL.lk, hw, hL.len, ?_, fun k hk => ⟨(hL.own k hk).1, Nat.lt_of_lt_of_le (hL.own k hk).2 ho.size⟩, hL.nr, fun k hk => hL.nv k (hv k hk), hL.sr, hL.inG, hL.base, hL.rows.only hL.str.vars ho (fun k e => e ▸ hL.base R hL.inG), ?_⟩⟩
    · rw [List.length_drop] at hm
      have := hL.le
      show given + rdN k (a.text.drop given).length ≤ a.text.length
      rw [List.length_drop] at *
      omega
    · exact hL.str.apart ho (fun k _ hk => ⟨fun e => hL.nr (hk ▸ e), by rw [hk]; exact hL.sr⟩) (fun k _ hk => by rw [hk]; exact NoTab.of_blk hL.blk (by decide) (by decide))
    · rw [cnt_same hL.str ho (fun M hM hk => hM.ne hL.blk hk) (hL.str.blk.only ho (fun e => by have := hL.sr; omega)) rfl]
      exact hL.few
  · rw [RD.told_err false hr hn]
    refine (stop_read x G a.text n _ false given R F vr k w hk hS).mono ?_
    rintro e w' ⟨rfl, ho, vr', h'⟩
    exact ⟨rfl, ho, a, hr, .inr ⟨n, F, vr', hn, h'⟩⟩
theorem shut_place (x : Fx) (G : Nat → Prop) (c : RD.Cfg) (fed : RD.Bytes) (given R : Nat) (w : World) (h : ShutAt x G c fed given R w) :
    Calls Tryz.prog 30 #[.pointer (some ⟨R, 0, none⟩)] w fun e w' => e = .returned (.tuple #[.agg #[.int .i64 ((RD.told c fed true).2.2.1 : Nat), .int .i64 ((RD.told c fed true).2.2.2 : Nat)], .int .i64 (errOf (RD.told c fed true).2.1 : Nat)]) ∧ Below w.heap.size w w' ∧ ShutAt x G c fed given R w' := by
  obtain ⟨text, n, pl, F, vr, ht, hS⟩ := h
  rw [ht]
  refine (rdPlace_stop x G text n pl true given R F vr w hS).mono ?_
  rintro e w' ⟨rfl, hb⟩
  exact ⟨rfl, hb, text, n, pl, F, vr, ht, hS.blk.below hb hS.blk.lt, hS.row.only (below_only (G := fun _ => False) hb) (fun _ _ e => e), hS.le, hS.flt.below hb hS.flt.lt, hS.num, hS.inG, hS.nv, hS.base, hS.vars.below hb, hS.rows.below hS.vars hb⟩
end Go.Proofs.YtbhemchnjpajiaaGreatDoor

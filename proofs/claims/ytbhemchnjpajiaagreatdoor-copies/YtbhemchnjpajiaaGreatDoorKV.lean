/- Several texts in one: PrTb4. -/
import Derived.Test.YtbhemchnjpajiaaGreatDoorKU
/- The three tables of a block (package sequences, readTables), walked. -/
namespace Go.Proofs.YtbhemchnjpajiaaGreatDoor
open Go.RowKit
set_option linter.unusedVariables false

theorem tab_there {k wy : Nat} {old : RD.Tab} {s : RD.Bytes} {r : RD.Tab × Nat} (h : RD.tableOf k wy old s = some r) : r.1.there = true := by
  unfold RD.tableOf at h
  split at h
  · injection h with h; rw [← h]
  · split at h
    · split at h
      · cases h
      · injection h with h; rw [← h]
    · split at h
      · split at h
        · cases h
        · simp only [] at h
          split at h
          · injection h with h; rw [← h]
          · cases h
      · split at h
        · injection h with h; rw [← h]; assumption
        · cases h
/-- Three tables. -/
abbrev Tabs := RD.Tab × RD.Tab × RD.Tab
def tabPick (k : Nat) (T : Tabs) : RD.Tab := if k = 0 then T.1 else if k = 1 then T.2.1 else T.2.2
def tabPut (k : Nat) (t : RD.Tab) (T : Tabs) : Tabs := if k = 0 then (t, T.2.1, T.2.2) else if k = 1 then (T.1, t, T.2.2) else (T.1, T.2.1, t)
theorem pick_put (k : Nat) (t : RD.Tab) (T : Tabs) (hk : k ≤ 2) : tabPick k (tabPut k t T) = t := by
  rcases (by omega : k = 0 ∨ k = 1 ∨ k = 2) with rfl | rfl | rfl <;> rfl
theorem pick_other (k j : Nat) (t : RD.Tab) (T : Tabs) (hk : k ≤ 2) (hj : j ≤ 2) (h : j ≠ k) : tabPick j (tabPut k t T) = tabPick j T := by
  rcases (by omega : k = 0 ∨ k = 1 ∨ k = 2) with rfl | rfl | rfl <;> rcases (by omega : j = 0 ∨ j = 1 ∨ j = 2) with rfl | rfl | rfl <;> first | rfl | exact absurd rfl h
/-- The first k tables, read: the three, and how many bytes it took. -/
def tabRun (md : Nat) (T : Tabs) (s : RD.Bytes) : Nat → Option (Tabs × Nat)
  | 0 => some (T, 0)
  | k + 1 => match tabRun md T s k with
    | none => none
    | some (T', q) => match RD.tableOf k (md / 4 ^ k % 4) (tabPick k T') (s.drop q) with
      | none => none
      | some (t, c) => some (tabPut k t T', q + c)
theorem tabRun_succ {md : Nat} {T T' : Tabs} {s : RD.Bytes} {k q : Nat} (h : tabRun md T s k = some (T', q)) : tabRun md T s (k + 1) = match RD.tableOf k (md / 4 ^ k % 4) (tabPick k T') (s.drop q) with
    | none => none
    | some (t, c) => some (tabPut k t T', q + c) := by
  rw [tabRun, h]
theorem tabRun_none {md : Nat} {T : Tabs} {s : RD.Bytes} {k : Nat} (h : tabRun md T s k = none) : ∀ j, tabRun md T s (k + j) = none
  | 0 => h
  | j + 1 => by
    show (match tabRun md T s (k + j) with | none => none | some (T', q) => _) = none
    rw [tabRun_none h j]
/-- The three tables of a reader, in memory. -/
def SeqAt (w : World) (gs : List Value) (o : Nat) (T : Tabs) : Prop := ∀ k, k ≤ 2 → ∃ v, gs[o + 1 + k * 2]? = some (.int .i64 ((tabPick k T).log : Nat)) ∧ gs[o + 1 + k * 2 + 1]? = some v ∧ TabOk w v (tabPick k T)
theorem TabOk.only {G : Nat → Prop} {w w' : World} {v : Value} {t : RD.Tab} (h : TabOk w v t) (ho : Only G w w') (hn : ∀ b xs, Blk w b 226 xs → ¬ G b) : TabOk w' v t := by
  rcases h with h | ⟨h1, h2⟩
  · exact .inl h
  · exact .inr ⟨h1, h2.only ho hn⟩
theorem SeqAt.only {G : Nat → Prop} {w w' : World} {gs : List Value} {o : Nat} {T : Tabs} (h : SeqAt w gs o T) (ho : Only G w w') (hn : ∀ b xs, Blk w b 226 xs → ¬ G b) : SeqAt w' gs o T := fun k hk => by
  obtain ⟨v, h1, h2, h3⟩ := h k hk
  exact ⟨v, h1, h2, h3.only ho hn⟩
theorem SeqAt.put {w : World} {gs : List Value} {o : Nat} {T : Tabs} (h : SeqAt w gs o T) (k : Nat) (t : RD.Tab) (v : Value) (hk : k ≤ 2) (hv : TabOk w v t) : SeqAt w ((gs.set (o + 1 + k * 2) (.int .i64 (t.log : Nat))).set (o + 1 + k * 2 + 1) v) o (tabPut k t T) := fun j hj => by
  obtain ⟨v', h1, h2, h3⟩ := h j hj
  by_cases e : j = k
  · subst e
    rw [pick_put j t T hj]
    have l1 := (List.getElem?_eq_some_iff.1 h1).1
    have l2 := (List.getElem?_eq_some_iff.1 h2).1
    exact ⟨v, by rw [List.getElem?_set_ne (by omega), List.getElem?_set_self l1], by rw [List.getElem?_set_self (by rw [List.length_set]; exact l2)], hv⟩
  · rw [pick_other k j t T hk hj e]
    exact ⟨v', by rw [List.getElem?_set_ne (by omega), List.getElem?_set_ne (by omega)]; exact h1, by rw [List.getElem?_set_ne (by omega), List.getElem?_set_ne (by omega)]; exact h2, h3⟩
/-- Cells of a list that a reader's tables do not touch. -/
def SameBut (o : Nat) (gs gs' : List Value) : Prop := gs'.length = gs.length ∧ ∀ j, j < o + 1 ∨ o + 7 ≤ j → gs'[j]? = gs[j]?
theorem SameBut.put {o : Nat} {gs gs' : List Value} (h : SameBut o gs gs') (k : Nat) (hk : k ≤ 2) (a b : Value) : SameBut o gs ((gs'.set (o + 1 + k * 2) a).set (o + 1 + k * 2 + 1) b) :=
  ⟨by rw [List.length_set, List.length_set]; exact h.1, fun j hj => by rw [List.getElem?_set_ne (by omega), List.getElem?_set_ne (by omega)]; exact h.2 j hj⟩
def TTPost (x : Fx) (g o p M n : Nat) (t : TypeId) (gs : List Value) (T : Tabs) (s : RD.Bytes) (w : World) (e : Ending) (w' : World) : Prop :=
  Only (fun b => b = p ∨ b = M ∨ b = g) w w' ∧
    (((s.length = 0 ∨ 64 ≤ RD.at' s 0 ∨ tabRun (RD.at' s 0) T (s.drop 1) 3 = none) ∧ e = .returned (errV x.f) ∧ ∃ gs', Blk w' g t gs' ∧ SameBut o gs gs') ∨
      ∃ T' q gs', s.length ≠ 0 ∧ RD.at' s 0 < 64 ∧ tabRun (RD.at' s 0) T (s.drop 1) 3 = some (T', q) ∧ e = .returned .nilIface ∧ Blk w' g t gs' ∧ SameBut o gs gs' ∧ SeqAt w' gs' o T' ∧ At1 w' p (s.drop (1 + q)) ∧ TabsM w' M (n + 3))
set_option maxRecDepth 100000 in
set_option maxHeartbeats 4000000 in
theorem readTables_any (x : Fx) (g o p M n : Nat) (t : TypeId) (gs : List Value) (T : Tabs) (s : RD.Bytes) (w : World) (hG : Blk w g t gs) (hg0 : gs[o]? = some (.map (some M))) (hT : SeqAt w gs o T) (h : At1 w p s) (hV : VarsAt x w) (hs : s.length ≤ 1048576) (hM : TabsM w M n) (hn : n < 900000000) (hpb : x.base ≤ p) (hMb : x.base ≤ M) (hgb : x.base ≤ g) (hgp : g ≠ p) (htt : t ≠ 226) :
    Calls Tryz.prog 137 #[.pointer (some ⟨g, o, none⟩), .pointer (some ⟨p, 0, none⟩)] w (TTPost x g o p M n t gs T s w) := by
  have hl := Blk.lt h
  go_enter Tryz.func137, Tryz.ntmps137
  go_wp2_with fail
  refine (bnum_any x p s 1 _ h hV (by omega) (by omega)).mono ?_
  rintro e w1 (⟨h1, rfl, hb⟩ | ⟨h1, rfl, rfl⟩)
  · go_wp2_with fail
    go_ret
    exact ⟨below_only hb, .inl ⟨.inl (by omega), rfl, gs, hG.below hb hG.lt, rfl, fun _ _ => rfl⟩⟩
  · have hnum : RD.num (s.take 1) = RD.at' s 0 := num_one s (by omega)
    have hat : RD.at' s 0 ≤ 255 := RD.at_lt s 0
    have hOp := (Only.refl (· = p) w).setCell ⟨p, 0, none⟩ (.string (RD.bs (s.drop 1))) (fun _ => rfl)
    have hO1 : Only (fun b => b = p ∨ b = M ∨ b = g) w (w.setCell ⟨p, 0, none⟩ (.string (RD.bs (s.drop 1)))) := hOp.weaken (fun _ _ e => .inl e)
    have hG1 := hG.only hOp hgp
    have hM1 := hM.only hOp (fun e => hM.ne h e) (fun b xs hb e => hb.apart h (by decide) e)
    have hp1 : At1 (w.setCell ⟨p, 0, none⟩ (.string (RD.bs (s.drop 1)))) p (s.drop 1) := Blk.put h 0 _
    have hV1 := hV.only hOp (fun k e => by rw [e]; exact hpb)
    have hT1 := hT.only hOp (fun b xs hb e => hb.apart h (by decide) e)
    rw [hnum]
    replace hnum := hid' hnum
    clear hOp
    generalize w.setCell ⟨p, 0, none⟩ (.string (RD.bs (s.drop 1))) = w1 at *
    have cF := hV1.cF
    obtain ⟨c, hc⟩ : ∃ c, RD.at' s 0 = c := ⟨_, rfl⟩
    rw [hc] at hat ⊢
    by_cases hbig : 64 ≤ c
    · have hand : ¬ bits .and .i64 (c : Int) 192 = 0 := by
        have := i64_and_nat c 192 (by omega) (by omega)
        rw [show ((192 : Nat) : Int) = 192 from rfl] at this
        rw [this]
        intro e
        have e2 : c &&& 192 = 0 := by omega
        have : ∀ n : Nat, n < 256 → 64 ≤ n → n &&& 192 ≠ 0 := by decide
        exact this c (by omega) hbig e2
      go_wp2_with fail
      go_ret
      exact ⟨hO1, .inl ⟨.inr (.inl (by rw [hc]; exact hbig)), rfl, gs, hG1, rfl, fun _ _ => rfl⟩⟩
    · have hand : bits .and .i64 (c : Int) 192 = 0 := by
        have := i64_and_nat c 192 (by omega) (by omega)
        rw [show ((192 : Nat) : Int) = 192 from rfl] at this
        rw [this]
        have e : ∀ n : Nat, n < 64 → n &&& 192 = 0 := by decide
        rw [e c (by omega)]
        rfl
      obtain ⟨s1, hs1⟩ : ∃ s1, s.drop 1 = s1 := ⟨_, rfl⟩
      rw [hs1] at hp1
      have hs1l : s1.length ≤ 1048576 := by rw [← hs1, List.length_drop]; omega
      replace hs1 := hid' hs1
      go_wp2_with fail
      go_loopg [20] 4 (fun gh kv wj => ∃ (k : Nat) (T' : Tabs) (q : Nat) (gs' : List Value), gh = 4 - k ∧ k ≤ 3 ∧ kv = .int .i64 (k : Int) ∧ tabRun c T s1 k = some (T', q) ∧ Blk wj g t gs' ∧ SameBut o gs gs' ∧ SeqAt wj gs' o T' ∧ At1 wj p (s1.drop q) ∧ TabsM wj M (n + k) ∧ VarsAt x wj ∧ Only (fun b => b = p ∨ b = M ∨ b = g) w1 wj)
      case atStart => exact ⟨0, T, 0, gs, rfl, by omega, rfl, rfl, hG1, ⟨rfl, fun _ _ => rfl⟩, hT1, hp1, hM1, hV1, Only.refl _ _⟩
      case round =>
        obtain ⟨k, T', q, gs', rfl, hk, rfl, hrun, hGj, hSB, hTj, hpj, hMj, hVj, hOj⟩ := hrel
        by_cases hk3 : k < 3
        · have hk3i : (k : Int) < 3 := by omega
          have hmb := hMb
          obtain ⟨v, q1, q2, q3⟩ := hTj k (by omega)
          obtain ⟨old, hold⟩ : ∃ old, tabPick k T' = old := ⟨_, rfl⟩
          rw [hold] at q1 q3
          obtain ⟨wy, hwy⟩ : ∃ wy, c / 4 ^ k % 4 = wy := ⟨_, rfl⟩
          have hwyb : wy ≤ 3 := by rw [← hwy]; omega
          have hgj0 : gs'[o]? = some (.map (some M)) := by rw [hSB.2 o (.inl (by omega))]; exact hg0
          have hsq : (s1.drop q).length ≤ 1048576 := by rw [List.length_drop]; omega
          have hcall := fun (W : World) (hW : Only (fun _ => False) wr W) => seqTable_any x g o k wy p M (n + k) t gs' old v (s1.drop q) W (hGj.only hW (fun e => e)) hgj0 (by omega) hwyb (Blk.only hpj hW (fun e => e)) (hVj.only hW (fun _ e => e.elim)) hsq (hMj.only hW (fun e => e) (fun _ _ _ e => e)) (by omega) hpb hMb hgp q1 q2 (q3.only hW (fun _ _ _ e => e))
          replace hcall := hid' hcall
          -- ROUNDS
          have hrun2 := tabRun_succ hrun
          rw [hold, hwy] at hrun2
          rcases (by omega : k = 0 ∨ k = 1 ∨ k = 2) with rfl | rfl | rfl
          · have hA : bits .and .i64 ((c : Int)) 3 = (wy : Int) := by
              rw [show (c : Int) = ((c / 1 : Nat) : Int) by omega, and_three _ (by omega)]
              have : c / 1 % 4 = wy := by simpa using hwy
              rw [this]
            have hwp : IntKind.i64.wrap 0 = 0 := by decide
            have hGM : ¬ (g = p ∨ g = M) := fun e => e.elim hgp (fun e => hMj.ne hGj e.symm)
            have hGs : ∀ b xs, Blk wr b 226 xs → ¬ (b = p ∨ b = M) := fun b xs hb e => e.elim (fun e => hb.apart hpj (by decide) e) (fun e => hMj.ne hb e.symm)
            have e0 : gs'[o + 1]? = some (.int .i64 (old.log : Nat)) := q1
            have e1 : gs'[o + 1 + 1]? = some v := q2
            replace hwy := hid' hwy
            replace hold := hid' hold
            cases hR : RD.tableOf 0 wy old (s1.drop q) with
            | none =>
              rw [hR] at hrun2
              have hoF : Hid (∀ W : World, Only (fun _ => False) wr W → Calls Tryz.prog 147 #[.pointer (some ⟨g, o, none⟩), .int .i64 0, .int .i64 (wy : Int), .pointer (some ⟨p, 0, none⟩)] W fun e w' => e = .returned (.tuple #[.agg #[.int .i64 0, .slice none 0 0], errV x.f]) ∧ Only (fun b => b = p ∨ b = M) W w') := fun W hW => (hcall.out W hW).mono fun e w' hq => by
                obtain ⟨h1, h2 | ⟨tt, cc, v7, h2, -⟩⟩ := hq
                · exact ⟨h2.2, h1⟩
                · rw [hR] at h2; cases h2
              replace hrun2 := hid' hrun2
              replace hR := hid' hR
              go_wp2_with fail
              go_region_with (go_at_call 147; refine (hoF.out _ ?_).mono ?_; exact (Only.refl _ _).drew; rintro e w7 ⟨rfl, hO7⟩; have hG7 := hGj.only (undrewO hO7) hGM; have d0 := hG7.cell e0; have d1 := hG7.cell e1; have fz7 := hG7.free)
              all_goals go_wp2_with fail
              all_goals go_ret
              all_goals
                have hn3 : tabRun c T s1 3 = none := tabRun_none (k := 1) hrun2.out 2
                have hO8 : Only (fun b => b = p ∨ b = M ∨ b = g) w ((w7.setCell ⟨g, o + 1, none⟩ (.int .i64 0)).setCell ⟨g, o + 1 + 1, none⟩ (.slice none 0 0)) := (((hO1.trans hOj).trans ((undrewO hO7).weaken (fun _ _ e => e.elim .inl (fun e => .inr (.inl e))))).setCell ⟨g, o + 1, none⟩ _ (fun _ => .inr (.inr rfl))).setCell ⟨g, o + 1 + 1, none⟩ _ (fun _ => .inr (.inr rfl))
                exact ⟨hO8, .inl ⟨.inr (.inr (by rw [hc, hs1.out]; exact hn3)), rfl, _, (hG7.put (o + 1) (.int .i64 0)).put (o + 1 + 1) (.slice none 0 0), hSB.put 0 (by omega) _ _⟩⟩
            | some r =>
              obtain ⟨tt, cc⟩ := r
              rw [hR] at hrun2
              obtain ⟨N7, hN7⟩ : ∃ q, tt.l.length = q := ⟨_, rfl⟩
              obtain ⟨g7, hg7⟩ : ∃ q, tt.log = q := ⟨_, rfl⟩
              have hoT : Hid (∀ W : World, Only (fun _ => False) wr W → Calls Tryz.prog 147 #[.pointer (some ⟨g, o, none⟩), .int .i64 0, .int .i64 (wy : Int), .pointer (some ⟨p, 0, none⟩)] W fun e w' => ∃ b7 c7, e = .returned (.tuple #[.agg #[.int .i64 (g7 : Nat), .slice (some ⟨b7, 0, none⟩) N7 c7], .nilIface]) ∧ Blk w' b7 226 (CM.cellsOf tt.l) ∧ At1 w' p ((s1.drop q).drop cc) ∧ TabsM w' M (n + 0 + 1) ∧ Only (fun b => b = p ∨ b = M) W w') := fun W hW => (hcall.out W hW).mono fun e w' hq => by
                obtain ⟨h1, h2 | ⟨tt', cc', v7, h2, rfl, ⟨b7, c7, rfl, hb7⟩, hp7, hM7⟩⟩ := hq
                · rw [hR] at h2; cases h2.1
                · rw [hR] at h2
                  obtain ⟨rfl, rfl⟩ := Prod.mk.inj (Option.some.inj h2)
                  exact ⟨b7, c7, by rw [hg7, hN7], hb7, hp7, hM7, h1⟩
              replace hrun2 := hid' hrun2
              replace hR := hid' hR
              replace hN7 := hid' hN7
              replace hg7 := hid' hg7
              go_wp2_with fail
              go_region_with (go_at_call 147; refine (hoT.out _ ?_).mono ?_; exact (Only.refl _ _).drew; rintro e w7 ⟨b7, c7, rfl, hb7, hp7, hM7, hO7⟩; have hG7 := hGj.only (undrewO hO7) hGM; have d0 := hG7.cell e0; have d1 := hG7.cell e1; have fz7 := hG7.free)
              all_goals
                have hG8 := (hG7.put (o + 1) (.int .i64 (g7 : Nat))).put (o + 1 + 1) (.slice (some ⟨b7, 0, none⟩) N7 c7)
                have hOg : Only (· = g) w7 ((w7.setCell ⟨g, o + 1, none⟩ (.int .i64 (g7 : Nat))).setCell ⟨g, o + 1 + 1, none⟩ (.slice (some ⟨b7, 0, none⟩) N7 c7)) := ((Only.refl (· = g) w7).setCell ⟨g, o + 1, none⟩ _ (fun _ => rfl)).setCell ⟨g, o + 1 + 1, none⟩ _ (fun _ => rfl)
                have hO8 : Only (fun b => b = p ∨ b = M ∨ b = g) w1 ((w7.setCell ⟨g, o + 1, none⟩ (.int .i64 (g7 : Nat))).setCell ⟨g, o + 1 + 1, none⟩ (.slice (some ⟨b7, 0, none⟩) N7 c7)) := ((hOj.trans ((undrewO hO7).weaken (fun _ _ e => e.elim .inl (fun e => .inr (.inl e))))).setCell ⟨g, o + 1, none⟩ _ (fun _ => .inr (.inr rfl))).setCell ⟨g, o + 1 + 1, none⟩ _ (fun _ => .inr (.inr rfl))
                have hgs : ∀ b xs, Blk w7 b 226 xs → ¬ b = g := fun b xs hb e => hb.apart hG7 (fun e => htt e.symm) e
                have hb8 := hb7.only hOg (fun e => hgs _ _ hb7 e)
                have hT8 := ((hTj.only (undrewO hO7) hGs).only hOg hgs).put 0 tt (.slice (some ⟨b7, 0, none⟩) N7 c7) (by omega) (.inr ⟨tab_there hR.out, b7, c7, by rw [hN7.out], hb8⟩)
                have hp8 : At1 _ p ((s1.drop q).drop cc) := Blk.only hp7 hOg (fun e => hgp e.symm)
                have hM8 := hM7.only hOg (fun e => hM7.ne hG7 e) hgs
                have hV8 := (hVj.only (undrewO hO7) (fun k e => e.elim (fun e => by rw [e]; exact hpb) (fun e => by rw [e]; exact hMb))).only hOg (fun k e => by rw [e]; exact hgb)
                rw [hg7.out] at hT8
                have hS8 := hSB.put 0 (by omega) (.int .i64 (g7 : Nat)) (.slice (some ⟨b7, 0, none⟩) N7 c7)
                have hfin : Hid (∃ (T'' : Tabs) (q' : Nat) (gs'' : List Value), tabRun c T s1 1 = some (T'', q') ∧ Blk ((w7.setCell ⟨g, o + 1, none⟩ (.int .i64 (g7 : Nat))).setCell ⟨g, o + 1 + 1, none⟩ (.slice (some ⟨b7, 0, none⟩) N7 c7)) g t gs'' ∧ SameBut o gs gs'' ∧ SeqAt ((w7.setCell ⟨g, o + 1, none⟩ (.int .i64 (g7 : Nat))).setCell ⟨g, o + 1 + 1, none⟩ (.slice (some ⟨b7, 0, none⟩) N7 c7)) gs'' o T'' ∧ At1 ((w7.setCell ⟨g, o + 1, none⟩ (.int .i64 (g7 : Nat))).setCell ⟨g, o + 1 + 1, none⟩ (.slice (some ⟨b7, 0, none⟩) N7 c7)) p (s1.drop q') ∧ TabsM ((w7.setCell ⟨g, o + 1, none⟩ (.int .i64 (g7 : Nat))).setCell ⟨g, o + 1 + 1, none⟩ (.slice (some ⟨b7, 0, none⟩) N7 c7)) M (n + 1) ∧ VarsAt x ((w7.setCell ⟨g, o + 1, none⟩ (.int .i64 (g7 : Nat))).setCell ⟨g, o + 1 + 1, none⟩ (.slice (some ⟨b7, 0, none⟩) N7 c7)) ∧ Only (fun b => b = p ∨ b = M ∨ b = g) w1 ((w7.setCell ⟨g, o + 1, none⟩ (.int .i64 (g7 : Nat))).setCell ⟨g, o + 1 + 1, none⟩ (.slice (some ⟨b7, 0, none⟩) N7 c7))) :=
                  ⟨_, _, _, hrun2.out, hG8, hS8, hT8, by rw [← List.drop_drop]; exact hp8, hM8, hV8, hO8⟩
                replace hG8 := hid' hG8
                replace hOg := hid' hOg
                replace hO8 := hid' hO8
                replace hb8 := hid' hb8
                replace hT8 := hid' hT8
                replace hp8 := hid' hp8
                replace hM8 := hid' hM8
                replace hV8 := hid' hV8
                replace hS8 := hid' hS8
                go_wp2_with fail
              all_goals go_roundg (4 - 1)
              all_goals first
                | omega
                | (obtain ⟨T'', q', gs'', f1, f2, f3, f4, f5, f6, f7, f8⟩ := hfin.out; exact ⟨1, T'', q', gs'', rfl, by omega, by go_num, f1, f2, f3, f4, f5, f6, f7, f8⟩)
          · have hA : bits .and .i64 ((c : Int) / 4) 3 = (wy : Int) := by
              rw [show (c : Int) / 4 = ((c / 4 : Nat) : Int) by omega, and_three _ (by omega)]
              have : c / 4 % 4 = wy := by simpa using hwy
              rw [this]
            have hwp : IntKind.i64.wrap 2 = 2 := by decide
            have hGM : ¬ (g = p ∨ g = M) := fun e => e.elim hgp (fun e => hMj.ne hGj e.symm)
            have hGs : ∀ b xs, Blk wr b 226 xs → ¬ (b = p ∨ b = M) := fun b xs hb e => e.elim (fun e => hb.apart hpj (by decide) e) (fun e => hMj.ne hb e.symm)
            have e0 : gs'[o + 1 + 2]? = some (.int .i64 (old.log : Nat)) := q1
            have e1 : gs'[o + 1 + 2 + 1]? = some v := q2
            replace hwy := hid' hwy
            replace hold := hid' hold
            cases hR : RD.tableOf 1 wy old (s1.drop q) with
            | none =>
              rw [hR] at hrun2
              have hoF : Hid (∀ W : World, Only (fun _ => False) wr W → Calls Tryz.prog 147 #[.pointer (some ⟨g, o, none⟩), .int .i64 1, .int .i64 (wy : Int), .pointer (some ⟨p, 0, none⟩)] W fun e w' => e = .returned (.tuple #[.agg #[.int .i64 0, .slice none 0 0], errV x.f]) ∧ Only (fun b => b = p ∨ b = M) W w') := fun W hW => (hcall.out W hW).mono fun e w' hq => by
                obtain ⟨h1, h2 | ⟨tt, cc, v7, h2, -⟩⟩ := hq
                · exact ⟨h2.2, h1⟩
                · rw [hR] at h2; cases h2
              replace hrun2 := hid' hrun2
              replace hR := hid' hR
              go_wp2_with fail
              go_region_with (go_at_call 147; refine (hoF.out _ ?_).mono ?_; exact (Only.refl _ _).drew; rintro e w7 ⟨rfl, hO7⟩; have hG7 := hGj.only (undrewO hO7) hGM; have d0 := hG7.cell e0; have d1 := hG7.cell e1; have fz7 := hG7.free)
              all_goals go_wp2_with fail
              all_goals go_ret
              all_goals
                have hn3 : tabRun c T s1 3 = none := tabRun_none (k := 2) hrun2.out 1
                have hO8 : Only (fun b => b = p ∨ b = M ∨ b = g) w ((w7.setCell ⟨g, o + 1 + 2, none⟩ (.int .i64 0)).setCell ⟨g, o + 1 + 2 + 1, none⟩ (.slice none 0 0)) := (((hO1.trans hOj).trans ((undrewO hO7).weaken (fun _ _ e => e.elim .inl (fun e => .inr (.inl e))))).setCell ⟨g, o + 1 + 2, none⟩ _ (fun _ => .inr (.inr rfl))).setCell ⟨g, o + 1 + 2 + 1, none⟩ _ (fun _ => .inr (.inr rfl))
                exact ⟨hO8, .inl ⟨.inr (.inr (by rw [hc, hs1.out]; exact hn3)), rfl, _, (hG7.put (o + 1 + 2) (.int .i64 0)).put (o + 1 + 2 + 1) (.slice none 0 0), hSB.put 1 (by omega) _ _⟩⟩
            | some r =>
              obtain ⟨tt, cc⟩ := r
              rw [hR] at hrun2
              obtain ⟨N7, hN7⟩ : ∃ q, tt.l.length = q := ⟨_, rfl⟩
              obtain ⟨g7, hg7⟩ : ∃ q, tt.log = q := ⟨_, rfl⟩
              have hoT : Hid (∀ W : World, Only (fun _ => False) wr W → Calls Tryz.prog 147 #[.pointer (some ⟨g, o, none⟩), .int .i64 1, .int .i64 (wy : Int), .pointer (some ⟨p, 0, none⟩)] W fun e w' => ∃ b7 c7, e = .returned (.tuple #[.agg #[.int .i64 (g7 : Nat), .slice (some ⟨b7, 0, none⟩) N7 c7], .nilIface]) ∧ Blk w' b7 226 (CM.cellsOf tt.l) ∧ At1 w' p ((s1.drop q).drop cc) ∧ TabsM w' M (n + 1 + 1) ∧ Only (fun b => b = p ∨ b = M) W w') := fun W hW => (hcall.out W hW).mono fun e w' hq => by
                obtain ⟨h1, h2 | ⟨tt', cc', v7, h2, rfl, ⟨b7, c7, rfl, hb7⟩, hp7, hM7⟩⟩ := hq
                · rw [hR] at h2; cases h2.1
                · rw [hR] at h2
                  obtain ⟨rfl, rfl⟩ := Prod.mk.inj (Option.some.inj h2)
                  exact ⟨b7, c7, by rw [hg7, hN7], hb7, hp7, hM7, h1⟩
              replace hrun2 := hid' hrun2
              replace hR := hid' hR
              replace hN7 := hid' hN7
              replace hg7 := hid' hg7
              go_wp2_with fail
              go_region_with (go_at_call 147; refine (hoT.out _ ?_).mono ?_; exact (Only.refl _ _).drew; rintro e w7 ⟨b7, c7, rfl, hb7, hp7, hM7, hO7⟩; have hG7 := hGj.only (undrewO hO7) hGM; have d0 := hG7.cell e0; have d1 := hG7.cell e1; have fz7 := hG7.free)
              all_goals
                have hG8 := (hG7.put (o + 1 + 2) (.int .i64 (g7 : Nat))).put (o + 1 + 2 + 1) (.slice (some ⟨b7, 0, none⟩) N7 c7)
                have hOg : Only (· = g) w7 ((w7.setCell ⟨g, o + 1 + 2, none⟩ (.int .i64 (g7 : Nat))).setCell ⟨g, o + 1 + 2 + 1, none⟩ (.slice (some ⟨b7, 0, none⟩) N7 c7)) := ((Only.refl (· = g) w7).setCell ⟨g, o + 1 + 2, none⟩ _ (fun _ => rfl)).setCell ⟨g, o + 1 + 2 + 1, none⟩ _ (fun _ => rfl)
                have hO8 : Only (fun b => b = p ∨ b = M ∨ b = g) w1 ((w7.setCell ⟨g, o + 1 + 2, none⟩ (.int .i64 (g7 : Nat))).setCell ⟨g, o + 1 + 2 + 1, none⟩ (.slice (some ⟨b7, 0, none⟩) N7 c7)) := ((hOj.trans ((undrewO hO7).weaken (fun _ _ e => e.elim .inl (fun e => .inr (.inl e))))).setCell ⟨g, o + 1 + 2, none⟩ _ (fun _ => .inr (.inr rfl))).setCell ⟨g, o + 1 + 2 + 1, none⟩ _ (fun _ => .inr (.inr rfl))
                have hgs : ∀ b xs, Blk w7 b 226 xs → ¬ b = g := fun b xs hb e => hb.apart hG7 (fun e => htt e.symm) e
                have hb8 := hb7.only hOg (fun e => hgs _ _ hb7 e)
                have hT8 := ((hTj.only (undrewO hO7) hGs).only hOg hgs).put 1 tt (.slice (some ⟨b7, 0, none⟩) N7 c7) (by omega) (.inr ⟨tab_there hR.out, b7, c7, by rw [hN7.out], hb8⟩)
                have hp8 : At1 _ p ((s1.drop q).drop cc) := Blk.only hp7 hOg (fun e => hgp e.symm)
                have hM8 := hM7.only hOg (fun e => hM7.ne hG7 e) hgs
                have hV8 := (hVj.only (undrewO hO7) (fun k e => e.elim (fun e => by rw [e]; exact hpb) (fun e => by rw [e]; exact hMb))).only hOg (fun k e => by rw [e]; exact hgb)
                rw [hg7.out] at hT8
                have hS8 := hSB.put 1 (by omega) (.int .i64 (g7 : Nat)) (.slice (some ⟨b7, 0, none⟩) N7 c7)
                have hfin : Hid (∃ (T'' : Tabs) (q' : Nat) (gs'' : List Value), tabRun c T s1 2 = some (T'', q') ∧ Blk ((w7.setCell ⟨g, o + 1 + 2, none⟩ (.int .i64 (g7 : Nat))).setCell ⟨g, o + 1 + 2 + 1, none⟩ (.slice (some ⟨b7, 0, none⟩) N7 c7)) g t gs'' ∧ SameBut o gs gs'' ∧ SeqAt ((w7.setCell ⟨g, o + 1 + 2, none⟩ (.int .i64 (g7 : Nat))).setCell ⟨g, o + 1 + 2 + 1, none⟩ (.slice (some ⟨b7, 0, none⟩) N7 c7)) gs'' o T'' ∧ At1 ((w7.setCell ⟨g, o + 1 + 2, none⟩ (.int .i64 (g7 : Nat))).setCell ⟨g, o + 1 + 2 + 1, none⟩ (.slice (some ⟨b7, 0, none⟩) N7 c7)) p (s1.drop q') ∧ TabsM ((w7.setCell ⟨g, o + 1 + 2, none⟩ (.int .i64 (g7 : Nat))).setCell ⟨g, o + 1 + 2 + 1, none⟩ (.slice (some ⟨b7, 0, none⟩) N7 c7)) M (n + 2) ∧ VarsAt x ((w7.setCell ⟨g, o + 1 + 2, none⟩ (.int .i64 (g7 : Nat))).setCell ⟨g, o + 1 + 2 + 1, none⟩ (.slice (some ⟨b7, 0, none⟩) N7 c7)) ∧ Only (fun b => b = p ∨ b = M ∨ b = g) w1 ((w7.setCell ⟨g, o + 1 + 2, none⟩ (.int .i64 (g7 : Nat))).setCell ⟨g, o + 1 + 2 + 1, none⟩ (.slice (some ⟨b7, 0, none⟩) N7 c7))) :=
                  ⟨_, _, _, hrun2.out, hG8, hS8, hT8, by rw [← List.drop_drop]; exact hp8, hM8, hV8, hO8⟩
                replace hG8 := hid' hG8
                replace hOg := hid' hOg
                replace hO8 := hid' hO8
                replace hb8 := hid' hb8
                replace hT8 := hid' hT8
                replace hp8 := hid' hp8
                replace hM8 := hid' hM8
                replace hV8 := hid' hV8
                replace hS8 := hid' hS8
                go_wp2_with fail
              all_goals go_roundg (4 - 2)
              all_goals first
                | omega
                | (obtain ⟨T'', q', gs'', f1, f2, f3, f4, f5, f6, f7, f8⟩ := hfin.out; exact ⟨2, T'', q', gs'', rfl, by omega, by go_num, f1, f2, f3, f4, f5, f6, f7, f8⟩)
          · have hA : bits .and .i64 ((c : Int) / 16) 3 = (wy : Int) := by
              rw [show (c : Int) / 16 = ((c / 16 : Nat) : Int) by omega, and_three _ (by omega)]
              have : c / 16 % 4 = wy := by simpa using hwy
              rw [this]
            have hwp : IntKind.i64.wrap 4 = 4 := by decide
            have hGM : ¬ (g = p ∨ g = M) := fun e => e.elim hgp (fun e => hMj.ne hGj e.symm)
            have hGs : ∀ b xs, Blk wr b 226 xs → ¬ (b = p ∨ b = M) := fun b xs hb e => e.elim (fun e => hb.apart hpj (by decide) e) (fun e => hMj.ne hb e.symm)
            have e0 : gs'[o + 1 + 4]? = some (.int .i64 (old.log : Nat)) := q1
            have e1 : gs'[o + 1 + 4 + 1]? = some v := q2
            replace hwy := hid' hwy
            replace hold := hid' hold
            cases hR : RD.tableOf 2 wy old (s1.drop q) with
            | none =>
              rw [hR] at hrun2
              have hoF : Hid (∀ W : World, Only (fun _ => False) wr W → Calls Tryz.prog 147 #[.pointer (some ⟨g, o, none⟩), .int .i64 2, .int .i64 (wy : Int), .pointer (some ⟨p, 0, none⟩)] W fun e w' => e = .returned (.tuple #[.agg #[.int .i64 0, .slice none 0 0], errV x.f]) ∧ Only (fun b => b = p ∨ b = M) W w') := fun W hW => (hcall.out W hW).mono fun e w' hq => by
                obtain ⟨h1, h2 | ⟨tt, cc, v7, h2, -⟩⟩ := hq
                · exact ⟨h2.2, h1⟩
                · rw [hR] at h2; cases h2
              replace hrun2 := hid' hrun2
              replace hR := hid' hR
              go_wp2_with fail
              go_region_with (go_at_call 147; refine (hoF.out _ ?_).mono ?_; exact (Only.refl _ _).drew; rintro e w7 ⟨rfl, hO7⟩; have hG7 := hGj.only (undrewO hO7) hGM; have d0 := hG7.cell e0; have d1 := hG7.cell e1; have fz7 := hG7.free)
              all_goals go_wp2_with fail
              all_goals go_ret
              all_goals
                have hn3 : tabRun c T s1 3 = none := tabRun_none (k := 3) hrun2.out 0
                have hO8 : Only (fun b => b = p ∨ b = M ∨ b = g) w ((w7.setCell ⟨g, o + 1 + 4, none⟩ (.int .i64 0)).setCell ⟨g, o + 1 + 4 + 1, none⟩ (.slice none 0 0)) := (((hO1.trans hOj).trans ((undrewO hO7).weaken (fun _ _ e => e.elim .inl (fun e => .inr (.inl e))))).setCell ⟨g, o + 1 + 4, none⟩ _ (fun _ => .inr (.inr rfl))).setCell ⟨g, o + 1 + 4 + 1, none⟩ _ (fun _ => .inr (.inr rfl))
                exact ⟨hO8, .inl ⟨.inr (.inr (by rw [hc, hs1.out]; exact hn3)), rfl, _, (hG7.put (o + 1 + 4) (.int .i64 0)).put (o + 1 + 4 + 1) (.slice none 0 0), hSB.put 2 (by omega) _ _⟩⟩
            | some r =>
              obtain ⟨tt, cc⟩ := r
              rw [hR] at hrun2
              obtain ⟨N7, hN7⟩ : ∃ q, tt.l.length = q := ⟨_, rfl⟩
              obtain ⟨g7, hg7⟩ : ∃ q, tt.log = q := ⟨_, rfl⟩
              have hoT : Hid (∀ W : World, Only (fun _ => False) wr W → Calls Tryz.prog 147 #[.pointer (some ⟨g, o, none⟩), .int .i64 2, .int .i64 (wy : Int), .pointer (some ⟨p, 0, none⟩)] W fun e w' => ∃ b7 c7, e = .returned (.tuple #[.agg #[.int .i64 (g7 : Nat), .slice (some ⟨b7, 0, none⟩) N7 c7], .nilIface]) ∧ Blk w' b7 226 (CM.cellsOf tt.l) ∧ At1 w' p ((s1.drop q).drop cc) ∧ TabsM w' M (n + 2 + 1) ∧ Only (fun b => b = p ∨ b = M) W w') := fun W hW => (hcall.out W hW).mono fun e w' hq => by
                obtain ⟨h1, h2 | ⟨tt', cc', v7, h2, rfl, ⟨b7, c7, rfl, hb7⟩, hp7, hM7⟩⟩ := hq
                · rw [hR] at h2; cases h2.1
                · rw [hR] at h2
                  obtain ⟨rfl, rfl⟩ := Prod.mk.inj (Option.some.inj h2)
                  exact ⟨b7, c7, by rw [hg7, hN7], hb7, hp7, hM7, h1⟩
              replace hrun2 := hid' hrun2
              replace hR := hid' hR
              replace hN7 := hid' hN7
              replace hg7 := hid' hg7
              go_wp2_with fail
              go_region_with (go_at_call 147; refine (hoT.out _ ?_).mono ?_; exact (Only.refl _ _).drew; rintro e w7 ⟨b7, c7, rfl, hb7, hp7, hM7, hO7⟩; have hG7 := hGj.only (undrewO hO7) hGM; have d0 := hG7.cell e0; have d1 := hG7.cell e1; have fz7 := hG7.free)
              all_goals
                have hG8 := (hG7.put (o + 1 + 4) (.int .i64 (g7 : Nat))).put (o + 1 + 4 + 1) (.slice (some ⟨b7, 0, none⟩) N7 c7)
                have hOg : Only (· = g) w7 ((w7.setCell ⟨g, o + 1 + 4, none⟩ (.int .i64 (g7 : Nat))).setCell ⟨g, o + 1 + 4 + 1, none⟩ (.slice (some ⟨b7, 0, none⟩) N7 c7)) := ((Only.refl (· = g) w7).setCell ⟨g, o + 1 + 4, none⟩ _ (fun _ => rfl)).setCell ⟨g, o + 1 + 4 + 1, none⟩ _ (fun _ => rfl)
                have hO8 : Only (fun b => b = p ∨ b = M ∨ b = g) w1 ((w7.setCell ⟨g, o + 1 + 4, none⟩ (.int .i64 (g7 : Nat))).setCell ⟨g, o + 1 + 4 + 1, none⟩ (.slice (some ⟨b7, 0, none⟩) N7 c7)) := ((hOj.trans ((undrewO hO7).weaken (fun _ _ e => e.elim .inl (fun e => .inr (.inl e))))).setCell ⟨g, o + 1 + 4, none⟩ _ (fun _ => .inr (.inr rfl))).setCell ⟨g, o + 1 + 4 + 1, none⟩ _ (fun _ => .inr (.inr rfl))
                have hgs : ∀ b xs, Blk w7 b 226 xs → ¬ b = g := fun b xs hb e => hb.apart hG7 (fun e => htt e.symm) e
                have hb8 := hb7.only hOg (fun e => hgs _ _ hb7 e)
                have hT8 := ((hTj.only (undrewO hO7) hGs).only hOg hgs).put 2 tt (.slice (some ⟨b7, 0, none⟩) N7 c7) (by omega) (.inr ⟨tab_there hR.out, b7, c7, by rw [hN7.out], hb8⟩)
                have hp8 : At1 _ p ((s1.drop q).drop cc) := Blk.only hp7 hOg (fun e => hgp e.symm)
                have hM8 := hM7.only hOg (fun e => hM7.ne hG7 e) hgs
                have hV8 := (hVj.only (undrewO hO7) (fun k e => e.elim (fun e => by rw [e]; exact hpb) (fun e => by rw [e]; exact hMb))).only hOg (fun k e => by rw [e]; exact hgb)
                rw [hg7.out] at hT8
                have hS8 := hSB.put 2 (by omega) (.int .i64 (g7 : Nat)) (.slice (some ⟨b7, 0, none⟩) N7 c7)
                have hfin : Hid (∃ (T'' : Tabs) (q' : Nat) (gs'' : List Value), tabRun c T s1 3 = some (T'', q') ∧ Blk ((w7.setCell ⟨g, o + 1 + 4, none⟩ (.int .i64 (g7 : Nat))).setCell ⟨g, o + 1 + 4 + 1, none⟩ (.slice (some ⟨b7, 0, none⟩) N7 c7)) g t gs'' ∧ SameBut o gs gs'' ∧ SeqAt ((w7.setCell ⟨g, o + 1 + 4, none⟩ (.int .i64 (g7 : Nat))).setCell ⟨g, o + 1 + 4 + 1, none⟩ (.slice (some ⟨b7, 0, none⟩) N7 c7)) gs'' o T'' ∧ At1 ((w7.setCell ⟨g, o + 1 + 4, none⟩ (.int .i64 (g7 : Nat))).setCell ⟨g, o + 1 + 4 + 1, none⟩ (.slice (some ⟨b7, 0, none⟩) N7 c7)) p (s1.drop q') ∧ TabsM ((w7.setCell ⟨g, o + 1 + 4, none⟩ (.int .i64 (g7 : Nat))).setCell ⟨g, o + 1 + 4 + 1, none⟩ (.slice (some ⟨b7, 0, none⟩) N7 c7)) M (n + 3) ∧ VarsAt x ((w7.setCell ⟨g, o + 1 + 4, none⟩ (.int .i64 (g7 : Nat))).setCell ⟨g, o + 1 + 4 + 1, none⟩ (.slice (some ⟨b7, 0, none⟩) N7 c7)) ∧ Only (fun b => b = p ∨ b = M ∨ b = g) w1 ((w7.setCell ⟨g, o + 1 + 4, none⟩ (.int .i64 (g7 : Nat))).setCell ⟨g, o + 1 + 4 + 1, none⟩ (.slice (some ⟨b7, 0, none⟩) N7 c7))) :=
                  ⟨_, _, _, hrun2.out, hG8, hS8, hT8, by rw [← List.drop_drop]; exact hp8, hM8, hV8, hO8⟩
                replace hG8 := hid' hG8
                replace hOg := hid' hOg
                replace hO8 := hid' hO8
                replace hb8 := hid' hb8
                replace hT8 := hid' hT8
                replace hp8 := hid' hp8
                replace hM8 := hid' hM8
                replace hV8 := hid' hV8
                replace hS8 := hid' hS8
                go_wp2_with fail
              all_goals go_roundg (4 - 3)
              all_goals first
                | omega
                | (obtain ⟨T'', q', gs'', f1, f2, f3, f4, f5, f6, f7, f8⟩ := hfin.out; exact ⟨3, T'', q', gs'', rfl, by omega, by go_num, f1, f2, f3, f4, f5, f6, f7, f8⟩)
        · obtain rfl : k = 3 := by omega
          go_wp2_with fail
          go_ret
          refine ⟨hO1.trans hOj, .inr ⟨T', q, gs', by omega, by rw [hc]; omega, by rw [hc, hs1.out]; exact hrun, rfl, hGj, hSB, hTj, ?_, hMj⟩⟩
          rw [← List.drop_drop, hs1.out]
          exact hpj
end Go.Proofs.YtbhemchnjpajiaaGreatDoor

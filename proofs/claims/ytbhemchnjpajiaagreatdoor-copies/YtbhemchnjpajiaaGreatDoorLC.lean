/- Several texts in one: QRd7. -/
import Derived.Test.YtbhemchnjpajiaaGreatDoorLB
/- The body of a block of whatever kind (package frames): readBody, walked. -/
namespace Go.Proofs.YtbhemchnjpajiaaGreatDoor
open Go.RowKit
attribute [local irreducible] setsAt
set_option linter.unusedVariables false

set_option maxRecDepth 100000 in
set_option maxHeartbeats 4000000 in
theorem readBody_any (x : Fx) (G : Nat → Prop) (c : RD.Cfg) (m : MS) (b : RD.Bytes) (S : Nat) (ss : List Value) (v6 : Value) (w : World) (h : StrAt x G c m S ss v6 w) (h0 : m.nx = 5) (hkd : m.kd ≤ 2) (hb : b.length = unitLen 5 b m.kd m.nm) (hcn : cntAt w S < 900000000) (hf : m.fr ≤ 1099511627776) (hbk : m.f.blocks ≤ 1099511627776) (ht : m.f.text.length ≤ 1099511627776) :
    Calls Tryz.prog 83 #[.pointer (some ⟨S, 0, none⟩), .string (RD.bs b)] w (RdPost x G c m b S v6 w) := by
  obtain ⟨v, W8, g1, g2, -⟩ := h.frame (by omega)
  obtain ⟨M, hM, hM1, hM2, hM3⟩ := h.tabs
  rw [cnt_is h.blk hM] at hcn
  have hu : m.unit c b = match RD.inner m.f m.kd m.nm b with
      | none => .err 4
      | some r => if Over m.f m.lk r.1.length then .err 4 else .ok (m.behind (MS.grown m.f r.2 r.1)) r.1 := by
    unfold MS.unit
    rw [if_neg (by omega), if_neg (by omega), if_neg (by omega), if_neg (by omega), if_neg (by omega), if_pos h0]
    cases RD.inner m.f m.kd m.nm b <;> rfl
  have c31 := h.blk.cell h.lk
  have c32 := h.blk.cell h.kd
  have c33 := h.blk.cell h.nm
  have hct : ∀ W : World, SameW W w → Calls Tryz.prog 97 #[.pointer (some ⟨S, 8, none⟩), .agg #[.bool m.lk, .int .i64 (m.kd : Nat), .int .i64 (m.nm : Nat)], .string (RD.bs b)] W (CtPost x S M ss m v W8 b w) := fun W hW => by
    have hWb : Below w.heap.size w W := ⟨hW.2.1, hW.2.2.1, hW.2.2.2, by rw [hW.1]; exact Nat.le_refl _, fun k hk => by rw [hW.1]⟩
    have hNW : tabN W M = tabN w M := by unfold tabN; rw [hW.1]
    refine (content_any x G c m b S M ss v6 v W8 W (h.below hWb) h0 hkd hM (g1.turn (fun _ _ _ => rfl) (below_only (G := fun _ => False) hWb) (fun _ _ e => e)) (fun k hk => (g2 k hk).1) hb (by omega)).mono ?_
    exact fun e w' q => q.same hW
  have hMS : ¬ M = S := fun e => hM2.ne h.blk e
  have hMv : ∀ k, v.ownBlock = some k → k ≠ M := fun k hk e => (g1.row.blk hk).2.noMap (e ▸ hM2)
  have hSv : ∀ k, v.ownBlock = some k → k ≠ S := fun k hk => g1.ne h.blk hk
  obtain ⟨LK, hLK⟩ : ∃ LK, LK = m.lk := ⟨_, rfl⟩
  obtain ⟨KD, hKD⟩ : ∃ KD, KD = m.kd := ⟨_, rfl⟩
  obtain ⟨NM, hNM⟩ : ∃ NM, NM = m.nm := ⟨_, rfl⟩
  rw [← hLK] at c31
  rw [← hKD] at c32
  rw [← hNM] at c33
  rw [← hLK, ← hKD, ← hNM] at hct
  replace hLK := hid' hLK
  replace hKD := hid' hKD
  replace hNM := hid' hNM
  replace hu := hid' hu
  replace h0 := hid' h0
  replace hkd := hid' hkd
  replace g1 := hid' g1
  replace g2 := hid' g2
  replace hM := hid' hM
  replace hM3 := hid' hM3
  replace hb := hid' hb
  have hKG0 : ∀ k, (k = M ∨ k = S ∨ v.ownBlock = some k) → G k := fun k e => by
    rcases e with rfl | rfl | e
    · exact hM1
    · exact h.inG.1
    · exact (g2.out k e).1
  by_cases hbad : ∀ q, RD.inner m.f m.kd m.nm b = some q → 1024 < q.1.length
  · have hcb : ∀ W : World, SameW W w → Calls Tryz.prog 97 #[.pointer (some ⟨S, 8, none⟩), .agg #[.bool LK, .int .i64 (KD : Nat), .int .i64 (NM : Nat)], .string (RD.bs b)] W fun e w' => e = .returned (.tuple #[.string (RD.bs []), errV x.f]) ∧ Only (fun k => k = M ∨ k = S ∨ v.ownBlock = some k) w w' ∧ ∃ ss', Blk w' S 146 ss' ∧ (∀ j, j < 18 ∨ 29 ≤ j → ss'[j]? = ss[j]?) := fun W hW => by
      refine (hct W hW).mono ?_
      rintro e w' ⟨q1, q2, ss', q3, q4, q5, (⟨q6, q7⟩ | ⟨t, f', q6, q7, q8⟩)⟩
      · exact ⟨q7, q1, ss', q3, q5⟩
      · have := hbad _ q6
        simp only [] at this
        omega
    clear hct
    have hub : Hid (m.unit c b = .err 4) := by
      rw [Hid, hu.out]
      cases hi : RD.inner m.f m.kd m.nm b with
      | none => rfl
      | some r => exact if_pos (.inl (hbad r hi))
    clear hbad
    go_enter Tryz.func83, Tryz.ntmps83
    go_wp2_with fail
    go_region_with (go_at_call 97; refine (hcb _ (by exact ⟨rfl, rfl, rfl, rfl⟩)).mono ?_; rintro e w2 ⟨rfl, hO2, ss2, hB2, hs2⟩)
    go_wp2_with fail
    go_ret2
    exact RdPost.worse (n := 4) h hub.out (hO2.weaken (fun k _ e => hKG0 k e)) hB2 (hs2 3 (by omega)) (hs2 4 (by omega))
  · obtain ⟨t, f', hin, htl⟩ : ∃ t f', RD.inner m.f m.kd m.nm b = some (t, f') ∧ t.length ≤ 1024 := by
      by_cases e : ∃ t f', RD.inner m.f m.kd m.nm b = some (t, f') ∧ t.length ≤ 1024
      · exact e
      · exact absurd (fun q hq => Nat.lt_of_not_le fun hl => e ⟨q.1, q.2, hq, hl⟩) hbad
    clear hbad
    have hcg : ∀ W : World, SameW W w → Calls Tryz.prog 97 #[.pointer (some ⟨S, 8, none⟩), .agg #[.bool LK, .int .i64 (KD : Nat), .int .i64 (NM : Nat)], .string (RD.bs b)] W fun e w' => e = .returned (.tuple #[.string (RD.bs t), .nilIface]) ∧ Only (fun k => k = M ∨ k = S ∨ v.ownBlock = some k) w w' ∧ Row8 0 w' v W8 ∧ ∃ ss', Blk w' S 146 ss' ∧ ss'.length = 34 ∧ (∀ j, j < 18 ∨ 29 ≤ j → ss'[j]? = ss[j]?) ∧ Alike f' m.f ∧ PkAt w' ss' 8 M (tabN w' M) f' ∧ tabN w' M ≤ tabN w M + 3 := fun W hW => by
      refine (hct W hW).mono ?_
      rintro e w' ⟨q1, q2, ss', q3, q4, q5, (⟨q6, q7⟩ | ⟨t', f'', q6, q7, q8, q9, q10, q11⟩)⟩
      · have := q6 _ hin
        simp only [] at this
        omega
      · rw [hin] at q6
        injection q6 with q6
        injection q6 with e1 e2
        subst e1 e2
        exact ⟨q9, q1, q2, ss', q3, q4, q5, q8, q10, q11⟩
    clear hct
    rw [hin] at hu
    replace hin := hid' hin
    go_enter Tryz.func83, Tryz.ntmps83
    go_wp2_with fail
    go_region_with (go_at_call 97; refine (hcg _ (by exact ⟨rfl, rfl, rfl, rfl⟩)).mono ?_; rintro e w2 ⟨rfl, hO2, hR2, ss2, hB2, hl2, hs2, hal, hP2, hT2⟩)
    have hF2 : FrM f' ss2 v W8 w2 := g1.out.alike hal hR2 hs2
    have hV2 : VarsAt x w2 := h.vars.only hO2 (fun k e => h.base k (hKG0 k e))
    have e31 : w2.cell? ⟨S, 31, none⟩ = some (.bool LK) := hB2.cell (by rw [hs2 31 (by omega), hLK.out]; exact h.lk)
    have haddS : ∀ W : World, SameW W w2 → Calls Tryz.prog 98 #[.pointer (some ⟨S, 8, none⟩), .string (RD.bs t), .bool LK] W (AddPost x S ss2 f' v t LK w2) := fun W hW => by
      have hWb : Below w2.heap.size w2 W := ⟨hW.2.1, hW.2.2.1, hW.2.2.2, by rw [hW.1]; exact Nat.le_refl _, fun k hk => by rw [hW.1]⟩
      refine (add_raw x S ss2 f' v W8 t LK W (hB2.below hWb hB2.lt) hl2 (hF2.turn (fun _ _ _ => rfl) (below_only (G := fun _ => False) hWb) (fun _ _ e => e)) htl (by rw [hal.2.2.1]; exact ht) (hV2.below hWb)).mono ?_
      rintro e w' (⟨h1, h2, h3⟩ | ⟨h1, h2, ss', v', W8', h3, h4, h5, h6, h7, h8⟩)
      · exact .inl ⟨h1, h2, hW.below h3⟩
      · refine .inr ⟨h1, h2, ss', v', W8', h3, h4, h5, h6, hW.only h7, ?_⟩
        rw [hW.1] at h8
        exact h8
    have hoi : Over m.f m.lk t.length ↔ OverS f' LK t.length := by rw [hLK.out, overS_alike hal]; exact over_iff htl
    replace hoi := hid' hoi
    replace hF2 := hid' hF2
    clear hcg
    by_cases hov : OverS f' LK t.length
    · have hbad : ∀ W : World, SameW W w2 → Calls Tryz.prog 98 #[.pointer (some ⟨S, 8, none⟩), .string (RD.bs t), .bool LK] W fun e w' => e = .returned (errV x.f) ∧ Below w2.heap.size w2 w' := fun W hW => by
        refine (haddS W hW).mono ?_
        rintro e w' (⟨h1, h2, h3⟩ | ⟨h1, h2⟩)
        · exact ⟨h2, h3⟩
        · exact absurd hov h1
      clear haddS
      have hub : Hid (m.unit c b = .err 4) := hu.out.trans (if_pos (hoi.out.2 hov))
      replace hov := hid' hov
      replace hP2 := hid' hP2
      go_wp2_with fail
      go_region_with (go_at_call 98; refine (hbad _ (by exact ⟨rfl, rfl, rfl, rfl⟩)).mono ?_; rintro e w3 ⟨rfl, hb3⟩)
      go_wp2_with fail
      go_ret2
      exact RdPost.worse (n := 4) h hub.out ((hO2.weaken (fun k _ e => hKG0 k e)).trans (below_only hb3)) (hB2.below hb3 hB2.lt) (hs2 3 (by omega)) (hs2 4 (by omega))
    · have hgood : ∀ W : World, SameW W w2 → Calls Tryz.prog 98 #[.pointer (some ⟨S, 8, none⟩), .string (RD.bs t), .bool LK] W fun e w' => e = .returned .nilIface ∧ ∃ ss' v' W8', Blk w' S 146 ss' ∧ ss'.length = 34 ∧ (∀ j, j < 8 ∨ 30 < j ∨ (18 ≤ j ∧ j < 29) → ss'[j]? = ss2[j]?) ∧ FrM (MS.grown f' f' t) ss' v' W8' w' ∧
          Only (fun k => k = S ∨ v.ownBlock = some k) w2 w' ∧ (v'.ownBlock = v.ownBlock ∨ ∃ k, v'.ownBlock = some k ∧ w2.heap.size ≤ k) := fun W hW => by
        refine (haddS W hW).mono ?_
        rintro e w' (⟨h1, h2, h3⟩ | ⟨h1, h2, h3⟩)
        · exact absurd h1 hov
        · exact ⟨h2, h3⟩
      clear haddS
      have hub : Hid (m.unit c b = .ok (m.behind (MS.grown m.f f' t)) t) := hu.out.trans (if_neg (fun e => hov (hoi.out.1 e)))
      replace hov := hid' hov
      replace hP2 := hid' hP2
      go_wp2_with fail
      go_region_with (go_at_call 98; refine (hgood _ (by exact ⟨rfl, rfl, rfl, rfl⟩)).mono ?_; rintro e w3 ⟨rfl, ss3, v2, W82, hB3, hl3, hs3, hF3, hO3, hat3⟩)
      clear hgood
      have hgr : MS.grown f' f' t = MS.grown m.f f' t := by unfold MS.grown; rw [hal.2.2.1, hal.2.2.2.2.2]
      rw [hgr] at hF3
      have hsum : (MS.grown m.f f' t).summed = m.f.summed := hal.1
      have hO23 : Only (fun k => k = M ∨ k = S ∨ v.ownBlock = some k) w w3 := hO2.trans (hO3.weaken (fun _ _ e => .inr e))
      have hkp : ∀ j, j < 8 ∨ 30 < j → ss3[j]? = ss[j]? := fun j hj => by rw [hs3 j (by omega), hs2 j (by omega)]
      have hM' : ∀ k, ss[2]? = some (.map (some k)) → k = M := fun k hk => by
        have e := hM.out
        rw [hk] at e
        injection e with e
        injection e with e
        injection e with e
      have hGG : ∀ k, G k → k = S ∨ ss[2]? = some (.map (some k)) → ((G k ∧ v.ownBlock ≠ some k) ∨ v2.ownBlock = some k) := fun k hk e => .inl ⟨hk, fun ev => by
        rcases e with e | e
        · exact hSv k ev e
        · exact hMv k ev (hM' k e)⟩
      have hv2 : ∀ k, v2.ownBlock = some k → ((G k ∧ v.ownBlock ≠ some k) ∨ v2.ownBlock = some k) ∧ v6.ownBlock ≠ some k := fun k hk => by
        refine ⟨.inr hk, fun e => ?_⟩
        rcases hat3 with h1 | ⟨k', h1, h2⟩
        · exact (g2.out k (h1.symm.trans hk)).2 e
        · rw [h1] at hk
          injection hk with hk
          have h3 := (h.row.blk e).2.lt
          have h4 := hO2.size
          omega
      have hG2 : ∀ k, ((G k ∧ v.ownBlock ≠ some k) ∨ v2.ownBlock = some k) → G k ∨ w.heap.size ≤ k := fun k hk => by
        rcases hk with hk | hk
        · exact .inl hk.1
        · rcases hat3 with h1 | ⟨k', h1, h2⟩
          · exact .inl (g2.out k (h1.symm.trans hk)).1
          · rw [h1] at hk
            injection hk with hk
            have h4 := hO2.size
            exact .inr (by omega)
      have hv6G : ∀ k, v6.ownBlock = some k → ((G k ∧ v.ownBlock ≠ some k) ∨ v2.ownBlock = some k) := fun k hk => .inl ⟨h.inG.2 k hk, fun e => (g2.out k e).2 hk⟩
      have hv6 : ∀ W, Only (fun k => k = M ∨ k = S ∨ v.ownBlock = some k) w W → Row8 0 W v6 m.bg := fun W hW => h.row.only hW (fun k hk e => by
        rcases e with e | e | e
        · exact (h.row.blk hk).2.noMap (e ▸ hM2)
        · exact h.ne hk e
        · exact (g2.out k e).2 hk)
      have hn2 : ∀ k, v2.ownBlock = some k → k ≠ S := fun k hk => hF3.ne hB3 hk
      have hKG : ∀ k, k < w.heap.size → (k = M ∨ k = S ∨ v.ownBlock = some k) → G k := fun k _ e => hKG0 k e
      have hNT : ∀ k, k < w2.heap.size → (k = S ∨ v.ownBlock = some k) → NoTab w2 k := fun k _ e => by
        rcases e with e | e
        · rw [e]; exact NoTab.of_blk hB2 (by decide) (by decide)
        · exact NoTab.of_u8 (hR2.blk e).2
      have hMK : ¬ (M = S ∨ v.ownBlock = some M) := fun e => e.elim hMS (fun e => hMv M e rfl)
      -- the tables behind the block, and which blocks are its own
      have hend4 : ∀ (ss4 : List Value) (w4 : World), Blk w4 S 146 ss4 → Only (· = S) w3 w4 → TabsM w4 M (tabN w4 M) ∧ tabN w4 M ≤ tabN w M + 3 ∧ ((∀ j, 18 ≤ j → j < 29 → ss4[j]? = ss3[j]?) → PkAt w4 ss4 8 M (tabN w4 M) (MS.grown m.f f' t)) ∧
          (∀ k, ((G k ∧ v.ownBlock ≠ some k) ∨ v2.ownBlock = some k) → k < w4.heap.size ∧ NoTab w4 k) := by
        intro ss4 w4 b1 b2
        have hO24 : Only (fun k => k = S ∨ v.ownBlock = some k) w2 w4 := hO3.trans (b2.weaken (fun _ _ e => .inl e))
        have hO4 : Only (fun k => k = M ∨ k = S ∨ v.ownBlock = some k) w w4 := hO23.trans (b2.weaken (fun _ _ e => .inr (.inl e)))
        have hN : tabN w4 M = tabN w2 M := tabN_only hO24 hP2.out.tabs.lt hMK
        have hT : TabsM w4 M (tabN w4 M) := by rw [hN]; exact hP2.out.tabs.only hO24 hMK (fun b xs hb e => (hNT b hb.lt e).1 xs hb)
        refine ⟨hT, by omega, fun hs => ?_, fun k hk => ?_⟩
        · rw [hN]
          exact (hP2.out.carry (fun j h1 h2 => by rw [hs j h1 h2, hs3 j (by omega)]) hO24 hMK hNT).grown
        · rcases hk with ⟨hk, hne⟩ | hk
          · refine ⟨Nat.lt_of_lt_of_le (h.pure k hk).1 hO4.size, ?_⟩
            by_cases e1 : k = S
            · rw [e1]; exact NoTab.of_blk b1 (by decide) (by decide)
            · by_cases e2 : k = M
              · rw [e2]; exact NoTab.of_map hT
              · exact (h.pure k hk).2.same (hO4.block k (h.pure k hk).1 (fun e => e.elim e2 (fun e => e.elim e1 hne)))
          · have := ((hF3.row.only b2 (fun k hk e => hn2 k hk e)).blk hk).2
            exact ⟨this.lt, NoTab.of_u8 this⟩
      -- the stream behind the block, wherever it goes on
      have hgoes : ∀ (n : Nat) (ss4 : List Value) (w4 : World), Blk w4 S 146 ss4 → Only (· = S) w3 w4 → ss4.length = 34 → (∀ j, j ≠ 4 → j ≠ 5 → ss4[j]? = ss3[j]?) → ss4[4]? = some (.int .i64 ((m.f.blocks + 1 : Nat) : Int)) → ss4[5]? = some (.int .i64 (n : Nat)) → n < 7 → 4 ≤ n → (n = 6 → m.f.summed = true) →
          StrAt x (fun k => (G k ∧ v.ownBlock ≠ some k) ∨ v2.ownBlock = some k) c { m with nx := n, f := MS.grown m.f f' t } S ss4 v6 w4 := by
        intro n ss4 w4 b1 b2 b3 b4 b5 b6 b7 b8 b9
        obtain ⟨z1, z2, z3, z4⟩ := hend4 ss4 w4 b1 b2
        have hk : ∀ j, j ≠ 4 → j ≠ 5 → (j < 8 ∨ 30 < j) → ss4[j]? = ss[j]? := fun j h1 h2 h3 => by rw [b4 j h1 h2, hkp j h3]
        have hO4 : Only (fun k => k = M ∨ k = S ∨ v.ownBlock = some k) w w4 := hO23.trans (b2.weaken (fun _ _ e => .inr (.inl e)))
        exact h.over (m' := { m with nx := n, f := MS.grown m.f f' t }) b1 hO4 hKG hGG hG2 b3 (fun j hj => hk j (by omega) (by omega) (by omega)) (by rw [hk 3 (by omega) (by omega) (by omega)]; exact h.fr) b5 b6 (by rw [hk 6 (by omega) (by omega) (by omega)]; exact h.bg) (hv6 w4 hO4) hv6G (by rw [hk 7 (by omega) (by omega) (by omega)]; exact h.lf)
          (by rw [hk 31 (by omega) (by omega) (by omega)]; exact h.lk) (by rw [hk 32 (by omega) (by omega) (by omega)]; exact h.kd) (by rw [hk 33 (by omega) (by omega) (by omega)]; exact h.nm) b7 h.nmb (fun e => by have : n < 4 := e; omega) (fun _ => ⟨v2, W82, hF3.turn (fun j h1 h2 => b4 j (by omega) (by omega)) b2 (fun k hk e => hn2 k hk e), hv2, fun e => hsum.trans (b9 e)⟩)
          z4 (fun M' hM2' => by
            rw [hM' M' hM2']
            exact ⟨z1, fun _ => z3 (fun j h1 h2 => b4 j (by omega) (by omega))⟩)
      replace hgoes := hid' hgoes
      have hcnt : ∀ (ss4 : List Value) (w4 : World), Blk w4 S 146 ss4 → Only (· = S) w3 w4 → ss4[2]? = ss3[2]? → cntAt w4 S ≤ cntAt w S + 3 := fun ss4 w4 b1 b2 b3 => by
        have e2 : ss4[2]? = some (.map (some M)) := by rw [b3, hkp 2 (by omega)]; exact hM.out
        rw [cnt_is b1 e2, cnt_is h.blk hM.out]
        exact (hend4 ss4 w4 b1 b2).2.1
      replace hend4 := hid' hend4
      replace hcnt := hid' hcnt
      have d4 := hB3.cell (j := 4) (v := .int .i64 (m.f.blocks : Nat)) (by rw [hkp 4 (by omega)]; exact h.bl)
      have d31 := hB3.cell (j := 31) (v := .bool LK) (by rw [hkp 31 (by omega), hLK.out]; exact h.lk)
      obtain ⟨SM', hSM⟩ : ∃ s, s = m.f.summed := ⟨_, rfl⟩
      have d8 := hB3.cell (j := 8) (v := .bool SM') (by rw [hSM, ← hsum]; exact hF3.summed)
      have d5 := hB3.cell (j := 5) (v := .int .i64 (m.nx : Nat)) (by rw [hkp 5 (by omega)]; exact h.nx)
      have fz3 := hB3.free
      obtain ⟨BL, hBL⟩ : ∃ BL, BL = m.f.blocks := ⟨_, rfl⟩
      rw [← hBL] at d4 hbk
      replace hBL := hid' hBL
      replace hSM := hid' hSM
      replace hF3 := hid' hF3
      replace hsum := hid' hsum
      replace hgr := hid' hgr
      have hB4 := hB3.put 4 (.int .i64 ((BL : Int) + 1))
      have hO4 : Only (· = S) w3 (w3.setCell ⟨S, 4, none⟩ (.int .i64 ((BL : Int) + 1))) := (Only.refl (· = S) w3).setCell ⟨S, 4, none⟩ _ (fun _ => rfl)
      have hl4 : (ss3.set 4 (.int .i64 ((BL : Int) + 1))).length = 34 := by rw [List.length_set]; exact hl3
      have hend := strEnd_any S 146 (ss3.set 4 (.int .i64 ((BL : Int) + 1))) m.fr (w3.setCell ⟨S, 4, none⟩ (.int .i64 ((BL : Int) + 1))) hB4 hl4 (by rw [set_ne' (by omega), hkp 3 (by omega)]; exact h.fr) hf
      have hOG : ∀ W, Only (· = S) w3 W → Only G w W := fun W hW => (hO23.trans (hW.weaken (fun _ _ e => .inr (.inl e)))).weaken hKG
      have hcells : ∀ n : Nat, (∀ j, j ≠ 4 → j ≠ 5 → ((ss3.set 4 (.int .i64 ((BL : Int) + 1))).set 5 (.int .i64 (n : Nat)))[j]? = ss3[j]?) ∧ ((ss3.set 4 (.int .i64 ((BL : Int) + 1))).set 5 (.int .i64 (n : Nat)))[4]? = some (.int .i64 ((m.f.blocks + 1 : Nat) : Int)) ∧ ((ss3.set 4 (.int .i64 ((BL : Int) + 1))).set 5 (.int .i64 (n : Nat)))[5]? = some (.int .i64 (n : Nat)) ∧ ((ss3.set 4 (.int .i64 ((BL : Int) + 1))).set 5 (.int .i64 (n : Nat))).length = 34 := fun n =>
        ⟨fun j h1 h2 => by rw [set_ne' (by omega), set_ne' (by omega)], by rw [set_ne' (by omega), set_eq' hl3 (by omega), ← hBL.out]; rfl, set_eq' hl4 (by omega), by rw [List.length_set]; exact hl4⟩
      replace hcells := hid' hcells
      replace hGG := hid' hGG
      replace hv6 := hid' hv6
      replace hv6G := hid' hv6G
      clear hv2 hNT hMK
      cases LK with
      | false =>
        go_wp2_with fail
        go_ret2
        have hO5 : Only (· = S) w3 ((w3.setCell ⟨S, 4, none⟩ (.int .i64 ((BL : Int) + 1))).setCell ⟨S, 5, none⟩ (.int .i64 ((4 : Nat) : Int))) := hO4.setCell ⟨S, 5, none⟩ _ (fun _ => rfl)
        obtain ⟨z1, z2, z3, z4⟩ := hcells.out 4
        refine ⟨hOG _ hO5, ?_⟩
        rw [hub.out]
        have hbh : m.behind (MS.grown m.f f' t) = { m with nx := 4, f := MS.grown m.f f' t } := by unfold MS.behind; rw [if_pos hLK.out.symm]
        rw [hbh]
        exact ⟨rfl, _, _, hgoes.out 4 _ _ (hB4.put 5 _) hO5 z4 z1 z2 z3 (by omega) (by omega) (by omega), hG2, hcnt.out _ _ (hB4.put 5 _) hO5 (z1 2 (by omega) (by omega))⟩
      | true =>
        have hlk : ¬ m.lk = false := by rw [← hLK.out]; simp
        replace hlk := hid' hlk
        cases SM' with
        | true =>
          go_wp2_with fail
          go_ret2
          have hO5 : Only (· = S) w3 ((w3.setCell ⟨S, 4, none⟩ (.int .i64 ((BL : Int) + 1))).setCell ⟨S, 5, none⟩ (.int .i64 ((6 : Nat) : Int))) := hO4.setCell ⟨S, 5, none⟩ _ (fun _ => rfl)
          obtain ⟨z1, z2, z3, z4⟩ := hcells.out 6
          refine ⟨hOG _ hO5, ?_⟩
          rw [hub.out]
          have hbh : m.behind (MS.grown m.f f' t) = { m with nx := 6, f := MS.grown m.f f' t } := by unfold MS.behind; rw [if_neg hlk.out, if_pos (hsum.out.trans hSM.out.symm)]
          rw [hbh]
          exact ⟨rfl, _, _, hgoes.out 6 _ _ (hB4.put 5 _) hO5 z4 z1 z2 z3 (by omega) (by omega) (fun _ => hSM.out.symm), hG2, hcnt.out _ _ (hB4.put 5 _) hO5 (z1 2 (by omega) (by omega))⟩
        | false =>
          go_wp2_with fail
          refine hend.mono ?_
          rintro e w5 ⟨rfl, hB5, hO5⟩
          go_wp2_with fail
          go_ret2
          have hO45 : Only (· = S) w3 w5 := hO4.trans hO5
          refine ⟨hOG _ hO45, ?_⟩
          rw [hub.out]
          have hbh : m.behind (MS.grown m.f f' t) = ({ m with f := MS.grown m.f f' t } : MS).ended := by unfold MS.behind; rw [if_neg hlk.out, if_neg (show ¬ (MS.grown m.f f' t).summed = true from by rw [hsum.out, ← hSM.out]; simp)]
          rw [hbh]
          obtain ⟨e1, e2, e3, e4, e5⟩ := endCells_facts hl4 m.fr
          have hk : ∀ j, (j < 3 ∨ (5 < j ∧ j < 8) ∨ 30 < j) → (endCells (ss3.set 4 (.int .i64 ((BL : Int) + 1))) m.fr)[j]? = ss[j]? := fun j hj => by rw [e2 j hj, set_ne' (by omega), hkp j (by omega)]
          have hO6 : Only (fun k => k = M ∨ k = S ∨ v.ownBlock = some k) w w5 := hO23.trans (hO45.weaken (fun _ _ e => .inr (.inl e)))
          obtain ⟨y1, y2, y3, y4⟩ := hend4.out _ w5 hB5 hO45
          exact ⟨rfl, _, _, h.over (m' := ({ m with f := MS.grown m.f f' t } : MS).ended) hB5 hO6 hKG hGG.out hG2 e1 (fun j hj => hk j (.inl hj)) e3 e4 e5 (by rw [hk 6 (by omega)]; exact h.bg) (hv6.out w5 hO6) hv6G.out (by rw [hk 7 (by omega)]; exact h.lf) (by rw [hk 31 (by omega)]; exact h.lk) (by rw [hk 32 (by omega)]; exact h.kd) (by rw [hk 33 (by omega)]; exact h.nm)
            (by show 0 < 7; omega) h.nmb (fun _ => rfl) (fun e => by have : 4 ≤ 0 := e; omega) y4 (fun M' hM2' => ⟨by rw [hM' M' hM2']; exact y1, fun e => by have : 4 ≤ 0 := e; omega⟩), hG2, hcnt.out _ w5 hB5 hO45 (by rw [e2 2 (by omega), set_ne' (by omega)])⟩
end Go.Proofs.YtbhemchnjpajiaaGreatDoor

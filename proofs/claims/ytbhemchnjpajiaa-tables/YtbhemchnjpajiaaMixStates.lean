/- The law's own question whether two lists share room (mixedStates), walked: whatever room an append chooses, no list shows another's mark: it answers no, and nothing below the lists has turned. -/
import Derived.Test.YtbhemchnjpajiaaFam
import Derived.Deep.RegionHeld3
namespace Go.Proofs.Ytbhemchnjpajiaa
open Go.RowKit
set_option linter.unusedVariables false

theorem infoEmixedStates : (Try.prog.info? 40).map (fun i => (i.zero, i.size, i.bytes)) = some (some (.agg #[.int .i64 0, .int .i64 0, .int .i64 0]), 3, 24) := by kernel_rfl
theorem infoLmixedStates : (Try.prog.info? 61).map (fun i => (i.zero, i.size, i.bytes)) = some (some (.agg #[.slice none 0 0, .int .i64 0]), 2, 32) := by kernel_rfl

set_option maxRecDepth 100000 in
set_option maxHeartbeats 4000000 in
theorem mixedStates_any (a1 a2 : Option Addr) (n1 c1 n2 c2 : Nat) (w : World) (B : Nat) (F : Nat → Int) (h1 : Gr w B 40 F (-1) (.slice a1 n1 c1) n1 0) (h2 : Gr w B 40 F (-2) (.slice a2 n2 c2) n2 0) (hn1 : n1 ≤ 2000) (hn2 : n2 ≤ 2000) (hB : B ≤ w.heap.size) :
    Calls Try.prog 14 #[.slice a1 n1 c1, .slice a2 n2 c2] w fun e w' => e = .returned (.bool false) ∧ Below B w w' := by
  go_enter Try.func14, Try.ntmps14
  go_wp2_with fail
  go_loopg [6] 2 (fun g kv wr => ∃ k : Nat, g = 2 - k ∧ k ≤ 2 ∧ kv = .int .i64 (k : Int) ∧ Blk wr w.heap.size 61 [.slice a1 n1 c1, .int .i64 (-1), .slice a2 n2 c2, .int .i64 (-2)] ∧ Gr wr B 40 F (-1) (.slice a1 n1 c1) n1 (if 1 ≤ k then n1 else 0) ∧ Gr wr B 40 F (-2) (.slice a2 n2 c2) n2 (if 2 ≤ k then n2 else 0) ∧ Below B w wr)
  case atStart => exact ⟨0, by omega, by omega, rfl, Blk.new w 61 _, h1.alloc _, h2.alloc _, (Below.refl _ _).alloc hB _⟩
  case round =>
    obtain ⟨k, rfl, hk, rfl, hall, g1, g2, hbel⟩ := hrel
    by_cases hk2 : k < 2
    · rcases (by omega : k = 0 ∨ k = 1) with rfl | rfl
      · obtain ⟨wo, rfl⟩ : ∃ wo : World, wo = wr := ⟨_, rfl⟩
        go_wp2_with fail
        go_loopg [7] n1 (fun g iv wr => ∃ i : Nat, g = n1 - i ∧ i ≤ n1 ∧ iv = .int .i64 (i : Int) ∧ Blk wr w.heap.size 61 [.slice a1 n1 c1, .int .i64 (-1), .slice a2 n2 c2, .int .i64 (-2)] ∧ Gr wr B 40 F (-1) (.slice a1 n1 c1) n1 i ∧ Gr wr B 40 F (-2) (.slice a2 n2 c2) n2 0 ∧ Below B w wr)
        case atStart => exact ⟨0, by omega, by omega, rfl, hall, by simpa using g1, by simpa using g2, hbel⟩
        case round =>
          clear hall g1 g2 hbel
          obtain ⟨i, rfl, hi, rfl, hall, g1, g2, hbel⟩ := hrel
          have e0 := hall.cell (j := 0) rfl
          have e1 := hall.cell (j := 1) rfl
          by_cases hin : i < n1
          · obtain ⟨g, c, cs, he, q1, q2, q3, q4, q5, q6⟩ := g1.row (by omega)
            injection he with x1 _ x3
            subst x1 x3
            obtain ⟨u0, u1, u2, y0, y1, y2⟩ := Gr.cells3 q3 q4 hin
            have z0 := q2.cell y0
            have z1 := q2.cell y1
            have z2 := q2.cell y2
            have f0 := q2.free (i * 3)
            have f1 := q2.free (i * 3 + 1)
            have f2 := q2.free (i * 3 + 2)
            have hne : g ≠ w.heap.size := by rintro rfl; exact absurd (blk_inj q2 hall).1 (by decide)
            have hne' : w.heap.size ≠ g := fun e => hne e.symm
            have i1 : (i : Int) < (n1 : Int) := by omega
            have HG1 := hid g1
            have HG2 := hid g2
            have HA := hid hall
            clear g1 g2 hall h1 h2 y0 y1 y2
            go_wp2_with fail
            go_region_held3 (fun w' => w'.cell? ⟨w.heap.size, 0, none⟩ = some (.slice (some ⟨g, 0, none⟩) n1 c1) ∧ w'.cell? ⟨w.heap.size, 1, none⟩ = some (.int .i64 (-1))) (go_keep) (fail)
            go_wp2
            go_roundg (n1 - (i + 1))
            case rel =>
              refine ⟨i + 1, rfl, by omega, by go_num, ?_, ?_, ?_, ?_⟩
              · exact (mark3_other HA.out i (-1) hne').drew
              · exact Gr.drew (HG1.out.next hin)
              · exact Gr.drew (HG2.out.marked (c := c1) q5 i q2 (by omega))
              · exact (mark3_below hbel g i (-1) q1).drew
            case measure => omega
          · obtain rfl : i = n1 := by omega
            clear h1 h2
            go_wp2
            go_roundg (2 - 1)
            case rel => exact ⟨1, rfl, by omega, rfl, hall, by simpa using g1, by simpa using g2, hbel⟩
            case measure => omega
      · obtain ⟨wo, rfl⟩ : ∃ wo : World, wo = wr := ⟨_, rfl⟩
        go_wp2_with fail
        go_loopg [7] n2 (fun g iv wr => ∃ i : Nat, g = n2 - i ∧ i ≤ n2 ∧ iv = .int .i64 (i : Int) ∧ Blk wr w.heap.size 61 [.slice a1 n1 c1, .int .i64 (-1), .slice a2 n2 c2, .int .i64 (-2)] ∧ Gr wr B 40 F (-1) (.slice a1 n1 c1) n1 n1 ∧ Gr wr B 40 F (-2) (.slice a2 n2 c2) n2 i ∧ Below B w wr)
        case atStart => exact ⟨0, by omega, by omega, rfl, hall, by simpa using g1, by simpa using g2, hbel⟩
        case round =>
          clear hall g1 g2 hbel
          obtain ⟨i, rfl, hi, rfl, hall, g1, g2, hbel⟩ := hrel
          have e0 := hall.cell (j := 2) rfl
          have e1 := hall.cell (j := 3) rfl
          by_cases hin : i < n2
          · obtain ⟨g, c, cs, he, q1, q2, q3, q4, q5, q6⟩ := g2.row (by omega)
            injection he with x1 _ x3
            subst x1 x3
            obtain ⟨u0, u1, u2, y0, y1, y2⟩ := Gr.cells3 q3 q4 hin
            have z0 := q2.cell y0
            have z1 := q2.cell y1
            have z2 := q2.cell y2
            have f0 := q2.free (i * 3)
            have f1 := q2.free (i * 3 + 1)
            have f2 := q2.free (i * 3 + 2)
            have hne : g ≠ w.heap.size := by rintro rfl; exact absurd (blk_inj q2 hall).1 (by decide)
            have hne' : w.heap.size ≠ g := fun e => hne e.symm
            have i1 : (i : Int) < (n2 : Int) := by omega
            have HG1 := hid g1
            have HG2 := hid g2
            have HA := hid hall
            clear g1 g2 hall h1 h2 y0 y1 y2
            go_wp2_with fail
            go_region_held3 (fun w' => w'.cell? ⟨w.heap.size, 2, none⟩ = some (.slice (some ⟨g, 0, none⟩) n2 c2) ∧ w'.cell? ⟨w.heap.size, 3, none⟩ = some (.int .i64 (-2))) (go_keep) (fail)
            go_wp2
            go_roundg (n2 - (i + 1))
            case rel =>
              refine ⟨i + 1, rfl, by omega, by go_num, ?_, ?_, ?_, ?_⟩
              · exact (mark3_other HA.out i (-2) hne').drew
              · exact Gr.drew (HG1.out.marked (c := c2) q5 i q2 (by omega))
              · exact Gr.drew (HG2.out.next hin)
              · exact (mark3_below hbel g i (-2) q1).drew
            case measure => omega
          · obtain rfl : i = n2 := by omega
            clear h1 h2
            go_wp2
            go_roundg (2 - 2)
            case rel => exact ⟨2, rfl, by omega, rfl, hall, by simpa using g1, by simpa using g2, hbel⟩
            case measure => omega
    · obtain rfl : k = 2 := by omega
      rw [if_pos (by omega)] at g1
      rw [if_pos (by omega)] at g2
      clear h1 h2
      obtain ⟨iE, he1, he2, he3, he4⟩ := info_parts infoEmixedStates
      obtain ⟨iL, hl1, hl2, hl3, hl4⟩ := info_parts infoLmixedStates
      have hszw : w.heap.size < wr.heap.size := hall.lt
      go_wp2_with fail
      obtain ⟨wo, rfl⟩ : ∃ wo : World, wo = wr := ⟨_, rfl⟩
      go_loopg [5, 8] 2 (fun g vv kv wr => ∃ (k : Nat) (E : List Ent) (F' : Nat → Int) (ga ca : Nat) (rs : List Value), g = 2 - k ∧ k ≤ 2 ∧ kv = .int .i64 (k : Int) ∧ vv = .slice (some ⟨ga, 0, none⟩) E.length ca ∧ wr.ownsRow B 61 2 (.slice (some ⟨ga, 0, none⟩) E.length ca) E.length (entCells E) ∧
        E.length = 2 + 3 * k ∧ E[0]? = some (.slice a1 n1 c1, -1, n1) ∧ E[1]? = some (.slice a2 n2 c2, -2, n2) ∧ (∀ e ∈ E, Gr wr B 40 F' e.2.1 e.1 e.2.2 e.2.2 ∧ e.2.2 ≤ 2010) ∧ Below B w wr)
      case atStart =>
        refine ⟨0, [(.slice a1 n1 c1, -1, n1), (.slice a2 n2 c2, -2, n2)], F, w.heap.size, 2, [], rfl, by omega, rfl, rfl, ?_, rfl, rfl, rfl, ?_, hbel⟩
        · exact ⟨rfl, .inr ⟨w.heap.size, 2, _, rfl, by omega, hall, Nat.le_refl _, by unfold maxLen; decide, rfl, rfl⟩⟩
        · intro e he
          simp at he
          rcases he with rfl | rfl
          · exact ⟨g1, by simp only; omega⟩
          · exact ⟨g2, by simp only; omega⟩
      case round =>
        clear hall g1 g2 hbel hszw
        obtain ⟨k, E, F', ga, ca, rs, rfl, hk, rfl, rfl, hown, hEl, hE0, hE1, hgr, hbel⟩ := hrel
        by_cases hk2 : k < 2
        · obtain ⟨ek, hek⟩ : ∃ e, E[k]? = some e := ⟨_, List.getElem?_eq_getElem (by omega)⟩
          have hkd : decide ((k : Int) < 2) = true := decide_eq_true (by omega)
          have hEa : E.length ≤ 2 + 3 * k := by omega
          have hEb : 2 + 3 * k ≤ E.length := by omega
          clear hEl
          have hkm : ek.2.2 ≤ 2000 := by
            rcases (by omega : k = 0 ∨ k = 1) with rfl | rfl
            · rw [hE0] at hek; cases hek; exact hn1
            · rw [hE1] at hek; cases hek; exact hn2
          obtain ⟨e0, e1, -⟩ := ent_cells hown hek
          have hke := (hgr ek (List.mem_of_getElem? hek)).1
          obtain ⟨ak, ck, hak⟩ := hke.form
          rw [hak] at e0 hke
          have ik : (k : Int) < (E.length : Int) := by omega
          have HOWN := hid hown
          have HGR := hid hgr
          have HKE := hid hke
          clear hown hgr hke
          go_wp2_with fail
          clear e0 e1
          obtain ⟨wp, rfl⟩ : ∃ wp : World, wp = wr := ⟨_, rfl⟩
          go_loopg [5, 9, 10] 3 (fun g vv lv iv wr => ∃ (i : Nat) (E' : List Ent) (F'' : Nat → Int) (gb cb : Nat), g = 3 - i ∧ i ≤ 3 ∧ iv = .int .i64 (i : Int) ∧ vv = .slice (some ⟨gb, 0, none⟩) E'.length cb ∧ wr.ownsRow B 61 2 (.slice (some ⟨gb, 0, none⟩) E'.length cb) E'.length (entCells E') ∧
            E'.length = 2 + 3 * k + i ∧ E'[0]? = some (.slice a1 n1 c1, -1, n1) ∧ E'[1]? = some (.slice a2 n2 c2, -2, n2) ∧ E'[k]? = some ek ∧ (∀ e ∈ E', Gr wr B 40 F'' e.2.1 e.1 e.2.2 e.2.2 ∧ e.2.2 ≤ 2010) ∧ Gr wr B 40 F'' ek.2.1 lv (ek.2.2 + i) (ek.2.2 + i) ∧ Below B w wr)
          case atStart => exact ⟨0, E, F', ga, ca, rfl, by omega, rfl, rfl, HOWN.out, by omega, hE0, hE1, hek, HGR.out, HKE.out, hbel⟩
          case round =>
            clear HOWN HGR HKE hbel hE0 hE1 hek ik hEa hEb
            obtain ⟨i, E', F'', gb, cb, rfl, hi, rfl, rfl, hown, hEl, hE0, hE1, hek, hgr, hlv, hbel⟩ := hrel
            have hsz := hbel.size
            have hEa : E'.length ≤ 2 + 3 * k + i := by omega
            have hEb : 2 + 3 * k + i ≤ E'.length := by omega
            clear hEl
            obtain ⟨e0, e1, bc, hbc⟩ := ent_cells hown hek
            have ik : (k : Int) < (E'.length : Int) := by omega
            by_cases hi3 : i < 3
            · have HGR := hid hgr
              have HE0 := hid hE0
              have HE1 := hid hE1
              have HEK := hid hek
              clear hgr hE0 hE1 hek e0
              go_wp2_with (first | (at_builtin; refine wpList_append_fam _ rfl (.tmp 58) (.tmp 65) 27 rfl 40 iE _ Try.underlying27 he1 he2 he3 he4 rfl B F'' ek.2.1 _ (ek.2.2 + i) rfl (hlv.alloc _) (by omega) (by simp; omega) ⟨wr.heap.size, 0, none⟩ 1 rfl (three_new _ _ _ _ _) ?_))
              intro v' w1 hstep
              obtain ⟨F3, hv', hpres, hkeep, hbelS, hszS⟩ := hstep
              obtain ⟨g', c', cs', hvv, -⟩ := hv'.row (by omega)
              rw [hvv]
              rw [hvv] at hv'
              clear hvv
              have hown1 : w1.ownsRow B 61 2 (.slice (some ⟨gb, 0, none⟩) E'.length cb) E'.length (entCells E') := owns_keep (hown.alloc _) (fun g cs h => hkeep g 61 cs (by decide) h)
              have hbel1 : Below B w w1 := (hbel.alloc (by omega) _).trans hbelS
              obtain ⟨-, e1', bc', hbc'⟩ := ent_cells hown1 HEK.out
              have hsz1 : wr.heap.size + 1 ≤ w1.heap.size := by simpa using hszS
              have HV := hid hv'
              have HP := hid hpres
              clear hown hpres hkeep hbelS hszS e1 hlv hbc hv' hbel
              go_wp2_with (first | (at_builtin; refine wpList_append_own _ rfl (.tmp 67) (.tmp 75) 62 rfl B 61 iL _ 2 32 Try.underlying62 hl1 hl2 hl3 hl4 rfl (by decide) _ _ _ rfl (hown1.alloc _) ⟨w1.heap.size, 0, none⟩ 1 1 [.slice (some ⟨g', 0, none⟩) (ek.2.2 + i + 1) c', .int .i64 ek.2.1] rfl rfl (two_new _ _ _ _) (two_one _ _ _ _) (by unfold maxLen; omega) (by omega) (by simp; omega) ?_))
              intro v2 w2 hown2 hgrow _
              have hkp : ∀ g cs, Blk w1 g 40 cs → Blk w2 g 40 cs := by
                intro g cs hb
                refine grown_blk hgrow (hb.alloc _) ?_
                intro e
                have e : gb = g := by simpa [Value.ownBlock] using e
                subst e
                exact absurd (blk_inj hb hbc').1 (by decide)
              have hbel2 : Below B w w2 := (hbel1.alloc (by omega) _).grown hgrow (by simp; omega) (fun j hj => (hown1.lt j hj).1)
              have hlen : (E' ++ [((.slice (some ⟨g', 0, none⟩) (ek.2.2 + i + 1) c', ek.2.1, ek.2.2 + i + 1) : Ent)]).length = E'.length + 1 := by simp
              have hown3 : w2.ownsRow B 61 2 v2 (E' ++ [((.slice (some ⟨g', 0, none⟩) (ek.2.2 + i + 1) c', ek.2.1, ek.2.2 + i + 1) : Ent)]).length (entCells (E' ++ [((.slice (some ⟨g', 0, none⟩) (ek.2.2 + i + 1) c', ek.2.1, ek.2.2 + i + 1) : Ent)])) := by
                rw [hlen, entCells_snoc]
                exact hown2
              obtain ⟨g2, c2', cs2, hv2, -⟩ := owns_slice hown3 (by omega)
              rw [hv2]
              rw [hv2] at hown3
              have HO := hid hown3
              clear hown3 hown2 hgrow hown1 hv2
              go_wp2
              go_roundg (3 - (i + 1))
              case rel =>
                refine ⟨i + 1, _, F3, g2, c2', rfl, by omega, by go_num, rfl, HO.out, by omega, ?_, ?_, ?_, ?_, ?_, hbel2⟩
                · rw [List.getElem?_append_left (by omega)]; exact HE0.out
                · rw [List.getElem?_append_left (by omega)]; exact HE1.out
                · rw [List.getElem?_append_left (by omega)]; exact HEK.out
                · intro e he
                  rw [List.mem_append] at he
                  rcases he with he | he
                  · obtain ⟨q1, q2⟩ := HGR.out e he
                    exact ⟨(HP.out _ _ _ _ (q1.alloc _)).keep hkp (fun _ _ => rfl), q2⟩
                  · simp at he
                    subst he
                    exact ⟨HV.out.keep hkp (fun _ _ => rfl), by simp only; omega⟩
                · exact HV.out.keep hkp (fun _ _ => rfl)
              case measure => omega
            · obtain rfl : i = 3 := by omega
              clear e0 e1
              go_wp2
              go_roundg (2 - (k + 1))
              case rel => exact ⟨k + 1, E', F'', gb, cb, [], rfl, by omega, by go_num, rfl, hown, by omega, hE0, hE1, hgr, hbel⟩
              case measure => omega
        · obtain rfl : k = 2 := by omega
          have h8a : E.length ≤ 8 := by omega
          have h8b : 8 ≤ E.length := by omega
          have HOWN := hid hown
          have HGR := hid hgr
          clear hE0 hE1 hown hgr hEl
          go_wp2_with fail
          obtain ⟨wp, rfl⟩ : ∃ wp : World, wp = wr := ⟨_, rfl⟩
          go_loopg [11] 8 (fun g kv wr => ∃ t : Nat, g = 8 - t ∧ t ≤ 8 ∧ kv = .int .i64 (t : Int) ∧ ∃ q, wr = wp.drewN q)
          case atStart => exact ⟨0, by omega, by omega, rfl, 0, rfl⟩
          case round =>
            obtain ⟨t, rfl, ht, rfl, q, hwr⟩ := hrel
            subst hwr
            by_cases ht8 : t < 8
            · obtain ⟨et, het⟩ : ∃ e, E[t]? = some e := ⟨_, List.getElem?_eq_getElem (by omega)⟩
              obtain ⟨e0, e1, -⟩ := ent_cells HOWN.out het
              obtain ⟨hge, hgn⟩ := HGR.out et (List.mem_of_getElem? het)
              obtain ⟨at', ct, hat⟩ := hge.form
              rw [hat] at e0 hge
              have itd : decide ((t : Int) < (E.length : Int)) = true := decide_eq_true (by omega)
              have it : (t : Int) < (E.length : Int) := by omega
              have HGE := hid hge
              clear hge het
              obtain ⟨vt, mt, nt⟩ := et
              simp only at e0 e1 HGE hgn hat
              go_wp2_with fail
              go_loopg [12] nt (fun g iv wr => ∃ i : Nat, g = nt - i ∧ i ≤ nt ∧ iv = .int .i64 (i : Int) ∧ ∃ q, wr = wp.drewN q)
              case atStart => exact ⟨0, by omega, by omega, rfl, q, rfl⟩
              case round =>
                obtain ⟨i, rfl, hi, rfl, q', hwr⟩ := hrel
                subst hwr
                by_cases hin : i < nt
                · obtain ⟨g, c, cs, he, q1, q2, q3, q4, q5, q6⟩ := HGE.out.row (by omega)
                  injection he with x1 _ x3
                  subst x1 x3
                  obtain ⟨m0, m1, m2⟩ := q6 i hin
                  have z0 := q2.cell m0
                  have z1 := q2.cell m1
                  have z2 := q2.cell m2
                  have i1 : (i : Int) < (nt : Int) := by omega
                  clear m0 m1 m2 q6 q2 q3
                  go_wp2_with fail
                  go_quiet (fail)
                  go_wp2
                  go_roundg (nt - (i + 1))
                  case rel => exact ⟨i + 1, rfl, by omega, by go_num, _, rfl⟩
                  case measure => omega
                · go_wp2
                  go_roundg (8 - (t + 1))
                  case rel => exact ⟨t + 1, rfl, by omega, by go_num, _, rfl⟩
                  case measure => omega
            · have itd : decide ((t : Int) < (E.length : Int)) = false := decide_eq_false (by omega)
              go_wp2
              go_ret
              exact ⟨rfl, below_drewN hbel _⟩
end Go.Proofs.Ytbhemchnjpajiaa

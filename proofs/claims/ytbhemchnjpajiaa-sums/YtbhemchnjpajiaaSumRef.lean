/- The document's check sum, walked: it answers SM.sum of the string's bytes, and nothing that was there has turned; condition: a string of at most maxLen bytes. -/
import Derived.Test.YtbhemchnjpajiaaSumWalks
import Derived.Deep.LoopGhost
import Derived.Deep.RegionWith
namespace Go.Proofs.Ytbhemchnjpajiaa
open Go.RowKit
set_option linter.unusedVariables false

/-- Four integers in block B. -/
def Arr (W : World) (B : Nat) (v : Nat → Int) : Prop := ∀ j, j < 4 → W.cell? ⟨B, j, none⟩ = some (.int .i64 (v j)) ∧ W.frozen? ⟨B, j, none⟩ = false

theorem Arr.put {W : World} {B : Nat} {v v' : Nat → Int} (h : Arr W B v) (i : Nat) (x : Int) (hi : i < 4) (hx : v' i = x) (ho : ∀ t, t ≠ i → v' t = v t) : Arr (W.setCell ⟨B, i, none⟩ (.int .i64 x)) B v' := by
  intro j hj
  obtain ⟨hc, hf⟩ := h j hj
  obtain ⟨hci, hfi⟩ := h i hi
  by_cases e : j = i
  · subst e
    refine ⟨?_, by simpa using hf⟩
    rw [hx]
    exact World.cell?_setCell_same _ _ _ hci
  · refine ⟨?_, by simpa using hf⟩
    rw [ho j e, World.cell?_setCell_other _ _ _ _ (fun h => e (by have := congrArg Addr.off h; exact this.symm))]
    exact hc

set_option maxHeartbeats 1000000 in
theorem rsum_long (s : ByteArray) (w : World) (hs : s.size ≤ 140737488355328) (h16 : 16 ≤ s.size) :
    Calls Try.prog 9 #[.string s] w fun e w' => e = .returned (.int .u32 (SM.sum s.data.toList)) ∧ Below w.heap.size w w' := by
  have h16' : decide ((16 : Int) ≤ (s.size : Int)) = true := by simp; omega
  go_enter Try.func9, Try.ntmps9
  go_wp2_with fail
  go_loopg [5] s.size (fun g av wr => ∃ i : Nat, g = s.size - 16 * i ∧ 16 * i ≤ s.size ∧ av = .int .i64 (16 * (i : Int)) ∧ Arr wr w.heap.size (SM.stripe s.data.toList i).get ∧ Below w.heap.size w wr ∧ wr.heap.size = w.heap.size + 1)
  case atStart =>
    refine ⟨0, by omega, by omega, rfl, ?_, (Below.refl _ _).alloc (Nat.le_refl _) _, by simp⟩
    intro j hj
    rcases (by omega : j = 0 ∨ j = 1 ∨ j = 2 ∨ j = 3) with rfl | rfl | rfl | rfl <;> simp [SM.stripe, SM.Four.get, go_sem]
  case round =>
    obtain ⟨i, rfl, hi, rfl, harr, hbel, hsz⟩ := hrel
    by_cases hlt : 16 * i + 16 ≤ s.size
    · have hlt' : decide (16 * (i : Int) + 16 ≤ (s.size : Int)) = true := by simp; omega
      go_wp2_with fail
      obtain ⟨wo, rfl⟩ : ∃ wo : World, wo = wr := ⟨_, rfl⟩
      go_loopg [7] 4 (fun g jv wr => ∃ j : Nat, g = 4 - j ∧ j ≤ 4 ∧ jv = .int .i64 (j : Int) ∧ Arr wr w.heap.size (SM.half s.data.toList i j) ∧ Below w.heap.size w wr ∧ wr.heap.size = w.heap.size + 1)
      case atStart => exact ⟨0, by omega, by omega, rfl, fun j hj => by rw [SM.half_zero]; exact harr j hj, hbel, hsz⟩
      case round =>
        clear hbel harr hsz
        obtain ⟨j, rfl, hj, rfl, harr, hbel, hsz⟩ := hrel
        by_cases hlj : j < 4
        · have hb := SM.half_bound s.data.toList i j j
          obtain ⟨hc, hfz⟩ := harr j hlj
          have harr' : Hid _ := harr
          clear harr
          have hn := SM.num4_bound (s.data.toList.drop (16 * i + 4 * j))
          have hj0 : (0 : Int) ≤ (j : Int) := by omega
          have hj4 : (j : Int) < 4 := by omega
          have ht1 := SM.tm_bound (SM.num4 (s.data.toList.drop (16 * i + 4 * j))) 2246822519
          have hr := SM.rl_bound ((SM.half s.data.toList i j j + SM.tm (SM.num4 (s.data.toList.drop (16 * i + 4 * j))) 2246822519) % 4294967296) 13 (by unfold SM.Turns; decide) (by omega) (by omega)
          have hwr : IntKind.i64.wrap (SM.half s.data.toList i j j + SM.tm (SM.num4 (s.data.toList.drop (16 * i + 4 * j))) 2246822519) = SM.half s.data.toList i j j + SM.tm (SM.num4 (s.data.toList.drop (16 * i + 4 * j))) 2246822519 := by
            rw [IntWalk.i64_left, IntWalk.wrap64_in _ (by omega)]
          have hmd : (SM.half s.data.toList i j j + SM.tm (SM.num4 (s.data.toList.drop (16 * i + 4 * j))) 2246822519).tmod 4294967296 = (SM.half s.data.toList i j j + SM.tm (SM.num4 (s.data.toList.drop (16 * i + 4 * j))) 2246822519) % 4294967296 := Int.tmod_eq_emod_of_nonneg (by omega)
          go_wp2_with fail
          refine (rnumber_any s _ _ (by omega) (by omega) (by unfold maxLen; omega)).mono ?_
          rintro e w1 ⟨rfl, rfl⟩
          rw [show (16 * (i : Int) + 4 * (j : Int)).toNat = 16 * i + 4 * j by omega]
          go_wp2_with fail
          go_region_with
            (first | (go_at_call 28; refine (times_any _ _ _ ?_ ?_ ?_ ?_).mono ?_; omega; omega; omega; omega; rintro e w' ⟨rfl, rfl⟩) | (go_at_call 29; refine (turn_any _ _ _ ?_ ?_ ?_).mono ?_; (unfold SM.Turns; decide); omega; omega; rintro e w' ⟨rfl, rfl⟩))
          all_goals go_wp2
          all_goals
            go_roundg (4 - (j + 1))
            case rel =>
              refine ⟨j + 1, rfl, by omega, by go_num, ?_, ?_, ?_⟩
              · exact Arr.put harr'.out j _ hlj (SM.half_at s.data.toList i j hlj).symm (fun t ht => SM.half_ne s.data.toList i j t ht)
              · exact (hbel.setCell (Nat.le_refl _) _).drew
              · simpa using hsz
            case measure => omega
        · obtain rfl : j = 4 := by omega
          have harr' : Hid _ := harr
          clear harr
          go_wp2
          go_roundg (s.size - 16 * (i + 1))
          case rel => exact ⟨i + 1, rfl, by omega, by go_num, fun t ht => by rw [← SM.half_four _ _ t ht]; exact harr'.out t ht, hbel, hsz⟩
          case measure => omega
    · have hge : s.size < 16 * i + 16 := by omega
      have hge' : decide (16 * (i : Int) + 16 ≤ (s.size : Int)) = false := by simp; omega
      obtain ⟨c0, -⟩ := harr 0 (by omega)
      obtain ⟨c1, -⟩ := harr 1 (by omega)
      obtain ⟨c2, -⟩ := harr 2 (by omega)
      obtain ⟨c3, -⟩ := harr 3 (by omega)
      clear harr
      obtain ⟨ba, bb, bc, bd⟩ := SM.stripe_ok s.data.toList i
      simp only [SM.Four.get] at c0 c1 c2 c3
      generalize hF : SM.stripe s.data.toList i = F at *
      obtain ⟨fa, fb, fc, fd⟩ := F
      simp only at c0 c1 c2 c3 ba bb bc bd
      have HF : Hid _ := hF
      clear hF
      have ra := SM.rl_bound fa 1 (by unfold SM.Turns; decide) ba.1 ba.2
      have rb := SM.rl_bound fb 7 (by unfold SM.Turns; decide) bb.1 bb.2
      have rc := SM.rl_bound fc 12 (by unfold SM.Turns; decide) bc.1 bc.2
      have rd := SM.rl_bound fd 18 (by unfold SM.Turns; decide) bd.1 bd.2
      go_wp2_with fail
      go_quiet ((go_at_call 29; refine Calls.quiet_of_same (turn_any _ _ _ ?_ ?_ ?_); (unfold SM.Turns; decide); omega; omega))
      go_wp2_with fail
      obtain ⟨X, eX, hX, HS⟩ : ∃ X : Int, ((SM.rl fa 1 + SM.rl fb 7 + SM.rl fc 12 + SM.rl fd 18) % 4294967296 + (s.size : Int)) % 4294967296 = X ∧ (0 ≤ X ∧ X ≤ 4294967295) ∧ Hid (SM.sum s.data.toList = SM.fin (SM.tl X (s.data.toList.drop (16 * i)))) := by
        refine ⟨_, rfl, by omega, ?_⟩
        have e := SM.sum_long s h16
        rw [show s.size / 16 = i by omega, SM.cut_data] at e
        rw [Hid, e, HF.out]
        rfl
      rw [eX]
      clear eX HF ra rb rc rd ba bb bc bd c0 c1 c2 c3 hge' hlt h16'
      have hQ : 16 * i ≤ s.size := hi
      clear hi
      generalize hWW : wr.drewN nq = WW
      have hBW : Below w.heap.size w WW := by rw [← hWW]; exact below_drewN hbel _
      clear hWW hbel hsz
      go_loopg [4, 5] s.size (fun g hv av wr => ∃ k : Nat, g = s.size - 4 * k ∧ 16 * i + 4 * k ≤ s.size ∧ hv = .int .i64 (SM.by4 X (s.data.toList.drop (16 * i)) k) ∧ av = .int .i64 (16 * (i : Int) + 4 * (k : Int)) ∧ wr = WW)
      case atStart => exact ⟨0, by omega, by omega, rfl, val_int (by omega), rfl⟩
      case round =>
        obtain ⟨k, rfl, hk, rfl, rfl, hwr⟩ := hrel
        subst hwr
        have hb := SM.by4_bound X (s.data.toList.drop (16 * i)) hX k
        by_cases hlt : 16 * i + 4 * k + 4 ≤ s.size
        · have hn := SM.num4_bound (s.data.toList.drop (16 * i + 4 * k))
          go_wp2_with fail
          refine (rnumber_any s _ _ (by omega) (by omega) (by unfold maxLen; omega)).mono ?_
          rintro e w1 ⟨rfl, rfl⟩
          rw [show (16 * (i : Int) + 4 * (k : Int)).toNat = 16 * i + 4 * k by omega]
          go_wp2_with fail
          refine (times_any _ _ _ (by omega) (by omega) (by omega) (by omega)).mono ?_
          rintro e w1 ⟨rfl, rfl⟩
          have ht := SM.tm_bound (SM.num4 (s.data.toList.drop (16 * i + 4 * k))) 3266489917
          go_wp2_with fail
          refine (turn_any _ _ _ (by unfold SM.Turns; decide) (by omega) (by omega)).mono ?_
          rintro e w1 ⟨rfl, rfl⟩
          have hr := SM.rl_bound ((SM.by4 X (s.data.toList.drop (16 * i)) k + SM.tm (SM.num4 (s.data.toList.drop (16 * i + 4 * k))) 3266489917) % 4294967296) 17 (by unfold SM.Turns; decide) (by omega) (by omega)
          go_wp2_with fail
          refine (times_any _ _ _ (by omega) (by omega) (by omega) (by omega)).mono ?_
          rintro e w1 ⟨rfl, rfl⟩
          go_wp2
          go_roundg (s.size - 4 * (k + 1))
          case rel => exact ⟨k + 1, rfl, by omega, val_int (SM.by4_next X s.data.toList (16 * i) k), val_int (by omega), rfl⟩
          case measure => omega
        · have hge4 : s.size < 16 * i + 4 * k + 4 := by omega
          have hge4' : decide (16 * (i : Int) + 4 * (k : Int) + 4 ≤ (s.size : Int)) = false := by simp; omega
          clear hlt
          go_wp2_with fail
          go_loopg [4, 5] s.size (fun g hv av wx => ∃ t : Nat, g = s.size - t ∧ 16 * i + 4 * k + t ≤ s.size ∧ hv = .int .i64 (SM.by1 (SM.by4 X (s.data.toList.drop (16 * i)) k) (s.data.toList.drop (16 * i + 4 * k)) t) ∧ av = .int .i64 (16 * (i : Int) + 4 * (k : Int) + (t : Int)) ∧ wx = wr)
          case atStart => exact ⟨0, by omega, by omega, rfl, val_int (by omega), rfl⟩
          case round =>
            obtain ⟨t, rfl, ht, rfl, rfl, hwr⟩ := hrel
            subst hwr
            have hb1 := SM.by1_bound (SM.by4 X (s.data.toList.drop (16 * i)) k) (s.data.toList.drop (16 * i + 4 * k)) hb t
            by_cases hlt : 16 * i + 4 * k + t < s.size
            · have hg : Hid _ := SM.byteAt_get s (16 * i + 4 * k + t) (by omega)
              have hbb := SM.byteAt_bound s (16 * i + 4 * k + t)
              go_wp2_with fail
              rw [hg.out, IntWalk.wrap64_in (SM.byteAt s (16 * i + 4 * k + t)) (by omega)]
              refine (times_any _ _ _ (by omega) (by omega) (by omega) (by omega)).mono ?_
              rintro e w1 ⟨rfl, rfl⟩
              have ht1 := SM.tm_bound (SM.byteAt s (16 * i + 4 * k + t)) 374761393
              go_wp2_with fail
              refine (turn_any _ _ _ (by unfold SM.Turns; decide) (by omega) (by omega)).mono ?_
              rintro e w1 ⟨rfl, rfl⟩
              have hr := SM.rl_bound ((SM.by1 (SM.by4 X (s.data.toList.drop (16 * i)) k) (s.data.toList.drop (16 * i + 4 * k)) t + SM.tm (SM.byteAt s (16 * i + 4 * k + t)) 374761393) % 4294967296) 11 (by unfold SM.Turns; decide) (by omega) (by omega)
              go_wp2_with fail
              refine (times_any _ _ _ (by omega) (by omega) (by omega) (by omega)).mono ?_
              rintro e w1 ⟨rfl, rfl⟩
              go_wp2
              go_roundg (s.size - (t + 1))
              case rel => exact ⟨t + 1, rfl, by omega, val_int (SM.by1_next _ s (16 * i + 4 * k) t), val_int (by omega), rfl⟩
              case measure => omega
            · have HT : Hid (SM.tl X (s.data.toList.drop (16 * i)) = SM.by1 (SM.by4 X (s.data.toList.drop (16 * i)) k) (s.data.toList.drop (16 * i + 4 * k)) t) := SM.tl_is X s (16 * i) k t (by omega) (by omega)
              obtain ⟨x1, y1, -, -, -, -⟩ := SM.fin_refs _ hb1
              go_wp2_with fail
              refine (times_any _ _ _ (by omega) (by omega) (by omega) (by omega)).mono ?_
              rintro e w1 ⟨rfl, rfl⟩
              generalize hA : SM.tm (SM.xr (SM.by1 (SM.by4 X (s.data.toList.drop (16 * i)) k) (s.data.toList.drop (16 * i + 4 * k)) t) (SM.by1 (SM.by4 X (s.data.toList.drop (16 * i)) k) (s.data.toList.drop (16 * i + 4 * k)) t / 32768)) 2246822519 = A
              have hAb : 0 ≤ A ∧ A ≤ 4294967295 := by rw [← hA]; exact SM.tm_bound _ _
              have HA : Hid _ := hA
              clear hA
              obtain ⟨-, -, x2, y2, -, -⟩ := SM.fin_refs _ hAb
              go_wp2_with fail
              refine (times_any _ _ _ (by omega) (by omega) (by omega) (by omega)).mono ?_
              rintro e w1 ⟨rfl, rfl⟩
              generalize hC : SM.tm (SM.xr A (A / 8192)) 3266489917 = C
              have hCb : 0 ≤ C ∧ C ≤ 4294967295 := by rw [← hC]; exact SM.tm_bound _ _
              have HC : Hid _ := hC
              clear hC
              obtain ⟨-, -, -, -, x3, y3⟩ := SM.fin_refs _ hCb
              go_wp2
              go_ret
              refine ⟨?_, hBW⟩
              rw [HS.out, HT.out, SM.fin]
              dsimp only
              rw [HA.out, HC.out]
              rfl

set_option maxHeartbeats 1000000 in
theorem rsum_short (s : ByteArray) (w : World) (hs : s.size ≤ 140737488355328) (h16 : ¬ 16 ≤ s.size) :
    Calls Try.prog 9 #[.string s] w fun e w' => e = .returned (.int .u32 (SM.sum s.data.toList)) ∧ Below w.heap.size w w' := by
  go_enter Try.func9, Try.ntmps9
  go_wp2_with fail
  obtain ⟨X, eX, hX, HS⟩ : ∃ X : Int, 374761393 + (s.size : Int) = X ∧ (0 ≤ X ∧ X ≤ 4294967295) ∧ Hid (SM.sum s.data.toList = SM.fin (SM.tl X (s.data.toList.drop (16 * 0)))) := by
    refine ⟨_, rfl, by omega, ?_⟩
    rw [Hid, SM.sum_short s h16]
    rfl
  rw [eX]
  clear eX
  have hQ : 16 * 0 ≤ s.size := by omega
  have hge : s.size < 16 * 0 + 16 := by omega
  have hBW : Below w.heap.size w w := Below.refl _ _
  obtain ⟨QQ, HQQ⟩ : ∃ n : Nat, Hid (n = 0) := ⟨0, rfl⟩
  rw [← HQQ.out] at HS hQ hge
  go_loopg [4, 5] s.size (fun g hv av wr => ∃ k : Nat, g = s.size - 4 * k ∧ 16 * QQ + 4 * k ≤ s.size ∧ hv = .int .i64 (SM.by4 X (s.data.toList.drop (16 * QQ)) k) ∧ av = .int .i64 (16 * (QQ : Int) + 4 * (k : Int)) ∧ wr = w)
  case atStart => exact ⟨0, by omega, by omega, val_int (by show X % 4294967296 = X; omega), val_int (by have := HQQ.out; omega), rfl⟩
  case round =>
    obtain ⟨k, rfl, hk, rfl, rfl, hwr⟩ := hrel
    subst hwr
    have hb := SM.by4_bound X (s.data.toList.drop (16 * QQ)) hX k
    by_cases hlt : 16 * QQ + 4 * k + 4 ≤ s.size
    · have hn := SM.num4_bound (s.data.toList.drop (16 * QQ + 4 * k))
      go_wp2_with fail
      refine (rnumber_any s _ _ (by omega) (by omega) (by unfold maxLen; omega)).mono ?_
      rintro e w1 ⟨rfl, rfl⟩
      rw [show (16 * (QQ : Int) + 4 * (k : Int)).toNat = 16 * QQ + 4 * k by omega]
      go_wp2_with fail
      refine (times_any _ _ _ (by omega) (by omega) (by omega) (by omega)).mono ?_
      rintro e w1 ⟨rfl, rfl⟩
      have ht := SM.tm_bound (SM.num4 (s.data.toList.drop (16 * QQ + 4 * k))) 3266489917
      go_wp2_with fail
      refine (turn_any _ _ _ (by unfold SM.Turns; decide) (by omega) (by omega)).mono ?_
      rintro e w1 ⟨rfl, rfl⟩
      have hr := SM.rl_bound ((SM.by4 X (s.data.toList.drop (16 * QQ)) k + SM.tm (SM.num4 (s.data.toList.drop (16 * QQ + 4 * k))) 3266489917) % 4294967296) 17 (by unfold SM.Turns; decide) (by omega) (by omega)
      go_wp2_with fail
      refine (times_any _ _ _ (by omega) (by omega) (by omega) (by omega)).mono ?_
      rintro e w1 ⟨rfl, rfl⟩
      go_wp2
      go_roundg (s.size - 4 * (k + 1))
      case rel => exact ⟨k + 1, rfl, by omega, val_int (SM.by4_next X s.data.toList (16 * QQ) k), val_int (by omega), rfl⟩
      case measure => omega
    · have hge4 : s.size < 16 * QQ + 4 * k + 4 := by omega
      have hge4' : decide (16 * (QQ : Int) + 4 * (k : Int) + 4 ≤ (s.size : Int)) = false := by simp; omega
      clear hlt
      go_wp2_with fail
      go_loopg [4, 5] s.size (fun g hv av wx => ∃ t : Nat, g = s.size - t ∧ 16 * QQ + 4 * k + t ≤ s.size ∧ hv = .int .i64 (SM.by1 (SM.by4 X (s.data.toList.drop (16 * QQ)) k) (s.data.toList.drop (16 * QQ + 4 * k)) t) ∧ av = .int .i64 (16 * (QQ : Int) + 4 * (k : Int) + (t : Int)) ∧ wx = wr)
      case atStart => exact ⟨0, by omega, by omega, rfl, val_int (by omega), rfl⟩
      case round =>
        obtain ⟨t, rfl, ht, rfl, rfl, hwr⟩ := hrel
        subst hwr
        have hb1 := SM.by1_bound (SM.by4 X (s.data.toList.drop (16 * QQ)) k) (s.data.toList.drop (16 * QQ + 4 * k)) hb t
        by_cases hlt : 16 * QQ + 4 * k + t < s.size
        · have hg : Hid _ := SM.byteAt_get s (16 * QQ + 4 * k + t) (by omega)
          have hbb := SM.byteAt_bound s (16 * QQ + 4 * k + t)
          go_wp2_with fail
          rw [hg.out, IntWalk.wrap64_in (SM.byteAt s (16 * QQ + 4 * k + t)) (by omega)]
          refine (times_any _ _ _ (by omega) (by omega) (by omega) (by omega)).mono ?_
          rintro e w1 ⟨rfl, rfl⟩
          have ht1 := SM.tm_bound (SM.byteAt s (16 * QQ + 4 * k + t)) 374761393
          go_wp2_with fail
          refine (turn_any _ _ _ (by unfold SM.Turns; decide) (by omega) (by omega)).mono ?_
          rintro e w1 ⟨rfl, rfl⟩
          have hr := SM.rl_bound ((SM.by1 (SM.by4 X (s.data.toList.drop (16 * QQ)) k) (s.data.toList.drop (16 * QQ + 4 * k)) t + SM.tm (SM.byteAt s (16 * QQ + 4 * k + t)) 374761393) % 4294967296) 11 (by unfold SM.Turns; decide) (by omega) (by omega)
          go_wp2_with fail
          refine (times_any _ _ _ (by omega) (by omega) (by omega) (by omega)).mono ?_
          rintro e w1 ⟨rfl, rfl⟩
          go_wp2
          go_roundg (s.size - (t + 1))
          case rel => exact ⟨t + 1, rfl, by omega, val_int (SM.by1_next _ s (16 * QQ + 4 * k) t), val_int (by omega), rfl⟩
          case measure => omega
        · have HT : Hid (SM.tl X (s.data.toList.drop (16 * QQ)) = SM.by1 (SM.by4 X (s.data.toList.drop (16 * QQ)) k) (s.data.toList.drop (16 * QQ + 4 * k)) t) := SM.tl_is X s (16 * QQ) k t (by omega) (by omega)
          obtain ⟨x1, y1, -, -, -, -⟩ := SM.fin_refs _ hb1
          go_wp2_with fail
          refine (times_any _ _ _ (by omega) (by omega) (by omega) (by omega)).mono ?_
          rintro e w1 ⟨rfl, rfl⟩
          generalize hA : SM.tm (SM.xr (SM.by1 (SM.by4 X (s.data.toList.drop (16 * QQ)) k) (s.data.toList.drop (16 * QQ + 4 * k)) t) (SM.by1 (SM.by4 X (s.data.toList.drop (16 * QQ)) k) (s.data.toList.drop (16 * QQ + 4 * k)) t / 32768)) 2246822519 = A
          have hAb : 0 ≤ A ∧ A ≤ 4294967295 := by rw [← hA]; exact SM.tm_bound _ _
          have HA : Hid _ := hA
          clear hA
          obtain ⟨-, -, x2, y2, -, -⟩ := SM.fin_refs _ hAb
          go_wp2_with fail
          refine (times_any _ _ _ (by omega) (by omega) (by omega) (by omega)).mono ?_
          rintro e w1 ⟨rfl, rfl⟩
          generalize hC : SM.tm (SM.xr A (A / 8192)) 3266489917 = C
          have hCb : 0 ≤ C ∧ C ≤ 4294967295 := by rw [← hC]; exact SM.tm_bound _ _
          have HC : Hid _ := hC
          clear hC
          obtain ⟨-, -, -, -, x3, y3⟩ := SM.fin_refs _ hCb
          go_wp2
          go_ret
          refine ⟨?_, hBW⟩
          rw [HS.out, HT.out, SM.fin]
          dsimp only
          rw [HA.out, HC.out]
          rfl

theorem rsum_any (s : ByteArray) (w : World) (hs : s.size ≤ 140737488355328) :
    Calls Try.prog 9 #[.string s] w fun e w' => e = .returned (.int .u32 (SM.sum s.data.toList)) ∧ Below w.heap.size w w' := by
  by_cases h : 16 ≤ s.size
  · exact rsum_long s w hs h
  · exact rsum_short s w hs h
end Go.Proofs.Ytbhemchnjpajiaa

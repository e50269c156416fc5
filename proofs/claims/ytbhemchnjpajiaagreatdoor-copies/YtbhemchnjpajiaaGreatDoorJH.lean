/- Several texts in one: PrWin, RefRun, PrMach, PrFr1, PrStr. -/
import Derived.Test.YtbhemchnjpajiaaGreatDoorJF
import Derived.Test.YtbhemchnjpajiaaGreatDoorJG
import Derived.Test.YtbhemchnjpajiaaGreatDoorJA
/- The window of a frame (package window): New, Add, walked. -/
namespace Go.Proofs.YtbhemchnjpajiaaGreatDoor
open Go.RowKit
set_option linter.unusedVariables false

set_option maxRecDepth 100000 in
set_option maxHeartbeats 1000000 in
theorem winNew_any (n : Int) (d : RD.Bytes) (w : World) (hd : d.length ≤ 1048576) :
    Calls Tryz.prog 105 #[.int .i64 n, .string (RD.bs d)] w fun e w' => ∃ v, e = .returned (.agg #[.int .i64 n, v]) ∧ Row8 w.heap.size w' v d ∧ Below w.heap.size w w' := by
  obtain ⟨v, w1, hr, hR, hb⟩ := row_of_string (w.alloc (.cells #[.int .i64 0, .slice none 0 0] 140)) d (by omega)
  obtain ⟨a, c, rfl, h1, h2, h3⟩ := hR.form
  have hN : Blk w1 w.heap.size 140 [.int .i64 0, .slice none 0 0] := (Blk.new w 140 [.int .i64 0, .slice none 0 0]).below hb (by simp)
  have c0 := hN.cell (j := 0) rfl
  have c1 := hN.cell (j := 1) rfl
  have fz := hN.free
  have hbw : Below w.heap.size w w1 := ((Below.refl _ w).alloc (Nat.le_refl _) _).trans ⟨hb.os, hb.tape, hb.output, hb.size, fun k hk => hb.block k (by simp; omega)⟩
  go_enter Tryz.func105, Tryz.ntmps105
  go_wp2_with fail
  have hN2 := (hN.put 0 (.int .i64 n)).put 1 (.slice a (List.length d) c)
  have hO : Only (· = w.heap.size) w1 ((w1.setCell ⟨w.heap.size, 0, none⟩ (.int .i64 n)).setCell ⟨w.heap.size, 1, none⟩ (.slice a (List.length d) c)) := ((Only.refl (· = w.heap.size) w1).setCell ⟨w.heap.size, 0, none⟩ _ (fun _ => rfl)).setCell ⟨w.heap.size, 1, none⟩ _ (fun _ => rfl)
  generalize (w1.setCell ⟨w.heap.size, 0, none⟩ (.int .i64 n)).setCell ⟨w.heap.size, 1, none⟩ (.slice a (List.length d) c) = w2 at *
  have z0 := hN2.cell (j := 0) rfl
  have z1 := hN2.cell (j := 1) rfl
  refine bodyPost_ret (v := .agg #[.int .i64 n, .slice a (List.length d) c]) (by simp [results, Tryz.results105, go_sem, z0, z1]) rfl ?_
  refine ⟨_, rfl, (hR.only hO (fun k hk e => ?_)).base (by simp), hbw.trans ⟨hO.os, hO.tape, hO.output, hO.size, fun k hk => hO.block k (by have := hbw.size; omega) (by omega)⟩⟩
  have := (hR.blk hk).1
  simp at this
  omega

def keepL (n : Nat) (l : RD.Bytes) : RD.Bytes := l.drop (l.length - n)
set_option maxRecDepth 100000 in
set_option maxHeartbeats 1000000 in
theorem winAdd_any (B g o : Nat) (t : TypeId) (gs : List Value) (n : Nat) (v : Value) (l c : RD.Bytes) (w : World) (hG : Blk w g t gs) (h0 : gs[o]? = some (.int .i64 n)) (h1 : gs[o + 1]? = some v) (hR : Row8 B w v l) (hl : l.length ≤ 1048576) (hc : c.length ≤ 1048576) (hn : 0 < n ∧ n ≤ 1048576) (hB : B ≤ w.heap.size) (ht : t ≠ 5) :
    Calls Tryz.prog 108 #[.pointer (some ⟨g, o, none⟩), .string (RD.bs c)] w fun e w' => e = .returned (.tuple #[]) ∧ ∃ v', Row8 B w' v' (keepL n (l ++ c)) ∧ Blk w' g t (gs.set (o + 1) v') ∧ Only (fun k => k = g ∨ v.ownBlock = some k) w w' ∧ (v'.ownBlock = v.ownBlock ∨ ∃ k, v'.ownBlock = some k ∧ w.heap.size ≤ k) := by
  obtain ⟨a, cc, rfl, q1, q2, q3⟩ := hR.form
  have c0 := hG.cell h0
  have c1 := hG.cell h1
  have fz := hG.free
  obtain ⟨v1, w1, hr1, hp1⟩ := run_append8 B 9 36 w _ _ l c hR (src_text w c) (by omega) hB
  go_enter Tryz.func108, Tryz.ntmps108
  obtain ⟨hR1, hO1, hat1⟩ := hp1
  have hG1 := hG.only hO1 (fun e => (hR.blk e).2.ne hG ht rfl)
  obtain ⟨a1, cc1, rfl, p1, p2, p3⟩ := hR1.form
  have d0 := hG1.cell h0
  have d1 := hG1.cell h1
  have fz1 := hG1.free
  go_wp2_with (at_builtin; refine wpList_append_run rfl _ _ 36 9 rfl _ _ _ w1 rfl rfl hr1 ?_)
  have hG2 := hG1.put (o + 1) (.slice a1 (List.length (l ++ c)) cc1)
  have hO2 : Only (fun k => k = g ∨ (Value.slice a (List.length l) cc).ownBlock = some k) w (w1.setCell ⟨g, o + 1, none⟩ (.slice a1 (List.length (l ++ c)) cc1)) := (hO1.weaken (fun _ _ e => .inr e)).setCell _ _ (fun _ => .inl rfl)
  have hR2 : Row8 B (w1.setCell ⟨g, o + 1, none⟩ (.slice a1 (List.length (l ++ c)) cc1)) (.slice a1 (List.length (l ++ c)) cc1) (l ++ c) := hR1.only ((Only.refl (· = g) _).setCell _ _ (fun _ => rfl)) (fun k hk e => (hR1.blk hk).2.ne hG1 ht e)
  have hLC : Hid (l.length + c.length = (l ++ c).length) := by rw [Hid]; simp
  rw [hLC.out]
  have hsz : w.heap.size ≤ (w1.setCell ⟨g, o + 1, none⟩ (.slice a1 (List.length (l ++ c)) cc1)).heap.size := hO2.size
  generalize w1.setCell ⟨g, o + 1, none⟩ (.slice a1 (List.length (l ++ c)) cc1) = w2 at *
  have x1 : (gs.set (o + 1) (.slice a1 (List.length (l ++ c)) cc1))[o + 1]? = some (.slice a1 (List.length (l ++ c)) cc1) := by rw [List.getElem?_set_self (List.getElem?_eq_some_iff.1 h1).1]
  have x0 : (gs.set (o + 1) (.slice a1 (List.length (l ++ c)) cc1))[o]? = some (.int .i64 n) := by rw [List.getElem?_set_ne (by omega)]; exact h0
  have e0 := hG2.cell x0
  have e1 := hG2.cell x1
  have fz2 := hG2.free
  have hLb : (l ++ c).length ≤ 2097152 := by rw [← hLC.out]; omega
  clear d0 d1 fz1 c0 c1 fz hr1 hLC p3 hR1 q3
  generalize hLe : l ++ c = L at *
  replace hLe := hid' hLe
  by_cases hbig : n < L.length
  · obtain ⟨g1, off1, rfl, hb1, hu1⟩ : ∃ g1 off1, a1 = some ⟨g1, off1, none⟩ ∧ B ≤ g1 ∧ U8 w2 g1 := by
      obtain ⟨_, _, e, -, -, h | h⟩ := hR2.form
      · rw [h.2.1] at hbig; simp at hbig
      · injection e with e1 _ _
        rw [e1]; exact h
    obtain ⟨k, hk⟩ : ∃ k, k = L.length - n := ⟨_, rfl⟩
    have hk1 : (L.length : Int) - n = (k : Nat) := by omega
    have hkL : k ≤ L.length := by omega
    have hk0 : 0 < k := by omega
    have hkd : L.length - k = n := by omega
    have hrun : ∀ W : World, W.heap = w2.heap → ∃ v' w', (Builtin.append_ #[36, 36] 36 #[.slice (some ⟨g1, off1, none⟩) 0 cc1, .slice (some ⟨g1, off1 + k, none⟩) n (cc1 - k)]).run Tryz.prog W = .ok v' w' ∧ ∃ a3 c3, v' = .slice a3 n c3 ∧ AppPost B (.slice (some ⟨g1, off1, none⟩) 0 cc1) (L.drop k) W (.slice a3 n c3) w' ∧
        w'.cell? ⟨g, o + 1, none⟩ = some (.slice (some ⟨g1, off1, none⟩) L.length cc1) ∧ (∀ j, w'.frozen? ⟨g, j, none⟩ = false) ∧ Blk w' g t (gs.set (o + 1) (.slice (some ⟨g1, off1, none⟩) L.length cc1)) := fun W hW => by
      have h1 := (hR2.same hW).take 0 (by omega)
      have h2 := (hR2.same hW).drop k hkL
      rw [List.take_zero] at h1
      have := run_append8 B 36 36 W _ (.slice (some ⟨g1, off1 + k, none⟩) n (cc1 - k)) [] (L.drop k) h1 (by
        have := src_row W g1 (off1 + k) (cc1 - k) (L.drop k) (fun i hi => h2.cells i hi)
        rw [List.length_drop, hkd] at this ⊢
        exact this) (by simp; omega) (by rw [hW]; have := hO2.size; omega)
      rw [List.nil_append] at this
      obtain ⟨v', w', hr, hR3, hO3, hat3⟩ := this
      obtain ⟨a3, c3, rfl, _, _, _⟩ := hR3.form
      have hGW : Blk W g t (gs.set (o + 1) (.slice (some ⟨g1, off1, none⟩) L.length cc1)) := by unfold Blk; rw [hW]; exact hG2
      have hG3 := hGW.only hO3 (fun e => ((hR2.same hW).blk (k := g) e).2.ne hGW ht rfl)
      rw [List.length_drop, hkd] at *
      exact ⟨_, w', hr, a3, c3, rfl, ⟨hR3, hO3, hat3⟩, hG3.cell x1, hG3.free, hG3⟩
    have hkeep : Hid (keepL n L = L.drop k) := by rw [Hid, keepL, hk]
    replace hk := hid' hk
    have hkc : k ≤ cc1 := by omega
    have hcne : ¬ cc1 = k := by omega
    have hK1 : ¬ ((k : Int) < 0) := by omega
    have hK2 : (k : Int) ≤ (L.length : Int) := by omega
    have hK3 : (0 : Int) ≤ (cc1 : Int) := by omega
    go_quiet (fail)
    go_wp2_with fail
    go_region_law (refine step_append_ex rfl (.tmp 31) (.tmp 37) 36 36 rfl (.slice (some ⟨g1, off1, none⟩) 0 cc1) (.slice (some ⟨g1, off1 + k, none⟩) n (cc1 - k)) (by simp [Act.eval, Act.put]) (by simp [Act.eval, Act.put]) (hrun _ rfl) ?_; rintro _ w3 ⟨a3, c3, rfl, hp3, f1, f2, hG3⟩)
    all_goals
      go_end0
      obtain ⟨hR3, hO3, hat3⟩ := hp3
      have hR4 : Row8 B (w3.setCell ⟨g, o + 1, none⟩ (.slice a3 n c3)) (.slice a3 n c3) (L.drop k) := hR3.only ((Only.refl (· = g) _).setCell ⟨g, o + 1, none⟩ _ (fun _ => rfl)) (fun j hj e => (hR3.blk hj).2.ne hG3 ht e)
      refine ⟨rfl, .slice a3 n c3, by rw [hLe.out, hkeep.out]; exact hR4, ?_, ?_, ?_⟩
      · have := hG3.put (o + 1) (.slice a3 n c3)
        rw [List.set_set] at this
        exact this
      · have hO3' : Only (fun j => j = g ∨ (Value.slice a l.length cc).ownBlock = some j) w w3 := by
          refine ⟨hO3.os.trans hO2.os, hO3.tape.trans hO2.tape, hO3.output.trans hO2.output, Nat.le_trans hO2.size hO3.size, fun j hj hn => ?_⟩
          have e1 := hO2.block j hj hn
          have hj2 : j < w2.heap.size := Nat.lt_of_lt_of_le hj hO2.size
          refine (hO3.block j hj2 (fun e => ?_)).trans e1
          rcases hat1 with hat1 | hat1
          · exact hn (.inr (hat1.symm.trans e))
          · have : some j = some w.heap.size := e.symm.trans hat1
            injection this with this
            omega
        exact hO3'.setCell ⟨g, o + 1, none⟩ _ (fun _ => .inl rfl)
      · rcases hat3 with hat3 | hat3
        · rcases hat1 with hat1 | hat1
          · exact .inl (hat3.trans hat1)
          · exact .inr ⟨_, hat3.trans hat1, Nat.le_refl _⟩
        · exact .inr ⟨_, hat3, hO2.size⟩
  · go_quiet (fail)
    go_wp2_with fail
    go_end0
    have hkeep : keepL n L = L := by rw [keepL, show L.length - n = 0 by omega, List.drop_zero]
    refine ⟨rfl, .slice a1 L.length cc1, by rw [hLe.out, hkeep]; exact hR2, hG2, hO2.drewN _, ?_⟩
    rcases hat1 with hat1 | hat1
    · exact .inl hat1
    · exact .inr ⟨_, hat1, Nat.le_refl _⟩
end Go.Proofs.YtbhemchnjpajiaaGreatDoor

/- The steps of a stream: they go on alike when more follows, each takes bytes off, and they come to one end. Plain lemmas. -/
namespace Go.Proofs.YtbhemchnjpajiaaGreatDoor.RD
open Go

theorem at_app {l : Bytes} (t : Bytes) {i : Nat} (h : i < l.length) : at' (l ++ t) i = at' l i := by
  unfold at'
  rw [List.getD_eq_getElem?_getD, List.getElem?_append_left h, List.getD_eq_getElem?_getD]
theorem take_app {l : Bytes} (t : Bytes) {n : Nat} (h : n ≤ l.length) : (l ++ t).take n = l.take n := List.take_append_of_le_length h
theorem drop_app {l : Bytes} (t : Bytes) {n : Nat} (h : n ≤ l.length) : (l ++ t).drop n = l.drop n ++ t := List.drop_append_of_le_length h
theorem cut_app {l : Bytes} (t : Bytes) {k n : Nat} (h : k + n ≤ l.length) : ((l ++ t).drop k).take n = (l.drop k).take n := by
  rw [drop_app t (by omega), take_app t (by simp; omega)]

def Res.map {α β : Type} (g : α → β) : Res α → Res β
  | .wants => .wants
  | .err e => .err e
  | .ok a => .ok (g a)

theorem header_app (c : Cfg) (l t : Bytes) (h : header c l ≠ .wants) : header c (l ++ t) = (header c l).map fun r => (r.1, r.2 ++ t) := by
  by_cases h0 : l.length = 0
  · exact absurd (by unfold header; rw [if_pos h0]) h
  by_cases hn : l.length < 1 + at' l 0 / 32 % 2 + 3 * (at' l 0 / 16 % 2)
  · exact absurd (by unfold header; rw [if_neg h0]; simp only []; rw [if_pos hn]) h
  have ha := at_app (l := l) t (i := 0) (by omega)
  unfold header
  simp only [ha]
  rw [if_neg h0, if_neg hn, if_neg (by rw [List.length_append]; omega), if_neg (by rw [List.length_append]; omega)]
  by_cases h64 : 64 ≤ at' l 0
  · rw [if_pos h64, if_pos h64]; rfl
  rw [if_neg h64, if_neg h64]
  split
  · rfl
  have hd := drop_app (l := l) t (n := 1 + at' l 0 / 32 % 2 + 3 * (at' l 0 / 16 % 2)) (by omega)
  have h1 : at' l 0 / 32 % 2 = 1 → at' (l ++ t) 1 = at' l 1 := fun e => at_app t (by omega)
  have hN : at' l 0 / 16 % 2 = 1 → ((l ++ t).drop (1 + at' l 0 / 32 % 2 + 3 * (at' l 0 / 16 % 2) - 3)).take 3 = (l.drop (1 + at' l 0 / 32 % 2 + 3 * (at' l 0 / 16 % 2) - 3)).take 3 := fun e => cut_app t (by omega)
  rw [hd]
  rcases (by omega : at' l 0 / 32 % 2 = 0 ∨ at' l 0 / 32 % 2 = 1) with e5 | e5 <;> rcases (by omega : at' l 0 / 16 % 2 = 0 ∨ at' l 0 / 16 % 2 = 1) with e4 | e4
  · simp [e5, e4, Res.map]
  · have := hN e4
    simp only [e5, e4] at this ⊢
    rw [show 1 + 0 + 3 * 1 - 3 = 1 from rfl, List.drop_one, List.drop_one] at this
    simp [this, Res.map]
  · have := h1 e5
    simp only [e5, e4, this] at *
    split <;> simp [*, Res.map]
  · have a := hN e4
    have b := h1 e5
    simp only [e5, e4, b] at a ⊢
    split <;> simp [*, Res.map]

theorem block_app (f : Fr) (l t : Bytes) (h : block f l ≠ .wants) : block f (l ++ t) = (block f l).map fun r => (r.1, r.2.1, r.2.2.1 ++ t, r.2.2.2) := by
  by_cases h2 : l.length < 2
  · exact absurd (by unfold block; rw [if_pos h2]) h
  have ha := take_app (l := l) t (n := 2) (by omega)
  unfold block at h ⊢
  simp only [ha]
  rw [if_neg h2] at h
  rw [if_neg h2, if_neg (by simp; omega)]
  by_cases hk : num (l.take 2) / 2 % 4 = 3 ∨ 1024 < num (l.take 2) / 8
  · rw [if_pos hk, if_pos hk]; rfl
  simp only [] at h
  rw [if_neg hk] at h
  rw [if_neg hk, if_neg hk]
  generalize (if num (l.take 2) / 2 % 4 = 1 then 1 else num (l.take 2) / 8) = n at *
  by_cases hn : l.length < 2 + n
  · rw [if_pos hn] at h
    exact absurd rfl h
  rw [if_neg hn, if_neg (by simp; omega), cut_app t (by omega), drop_app t (by omega)]
  split
  · rfl
  · split <;> rfl

def St.more (s : St) (t : Bytes) : St := { s with left := s.left ++ t }
theorem step_app (c : Cfg) (s : St) (t : Bytes) (h : step c s ≠ .wants) : step c (s.more t) = (step c s).map fun u => u.more t := by
  obtain ⟨fr, ph, f, l, text⟩ := s
  cases ph with
  | letters =>
    unfold step St.more at *
    simp only [] at h ⊢
    by_cases h4 : l.length < 4
    · rw [if_pos h4] at h; exact absurd rfl h
    rw [if_neg h4, if_neg (by simp; omega), take_app t (by omega), drop_app t (by omega)]
    split
    · rfl
    · split <;> rfl
  | skip =>
    unfold step St.more at *
    simp only [] at h ⊢
    by_cases h4 : l.length < 3 ∨ l.length < 3 + num (l.take 3)
    · rw [if_pos h4] at h; exact absurd rfl h
    rw [take_app t (by omega)]
    rw [if_neg h4, if_neg (by simp; omega), drop_app t (by omega)]
    rfl
  | header =>
    unfold step St.more at *
    simp only [] at h ⊢
    have hh : header c l ≠ .wants := fun e => h (by rw [e])
    rw [header_app c l t hh]
    cases hx : header c l with
    | wants => exact absurd hx hh
    | err e => rfl
    | ok r => rfl
  | blocks =>
    unfold step St.more at *
    simp only [] at h ⊢
    have hh : block f l ≠ .wants := fun e => h (by rw [e])
    rw [block_app f l t hh]
    cases hx : block f l with
    | wants => exact absurd hx hh
    | err e => rfl
    | ok r =>
      obtain ⟨last, f', l', x⟩ := r
      simp only [Res.map]
      split
      · rfl
      · split <;> rfl
  | sum =>
    unfold step St.more at *
    simp only [] at h ⊢
    by_cases h4 : l.length < 4
    · rw [if_pos h4] at h; exact absurd rfl h
    rw [if_neg h4, if_neg (by simp; omega), take_app t (by omega), drop_app t (by omega)]
    split <;> rfl

theorem header_less {c : Cfg} {l : Bytes} {r : Fr × Bytes} (h : header c l = .ok r) : r.2.length < l.length := by
  unfold header at h
  split at h
  · cases h
  · simp only [] at h
    split at h
    · cases h
    · split at h
      · cases h
      · split at h
        · cases h
        · split at h
          · cases h
          · cases h
            simp only [List.length_drop]
            omega
theorem block_less {f : Fr} {l : Bytes} {r : Bool × Fr × Bytes × Bytes} (h : block f l = .ok r) : r.2.2.1.length + 2 ≤ l.length ∧ r.2.2.2.length ≤ 1024 ∧ r.2.1.text = f.text ++ r.2.2.2 ∧ r.2.1.blocks = f.blocks + 1 := by
  unfold block at h
  by_cases h2 : l.length < 2
  · rw [if_pos h2] at h; cases h
  rw [if_neg h2] at h
  simp only [] at h
  by_cases hk : num (l.take 2) / 2 % 4 = 3 ∨ 1024 < num (l.take 2) / 8
  · rw [if_pos hk] at h; cases h
  rw [if_neg hk] at h
  generalize (if num (l.take 2) / 2 % 4 = 1 then 1 else num (l.take 2) / 8) = n at *
  by_cases hn : l.length < 2 + n
  · rw [if_pos hn] at h; cases h
  rw [if_neg hn] at h
  cases hi : inner f (num (l.take 2) / 2 % 4) (num (l.take 2) / 8) ((l.drop 2).take n) with
  | none => rw [hi] at h; cases h
  | some x =>
    obtain ⟨text, f'⟩ := x
    rw [hi] at h
    simp only [] at h
    split at h
    · cases h
    · rename_i hq
      injection h with h
      subst h
      exact ⟨by simp only [List.length_drop]; omega, by simp only []; omega, rfl, rfl⟩

/-- A step takes bytes off; what it gives is no more than 1024 bytes a byte. -/
theorem step_less {c : Cfg} {s u : St} (h : step c s = .ok u) : u.left.length < s.left.length ∧ (∃ t, u.text = s.text ++ t) ∧ u.text.length + 1024 * u.left.length ≤ s.text.length + 1024 * s.left.length := by
  obtain ⟨fr, ph, f, l, text⟩ := s
  unfold step at h
  cases ph with
  | letters =>
    simp only [] at h
    split at h
    · cases h
    · split at h
      · cases h
        simp only [List.length_drop]
        exact ⟨by omega, ⟨[], by simp⟩, by omega⟩
      · split at h
        · cases h
          simp only [List.length_drop]
          exact ⟨by omega, ⟨[], by simp⟩, by omega⟩
        · cases h
  | skip =>
    simp only [] at h
    split at h
    · cases h
    · cases h
      simp only [List.length_drop]
      exact ⟨by omega, ⟨[], by simp⟩, by omega⟩
  | header =>
    simp only [] at h
    split at h
    · cases h
    · cases h
    · rename_i f' l' hh
      have := header_less hh
      cases h
      exact ⟨this, ⟨[], by simp⟩, by simp only [] at *; omega⟩
  | blocks =>
    simp only [] at h
    split at h
    · cases h
    · cases h
    · rename_i last f' l' t hh
      obtain ⟨h1, h2, h3, h4⟩ := block_less hh
      simp only [] at h1 h2
      split at h
      · cases h
        exact ⟨by simp only []; omega, ⟨t, rfl⟩, by simp only [List.length_append]; omega⟩
      · split at h
        · cases h
          exact ⟨by simp only []; omega, ⟨t, rfl⟩, by simp only [List.length_append]; omega⟩
        · cases h
          exact ⟨by simp only []; omega, ⟨t, rfl⟩, by simp only [List.length_append]; omega⟩
  | sum =>
    simp only [] at h
    split at h
    · cases h
    · split at h
      · cases h
      · cases h
        simp only [List.length_drop]
        exact ⟨by omega, ⟨[], by simp⟩, by omega⟩

theorem Reach.trans {c : Cfg} {a b d : St} (h : Reach c a b) (k : Reach c b d) : Reach c a d := by
  induction k with
  | refl => exact h
  | tail _ e ih => exact .tail ih e
theorem Reach.one {c : Cfg} {a b : St} (h : step c a = .ok b) : Reach c a b := .tail (.refl a) h
theorem Reach.less {c : Cfg} {a b : St} (h : Reach c a b) : b.left.length ≤ a.left.length ∧ (∃ t, b.text = a.text ++ t) ∧ b.text.length + 1024 * b.left.length ≤ a.text.length + 1024 * a.left.length := by
  induction h with
  | refl => exact ⟨Nat.le_refl _, ⟨[], by simp⟩, Nat.le_refl _⟩
  | tail _ e ih =>
    obtain ⟨h1, ⟨t, h2⟩, h3⟩ := ih
    obtain ⟨k1, ⟨u, k2⟩, k3⟩ := step_less e
    exact ⟨by omega, ⟨t ++ u, by rw [k2, h2, List.append_assoc]⟩, by omega⟩
theorem Reach.more {c : Cfg} {a b : St} (h : Reach c a b) (t : Bytes) : Reach c (a.more t) (b.more t) := by
  induction h with
  | refl => exact .refl _
  | tail _ e ih =>
    refine .tail ih ?_
    rw [step_app c _ t (by rw [e]; intro x; cases x), e]
    rfl

theorem run_reach {c : Cfg} {s a : St} (h : Reach c s a) : ∀ n, s.left.length < n → ∃ m, a.left.length < m ∧ run c n s = run c m a := by
  induction h with
  | refl => exact fun n hn => ⟨n, hn, rfl⟩
  | tail _ e ih =>
    intro n hn
    obtain ⟨m, hm, hr⟩ := ih n hn
    obtain ⟨m, rfl⟩ : ∃ k, m = k + 1 := ⟨m - 1, by omega⟩
    have := (step_less e).1
    refine ⟨m, by omega, ?_⟩
    rw [hr, run, e]
theorem run_wants {c : Cfg} {s a : St} (h : Reach c s a) (hw : step c a = .wants) {n : Nat} (hn : s.left.length < n) : run c n s = (a, none) := by
  obtain ⟨m, hm, hr⟩ := run_reach h n hn
  obtain ⟨m, rfl⟩ : ∃ k, m = k + 1 := ⟨m - 1, by omega⟩
  rw [hr, run, hw]
theorem run_err {c : Cfg} {s a : St} {e : Nat} (h : Reach c s a) (hw : step c a = .err e) {n : Nat} (hn : s.left.length < n) : run c n s = (a, some e) := by
  obtain ⟨m, hm, hr⟩ := run_reach h n hn
  obtain ⟨m, rfl⟩ : ∃ k, m = k + 1 := ⟨m - 1, by omega⟩
  rw [hr, run, hw]
/-- There is an end. -/
theorem stops (c : Cfg) : ∀ (n : Nat) (s : St), s.left.length < n → ∃ a, Reach c s a ∧ (step c a = .wants ∨ ∃ e, step c a = .err e)
  | 0, _, h => absurd h (by omega)
  | n + 1, s, h => by
    cases e : step c s with
    | wants => exact ⟨s, .refl s, .inl e⟩
    | err k => exact ⟨s, .refl s, .inr ⟨k, e⟩⟩
    | ok u =>
      obtain ⟨a, h1, h2⟩ := stops c n u (by have := (step_less e).1; omega)
      exact ⟨a, (Reach.one e).trans h1, h2⟩
theorem run_same {c : Cfg} {s a : St} (h : Reach c s a) (ha : step c a = .wants ∨ ∃ e, step c a = .err e) {n : Nat} (hn : s.left.length < n) : (run c n s).1 = a := by
  rcases ha with ha | ⟨e, ha⟩
  · rw [run_wants h ha hn]
  · rw [run_err h ha hn]
/-- Two ways from one place: the one that has ended lies behind. -/
theorem Reach.end_of {c : Cfg} {s a b : St} (h : Reach c s a) (k : Reach c s b) (ha : step c a = .wants ∨ ∃ e, step c a = .err e) : Reach c b a := by
  obtain ⟨d, h1, h2⟩ := stops c (b.left.length + 1) b (by omega)
  have e1 := run_same h ha (Nat.lt_succ_self s.left.length)
  have e2 := run_same (k.trans h1) h2 (Nat.lt_succ_self s.left.length)
  rw [← e1, e2]
  exact h1

theorem told_wants {c : Cfg} {fed : Bytes} {a : St} (closed : Bool) (h : Reach c (St.start fed) a) (hw : step c a = .wants) :
    told c fed closed = (a.text, if closed then (if a.ph = .letters ∧ a.left = [] then 2 else 7) else 1, (a.frames, a.f.blocks)) := by
  unfold told
  have e := run_wants h hw (n := fed.length + 1) (by show fed.length < _; omega)
  simp only [e]
theorem told_err {c : Cfg} {fed : Bytes} {a : St} {e : Nat} (closed : Bool) (h : Reach c (St.start fed) a) (hw : step c a = .err e) :
    told c fed closed = (a.text, e, (a.frames, a.f.blocks)) := by
  unfold told
  have e' := run_err h hw (n := fed.length + 1) (by show fed.length < _; omega)
  simp only [e']
/-- What came out stays, whatever follows. -/
theorem told_more (c : Cfg) (x y : Bytes) (b d : Bool) : ∃ t, (told c (x ++ y) d).1 = (told c x b).1 ++ t := by
  obtain ⟨a, h1, h2⟩ := stops c (x.length + 1) (St.start x) (by show x.length < _; omega)
  obtain ⟨a', k1, k2⟩ := stops c ((x ++ y).length + 1) (St.start (x ++ y)) (by show (x ++ y).length < _; omega)
  have hm : Reach c (St.start (x ++ y)) (a.more y) := h1.more y
  obtain ⟨_, ⟨t, ht⟩, _⟩ := (k1.end_of hm k2).less
  refine ⟨t, ?_⟩
  have e1 : (told c x b).1 = a.text := by
    unfold told
    have e := run_same h1 h2 (n := x.length + 1) (by show x.length < _; omega)
    simp only [e]
  have e2 : (told c (x ++ y) d).1 = a'.text := by
    unfold told
    have e := run_same k1 k2 (n := (x ++ y).length + 1) (by show (x ++ y).length < _; omega)
    simp only [e]
  rw [e1, e2, ht]
  rfl
/-- A stream that has stopped with an error says the same, whatever follows. -/
theorem told_stays {c : Cfg} {x : Bytes} {a : St} {e : Nat} (h : Reach c (St.start x) a) (he : step c a = .err e) (y : Bytes) (b : Bool) : told c (x ++ y) b = (a.text, e, (a.frames, a.f.blocks)) := by
  have hm : Reach c (St.start (x ++ y)) (a.more y) := h.more y
  have hs : step c (a.more y) = .err e := by
    rw [step_app c a y (by rw [he]; intro k; cases k), he]
    rfl
  rw [told_err b hm hs]
  rfl
end Go.Proofs.YtbhemchnjpajiaaGreatDoor.RD

/- The program's reader of a stream as a plain machine of units that become whole, and how it goes with the document's steps. No condition beyond those that each row states. -/
namespace Go.Proofs.YtbhemchnjpajiaaGreatDoor
open Go
set_option linter.unusedVariables false

/-- How many bytes a header has. -/
def hlen (h : Nat) : Nat := 1 + h / 32 % 2 + 3 * (h / 16 % 2)
/-- How many bytes a unit has. -/
def unitLen (nx : Nat) (bg : RD.Bytes) (kd nm : Nat) : Nat :=
  if nx = 0 ∨ nx = 6 then 4 else if nx = 1 then 3 else if nx = 3 then (if bg = [] then 1 else hlen (RD.at' bg 0)) else if nx = 4 then 2 else if nx = 5 then (if kd = 1 then 1 else nm) else 0

/-- A stream, as the program keeps it: frames that were read, what comes next, what has come of it, bytes to be skipped, the frame, the block. -/
structure MS where
  fr : Nat
  nx : Nat
  bg : RD.Bytes
  lf : Nat
  f : RD.Fr
  lk : Bool
  kd : Nat
  nm : Nat
def MS.start : MS := ⟨0, 0, [], 0, RD.Fr.new, false, 0, 0⟩
def MS.ended (m : MS) : MS := { m with fr := m.fr + 1, nx := 0, f := RD.Fr.new }
inductive URes where
  | err (e : Nat)
  | ok (m : MS) (p : RD.Bytes)
/-- Is the size that was told against this much? -/
def Over (f : RD.Fr) (lk : Bool) (n : Nat) : Prop := 1024 < n ∨ (0 ≤ f.size ∧ (f.size < ((f.text.length + n : Nat) : Int) ∨ (lk = true ∧ ((f.text.length + n : Nat) : Int) ≠ f.size)))
instance (f : RD.Fr) (lk : Bool) (n : Nat) : Decidable (Over f lk n) := by unfold Over; exact inferInstance
/-- The frame behind a block. -/
def MS.grown (f f' : RD.Fr) (t : RD.Bytes) : RD.Fr := { f' with text := f.text ++ t, blocks := f.blocks + 1 }
/-- Behind a block. -/
def MS.behind (m : MS) (f : RD.Fr) : MS :=
  if m.lk = false then { m with nx := 4, f := f } else if f.summed then { m with nx := 6, f := f } else ({ m with f := f } : MS).ended
/-- A unit that is whole. -/
def MS.unit (c : RD.Cfg) (m : MS) (b : RD.Bytes) : URes :=
  if m.nx = 0 then (if b = RD.skipW then .ok { m with nx := 1 } [] else if b = RD.readW then .ok { m with nx := 3 } [] else .err 4)
  else if m.nx = 1 then .ok { m with nx := 2, lf := RD.num b } []
  else if m.nx = 2 then .ok m.ended []
  else if m.nx = 3 then
    match RD.header c b with
    | .ok r => .ok { m with nx := 4, f := r.1 } []
    | .err e => .err e
    | .wants => .err 0
  else if m.nx = 4 then
    if RD.num b / 2 % 4 = 3 ∨ 1024 < RD.num b / 8 then .err 4
    else .ok { m with nx := 5, lk := decide (RD.num b % 2 = 1), kd := RD.num b / 2 % 4, nm := RD.num b / 8 } []
  else if m.nx = 5 then
    match RD.inner m.f m.kd m.nm b with
    | none => .err 4
    | some r => if Over m.f m.lk r.1.length then .err 4 else .ok (m.behind (MS.grown m.f r.2 r.1)) r.1
  else (if (RD.num b : Int) ≠ SM.sum m.f.text then .err 8 else .ok m.ended [])

/-- Is this the unit that comes next, and whole? -/
def MS.whole (m : MS) (b : RD.Bytes) : Prop := b.length = unitLen m.nx b m.kd m.nm
def MS.none (m : MS) : MS := { m with bg := [] }
/-- Units one behind the other: the stream, what is left, what came out. -/
inductive MReach (c : RD.Cfg) (m0 : MS) (t0 : RD.Bytes) : MS → RD.Bytes → RD.Bytes → Prop where
  | refl : MReach c m0 t0 m0 t0 []
  | unit {m : MS} {rest out : RD.Bytes} {k : Nat} {m' : MS} {p : RD.Bytes} : MReach c m0 t0 m rest out → m.nx ≠ 2 → k ≤ rest.length → m.whole (m.bg ++ rest.take k) → m.none.unit c (m.bg ++ rest.take k) = .ok m' p → MReach c m0 t0 m' (rest.drop k) (out ++ p)
  | skip {m : MS} {rest out : RD.Bytes} : MReach c m0 t0 m rest out → m.nx = 2 → m.lf ≤ rest.length → MReach c m0 t0 ({ m with lf := 0 } : MS).ended (rest.drop m.lf) out
/-- Where it stops: the stream then, and the error. -/
inductive MEnd (c : RD.Cfg) (m : MS) (rest : RD.Bytes) : MS → Option Nat → Prop where
  | wants : m.nx ≠ 2 → (m.bg ++ rest).length < unitLen m.nx (m.bg ++ rest) m.kd m.nm → MEnd c m rest { m with bg := m.bg ++ rest } Option.none
  | wskip : m.nx = 2 → rest.length < m.lf → MEnd c m rest { m with lf := m.lf - rest.length } Option.none
  | err {k e : Nat} : m.nx ≠ 2 → k ≤ rest.length → m.whole (m.bg ++ rest.take k) → m.none.unit c (m.bg ++ rest.take k) = .err e → MEnd c m rest m (some e)

/-- The machine and the document's steps stand at the same place. -/
structure Lk (c : RD.Cfg) (fed : RD.Bytes) (m : MS) (rest out : RD.Bytes) (a : RD.St) : Prop where
  reach : RD.Reach c (RD.St.start fed) a
  fr : a.frames = m.fr
  f : a.f = m.f
  text : a.text = out
  at' : (m.nx = 0 ∧ a.ph = .letters ∧ a.left = m.bg ++ rest) ∨ (m.nx = 1 ∧ a.ph = .skip ∧ a.left = m.bg ++ rest) ∨ (m.nx = 2 ∧ m.bg = [] ∧ a.ph = .skip ∧ ∃ p, a.left = p ++ rest ∧ 3 ≤ p.length ∧ 3 + RD.num (p.take 3) = p.length + m.lf) ∨
    (m.nx = 3 ∧ a.ph = .header ∧ a.left = m.bg ++ rest) ∨ (m.nx = 4 ∧ a.ph = .blocks ∧ a.left = m.bg ++ rest) ∨
    (m.nx = 5 ∧ a.ph = .blocks ∧ ∃ p, p.length = 2 ∧ a.left = p ++ (m.bg ++ rest) ∧ m.lk = decide (RD.num p % 2 = 1) ∧ m.kd = RD.num p / 2 % 4 ∧ m.nm = RD.num p / 8 ∧ ¬ (m.kd = 3 ∨ 1024 < m.nm)) ∨ (m.nx = 6 ∧ a.ph = .sum ∧ a.left = m.bg ++ rest)

theorem Lk.start (c : RD.Cfg) : Lk c [] MS.start [] [] (RD.St.start []) := ⟨.refl _, rfl, rfl, rfl, .inl ⟨rfl, rfl, rfl⟩⟩
theorem Lk.more {c : RD.Cfg} {fed : RD.Bytes} {m : MS} {out : RD.Bytes} {a : RD.St} (h : Lk c fed m [] out a) (t : RD.Bytes) : Lk c (fed ++ t) m t out (a.more t) := by
  refine ⟨h.reach.more t, h.fr, h.f, h.text, ?_⟩
  show (_ ∧ a.ph = _ ∧ a.left ++ t = _) ∨ (_ ∧ a.ph = _ ∧ a.left ++ t = _) ∨ (_ ∧ _ ∧ a.ph = _ ∧ ∃ p, a.left ++ t = _ ∧ _) ∨ (_ ∧ a.ph = _ ∧ a.left ++ t = _) ∨ (_ ∧ a.ph = _ ∧ a.left ++ t = _) ∨ (_ ∧ a.ph = _ ∧ ∃ p, _ ∧ a.left ++ t = _ ∧ _) ∨ (_ ∧ a.ph = _ ∧ a.left ++ t = _)
  rcases h.at' with ⟨h1, h2, h3⟩ | ⟨h1, h2, h3⟩ | ⟨h1, h2, h3, p, h4, h5⟩ | ⟨h1, h2, h3⟩ | ⟨h1, h2, h3⟩ | ⟨h1, h2, p, h3, h4, h5⟩ | ⟨h1, h2, h3⟩
  · exact .inl ⟨h1, h2, by rw [h3, List.append_nil]⟩
  · exact .inr (.inl ⟨h1, h2, by rw [h3, List.append_nil]⟩)
  · exact .inr (.inr (.inl ⟨h1, h2, h3, p, by rw [h4, List.append_nil], h5⟩))
  · exact .inr (.inr (.inr (.inl ⟨h1, h2, by rw [h3, List.append_nil]⟩)))
  · exact .inr (.inr (.inr (.inr (.inl ⟨h1, h2, by rw [h3, List.append_nil]⟩))))
  · exact .inr (.inr (.inr (.inr (.inr (.inl ⟨h1, h2, p, h3, by rw [h4, List.append_nil, List.append_assoc], h5⟩)))))
  · exact .inr (.inr (.inr (.inr (.inr (.inr ⟨h1, h2, by rw [h3, List.append_nil]⟩)))))

theorem cut_bg {bg rest l : RD.Bytes} {k : Nat} (hk : k ≤ rest.length) (h : l = bg ++ rest) : l = (bg ++ rest.take k) ++ rest.drop k := by
  rw [h, List.append_assoc, List.take_append_drop]
/-- A header that is whole does not want. -/
theorem header_whole {c : RD.Cfg} {b : RD.Bytes} (h : b.length = unitLen 3 b 0 0) : RD.header c b ≠ .wants := by
  have hb : ¬ b = [] := fun e => by subst e; simp [unitLen] at h
  have hl : ¬ b.length = 0 := fun e => hb (List.length_eq_zero_iff.1 e)
  have hu : unitLen 3 b 0 0 = hlen (RD.at' b 0) := if_neg hb
  rw [hu, hlen] at h
  unfold RD.header
  rw [if_neg hl]
  simp only []
  rw [if_neg (by omega)]
  repeat' split
  all_goals exact fun e => by cases e
theorem header_all {c : RD.Cfg} {b : RD.Bytes} {r : RD.Fr × RD.Bytes} (h : b.length = unitLen 3 b 0 0) (hr : RD.header c b = .ok r) : r.2 = [] := by
  have hb : ¬ b = [] := fun e => by subst e; simp [unitLen] at h
  have hl : ¬ b.length = 0 := fun e => hb (List.length_eq_zero_iff.1 e)
  have hu : unitLen 3 b 0 0 = hlen (RD.at' b 0) := if_neg hb
  rw [hu, hlen] at h
  unfold RD.header at hr
  rw [if_neg hl] at hr
  simp only [] at hr
  rw [if_neg (by omega)] at hr
  repeat' split at hr
  all_goals cases hr
  all_goals (simp only []; rw [← h, List.drop_length])
theorem block_of {f : RD.Fr} {p b rest : RD.Bytes} {kd nm : Nat} (hp : p.length = 2) (hk : kd = RD.num p / 2 % 4) (hm : nm = RD.num p / 8) (hok : ¬ (kd = 3 ∨ 1024 < nm)) (hb : b.length = unitLen 5 b kd nm) :
    RD.block f (p ++ (b ++ rest)) = match RD.inner f kd nm b with
      | none => .err 4
      | some r => if Over f (decide (RD.num p % 2 = 1)) r.1.length then .err 4 else .ok (decide (RD.num p % 2 = 1), MS.grown f r.2 r.1, rest, r.1) := by
  have hu : unitLen 5 b kd nm = if kd = 1 then 1 else nm := rfl
  rw [hu] at hb
  have ht : (p ++ (b ++ rest)).take 2 = p := by rw [List.take_append_of_le_length (by omega), List.take_of_length_le (by omega)]
  have hd : (p ++ (b ++ rest)).drop 2 = b ++ rest := by rw [← hp, List.drop_left]
  unfold RD.block
  rw [if_neg (by rw [List.length_append]; omega)]
  simp only [ht, hd]
  rw [← hk, ← hm, if_neg hok, ← hb, if_neg (by rw [List.length_append, List.length_append]; omega), List.take_left, show (p ++ (b ++ rest)).drop (2 + b.length) = rest by rw [← List.drop_drop, hd, List.drop_left]]
  cases RD.inner f kd nm b with
  | none => rfl
  | some r =>
    simp only []
    unfold Over
    simp only [decide_eq_true_eq]
    rfl

theorem Lk.unit {c : RD.Cfg} {fed : RD.Bytes} {m : MS} {rest out : RD.Bytes} {a : RD.St} (h : Lk c fed m rest out a) {k : Nat} (h2 : m.nx ≠ 2) (hk : k ≤ rest.length) (hw : m.whole (m.bg ++ rest.take k)) :
    (∀ m' p, m.none.unit c (m.bg ++ rest.take k) = .ok m' p → ∃ a', Lk c fed m' (rest.drop k) (out ++ p) a') ∧ ∀ e, m.none.unit c (m.bg ++ rest.take k) = .err e → RD.step c a = .err e := by
  obtain ⟨fr, ph, f, left, text⟩ := a
  obtain ⟨mfr, nx, bg, lf, mf, lk, kd, nm⟩ := m
  obtain ⟨hr, h1, h3, h4, hat⟩ := h
  simp only at h1 h3 h4 hat h2 hk
  subst h1 h3 h4
  generalize hbd : bg ++ rest.take k = b at *
  have hw : b.length = unitLen nx b kd nm := hw
  have hcut : ∀ l, l = bg ++ rest → l = b ++ rest.drop k := fun l hl => by rw [← hbd]; exact cut_bg hk hl
  rcases hat with ⟨rfl, rfl, hl⟩ | ⟨rfl, rfl, hl⟩ | ⟨e, _⟩ | ⟨rfl, rfl, hl⟩ | ⟨rfl, rfl, hl⟩ | ⟨rfl, rfl, p, hp, hl, e1, e2, e3, e4⟩ | ⟨rfl, rfl, hl⟩
  · have hl := hcut _ hl
    have hw4 : b.length = 4 := hw
    have hst : RD.step c ⟨fr, .letters, f, left, text⟩ = if b = RD.skipW then .ok ⟨fr, .skip, f, rest.drop k, text⟩ else if b = RD.readW then .ok ⟨fr, .header, f, rest.drop k, text⟩ else .err 4 := by
      subst hl
      unfold RD.step
      simp only []
      rw [if_neg (by rw [List.length_append]; omega), ← hw4, List.take_left, List.drop_left]
    have hu : (MS.none ⟨fr, 0, bg, lf, f, lk, kd, nm⟩).unit c b = if b = RD.skipW then .ok ⟨fr, 1, [], lf, f, lk, kd, nm⟩ [] else if b = RD.readW then .ok ⟨fr, 3, [], lf, f, lk, kd, nm⟩ [] else .err 4 := rfl
    rw [hu, hst]
    by_cases k1 : b = RD.skipW
    · rw [if_pos k1, if_pos k1]
      rw [if_pos k1] at hst
      refine ⟨fun m' p e => ?_, fun e he => by cases he⟩
      cases e
      exact ⟨_, .tail hr hst, rfl, rfl, by rw [List.append_nil], .inr (.inl ⟨rfl, rfl, rfl⟩)⟩
    · rw [if_neg k1, if_neg k1]
      rw [if_neg k1] at hst
      by_cases k3 : b = RD.readW
      · rw [if_pos k3, if_pos k3]
        rw [if_pos k3] at hst
        refine ⟨fun m' p e => ?_, fun e he => by cases he⟩
        cases e
        exact ⟨_, .tail hr hst, rfl, rfl, by rw [List.append_nil], .inr (.inr (.inr (.inl ⟨rfl, rfl, rfl⟩)))⟩
      · rw [if_neg k3, if_neg k3]
        exact ⟨fun m' p e => (by cases e), fun e he => by cases he; rfl⟩
  · have hl := hcut _ hl
    have hw3 : b.length = 3 := hw
    have hu : (MS.none ⟨fr, 1, bg, lf, f, lk, kd, nm⟩).unit c b = .ok ⟨fr, 2, [], RD.num b, f, lk, kd, nm⟩ [] := rfl
    rw [hu]
    refine ⟨fun m' p e => ?_, fun e he => by cases he⟩
    cases e
    refine ⟨_, hr, rfl, rfl, by rw [List.append_nil], .inr (.inr (.inl ⟨rfl, rfl, rfl, b, hl, by omega, ?_⟩))⟩
    rw [List.take_of_length_le (by omega), hw3]
  · exact absurd e h2
  · have hl := hcut _ hl
    have hw' : b.length = unitLen 3 b 0 0 := hw
    have hne := header_whole (c := c) hw'
    have hst : RD.step c ⟨fr, .header, f, left, text⟩ = match RD.header c b with
      | .wants => .wants
      | .err e => .err e
      | .ok r => .ok ⟨fr, .blocks, r.1, r.2 ++ rest.drop k, text⟩ := by
      subst hl
      unfold RD.step
      simp only []
      rw [RD.header_app c b _ hne]
      cases RD.header c b <;> rfl
    have hu : (MS.none ⟨fr, 3, bg, lf, f, lk, kd, nm⟩).unit c b = match RD.header c b with
      | .ok r => .ok ⟨fr, 4, [], lf, r.1, lk, kd, nm⟩ []
      | .err e => .err e
      | .wants => .err 0 := rfl
    rw [hu, hst]
    cases hx : RD.header c b with
    | wants => exact absurd hx hne
    | err e => exact ⟨fun m' p e => (by cases e), fun e he => by cases he; rfl⟩
    | ok r =>
      rw [hx] at hst
      have hr2 := header_all hw' hx
      refine ⟨fun m' p e => ?_, fun e he => by cases he⟩
      cases e
      exact ⟨_, .tail hr hst, rfl, rfl, by rw [List.append_nil], .inr (.inr (.inr (.inr (.inl ⟨rfl, rfl, by simp [hr2]⟩))))⟩
  · have hl := hcut _ hl
    have hw2 : b.length = 2 := hw
    have hu : (MS.none ⟨fr, 4, bg, lf, f, lk, kd, nm⟩).unit c b = if RD.num b / 2 % 4 = 3 ∨ 1024 < RD.num b / 8 then .err 4 else .ok ⟨fr, 5, [], lf, f, decide (RD.num b % 2 = 1), RD.num b / 2 % 4, RD.num b / 8⟩ [] := rfl
    rw [hu]
    by_cases hbad : RD.num b / 2 % 4 = 3 ∨ 1024 < RD.num b / 8
    · rw [if_pos hbad]
      refine ⟨fun m' p e => (by cases e), fun e he => ?_⟩
      cases he
      subst hl
      unfold RD.step RD.block
      simp only []
      have ht : (b ++ rest.drop k).take 2 = b := by rw [← hw2, List.take_left]
      rw [if_neg (by rw [List.length_append]; omega), ht, if_pos hbad]
    · rw [if_neg hbad]
      refine ⟨fun m' p e => ?_, fun e he => by cases he⟩
      cases e
      exact ⟨_, hr, rfl, rfl, by rw [List.append_nil], .inr (.inr (.inr (.inr (.inr (.inl ⟨rfl, rfl, b, hw2, by rw [hl]; rfl, rfl, rfl, rfl, hbad⟩)))))⟩
  · have hl' : left = p ++ (b ++ rest.drop k) := by rw [hl, hcut _ rfl]
    have hblk := block_of (f := f) (rest := rest.drop k) hp e2 e3 e4 hw
    rw [← hl', ← e1] at hblk
    have hu : (MS.none ⟨fr, 5, bg, lf, f, lk, kd, nm⟩).unit c b = match RD.inner f kd nm b with
      | none => .err 4
      | some r => if Over f lk r.1.length then .err 4 else .ok ((⟨fr, 5, [], lf, f, lk, kd, nm⟩ : MS).behind (MS.grown f r.2 r.1)) r.1 := rfl
    have hst : RD.step c ⟨fr, .blocks, f, left, text⟩ = match RD.block f left with
      | .wants => .wants
      | .err e => .err e
      | .ok (last, f, l, t) =>
        if last = false then .ok ⟨fr, .blocks, f, l, text ++ t⟩
        else if f.summed then .ok ⟨fr, .sum, f, l, text ++ t⟩
        else .ok ⟨fr + 1, .letters, RD.Fr.new, l, text ++ t⟩ := rfl
    rw [hblk] at hst
    rw [hu, hst]
    cases hx : RD.inner f kd nm b with
    | none => exact ⟨fun m' p e => (by cases e), fun e he => by cases he; rfl⟩
    | some r =>
      rw [hx] at hst
      simp only [] at hst ⊢
      by_cases ho : Over f lk r.1.length
      · rw [if_pos ho, if_pos ho]
        exact ⟨fun m' p e => (by cases e), fun e he => by cases he; rfl⟩
      · rw [if_neg ho, if_neg ho]
        rw [if_neg ho] at hst
        refine ⟨fun m' p e => ?_, fun e he => by cases he⟩
        cases e
        unfold MS.behind
        simp only [] at hst ⊢
        by_cases hlk : lk = false
        · rw [if_pos hlk] at hst ⊢
          exact ⟨_, .tail hr hst, rfl, rfl, rfl, .inr (.inr (.inr (.inr (.inl ⟨rfl, rfl, rfl⟩))))⟩
        · rw [if_neg hlk] at hst ⊢
          by_cases hsm : (MS.grown f r.2 r.1).summed = true
          · rw [if_pos hsm] at hst ⊢
            exact ⟨_, .tail hr hst, rfl, rfl, rfl, .inr (.inr (.inr (.inr (.inr (.inr ⟨rfl, rfl, rfl⟩)))))⟩
          · rw [if_neg hsm] at hst ⊢
            exact ⟨_, .tail hr hst, rfl, rfl, rfl, .inl ⟨rfl, rfl, rfl⟩⟩
  · have hl := hcut _ hl
    have hw4 : b.length = 4 := hw
    have hst : RD.step c ⟨fr, .sum, f, left, text⟩ = if (RD.num b : Int) ≠ SM.sum f.text then .err 8 else .ok ⟨fr + 1, .letters, RD.Fr.new, rest.drop k, text⟩ := by
      subst hl
      unfold RD.step
      simp only []
      rw [if_neg (by rw [List.length_append]; omega), ← hw4, List.take_left, List.drop_left]
    have hu : (MS.none ⟨fr, 6, bg, lf, f, lk, kd, nm⟩).unit c b = if (RD.num b : Int) ≠ SM.sum f.text then .err 8 else .ok ⟨fr + 1, 0, [], lf, RD.Fr.new, lk, kd, nm⟩ [] := rfl
    rw [hu, hst]
    by_cases ho : (RD.num b : Int) ≠ SM.sum f.text
    · rw [if_pos ho, if_pos ho]
      exact ⟨fun m' p e => (by cases e), fun e he => by cases he; rfl⟩
    · rw [if_neg ho, if_neg ho]
      rw [if_neg ho] at hst
      refine ⟨fun m' p e => ?_, fun e he => by cases he⟩
      cases e
      exact ⟨_, .tail hr hst, rfl, rfl, by rw [List.append_nil], .inl ⟨rfl, rfl, rfl⟩⟩

theorem Lk.skip {c : RD.Cfg} {fed : RD.Bytes} {m : MS} {rest out : RD.Bytes} {a : RD.St} (h : Lk c fed m rest out a) (h2 : m.nx = 2) (hk : m.lf ≤ rest.length) : ∃ a', Lk c fed ({ m with lf := 0 } : MS).ended (rest.drop m.lf) out a' := by
  obtain ⟨fr, ph, f, left, text⟩ := a
  obtain ⟨mfr, nx, bg, lf, mf, lk, kd, nm⟩ := m
  obtain ⟨hr, h1, h3, h4, hat⟩ := h
  simp only at h1 h3 h4 hat h2 hk
  subst h1 h3 h4 h2
  rcases hat with ⟨e, _⟩ | ⟨e, _⟩ | ⟨_, hbg, rfl, p, hl, hp3, hlf⟩ | ⟨e, _⟩ | ⟨e, _⟩ | ⟨e, _⟩ | ⟨e, _⟩
  all_goals first | (exfalso; exact absurd e (by decide)) | skip
  subst hbg
  have ht3 : left.take 3 = p.take 3 := by rw [hl, List.take_append_of_le_length (by omega)]
  have hlen : left.length = p.length + rest.length := by rw [hl, List.length_append]
  have hst : RD.step c ⟨fr, .skip, f, left, text⟩ = .ok ⟨fr + 1, .letters, RD.Fr.new, left.drop (3 + RD.num (left.take 3)), text⟩ := by
    unfold RD.step
    simp only []
    rw [if_neg (by rw [ht3]; omega)]
  refine ⟨_, .tail hr hst, rfl, rfl, rfl, .inl ⟨rfl, rfl, ?_⟩⟩
  show left.drop (3 + RD.num (left.take 3)) = [] ++ rest.drop lf
  rw [ht3, hlf, hl, ← List.drop_drop, List.drop_left, List.nil_append]

theorem Lk.reaches {c : RD.Cfg} {fed : RD.Bytes} {m0 : MS} {t0 out0 : RD.Bytes} {a0 : RD.St} (h : Lk c fed m0 t0 out0 a0) {m : MS} {rest out : RD.Bytes} (hr : MReach c m0 t0 m rest out) : ∃ a, Lk c fed m rest (out0 ++ out) a := by
  induction hr with
  | refl => exact ⟨a0, by rw [List.append_nil]; exact h⟩
  | unit _ h2 hk hw hu ih =>
    obtain ⟨a, ha⟩ := ih
    rw [← List.append_assoc]
    exact (ha.unit h2 hk hw).1 _ _ hu
  | skip _ h2 hk ih =>
    obtain ⟨a, ha⟩ := ih
    exact ha.skip h2 hk

theorem Lk.ends {c : RD.Cfg} {fed : RD.Bytes} {m : MS} {rest out : RD.Bytes} {a : RD.St} (h : Lk c fed m rest out a) {m' : MS} {e : Option Nat} (he : MEnd c m rest m' e) :
    (e = none → RD.step c a = .wants ∧ Lk c fed m' [] out a) ∧ ∀ n, e = some n → RD.step c a = .err n := by
  cases he with
  | err h2 hk hw hu => exact ⟨fun e => (by cases e), fun n e => by cases e; exact (h.unit h2 hk hw).2 _ hu⟩
  | wants h2 hlt =>
    refine ⟨fun _ => ?_, fun n e => by cases e⟩
    obtain ⟨fr, ph, f, left, text⟩ := a
    obtain ⟨mfr, nx, bg, lf, mf, lk, kd, nm⟩ := m
    obtain ⟨hr, h1, h3, h4, hat⟩ := h
    simp only at h1 h3 h4 hat h2 hlt
    subst h1 h3 h4
    rcases hat with ⟨rfl, rfl, hl⟩ | ⟨rfl, rfl, hl⟩ | ⟨e, _⟩ | ⟨rfl, rfl, hl⟩ | ⟨rfl, rfl, hl⟩ | ⟨rfl, rfl, p, hp, hl, e1, e2, e3, e4⟩ | ⟨rfl, rfl, hl⟩
    · rw [← hl] at hlt ⊢
      have hlt : left.length < 4 := hlt
      exact ⟨by unfold RD.step; simp only []; rw [if_pos hlt], hr, rfl, rfl, rfl, .inl ⟨rfl, rfl, by simp⟩⟩
    · rw [← hl] at hlt ⊢
      have hlt : left.length < 3 := hlt
      exact ⟨by unfold RD.step; simp only []; rw [if_pos (.inl hlt)], hr, rfl, rfl, rfl, .inr (.inl ⟨rfl, rfl, by simp⟩)⟩
    · exact absurd e h2
    · rw [← hl] at hlt ⊢
      refine ⟨?_, hr, rfl, rfl, rfl, .inr (.inr (.inr (.inl ⟨rfl, rfl, by simp⟩)))⟩
      unfold RD.step RD.header
      simp only []
      by_cases h0 : left = []
      · subst h0; rfl
      · have hu : unitLen 3 left kd nm = hlen (RD.at' left 0) := if_neg h0
        rw [hu, hlen] at hlt
        rw [if_neg (fun e => h0 (List.length_eq_zero_iff.1 e)), if_pos hlt]
    · rw [← hl] at hlt ⊢
      have hlt : left.length < 2 := hlt
      refine ⟨?_, hr, rfl, rfl, rfl, .inr (.inr (.inr (.inr (.inl ⟨rfl, rfl, by simp⟩))))⟩
      unfold RD.step RD.block
      simp only []
      rw [if_pos hlt]
    · refine ⟨?_, hr, rfl, rfl, rfl, .inr (.inr (.inr (.inr (.inr (.inl ⟨rfl, rfl, p, hp, by simpa using hl, e1, e2, e3, e4⟩)))))⟩
      have hu : unitLen 5 (bg ++ rest) kd nm = if kd = 1 then 1 else nm := rfl
      rw [hu] at hlt
      have ht : left.take 2 = p := by rw [hl, List.take_append_of_le_length (by omega), List.take_of_length_le (by omega)]
      have hll : left.length = 2 + (bg ++ rest).length := by rw [hl, List.length_append, hp]
      unfold RD.step RD.block
      simp only []
      rw [if_neg (by omega), ht, ← e2, ← e3, if_neg e4, if_pos (by omega)]
    · rw [← hl] at hlt ⊢
      have hlt : left.length < 4 := hlt
      exact ⟨by unfold RD.step; simp only []; rw [if_pos hlt], hr, rfl, rfl, rfl, .inr (.inr (.inr (.inr (.inr (.inr ⟨rfl, rfl, by simp⟩)))))⟩
  | wskip h2 hlt =>
    refine ⟨fun _ => ?_, fun n e => by cases e⟩
    obtain ⟨fr, ph, f, left, text⟩ := a
    obtain ⟨mfr, nx, bg, lf, mf, lk, kd, nm⟩ := m
    obtain ⟨hr, h1, h3, h4, hat⟩ := h
    simp only at h1 h3 h4 hat h2 hlt
    subst h1 h3 h4 h2
    rcases hat with ⟨e, _⟩ | ⟨e, _⟩ | ⟨_, hbg, rfl, p, hl, hp3, hlf⟩ | ⟨e, _⟩ | ⟨e, _⟩ | ⟨e, _⟩ | ⟨e, _⟩
    all_goals first | (exfalso; exact absurd e (by decide)) | skip
    subst hbg
    have ht3 : left.take 3 = p.take 3 := by rw [hl, List.take_append_of_le_length (by omega)]
    have hlen : left.length = p.length + rest.length := by rw [hl, List.length_append]
    refine ⟨?_, hr, rfl, rfl, rfl, .inr (.inr (.inl ⟨rfl, rfl, rfl, left, by simp, by omega, ?_⟩))⟩
    · unfold RD.step
      simp only []
      rw [if_pos (.inr (by rw [ht3]; omega))]
    · show 3 + RD.num (left.take 3) = left.length + (lf - rest.length)
      rw [ht3]; omega
end Go.Proofs.YtbhemchnjpajiaaGreatDoor

/- Small functions of package frames: headerLength, parseBlock, a block's length, walked. -/
namespace Go.Proofs.YtbhemchnjpajiaaGreatDoor
open Go.RowKit
set_option linter.unusedVariables false

theorem u8_and32 : ∀ h : Fin 256, bits .and .u8 (h.val : Int) 32 = ((h.val / 32 % 2 * 32 : Nat) : Int) := by decide +kernel
theorem u8_and16 : ∀ h : Fin 256, bits .and .u8 (h.val : Int) 16 = ((h.val / 16 % 2 * 16 : Nat) : Int) := by decide +kernel
theorem u8_and8 : ∀ h : Fin 256, bits .and .u8 (h.val : Int) 8 = ((h.val / 8 % 2 * 8 : Nat) : Int) := by decide +kernel
theorem u8_and7 : ∀ h : Fin 256, bits .and .u8 (h.val : Int) 7 = ((h.val % 8 : Nat) : Int) := by decide +kernel
theorem u8_and192 : ∀ h : Fin 256, bits .and .u8 (h.val : Int) 192 = ((h.val / 64 * 64 : Nat) : Int) := by decide +kernel

set_option maxRecDepth 100000 in
set_option maxHeartbeats 1000000 in
theorem headerLength_any (h : Nat) (hh : h < 256) (w : World) :
    Calls Tryz.prog 93 #[.int .u8 h] w fun e w' => e = .returned (.int .i64 (hlen h : Nat)) ∧ w' = w := by
  have h32 := u8_and32 ⟨h, hh⟩
  have h16 := u8_and16 ⟨h, hh⟩
  simp only [] at h32 h16
  go_enter Tryz.func93, Tryz.ntmps93
  by_cases k1 : h / 32 % 2 = 0 <;> by_cases k2 : h / 16 % 2 = 0
  all_goals
    go_wp2_with fail
  all_goals
    go_ret
    refine ⟨rt_int ?_, rfl⟩
    unfold hlen
    omega

def PBPost (x : Fx) (N : Nat) (w : World) (e : Ending) (w' : World) : Prop :=
  Below w.heap.size w w' ∧ (((N / 2 % 4 = 3 ∨ 1024 < N / 8) ∧ e = .returned (.tuple #[.agg #[.bool false, .int .i64 0, .int .i64 0], errV x.f])) ∨
      (¬ (N / 2 % 4 = 3 ∨ 1024 < N / 8) ∧ e = .returned (.tuple #[.agg #[.bool (decide (N % 2 = 1)), .int .i64 ((N / 2 % 4 : Nat)), .int .i64 ((N / 8 : Nat))], .nilIface])))
set_option maxRecDepth 100000 in
set_option maxHeartbeats 1000000 in
theorem parseBlock_any (x : Fx) (l : RD.Bytes) (hl : l.length = 2) (w : World) (hV : VarsAt x w) :
    Calls Tryz.prog 96 #[.string (RD.bs l)] w (PBPost x (RD.num l) w) := by
  have hN := num_small3 l 2 (by omega)
  rw [List.take_of_length_le (by omega)] at hN
  have h8 : 8 ≤ w.heap.size := Nat.le_trans hV.eight hV.size
  have cF := hV.cF
  go_enter Tryz.func96, Tryz.ntmps96
  go_wp2_with fail
  refine (snum_any l _ (by omega)).mono ?_
  rintro e w1 ⟨rfl, rfl⟩
  generalize RD.num l = N at *
  have hP : ∀ e w', PBPost x N w e w' ↔ PBPost x N w e w' := fun _ _ => Iff.rfl
  obtain ⟨K, hK⟩ : ∃ K, K = N / 2 % 4 := ⟨_, rfl⟩
  obtain ⟨M, hM⟩ : ∃ M, M = N / 8 := ⟨_, rfl⟩
  obtain ⟨L, hL⟩ : ∃ L, L = decide (N % 2 = 1) := ⟨_, rfl⟩
  have aK : bits .and .i64 ((N : Int) / 2) 3 = (K : Int) := by
    have := and_three (N / 2) (by omega)
    rw [show ((N / 2 : Nat) : Int) = (N : Int) / 2 by omega] at this
    rw [this, hK]
  have aM : (N : Int) / 8 = (M : Int) := by omega
  have aL : (bits .and .i64 (N : Int) 1 != 0) = L := by
    rw [and_one N (by omega), hL]
    rcases Nat.mod_two_eq_zero_or_one N with h | h <;> rw [h] <;> rfl
  unfold PBPost
  rw [← hK, ← hM, ← hL]
  have hKb : K < 4 := by omega
  have hMb : M ≤ 16777216 := by omega
  replace hK := hid' hK
  replace hM := hid' hM
  replace hL := hid' hL
  clear hP
  have hba : ∀ o o' : Obj, Below w.heap.size w ((w.alloc o).alloc o') := fun o o' => ((Below.refl _ w).alloc (Nat.le_refl _) _).alloc (by simp) _
  by_cases hbad : K = 3 ∨ 1024 < M
  · have hVW := hV.below (hba (.cells #[.bool false, .int .i64 0, .int .i64 0] 144) (.cells #[.bool L, .int .i64 K, .int .i64 M] 144))
    have hbW := hba (.cells #[.bool false, .int .i64 0, .int .i64 0] 144) (.cells #[.bool L, .int .i64 K, .int .i64 M] 144)
    have hR : Blk ((w.alloc (.cells #[.bool false, .int .i64 0, .int .i64 0] 144)).alloc (.cells #[.bool L, .int .i64 K, .int .i64 M] 144)) w.heap.size 144 [.bool false, .int .i64 0, .int .i64 0] := (Blk.new w _ _).alloc _
    have hK3' : ((K : Int) == 3) = true ∨ (((K : Int) == 3) = false ∧ 1024 < M) := by
      rcases hbad with h | h
      · exact .inl (by simp; omega)
      · by_cases h3 : K = 3
        · exact .inl (by simp; omega)
        · exact .inr ⟨by simp; omega, h⟩
    rcases hK3' with hK3' | ⟨hK3', hM3⟩
    all_goals
        go_wp2_with fail
        generalize (w.alloc (.cells #[.bool false, .int .i64 0, .int .i64 0] 144)).alloc (.cells #[.bool L, .int .i64 K, .int .i64 M] 144) = W at *
        have z0 := hR.cell (j := 0) rfl
        have z1 := hR.cell (j := 1) rfl
        have z2 := hR.cell (j := 2) rfl
        have fz := hR.free
        have cFW := hVW.cF
        have hbR : Hid (Below w.heap.size w W) := hbW
        obtain ⟨R, hRe⟩ : ∃ R, R = w.heap.size := ⟨_, rfl⟩
        rw [← hRe] at z0 z1 z2 fz hR h8
        rw [← hRe]
        have hg6 : ¬ 6 = R := by omega
        have hg6' : ¬ R = 6 := by omega
        replace hRe := hid' hRe
        clear hbW hba
        go_region_with fail
        all_goals
          go_wp2_with fail
          have hR2 := ((hR.put 0 (.bool false)).put 1 (.int .i64 0)).put 2 (.int .i64 0)
          have hb2 : Below w.heap.size w (((W.setCell ⟨R, 0, none⟩ (.bool false)).setCell ⟨R, 1, none⟩ (.int .i64 0)).setCell ⟨R, 2, none⟩ (.int .i64 0)) := ((hbR.out.setCell (by rw [hRe.out]; exact Nat.le_refl _) _).setCell (by rw [hRe.out]; exact Nat.le_refl _) _).setCell (by rw [hRe.out]; exact Nat.le_refl _) _
          generalize ((W.setCell ⟨R, 0, none⟩ (.bool false)).setCell ⟨R, 1, none⟩ (.int .i64 0)).setCell ⟨R, 2, none⟩ (.int .i64 0) = W2 at *
          have y0 := hR2.cell (j := 0) rfl
          have y1 := hR2.cell (j := 1) rfl
          have y2 := hR2.cell (j := 2) rfl
          refine bodyPost_ret (v := .tuple #[.agg #[.bool false, .int .i64 0, .int .i64 0], errV x.f]) (by simp [results, Tryz.results96, go_sem, y0, y1, y2]) rfl ?_
          exact ⟨below_drew hb2, .inl ⟨by rw [← hK.out, ← hM.out]; exact hbad, rfl⟩⟩
  · have hK3 : ¬ K = 3 := fun e => hbad (.inl e)
    have hM3 : M ≤ 1024 := by omega
    have hK3' : ((K : Int) == 3) = false := by simp; omega
    go_wp2_with fail
    refine bodyPost_ret (v := .tuple #[.agg #[.bool L, .int .i64 K, .int .i64 M], .nilIface]) (by simp [results, Tryz.results96, go_sem]) rfl ?_
    exact ⟨hba _ _, .inr ⟨by rw [← hK.out, ← hM.out]; exact hbad, by rw [← hK.out, ← hM.out, ← hL.out]⟩⟩

set_option maxRecDepth 100000 in
set_option maxHeartbeats 1000000 in
theorem blockLength_any (b : Bool) (kd nm : Nat) (w : World) :
    Calls Tryz.prog 94 #[.agg #[.bool b, .int .i64 kd, .int .i64 nm]] w fun e w' => e = .returned (.int .i64 (if kd = 1 then 1 else nm : Nat)) ∧ Below w.heap.size w w' := by
  have hb := (Below.refl w.heap.size w).alloc (Nat.le_refl _)
  by_cases hk : kd = 1
  · subst hk
    go_enter Tryz.func94, Tryz.ntmps94
    go_wp2_with fail
    go_ret
    exact ⟨rfl, hb _⟩
  · have hk' : ((kd : Int) == 1) = false := by simp; omega
    rw [if_neg hk]
    go_enter Tryz.func94, Tryz.ntmps94
    go_wp2_with fail
    go_ret
    exact ⟨rfl, hb _⟩
end Go.Proofs.YtbhemchnjpajiaaGreatDoor

/- Small methods of a stream (package frames): length, skip, fault, endFrame, readLetters, walked. -/
namespace Go.Proofs.YtbhemchnjpajiaaGreatDoor
open Go.RowKit
set_option linter.unusedVariables false

/-- Values laid from a place of a list on. -/
def setsAt : List Value → Nat → List Value → List Value
  | ss, _, [] => ss
  | ss, o, v :: r => setsAt (ss.set o v) (o + 1) r
theorem setsAt_length : ∀ (vs ss : List Value) (o : Nat), (setsAt ss o vs).length = ss.length
  | [], _, _ => rfl
  | v :: r, ss, o => by rw [setsAt, setsAt_length r, List.length_set]
theorem setsAt_out : ∀ (vs ss : List Value) (o j : Nat), j < o ∨ o + vs.length ≤ j → (setsAt ss o vs)[j]? = ss[j]?
  | [], _, _, _, _ => rfl
  | v :: r, ss, o, j, h => by
    rw [List.length_cons] at h
    rw [setsAt, setsAt_out r _ _ _ (by omega), List.getElem?_set_ne (by omega)]
theorem setsAt_in : ∀ (vs ss : List Value) (o j : Nat), o + vs.length ≤ ss.length → j < vs.length → (setsAt ss o vs)[o + j]? = vs[j]?
  | [], _, _, _, _, h => by simp at h
  | v :: r, ss, o, 0, h, _ => by
    rw [List.length_cons] at h
    rw [setsAt, setsAt_out r _ _ _ (by omega), Nat.add_zero, List.getElem?_set_self (by omega)]
    rfl
  | v :: r, ss, o, j + 1, h, hj => by
    rw [List.length_cons] at h hj
    rw [setsAt, show o + (j + 1) = o + 1 + j by omega, setsAt_in r _ _ _ (by rw [List.length_set]; omega) (by omega)]
    rfl
attribute [local irreducible] setsAt
theorem get_some {l : List Value} {i : Nat} (h : i < l.length) : ∃ z, l[i]? = some z := ⟨_, List.getElem?_eq_getElem h⟩
theorem Blk.puts {g : Nat} {t : TypeId} : ∀ (vs : List Value) (w : World) (ss : List Value) (o : Nat), Blk w g t ss → Blk (w.setCells g o vs) g t (setsAt ss o vs)
  | [], w, ss, o, h => by rw [setsAt]; exact h
  | v :: r, w, ss, o, h => by rw [setsAt]; exact Blk.puts r _ _ _ (h.put o v)
theorem Blk.there {w : World} {g : Nat} {t : TypeId} {ss : List Value} (h : Blk w g t ss) {o n : Nat} (hn : o + n ≤ ss.length) : w.there g o n := fun j hj =>
  ⟨by rw [h.cell (List.getElem?_eq_getElem (show o + j < ss.length by omega))]; rfl, h.free _⟩
theorem Blk.range {w : World} {g : Nat} {t : TypeId} {ss : List Value} (h : Blk w g t ss) {o : Nat} {cs : List Value} (hc : ∀ j v, cs[j]? = some v → ss[o + j]? = some v) : w.rangeAt g o cs := fun j v hv => h.cell (hc j v hv)

/-- A struct stored into a block of which all is known. -/
theorem wpList_store_blk {P : Program} {ops : Array Oper} {rest : List Oper} {op : Oper} {a : Act} {w : World} {Q : Exit → Act → World → Prop} {S : Nat} {t : TypeId} {ss : List Value} (hgd : op.guard = none) (ty : TypeId) (x y : Operand) (ho : op.op = .store ty x y)
    (o : Nat) (cells : Array Value) (hx : a.eval x = .pointer (some ⟨S, o, none⟩)) (hy : a.eval y = .agg cells)
    (hB : Blk w S t ss) (hn : o + cells.size ≤ ss.length) (hi : (P.info? ty).map (·.size) = some cells.size) (h1 : cells.all (·.oneCell') = true)
    (h : ∀ W, Blk W S t (setsAt ss o cells.toList) → Only (· = S) w W → wpList P ops Q rest (a.put op.dst undef) W) : wpList P ops Q (op :: rest) a w :=
  wpList_store_mid hgd ty x y ho S o cells hx hy (hB.there hn) hi h1 (h _ (Blk.puts _ _ _ _ hB) (setCells_only S _ _ _))

/-- What a stream's length and fill look at. -/
structure UnAt (B S : Nat) (t : TypeId) (ss : List Value) (nx : Nat) (v : Value) (bg : RD.Bytes) (lk : Bool) (kd nm : Nat) (w : World) : Prop where
  blk : Blk w S t ss
  next : ss[5]? = some (.int .i64 nx)
  begun : ss[6]? = some v
  row : Row8 B w v bg
  last : ss[31]? = some (.bool lk)
  kind : ss[32]? = some (.int .i64 kd)
  num : ss[33]? = some (.int .i64 nm)
  nx7 : nx < 7
  small : bg.length ≤ 1048576 ∧ nm ≤ 1048576

set_option maxRecDepth 100000 in
set_option maxHeartbeats 2000000 in
theorem strLength_any (B S : Nat) (t : TypeId) (ss : List Value) (nx : Nat) (v : Value) (bg : RD.Bytes) (lk : Bool) (kd nm : Nat) (w : World) (h : UnAt B S t ss nx v bg lk kd nm w) :
    Calls Tryz.prog 77 #[.pointer (some ⟨S, 0, none⟩)] w fun e w' => e = .returned (.int .i64 (unitLen nx bg kd nm : Nat)) ∧ Below w.heap.size w w' := by
  have c5 := h.blk.cell h.next
  have c6 := h.blk.cell h.begun
  have c31 := h.blk.cell h.last
  have c32 := h.blk.cell h.kind
  have c33 := h.blk.cell h.num
  obtain ⟨a, cc, rfl, q1, q2, q3⟩ := h.row.form
  have hn7 := h.nx7
  have hbs := below_same w
  go_enter Tryz.func77, Tryz.ntmps77
  obtain rfl | rfl | rfl | rfl | rfl | rfl | rfl : nx = 0 ∨ nx = 1 ∨ nx = 2 ∨ nx = 3 ∨ nx = 4 ∨ nx = 5 ∨ nx = 6 := by omega
  · go_wp2_with fail
    go_ret
    exact ⟨rfl, hbs⟩
  · go_wp2_with fail
    go_ret
    exact ⟨rfl, hbs⟩
  · go_wp2_with fail
    go_ret
    exact ⟨rfl, hbs⟩
  · rcases q3 with ⟨rfl, rfl, rfl⟩ | ⟨g, off, rfl, hb, hu⟩
    · go_wp2_with fail
      go_ret
      exact ⟨rfl, hbs⟩
    · by_cases hbg : bg = []
      · subst hbg
        go_wp2_with fail
        go_ret
        exact ⟨rfl, hbs⟩
      · have hpos : 0 < bg.length := List.length_pos_iff.2 hbg
        have hc0 := h.row.cells 0 hpos
        rw [Nat.add_zero] at hc0
        have hb1 := RD.at_lt bg 0
        have hne : ((bg.length : Int) == 0) = false := by simp; omega
        rw [show unitLen 3 bg kd nm = hlen (RD.at' bg 0) from if_neg hbg]
        go_wp2_with fail
        refine (headerLength_any (RD.at' bg 0) (by omega) _).mono ?_
        rintro e w1 ⟨rfl, rfl⟩
        go_wp2_with fail
        go_ret
        exact ⟨rfl, hbs⟩
  · go_wp2_with fail
    go_ret
    exact ⟨rfl, hbs⟩
  · obtain ⟨ln, hln⟩ : ∃ ln, ln = if kd = 1 then 1 else nm := ⟨_, rfl⟩
    rw [show unitLen 5 bg kd nm = ln from hln.symm]
    replace hln := hid' hln
    go_wp2_with fail
    refine (blockLength_any lk kd nm _).mono ?_
    rintro e w1 ⟨rfl, hb1⟩
    rw [← hln.out]
    go_wp2_with fail
    go_ret
    exact ⟨rfl, hb1⟩
  · go_wp2_with fail
    go_ret
    exact ⟨rfl, hbs⟩

set_option maxRecDepth 100000 in
set_option maxHeartbeats 2000000 in
theorem strSkip_any (S : Nat) (t : TypeId) (ss : List Value) (lf : Nat) (s : RD.Bytes) (w : World) (h : Blk w S t ss) (h7 : ss[7]? = some (.int .i64 lf)) (hl : lf ≤ 1099511627776) (hs : s.length ≤ 1099511627776) :
    Calls Tryz.prog 76 #[.pointer (some ⟨S, 0, none⟩), .string (RD.bs s)] w fun e w' => e = .returned (.tuple #[.string (RD.bs (s.drop (min lf s.length))), .bool (decide (lf ≤ s.length))]) ∧ Blk w' S t (ss.set 7 (.int .i64 ((lf - min lf s.length : Nat)))) ∧ Only (· = S) w w' := by
  have c7 := h.cell h7
  have fz := h.free
  have hz := RD.bs_size s
  obtain ⟨m, hm⟩ : ∃ m, m = min lf s.length := ⟨_, rfl⟩
  have hm1 : m ≤ lf := by omega
  have hm2 : m ≤ s.length := by omega
  have hmi : min (lf : Int) (s.length : Int) = (m : Int) := by omega
  obtain ⟨r, hr⟩ : ∃ r, r = lf - m := ⟨_, rfl⟩
  have hk : (lf : Int) - (m : Int) = (r : Int) := by omega
  rw [← hm, ← hr]
  have hd : (decide (lf ≤ s.length)) = ((r : Int) == 0) := by
    rw [Bool.eq_iff_iff]; simp; omega
  rw [hd]
  have hrb : r ≤ 1099511627776 := by omega
  replace hm := hid' hm
  replace hr := hid' hr
  clear hd
  have hS1 := h.put 7 (.int .i64 (r : Int))
  have hO1 : Only (· = S) w (w.setCell ⟨S, 7, none⟩ (.int .i64 (r : Int))) := (Only.refl (· = S) w).setCell ⟨S, 7, none⟩ _ (fun _ => rfl)
  have h71 : (ss.set 7 (.int .i64 (r : Int)))[7]? = some (.int .i64 (r : Int)) := by rw [List.getElem?_set_self (List.getElem?_eq_some_iff.1 h7).1]
  have hdr := RD.bs_drop s m
  go_enter Tryz.func76, Tryz.ntmps76
  go_wp2_with fail
  generalize w.setCell ⟨S, 7, none⟩ (.int .i64 (r : Int)) = W at *
  have d7 := hS1.cell h71
  go_quiet (fail)
  go_wp2_with fail
  go_ret2
  exact ⟨rfl, hS1, hO1.drewN _⟩

set_option maxRecDepth 100000 in
set_option maxHeartbeats 2000000 in
theorem strFault_any (S : Nat) (t : TypeId) (ss : List Value) (fr bl : Nat) (w : World) (h : Blk w S t ss) (h3 : ss[3]? = some (.int .i64 fr)) (h4 : ss[4]? = some (.int .i64 bl)) (a : Addr) :
    Calls Tryz.prog 59 #[.pointer (some ⟨S, 0, none⟩), errV a] w fun e w' => e = .returned (.iface 106 (.pointer (some ⟨w.heap.size, 0, none⟩))) ∧ Blk w' w.heap.size 111 [.int .i64 fr, .int .i64 bl, errV a] ∧ Below w.heap.size w w' := by
  have c3 := h.cell h3
  have c4 := h.cell h4
  go_enter Tryz.func59, Tryz.ntmps59
  go_wp2_with fail
  go_ret
  exact ⟨rfl, Blk.new w 111 [.int .i64 fr, .int .i64 bl, errV a], (Below.refl _ w).alloc (Nat.le_refl _) _⟩

/-- The cells of an empty frame. -/
def zeroFr : List Value := [.bool false, .bool false, .int .i64 0, .int .i64 0, .int .u32 0, .int .u32 0, .int .u32 0, .int .u32 0, .string ⟨#[]⟩, .int .u64 0, .pointer none, .map none, .int .i64 0, .slice none 0 0, .int .i64 0, .slice none 0 0, .int .i64 0, .slice none 0 0, .int .i64 0, .int .i64 0, .int .i64 0, .int .i64 0, .slice none 0 0]
theorem sizeFrame : (Tryz.prog.info? 142).map (·.size) = some 23 := by kernel_rfl
theorem zeroFr_one : (#[.bool false, .bool false, .int .i64 0, .int .i64 0, .int .u32 0, .int .u32 0, .int .u32 0, .int .u32 0, .string ⟨#[]⟩, .int .u64 0, .pointer none, .map none, .int .i64 0, .slice none 0 0, .int .i64 0, .slice none 0 0, .int .i64 0, .slice none 0 0, .int .i64 0, .int .i64 0, .int .i64 0, .int .i64 0, .slice none 0 0] : Array Value).all (·.oneCell') = true := by simp [Value.oneCell']
/-- A stream's cells behind the end of a frame. -/
def endCells (ss : List Value) (fr : Nat) : List Value := (((setsAt ss 8 zeroFr).set 3 (.int .i64 ((fr : Int) + 1))).set 4 (.int .i64 0)).set 5 (.int .i64 0)
set_option maxRecDepth 100000 in
set_option maxHeartbeats 2000000 in
theorem strEnd_any (S : Nat) (t : TypeId) (ss : List Value) (fr : Nat) (w : World) (h : Blk w S t ss) (hl : ss.length = 34) (h3 : ss[3]? = some (.int .i64 fr)) (hf : fr ≤ 1099511627776) :
    Calls Tryz.prog 80 #[.pointer (some ⟨S, 0, none⟩)] w fun e w' => e = .returned (.tuple #[]) ∧ Blk w' S t (endCells ss fr) ∧ Only (· = S) w w' := by
  have hl1 : (setsAt ss 8 zeroFr).length = 34 := by rw [setsAt_length]; exact hl
  have h31 : (setsAt ss 8 zeroFr)[3]? = some (.int .i64 fr) := by rw [setsAt_out _ _ _ _ (by omega)]; exact h3
  have hone := zeroFr_one
  have hsf := sizeFrame
  obtain ⟨z4, h41⟩ : ∃ z, (setsAt ss 8 zeroFr)[4]? = some z := get_some (by rw [hl1]; omega)
  obtain ⟨z5, h51⟩ : ∃ z, (setsAt ss 8 zeroFr)[5]? = some z := get_some (by rw [hl1]; omega)
  have hn : 8 + (#[.bool false, .bool false, .int .i64 0, .int .i64 0, .int .u32 0, .int .u32 0, .int .u32 0, .int .u32 0, .string ⟨#[]⟩, .int .u64 0, .pointer none, .map none, .int .i64 0, .slice none 0 0, .int .i64 0, .slice none 0 0, .int .i64 0, .slice none 0 0, .int .i64 0, .int .i64 0, .int .i64 0, .int .i64 0, .slice none 0 0] : Array Value).size ≤ ss.length := by rw [hl]; show 8 + 23 ≤ 34; omega
  go_enter Tryz.func80, Tryz.ntmps80
  go_wp2_with (refine wpList_store_blk rfl 142 _ _ rfl 8 #[.bool false, .bool false, .int .i64 0, .int .i64 0, .int .u32 0, .int .u32 0, .int .u32 0, .int .u32 0, .string ⟨#[]⟩, .int .u64 0, .pointer none, .map none, .int .i64 0, .slice none 0 0, .int .i64 0, .slice none 0 0, .int .i64 0, .slice none 0 0, .int .i64 0, .int .i64 0, .int .i64 0, .int .i64 0, .slice none 0 0] rfl rfl h hn hsf hone ?_; intro W1 hS1 hO1; replace hS1 : Blk W1 S t (setsAt ss 8 zeroFr) := hS1; have d3 := hS1.cell h31; have d4 := hS1.cell h41; have d5 := hS1.cell h51; have fz1 := hS1.free)
  go_end0
  exact ⟨rfl, ((hS1.put 3 _).put 4 _).put 5 _, ((hO1.setCell ⟨S, 3, none⟩ _ (fun _ => rfl)).setCell ⟨S, 4, none⟩ _ (fun _ => rfl)).setCell ⟨S, 5, none⟩ _ (fun _ => rfl)⟩
end Go.Proofs.YtbhemchnjpajiaaGreatDoor

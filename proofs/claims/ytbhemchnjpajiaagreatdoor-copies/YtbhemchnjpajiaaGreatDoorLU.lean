/- Several texts in one: CopMath. -/
import Derived.Test.YtbhemchnjpajiaaGreatDoorLE
/- The streams of the law Copies, and what they give: plain lemmas. -/
namespace Go.Proofs.YtbhemchnjpajiaaGreatDoor.RD
open Go
set_option linter.unusedVariables false

def copLong (n : Nat) : Nat := if 7 < n then 8 else n
def copSym (v : Nat) : Nat := if 1 < v then 1 else 0
def copTail (n v : Nat) : Bytes :=
  if v = 1 then (if 7 < n then [UInt8.ofNat (128 * (n - 8))] else []) else if 7 < n then [UInt8.ofNat (128 * (v - 2) + 64 * (n - 8))] else [UInt8.ofNat (128 * (v - 2))]
/-- The bytes of a block behind its literals. -/
def copEnd (n v q : Nat) : Bytes := 1 :: 21 :: UInt8.ofNat (copLong n) :: UInt8.ofNat (copSym v) :: UInt8.ofNat q :: copTail n v
def copB (L : Bytes) (v q : Nat) : Bytes := UInt8.ofNat (4 * L.length) :: 0 :: (L ++ copEnd L.length v q)
def copS (L : Bytes) (v q : Nat) : Bytes := readW ++ (0 :: UInt8.ofNat (4 + 8 * (copB L v q).length) :: 0 :: (copB L v q ++ (UInt8.ofNat (5 + 8 * (copB L v q).length) :: 0 :: copB L v q)))
def copBack (v : Nat) : Nat := if v = 1 then 1 else if v = 2 then 4 else 8
def copNext (v : Nat) : Nat := if v = 3 then 4 else 1
def copLast (v : Nat) : List Int := if v = 1 then [1, 4, 8] else if v = 2 then [4, 1, 8] else [8, 1, 4]

theorem cop_bits (n v : Nat) (hn : 1 ≤ n ∧ n ≤ 9) (hv : 1 ≤ v ∧ v ≤ 3) :
    2 ^ copSym v + (rd (bitsOf (copTail n v)) ⟨0, false⟩ (copSym v)).1 = v ∧ (sz (bitsOf (copTail n v)) (rd (bitsOf (copTail n v)) ⟨0, false⟩ (copSym v)).2 (copLong n)).1 = n ∧
    (sz (bitsOf (copTail n v)) (rd (bitsOf (copTail n v)) ⟨0, false⟩ (copSym v)).2 (copLong n)).2.short = false ∧ rest (bitsOf (copTail n v)) (sz (bitsOf (copTail n v)) (rd (bitsOf (copTail n v)) ⟨0, false⟩ (copSym v)).2 (copLong n)).2.i = true := by
  obtain ⟨h1, h2⟩ := hn
  obtain ⟨h3, h4⟩ := hv
  rcases (by omega : n = 1 ∨ n = 2 ∨ n = 3 ∨ n = 4 ∨ n = 5 ∨ n = 6 ∨ n = 7 ∨ n = 8 ∨ n = 9) with rfl | rfl | rfl | rfl | rfl | rfl | rfl | rfl | rfl <;> rcases (by omega : v = 1 ∨ v = 2 ∨ v = 3) with rfl | rfl | rfl <;> decide
theorem cop_small (n v q : Nat) (hn : 1 ≤ n ∧ n ≤ 9) (hv : 1 ≤ v ∧ v ≤ 3) : (copEnd n v q).length ≤ 6 ∧ 5 ≤ (copEnd n v q).length := by
  obtain ⟨h1, h2⟩ := hn
  unfold copEnd copTail
  repeat' split
  all_goals simp

theorem rd_zero (l : List Int) (b : B) (h : b.i ≤ l.length) : rd l b 0 = (0, ⟨b.i, b.short⟩) := by
  unfold rd worth
  rw [if_neg (by omega)]
  rfl
theorem cop_content (f : Fr) (L : Bytes) (v q : Nat) (hn : 1 ≤ L.length ∧ L.length ≤ 9) (hv : 1 ≤ v ∧ v ≤ 3) (hq : q ≤ 7) (h0 : f.t0 = ⟨true, 0, [((copLong L.length : Nat), 0, 0)]⟩) (h1 : f.t1 = ⟨true, 0, [((copSym v : Nat), 0, 0)]⟩) (h2 : f.t2 = ⟨true, 0, [((q : Nat), 0, 0)]⟩) :
    content f L (copTail L.length v) 1 =
      if (backOf f.last v L.length).1 < 1 ∨ (f.window : Int) < (backOf f.last v L.length).1 ∨ ((f.dict ++ f.text ++ L).length : Int) < (backOf f.last v L.length).1 ∨ 1024 < ((f.dict ++ f.text ++ L).length : Int) + (3 + q) - (f.dict ++ f.text).length then none
      else some ((copyN (f.dict ++ f.text ++ L) (backOf f.last v L.length).1.toNat (3 + q)).drop (f.dict ++ f.text).length, (backOf f.last v L.length).2) := by
  obtain ⟨b1, b2, b3, b4⟩ := cop_bits L.length v hn hv
  have e0 : seq0 f (bitsOf (copTail L.length v)) L = ⟨⟨0, false⟩, 0, 0, 0, f.dict ++ f.text, L, f.last⟩ := by
    unfold seq0
    rw [h0, h1, h2]
    simp only []
    rw [rd_zero _ _ (Nat.zero_le _)]
    simp only []
    rw [rd_zero _ _ (Nat.zero_le _)]
    simp only []
    rw [rd_zero _ _ (Nat.zero_le _)]
  unfold content
  rw [e0]
  generalize bitsOf (copTail L.length v) = l at *
  unfold seqs seqs seq1
  simp only [h0, h1, h2, triAt, Int.toNat_zero, List.getD_cons_zero, Int.toNat_natCast]
  have e2 : ∀ b, sz l b q = ((q : Int), b) := fun b => by unfold sz; rw [if_pos hq]
  rw [e2]
  simp only []
  generalize hs : sz l (rd l ⟨0, false⟩ (copSym v)).2 (copLong L.length) = r0 at *
  have hd : decide (0 + 1 < 1) = false := rfl
  rw [b1, b2]
  simp only [hd, b3, Bool.false_eq_true, if_false, false_or, Int.lt_irrefl, Int.toNat_natCast, List.take_length, List.drop_length]
  have eq3 : (3 + (q : Int)).toNat = 3 + q := by omega
  rw [eq3]
  by_cases hb : (backOf f.last v L.length).1 < 1 ∨ (f.window : Int) < (backOf f.last v L.length).1 ∨ ((f.dict ++ f.text ++ L).length : Int) < (backOf f.last v L.length).1 ∨ 1024 < ((f.dict ++ f.text ++ L).length : Int) + (3 + q) - (f.dict ++ f.text).length
  · rw [if_pos hb, if_pos hb]
  · rw [if_neg hb, if_neg hb]
    simp only [b4, if_true, List.append_nil]
theorem at_mid (a b : Bytes) (i n : Nat) (h : a.length = n) : at' (a ++ b) (n + i) = at' b i := by
  subst h
  unfold at'
  rw [List.getD_eq_getElem?_getD, List.getElem?_append_right (by omega), Nat.add_sub_cancel_left, ← List.getD_eq_getElem?_getD]
theorem drop_mid (a b : Bytes) (i n : Nat) (h : a.length = n) : (a ++ b).drop (n + i) = b.drop i := by
  subst h
  rw [List.drop_append]
  simp
theorem ofNat_nat (n : Nat) (h : n < 256) : (UInt8.ofNat n).toNat = n := by simp; omega
theorem cop_packed (f : Fr) (L : Bytes) (v q : Nat) (hn : 1 ≤ L.length ∧ L.length ≤ 9) (hv : 1 ≤ v ∧ v ≤ 3) (hq : q ≤ 7) :
    packed f (copB L v q) =
      if (backOf f.last v L.length).1 < 1 ∨ (f.window : Int) < (backOf f.last v L.length).1 ∨ ((f.dict ++ f.text ++ L).length : Int) < (backOf f.last v L.length).1 ∨ 1024 < ((f.dict ++ f.text ++ L).length : Int) + (3 + q) - (f.dict ++ f.text).length then none
      else some ((copyN (f.dict ++ f.text ++ L) (backOf f.last v L.length).1.toNat (3 + q)).drop (f.dict ++ f.text).length,
        { f with t0 := ⟨true, 0, [((copLong L.length : Nat), 0, 0)]⟩, t1 := ⟨true, 0, [((copSym v : Nat), 0, 0)]⟩, t2 := ⟨true, 0, [((q : Nat), 0, 0)]⟩, last := (backOf f.last v L.length).2 }) := by
  obtain ⟨z1, z2⟩ := cop_small L.length v q hn hv
  have hlen : (copB L v q).length = 2 + L.length + (copEnd L.length v q).length := by unfold copB; simp; omega
  have hnum : num ((copB L v q).take 2) = 4 * L.length := by
    unfold copB
    simp only [List.take_succ_cons, List.take_zero, num]
    rw [ofNat_nat _ (by omega)]
    simp
  have hlit : literals f.codes (copB L v q) = some (L, 2 + L.length, f.codes) := by
    unfold literals
    rw [if_neg (by omega)]
    simp only [hnum]
    have e : 4 * L.length / 4 % 2048 = L.length := by omega
    rw [e, if_neg (by omega), if_pos (by omega), if_neg (by omega)]
    congr 2
    unfold copB
    simp
  have hsp : copB L v q = (UInt8.ofNat (4 * L.length) :: 0 :: L) ++ copEnd L.length v q := by unfold copB; simp
  have hl2 : (UInt8.ofNat (4 * L.length) :: 0 :: L).length = 2 + L.length := by simp; omega
  have hat : ∀ i, at' (copB L v q) (2 + L.length + i) = at' (copEnd L.length v q) i := fun i => by rw [hsp]; exact at_mid _ _ _ _ hl2
  have hdr : ∀ i, (copB L v q).drop (2 + L.length + i) = (copEnd L.length v q).drop i := fun i => by rw [hsp]; exact drop_mid _ _ _ _ hl2
  have h0 : at' (copB L v q) (2 + L.length) = 1 := hat 0
  have h1 : at' (copB L v q) (2 + L.length + 1) = 21 := hat 1
  have hlo : copLong L.length < 16 := by unfold copLong; split <;> omega
  have hsy : copSym v < 13 := by unfold copSym; split <;> omega
  have t0 : tableOf 0 1 f.t0 ((copB L v q).drop (2 + L.length + 2)) = some (⟨true, 0, [((copLong L.length : Nat), 0, 0)]⟩, 1) := by
    rw [hdr 2]
    have e : at' ((copEnd L.length v q).drop 2) 0 = copLong L.length := by
      unfold copEnd at'
      simp only [List.drop_succ_cons, List.drop_zero, List.getD_cons_zero]
      exact ofNat_nat _ (by omega)
    have e2 : ((copEnd L.length v q).drop 2).length ≠ 0 := by rw [List.length_drop]; omega
    unfold tableOf
    rw [if_neg (by decide), if_pos rfl, e, if_neg (by simp only [most]; intro z; rcases z with z | z; exact e2 z; simp at z; omega)]
  have t1 : tableOf 1 1 f.t1 ((copB L v q).drop (2 + L.length + 2 + 1)) = some (⟨true, 0, [((copSym v : Nat), 0, 0)]⟩, 1) := by
    rw [Nat.add_assoc _ 2 1, hdr 3]
    have e : at' ((copEnd L.length v q).drop 3) 0 = copSym v := by
      unfold copEnd at'
      simp only [List.drop_succ_cons, List.drop_zero, List.getD_cons_zero]
      exact ofNat_nat _ (by omega)
    have e2 : ((copEnd L.length v q).drop 3).length ≠ 0 := by rw [List.length_drop]; omega
    unfold tableOf
    rw [if_neg (by decide), if_pos rfl, e, if_neg (by simp only [most]; intro z; rcases z with z | z; exact e2 z; simp at z; omega)]
  have t2 : tableOf 2 1 f.t2 ((copB L v q).drop (2 + L.length + 2 + 1 + 1)) = some (⟨true, 0, [((q : Nat), 0, 0)]⟩, 1) := by
    rw [Nat.add_assoc _ 1 1, Nat.add_assoc _ 2 2, hdr 4]
    have e : at' ((copEnd L.length v q).drop 4) 0 = q := by
      unfold copEnd at'
      simp only [List.drop_succ_cons, List.drop_zero, List.getD_cons_zero]
      exact ofNat_nat _ (by omega)
    have e2 : ((copEnd L.length v q).drop 4).length ≠ 0 := by rw [List.length_drop]; omega
    unfold tableOf
    rw [if_neg (by decide), if_pos rfl, e, if_neg (by simp only [most]; intro z; rcases z with z | z; exact e2 z; simp at z; omega)]
  have htl : (copB L v q).drop (2 + L.length + 2 + 1 + 1 + 1) = copTail L.length v := by
    rw [Nat.add_assoc _ 1 1, Nat.add_assoc _ 2 1, Nat.add_assoc _ 2 2, Nat.add_assoc _ 4 1] 
    exact hdr 5
  unfold packed
  rw [hlit]
  simp only []
  rw [if_neg (by omega), h0, if_neg (by decide), h1, if_neg (by omega)]
  simp only [t0, t1, t2, htl]
  have hc := cop_content { f with t0 := ⟨true, 0, [((copLong L.length : Nat), 0, 0)]⟩, t1 := ⟨true, 0, [((copSym v : Nat), 0, 0)]⟩, t2 := ⟨true, 0, [((q : Nat), 0, 0)]⟩ } L v q hn hv hq rfl rfl rfl
  rw [hc]
  by_cases hb : (backOf f.last v L.length).1 < 1 ∨ (f.window : Int) < (backOf f.last v L.length).1 ∨ ((f.dict ++ f.text ++ L).length : Int) < (backOf f.last v L.length).1 ∨ 1024 < ((f.dict ++ f.text ++ L).length : Int) + (3 + q) - (f.dict ++ f.text).length
  · rw [if_pos hb, if_pos hb]
  · rw [if_neg hb, if_neg hb]
theorem cop_len (L : Bytes) (v q : Nat) (hn : 1 ≤ L.length ∧ L.length ≤ 9) (hv : 1 ≤ v ∧ v ≤ 3) : 8 ≤ (copB L v q).length ∧ (copB L v q).length ≤ 17 := by
  obtain ⟨z1, z2⟩ := cop_small L.length v q hn hv
  have hlen : (copB L v q).length = 2 + L.length + (copEnd L.length v q).length := by unfold copB; simp; omega
  omega
theorem cop_block (f : Fr) (L : Bytes) (v q k : Nat) (r : Bytes) (hn : 1 ≤ L.length ∧ L.length ≤ 9) (hv : 1 ≤ v ∧ v ≤ 3) (hk : k = 4 ∨ k = 5) (hz : f.size = -1) :
    block f (UInt8.ofNat (k + 8 * (copB L v q).length) :: 0 :: (copB L v q ++ r)) =
      match packed f (copB L v q) with
      | none => .err 4
      | some (t, f') => if 1024 < t.length then .err 4 else .ok (decide (k = 5), { f' with text := f.text ++ t, blocks := f.blocks + 1 }, r, t) := by
  obtain ⟨z1, z2⟩ := cop_len L v q hn hv
  generalize copB L v q = b at *
  have hnum : num ((UInt8.ofNat (k + 8 * b.length) :: 0 :: (b ++ r)).take 2) = k + 8 * b.length := by
    simp only [List.take_succ_cons, List.take_zero, num]
    rw [ofNat_nat _ (by omega)]
    simp
  have hl : (UInt8.ofNat (k + 8 * b.length) :: 0 :: (b ++ r)).length = 2 + b.length + r.length := by simp; omega
  have e1 : (k + 8 * b.length) / 2 % 4 = 2 := by omega
  have e2 : (k + 8 * b.length) / 8 = b.length := by omega
  have e3 : ((UInt8.ofNat (k + 8 * b.length) :: 0 :: (b ++ r)).drop 2).take b.length = b := by simp
  have e4 : (UInt8.ofNat (k + 8 * b.length) :: 0 :: (b ++ r)).drop (2 + b.length) = r := by
    rw [← List.drop_drop]
    simp
  have e5 : decide ((k + 8 * b.length) % 2 = 1) = decide (k = 5) := by
    rcases hk with rfl | rfl
    · simp; omega
    · simp; omega
  unfold block
  rw [if_neg (by omega)]
  simp only [hnum, e1, e2]
  have h21 : (if (2 : Nat) = 1 then 1 else b.length) = b.length := rfl
  rw [if_neg (by omega), h21, if_neg (by omega), e3, e4]
  have hin : inner f 2 b.length b = packed f b := rfl
  rw [hin]
  cases packed f b with
  | none => rfl
  | some x =>
    obtain ⟨t, f'⟩ := x
    simp only []
    rw [e5, hz]
    by_cases ht : 1024 < t.length
    · rw [if_pos (.inl ht), if_pos ht]
    · rw [if_neg (by omega), if_neg ht]
theorem copyN_len (past : Bytes) (k m : Nat) : (copyN past k m).length = past.length + m := by
  induction m with
  | zero => rfl
  | succ m ih => rw [copyN, List.length_append, ih]; rfl
theorem copyN_pre (past : Bytes) (k m : Nat) : ∃ t, copyN past k m = past ++ t := by
  induction m with
  | zero => exact ⟨[], by simp [copyN]⟩
  | succ m ih =>
    obtain ⟨t, ht⟩ := ih
    exact ⟨t ++ [(copyN past k m).getD ((copyN past k m).length - k) 0], by rw [copyN]; conv => lhs; arg 1; rw [ht]
                                                                            rw [List.append_assoc]⟩
theorem cop_back (v n : Nat) (hv : 1 ≤ v ∧ v ≤ 3) (hn : 1 ≤ n) : backOf [1, 4, 8] (v : Int) (n : Int) = (((copBack v : Nat) : Int), copLast v) ∧ (backOf (copLast v) (v : Int) (n : Int)).1 = (copNext v : Nat) := by
  have h0 : ¬ (n : Int) = 0 := by omega
  rcases (by omega : v = 1 ∨ v = 2 ∨ v = 3) with rfl | rfl | rfl
  all_goals
    unfold backOf
    rw [if_neg (by decide)]
    simp only [h0, if_false]
    refine ⟨rfl, ?_⟩
    rw [if_neg (by decide)]
    rfl
def copOut (L : Bytes) (v q : Nat) : Bytes := copyN L (copBack v) (3 + q)
def copAll (L : Bytes) (v q : Nat) : Bytes := copyN (copOut L v q ++ L) (copNext v) (3 + q)
theorem cop_gave (c : Cfg) (hc : 64 ≤ c.limit) (L : Bytes) (v q : Nat) (hn : 1 ≤ L.length ∧ L.length ≤ 9) (hv : 1 ≤ v ∧ v ≤ 3) (hq : q ≤ 7) :
    gave c (copS L v q) = if L.length < copBack v then ([], 4) else (copAll L v q, 2) := by
  obtain ⟨k1, k2⟩ := cop_back v L.length hv hn.1
  have hcb : 1 ≤ copBack v ∧ copBack v ≤ 8 := by unfold copBack; repeat' split
                                                 all_goals omega
  have hcn : 1 ≤ copNext v ∧ copNext v ≤ 4 := by unfold copNext; split <;> omega
  let f0 : Fr := { Fr.new with window := 64, size := -1, last := [1, 4, 8] }
  let x1 : Bytes := UInt8.ofNat (5 + 8 * (copB L v q).length) :: 0 :: copB L v q
  let x0 : Bytes := UInt8.ofNat (4 + 8 * (copB L v q).length) :: 0 :: (copB L v q ++ x1)
  have s1 : step c (St.start (copS L v q)) = .ok ⟨0, .header, Fr.new, 0 :: x0, []⟩ := rfl
  have s2 : step c ⟨0, .header, Fr.new, 0 :: x0, []⟩ = .ok ⟨0, .blocks, f0, x0, []⟩ := by
    have hh : header c (0 :: x0) = .ok (f0, x0) := by
      unfold header
      rw [if_neg (by simp)]
      have ha : at' (0 :: x0) 0 = 0 := rfl
      simp only [ha]
      rw [if_neg (by simp), if_neg (by decide), if_neg (by simp; omega), if_neg (fun z => absurd z.1 (by decide))]
      rfl
    show (match header c (0 :: x0) with | .wants => (Res.wants : Res St) | .err e => .err e | .ok (f, l) => .ok ⟨0, .blocks, f, l, []⟩) = _
    rw [hh]
  have hp0 := cop_packed f0 L v q hn hv hq
  have k1' : backOf f0.last (v : Int) L.length = (((copBack v : Nat) : Int), copLast v) := k1
  have e0 : f0.dict ++ f0.text = [] := rfl
  have ew : f0.window = 64 := rfl
  rw [k1', e0, ew, List.nil_append] at hp0
  have hr : Reach c (St.start (copS L v q)) ⟨0, .blocks, f0, x0, []⟩ := (Reach.one s1).trans (Reach.one s2)
  have hb0 := cop_block f0 L v q 4 x1 hn hv (.inl rfl) rfl
  by_cases hlt : L.length < copBack v
  · rw [if_pos hlt]
    rw [if_pos (by right; right; left; simp only []; omega)] at hp0
    rw [hp0] at hb0
    refine gave_err hr (e := 4) ?_
    show (match block f0 x0 with | .wants => (Res.wants : Res St) | .err e => .err e | .ok (last, f, l, t) => if last = false then .ok ⟨0, .blocks, f, l, [] ++ t⟩ else if f.summed then .ok ⟨0, .sum, f, l, [] ++ t⟩ else .ok ⟨0 + 1, .letters, Fr.new, l, [] ++ t⟩) = _
    rw [hb0]
  · rw [if_neg hlt]
    have hol : (copOut L v q).length = L.length + (3 + q) := copyN_len _ _ _
    rw [if_neg (by simp only [List.length_nil]; omega)] at hp0
    simp only [Int.toNat_natCast, List.length_nil, List.drop_zero] at hp0
    rw [hp0] at hb0
    have hol' : (copyN L (copBack v) (3 + q)).length = L.length + (3 + q) := hol
    simp only [] at hb0
    rw [if_neg (by omega)] at hb0
    let f1 : Fr := { f0 with t0 := ⟨true, 0, [((copLong L.length : Nat), 0, 0)]⟩, t1 := ⟨true, 0, [((copSym v : Nat), 0, 0)]⟩, t2 := ⟨true, 0, [((q : Nat), 0, 0)]⟩, last := copLast v, text := copOut L v q, blocks := 1 }
    have s3 : step c ⟨0, .blocks, f0, x0, []⟩ = .ok ⟨0, .blocks, f1, x1, copOut L v q⟩ := by
      show (match block f0 x0 with | .wants => (Res.wants : Res St) | .err e => .err e | .ok (last, f, l, t) => if last = false then .ok ⟨0, .blocks, f, l, [] ++ t⟩ else if f.summed then .ok ⟨0, .sum, f, l, [] ++ t⟩ else .ok ⟨0 + 1, .letters, Fr.new, l, [] ++ t⟩) = _
      rw [hb0]
      rfl
    have hp1 := cop_packed f1 L v q hn hv hq
    have hb1 := cop_block f1 L v q 5 [] hn hv (.inr rfl) rfl
    rw [List.append_nil] at hb1
    have k2' : (backOf f1.last (v : Int) L.length).1 = (copNext v : Nat) := k2
    have e1 : f1.dict ++ f1.text = copOut L v q := rfl
    have ew1 : f1.window = 64 := rfl
    have hal : (copOut L v q ++ L).length = L.length + (3 + q) + L.length := by rw [List.length_append, hol]
    rw [k2', e1, ew1, if_neg (by rw [hal, hol]; omega), Int.toNat_natCast] at hp1
    obtain ⟨t, ht⟩ := copyN_pre (copOut L v q ++ L) (copNext v) (3 + q)
    have hcl := copyN_len (copOut L v q ++ L) (copNext v) (3 + q)
    have htl : t.length = 3 + q := by rw [ht, List.length_append] at hcl; omega
    have hd : (copyN (copOut L v q ++ L) (copNext v) (3 + q)).drop (copOut L v q).length = L ++ t := by rw [ht, List.append_assoc]; simp
    rw [hd] at hp1
    rw [hp1] at hb1
    simp only [] at hb1
    rw [if_neg (by rw [List.length_append]; omega)] at hb1
    have s4 : step c ⟨0, .blocks, f1, x1, copOut L v q⟩ = .ok ⟨1, .letters, Fr.new, [], copAll L v q⟩ := by
      show (match block f1 x1 with | .wants => (Res.wants : Res St) | .err e => .err e | .ok (last, f, l, t) => if last = false then .ok ⟨0, .blocks, f, l, copOut L v q ++ t⟩ else if f.summed then .ok ⟨0, .sum, f, l, copOut L v q ++ t⟩ else .ok ⟨0 + 1, .letters, Fr.new, l, copOut L v q ++ t⟩) = _
      rw [hb1]
      have e : copAll L v q = copOut L v q ++ (L ++ t) := by unfold copAll; rw [ht, List.append_assoc]
      rw [e]
      rfl
    have hw : step c ⟨1, .letters, Fr.new, [], copAll L v q⟩ = .wants := rfl
    rw [gave_wants ((hr.trans (Reach.one s3)).trans (Reach.one s4)) hw]
    rfl
end Go.Proofs.YtbhemchnjpajiaaGreatDoor.RD

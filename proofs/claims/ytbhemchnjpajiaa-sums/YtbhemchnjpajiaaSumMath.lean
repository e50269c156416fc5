/- Plain arithmetic of the check sum, over Int: turning a word of 32 bits, products modulo 2^32, exclusive or, numbers of four bytes, and the sum as both sides of the law come to it. No condition beyond those that each row states. -/
import Derived.Laws.BitsAllLaws
import Derived.Laws.BitsLemmas
namespace Go.Proofs.Ytbhemchnjpajiaa.SM
open Go

/-- A word turned left by k bits. -/
def rl (x k : Int) : Int := x * 2 ^ k.toNat % 4294967296 + x * 2 ^ k.toNat / 4294967296

def Turns (k : Int) : Prop := k = 1 ∨ k = 7 ∨ k = 11 ∨ k = 12 ∨ k = 13 ∨ k = 17 ∨ k = 18

theorem wraps_u32 (n : Int) (h₀ : 0 ≤ n) (h₁ : n < 2 ^ 32) : IntKind.u32.wrap n = n := by rw [IntKind.wrap_u32]; omega

theorem join32 (i : Nat) (x y : Int) (hx₀ : 0 ≤ x) (hx : x % 2 ^ i = 0) (hx₁ : x < 2 ^ 32) (hy₀ : 0 ≤ y) (hy : y < 2 ^ i) (hy₁ : y < 2 ^ 32) : bits .or .u32 x y = x + y :=
  bits_join .u32 32 (by decide) (fun n h0 h1 => wraps_u32 n h0 h1) i x y hx₀ hx hx₁ hy₀ hy hy₁

theorem rl_bound (x k : Int) (hk : Turns k) (h0 : 0 ≤ x) (h1 : x ≤ 4294967295) : 0 ≤ rl x k ∧ rl x k ≤ 4294967295 := by
  unfold rl
  rcases hk with rfl | rfl | rfl | rfl | rfl | rfl | rfl <;> simp <;> omega

theorem rl_or (x k : Int) (hk : Turns k) (h0 : 0 ≤ x) (h1 : x ≤ 4294967295) :
    bits .or .u32 (x * 2 ^ k.toNat % 4294967296) (x / 2 ^ (32 - k).toNat) = rl x k := by
  unfold rl
  rcases hk with rfl | rfl | rfl | rfl | rfl | rfl | rfl
  · rw [join32 1] <;> simp <;> omega
  · rw [join32 7] <;> simp <;> omega
  · rw [join32 11] <;> simp <;> omega
  · rw [join32 12] <;> simp <;> omega
  · rw [join32 13] <;> simp <;> omega
  · rw [join32 17] <;> simp <;> omega
  · rw [join32 18] <;> simp <;> omega

/-- Exclusive or of two numbers that are not negative. -/
def xr (a b : Int) : Int := ((a.toNat ^^^ b.toNat : Nat) : Int)

theorem xr_bound (a b : Int) (ha : a ≤ 4294967295) (hb : b ≤ 4294967295) : 0 ≤ xr a b ∧ xr a b ≤ 4294967295 := by
  unfold xr
  have h := Nat.xor_lt_two_pow (x := a.toNat) (y := b.toNat) (n := 32) (by omega) (by omega)
  omega

theorem xor_u32 (a b : Int) (ha0 : 0 ≤ a) (ha : a ≤ 4294967295) (hb0 : 0 ≤ b) (hb : b ≤ 4294967295) : bits .xor .u32 a b = xr a b := by
  have h := Nat.xor_lt_two_pow (x := a.toNat) (y := b.toNat) (n := 32) (by omega) (by omega)
  obtain ⟨m, rfl⟩ := Int.eq_ofNat_of_zero_le ha0
  obtain ⟨n, rfl⟩ := Int.eq_ofNat_of_zero_le hb0
  simp only [Int.toNat_natCast] at h
  show IntKind.u32.wrap ((BitVec.ofInt 32 (m : Int) ^^^ BitVec.ofInt 32 (n : Int)).toNat : Int) = _
  rw [BitVec.ofInt_natCast, BitVec.ofInt_natCast, BitVec.toNat_xor, BitVec.toNat_ofNat, BitVec.toNat_ofNat, Nat.mod_eq_of_lt (by omega), Nat.mod_eq_of_lt (by omega), IntKind.wrap_u32]
  simp only [xr, Int.toNat_natCast]
  omega

theorem xor_i64 (a b : Int) (ha0 : 0 ≤ a) (ha : a ≤ 4294967295) (hb0 : 0 ≤ b) (hb : b ≤ 4294967295) : bits .xor .i64 a b = xr a b := by
  have h := Nat.xor_lt_two_pow (x := a.toNat) (y := b.toNat) (n := 32) (by omega) (by omega)
  obtain ⟨m, rfl⟩ := Int.eq_ofNat_of_zero_le ha0
  obtain ⟨n, rfl⟩ := Int.eq_ofNat_of_zero_le hb0
  simp only [Int.toNat_natCast] at h
  show IntKind.i64.wrap ((BitVec.ofInt 64 (m : Int) ^^^ BitVec.ofInt 64 (n : Int)).toNat : Int) = _
  rw [BitVec.ofInt_natCast, BitVec.ofInt_natCast, BitVec.toNat_xor, BitVec.toNat_ofNat, BitVec.toNat_ofNat, Nat.mod_eq_of_lt (by omega), Nat.mod_eq_of_lt (by omega), IntKind.wrap_i64]
  simp only [xr, Int.toNat_natCast]
  omega

/-- A product modulo 2^32. -/
def tm (a b : Int) : Int := a * b % 4294967296
theorem tm_bound (a b : Int) : 0 ≤ tm a b ∧ tm a b ≤ 4294967295 := by unfold tm; omega

theorem mul_bound (a b A B : Int) (h0 : 0 ≤ a) (h1 : a ≤ A) (h2 : 0 ≤ b) (h3 : b ≤ B) : 0 ≤ a * b ∧ a * b ≤ A * B :=
  ⟨Int.mul_nonneg h0 h2, Int.mul_le_mul h1 h3 h2 (by omega)⟩

theorem tm_halves (a b : Int) : (a * (b / 65536) % 65536 * 65536 + a * (b % 65536)) % 4294967296 = tm a b := by
  unfold tm
  have e : a * b = a * (b / 65536) * 65536 + a * (b % 65536) := by
    have : b = b / 65536 * 65536 + b % 65536 := by omega
    rw [Int.mul_assoc, ← Int.mul_add, ← this]
  rw [e]
  generalize a * (b / 65536) = u
  generalize a * (b % 65536) = v
  omega

/-- The four bytes at the head of a list, the lowest first. -/
def num4 : List UInt8 → Int
  | a :: b :: c :: d :: _ => a.toNat + 256 * b.toNat + 65536 * c.toNat + 16777216 * d.toNat
  | _ => 0
theorem num4_bound (l : List UInt8) : 0 ≤ num4 l ∧ num4 l ≤ 4294967295 := by
  unfold num4
  split
  · rename_i a b c d _
    have := a.toNat_lt; have := b.toNat_lt; have := c.toNat_lt; have := d.toNat_lt
    omega
  · omega

/-- Four bytes, the highest first: behind j of them. -/
def lev (f : Nat → Int) : Nat → Int
  | 0 => 0
  | j + 1 => 256 * lev f j + f (3 - j)
theorem lev_bound (f : Nat → Int) (hf : ∀ t, 0 ≤ f t ∧ f t ≤ 255) (j : Nat) (hj : j ≤ 4) : 0 ≤ lev f j ∧ lev f j ≤ 4294967295 := by
  have := hf 0; have := hf 1; have := hf 2; have := hf 3
  rcases (by omega : j = 0 ∨ j = 1 ∨ j = 2 ∨ j = 3 ∨ j = 4) with rfl | rfl | rfl | rfl | rfl <;> simp [lev] <;> omega

/-- The byte at n, as a number (0 behind the end). -/
def byteAt (s : ByteArray) (n : Nat) : Int := ((s.data.toList.getD n 0).toNat : Int)
theorem byteAt_bound (s : ByteArray) (n : Nat) : 0 ≤ byteAt s n ∧ byteAt s n ≤ 255 := by
  have := (s.data.toList.getD n 0).toNat_lt
  unfold byteAt
  omega
theorem byteAt_get (s : ByteArray) (n : Nat) (h : n < s.size) : (s[n].toNat : Int) = byteAt s n := by
  unfold byteAt
  rw [List.getD_eq_getElem?_getD, List.getElem?_eq_getElem (by simpa using h)]
  rfl
/-- Four bytes from n on, the highest first: behind j of them. -/
def lv (s : ByteArray) (n j : Nat) : Int := lev (fun t => byteAt s (n + t)) j
theorem lv_bound (s : ByteArray) (n j : Nat) (hj : j ≤ 4) : 0 ≤ lv s n j ∧ lv s n j ≤ 4294967295 := lev_bound _ (fun t => byteAt_bound s (n + t)) j hj
theorem lv_three (s : ByteArray) (n j : Nat) (hj : j ≤ 3) : 0 ≤ lv s n j ∧ lv s n j ≤ 16777215 := by
  have f0 := byteAt_bound s n
  have f1 := byteAt_bound s (n + 1)
  have f2 := byteAt_bound s (n + 2)
  have f3 := byteAt_bound s (n + 3)
  unfold lv
  rcases (by omega : j = 0 ∨ j = 1 ∨ j = 2 ∨ j = 3) with rfl | rfl | rfl | rfl <;> simp [lev] <;> omega
theorem drop_four (l : List UInt8) (n : Nat) (h : n + 4 ≤ l.length) : l.drop n = l.getD n 0 :: l.getD (n + 1) 0 :: l.getD (n + 2) 0 :: l.getD (n + 3) 0 :: l.drop (n + 4) := by
  rw [List.drop_eq_getElem_cons (by omega), List.drop_eq_getElem_cons (i := n + 1) (by omega), List.drop_eq_getElem_cons (i := n + 1 + 1) (by omega), List.drop_eq_getElem_cons (i := n + 1 + 1 + 1) (by omega)]
  simp [show n < l.length by omega, show n + 1 < l.length by omega, show n + 2 < l.length by omega, show n + 3 < l.length by omega]
theorem num4_drop (s : ByteArray) (n : Nat) (h : n + 4 ≤ s.size) : num4 (s.data.toList.drop n) = byteAt s n + 256 * byteAt s (n + 1) + 65536 * byteAt s (n + 2) + 16777216 * byteAt s (n + 3) := by
  rw [drop_four _ _ (by simpa using h)]
  simp [num4, byteAt]
theorem lv_four (s : ByteArray) (n : Nat) (h : n + 4 ≤ s.size) : lv s n 4 = num4 (s.data.toList.drop n) := by
  rw [num4_drop s n h]
  simp [lv, lev]
  omega

theorem number_or (a b c d : Int) (ha : 0 ≤ a ∧ a ≤ 255) (hb : 0 ≤ b ∧ b ≤ 255) (hc : 0 ≤ c ∧ c ≤ 255) (hd : 0 ≤ d ∧ d ≤ 255) :
    bits .or .u32 (bits .or .u32 (bits .or .u32 a (b * 256)) (c * 65536)) (d * 16777216) = a + 256 * b + 65536 * c + 16777216 * d := by
  have comm : ∀ x y : Int, bits .or .u32 x y = bits .or .u32 y x := fun x y => by unfold bits; simp only [BitVec.or_comm]
  rw [comm a, join32 8 (b * 256) a (by omega) (by simp) (by omega) (by omega) (by omega) (by omega)]
  rw [comm _ (c * 65536), join32 16 (c * 65536) _ (by omega) (by simp) (by omega) (by omega) (by omega) (by omega)]
  rw [comm _ (d * 16777216), join32 24 (d * 16777216) _ (by omega) (by simp) (by omega) (by omega) (by omega) (by omega)]
  omega

theorem number_bits (s : ByteArray) (h : 4 ≤ s.size) :
    bits .or .u32 (bits .or .u32 (bits .or .u32 (((s[0]'(by omega)).toNat : Int) % 4294967296) (((s[1]'(by omega)).toNat : Int) % 4294967296 * 256 % 4294967296))
      (((s[2]'(by omega)).toNat : Int) % 4294967296 * 65536 % 4294967296)) (((s[3]'(by omega)).toNat : Int) % 4294967296 * 16777216 % 4294967296) = num4 s.data.toList := by
  have f0 := byteAt_bound s 0
  have f1 := byteAt_bound s 1
  have f2 := byteAt_bound s 2
  have f3 := byteAt_bound s 3
  have e := num4_drop s 0 (by omega)
  simp only [List.drop_zero, Nat.zero_add] at e
  rw [byteAt_get s 0 (by omega), byteAt_get s 1 (by omega), byteAt_get s 2 (by omega), byteAt_get s 3 (by omega), e]
  rw [← number_or _ _ _ _ f0 f1 f2 f3]
  rw [show byteAt s 0 % 4294967296 = byteAt s 0 by omega, show byteAt s 1 % 4294967296 * 256 % 4294967296 = byteAt s 1 * 256 by omega, show byteAt s 2 % 4294967296 * 65536 % 4294967296 = byteAt s 2 * 65536 by omega, show byteAt s 3 % 4294967296 * 16777216 % 4294967296 = byteAt s 3 * 16777216 by omega]

theorem fin_or (h : Int) (h0 : 0 ≤ h) (h1 : h ≤ 4294967295) :
    bits .xor .u32 (bits .xor .u32 (bits .xor .u32 h (h / 32768) * 2246822519 % 4294967296) (bits .xor .u32 h (h / 32768) * 2246822519 % 4294967296 / 8192) * 3266489917 % 4294967296)
      (bits .xor .u32 (bits .xor .u32 h (h / 32768) * 2246822519 % 4294967296) (bits .xor .u32 h (h / 32768) * 2246822519 % 4294967296 / 8192) * 3266489917 % 4294967296 / 65536) =
    (let a := tm (xr h (h / 32768)) 2246822519
     let b := tm (xr a (a / 8192)) 3266489917
     xr b (b / 65536)) := by
  rw [xor_u32 h (h / 32768) h0 h1 (by omega) (by omega)]
  show bits .xor .u32 (bits .xor .u32 (tm (xr h (h / 32768)) 2246822519) (tm (xr h (h / 32768)) 2246822519 / 8192) * 3266489917 % 4294967296)
      (bits .xor .u32 (tm (xr h (h / 32768)) 2246822519) (tm (xr h (h / 32768)) 2246822519 / 8192) * 3266489917 % 4294967296 / 65536) = _
  have ha := tm_bound (xr h (h / 32768)) 2246822519
  generalize tm (xr h (h / 32768)) 2246822519 = a at *
  rw [xor_u32 a (a / 8192) (by omega) (by omega) (by omega) (by omega)]
  show bits .xor .u32 (tm (xr a (a / 8192)) 3266489917) (tm (xr a (a / 8192)) 3266489917 / 65536) = _
  have hb := tm_bound (xr a (a / 8192)) 3266489917
  dsimp only
  generalize tm (xr a (a / 8192)) 3266489917 = b at *
  exact xor_u32 b (b / 65536) (by omega) (by omega) (by omega) (by omega)

theorem pow_bound (j : Nat) (h : j ≤ 18) : (1 : Int) ≤ 2 ^ j ∧ (2 : Int) ^ j ≤ 262144 := by
  have a : 2 ^ j ≤ 2 ^ 18 := Nat.pow_le_pow_right (by omega) h
  have b : 1 ≤ 2 ^ j := Nat.one_le_two_pow
  have c : (2 : Int) ^ j = ((2 ^ j : Nat) : Int) := by simp
  rw [c]
  omega

/-- One step of a word of the stripes. -/
def mx (w x : Int) : Int := tm (rl ((w + tm x 2246822519) % 4294967296) 13) 2654435761
theorem mx_add (w x : Int) : rl ((w + x * 2246822519) % 4294967296) 13 * 2654435761 % 4294967296 = mx w x := by
  unfold mx tm
  rw [show (w + x * 2246822519) % 4294967296 = (w + x * 2246822519 % 4294967296) % 4294967296 by omega]
theorem mx_bound (w x : Int) : 0 ≤ mx w x ∧ mx w x ≤ 4294967295 := tm_bound _ _

structure Four where
  a : Int
  b : Int
  c : Int
  d : Int
def Four.ok (f : Four) : Prop := (0 ≤ f.a ∧ f.a ≤ 4294967295) ∧ (0 ≤ f.b ∧ f.b ≤ 4294967295) ∧ (0 ≤ f.c ∧ f.c ≤ 4294967295) ∧ (0 ≤ f.d ∧ f.d ≤ 4294967295)
def Four.step (f : Four) (l : List UInt8) : Four := ⟨mx f.a (num4 l), mx f.b (num4 (l.drop 4)), mx f.c (num4 (l.drop 8)), mx f.d (num4 (l.drop 12))⟩
/-- The four words behind i stripes. -/
def stripe (l : List UInt8) : Nat → Four
  | 0 => ⟨606290984, 2246822519, 0, 1640531535⟩
  | i + 1 => (stripe l i).step (l.drop (16 * i))
theorem stripe_ok (l : List UInt8) (i : Nat) : (stripe l i).ok := by
  cases i with
  | zero => simp [stripe, Four.ok]
  | succ i => exact ⟨mx_bound _ _, mx_bound _ _, mx_bound _ _, mx_bound _ _⟩
def Four.join (f : Four) : Int := (rl f.a 1 + rl f.b 7 + rl f.c 12 + rl f.d 18) % 4294967296

/-- What is left of a string from k on. -/
def cut (s : ByteArray) (k : Nat) : ByteArray := s.extract k s.size
theorem cut_zero (s : ByteArray) : cut s 0 = s := by simp [cut]
theorem cut_size (s : ByteArray) (k : Nat) : (cut s k).size = s.size - k := by simp [cut, ByteArray.size_extract]
theorem cut_data (s : ByteArray) (k : Nat) : (cut s k).data.toList = s.data.toList.drop k := by
  have e : (cut s k).data = s.data.extract k s.size := by simp [cut]
  rw [e, Array.toList_extract, List.extract_eq_take_drop, List.take_of_length_le (by simp)]
theorem cut_ext {a b : ByteArray} (h : a.data.toList = b.data.toList) : a = b := by
  cases a; cases b; simp at h; simp [h]
theorem cut_cut (s : ByteArray) (k j : Nat) : cut (cut s k) j = cut s (k + j) := by
  apply cut_ext
  rw [cut_data, cut_data, cut_data, List.drop_drop]

theorem cut_walk (s : ByteArray) (k j : Nat) : (cut s k).extract j (s.size - k) = cut s (k + j) := by
  rw [← cut_cut, ← cut_size]
  rfl
theorem cut_first (s : ByteArray) (j : Nat) : s.extract j s.size = cut s j := rfl

theorem add_tm (a n p : Int) : (a + n * p) % 4294967296 = (a + tm n p) % 4294967296 := by unfold tm; omega

/-- What is left behind the stripes: by four bytes, then by one. -/
def by4 (h : Int) (l : List UInt8) : Nat → Int
  | 0 => h
  | i + 1 => tm (rl ((by4 h l i + tm (num4 (l.drop (4 * i))) 3266489917) % 4294967296) 17) 668265263
def by1 (h : Int) (l : List UInt8) : Nat → Int
  | 0 => h
  | i + 1 => tm (rl ((by1 h l i + tm ((l.getD i 0).toNat : Int) 374761393) % 4294967296) 11) 2654435761
theorem by4_bound (h : Int) (l : List UInt8) (h0 : 0 ≤ h ∧ h ≤ 4294967295) (i : Nat) : 0 ≤ by4 h l i ∧ by4 h l i ≤ 4294967295 := by
  cases i with
  | zero => exact h0
  | succ i => exact tm_bound _ _
theorem by1_bound (h : Int) (l : List UInt8) (h0 : 0 ≤ h ∧ h ≤ 4294967295) (i : Nat) : 0 ≤ by1 h l i ∧ by1 h l i ≤ 4294967295 := by
  cases i with
  | zero => exact h0
  | succ i => exact tm_bound _ _

theorem by4_step (h : Int) (l : List UInt8) (i : Nat) :
    rl ((by4 h l i + num4 (l.drop (4 * i)) * 3266489917) % 4294967296) 17 * 668265263 % 4294967296 = by4 h l (i + 1) := by
  rw [add_tm]
  rfl
theorem by1_step (g : Int) (s : ByteArray) (n k : Nat) (hk : k < (cut s n).size) :
    rl ((by1 g (s.data.toList.drop n) k + ((cut s n)[k].toNat : Int) % 4294967296 * 374761393) % 4294967296) 11 * 2654435761 % 4294967296 = by1 g (s.data.toList.drop n) (k + 1) := by
  have e := byteAt_get (cut s n) k hk
  have b := byteAt_bound (cut s n) k
  rw [e, show byteAt (cut s n) k % 4294967296 = byteAt (cut s n) k by omega, add_tm]
  unfold byteAt
  rw [cut_data]
  rfl
theorem stripe_step (s : ByteArray) (i : Nat) : stripe s.data.toList (i + 1) =
    ⟨mx (stripe s.data.toList i).a (num4 (cut s (16 * i)).data.toList), mx (stripe s.data.toList i).b (num4 (cut s (16 * i + 4)).data.toList),
     mx (stripe s.data.toList i).c (num4 (cut s (16 * i + 8)).data.toList), mx (stripe s.data.toList i).d (num4 (cut s (16 * i + 12)).data.toList)⟩ := by
  rw [cut_data, cut_data, cut_data, cut_data]
  simp [stripe, Four.step, List.drop_drop]
def Four.get (f : Four) : Nat → Int
  | 0 => f.a
  | 1 => f.b
  | 2 => f.c
  | _ => f.d
theorem stripe_get (l : List UInt8) (i j : Nat) (hj : j < 4) : (stripe l (i + 1)).get j = mx ((stripe l i).get j) (num4 (l.drop (16 * i + 4 * j))) := by
  rcases (by omega : j = 0 ∨ j = 1 ∨ j = 2 ∨ j = 3) with rfl | rfl | rfl | rfl <;> simp [stripe, Four.step, Four.get, List.drop_drop]
theorem get_bound (l : List UInt8) (i j : Nat) : 0 ≤ (stripe l i).get j ∧ (stripe l i).get j ≤ 4294967295 := by
  obtain ⟨ha, hb, hc, hd⟩ := stripe_ok l i
  unfold Four.get
  split <;> assumption
/-- The four words inside a stripe: j of them are those behind it. -/
def half (l : List UInt8) (i j t : Nat) : Int := if t < j then (stripe l (i + 1)).get t else (stripe l i).get t
theorem half_bound (l : List UInt8) (i j t : Nat) : 0 ≤ half l i j t ∧ half l i j t ≤ 4294967295 := by
  unfold half
  split <;> exact get_bound _ _ _
theorem half_zero (l : List UInt8) (i t : Nat) : half l i 0 t = (stripe l i).get t := by simp [half]
theorem half_four (l : List UInt8) (i t : Nat) (h : t < 4) : half l i 4 t = (stripe l (i + 1)).get t := by simp [half, h]
theorem half_at (l : List UInt8) (i j : Nat) (h : j < 4) : mx (half l i j j) (num4 (l.drop (16 * i + 4 * j))) = half l i (j + 1) j := by
  rw [half, if_neg (by omega), half, if_pos (by omega), stripe_get l i j h]
theorem half_ne (l : List UInt8) (i j t : Nat) (h : t ≠ j) : half l i (j + 1) t = half l i j t := by
  unfold half
  by_cases ht : t < j
  · rw [if_pos ht, if_pos (by omega)]
  · rw [if_neg ht, if_neg (by omega)]
theorem join_bound (f : Four) : 0 ≤ f.join ∧ f.join ≤ 4294967295 := by unfold Four.join; omega
theorem join_sum (f : Four) : ((rl f.a 1 + rl f.b 7 + rl f.c 12) % 4294967296 + rl f.d 18) % 4294967296 = f.join := by
  unfold Four.join
  omega
theorem mx_four (w x : Int) : rl ((w + x * 2246822519) % 4294967296) 13 * 2654435761 % 4294967296 = mx w x := mx_add w x

/-- The last mixing. -/
def fin (h : Int) : Int :=
  let a := tm (xr h (h / 32768)) 2246822519
  let b := tm (xr a (a / 8192)) 3266489917
  xr b (b / 65536)

/-- The tail: what is left behind the stripes, by four and by one. -/
def tl (h : Int) (l : List UInt8) : Int := by1 (by4 h l (l.length / 4)) (l.drop (4 * (l.length / 4))) (l.length % 4)

theorem tl_bound (h : Int) (l : List UInt8) (h0 : 0 ≤ h ∧ h ≤ 4294967295) : 0 ≤ tl h l ∧ tl h l ≤ 4294967295 := by1_bound _ _ (by4_bound h l h0 _) _

/-- The whole sum. -/
def sum (l : List UInt8) : Int :=
  let h := if 16 ≤ l.length then (stripe l (l.length / 16)).join else 374761393
  fin (tl ((h + l.length) % 4294967296) (l.drop (16 * (l.length / 16))))

theorem byte_drop (s : ByteArray) (a k : Nat) : ((s.data.toList.drop a).getD k 0).toNat = byteAt s (a + k) := by
  unfold byteAt
  rw [List.getD_eq_getElem?_getD, List.getElem?_drop, List.getD_eq_getElem?_getD]
theorem by1_next (g : Int) (s : ByteArray) (a k : Nat) :
    tm (rl ((by1 g (s.data.toList.drop a) k + tm (byteAt s (a + k)) 374761393) % 4294967296) 11) 2654435761 = by1 g (s.data.toList.drop a) (k + 1) := by
  rw [← byte_drop]
  rfl
theorem tl_is (X : Int) (s : ByteArray) (a k t : Nat) (h : a + 4 * k + t = s.size) (ht : t < 4) :
    tl X (s.data.toList.drop a) = by1 (by4 X (s.data.toList.drop a) k) (s.data.toList.drop (a + 4 * k)) t := by
  have e : (s.data.toList.drop a).length = s.size - a := by simp
  unfold tl
  rw [e, show (s.size - a) / 4 = k by omega, show (s.size - a) % 4 = t by omega, List.drop_drop]
theorem by4_next (h : Int) (l : List UInt8) (a k : Nat) :
    tm (rl ((by4 h (l.drop a) k + tm (num4 (l.drop (a + 4 * k))) 3266489917) % 4294967296) 17) 668265263 = by4 h (l.drop a) (k + 1) := by
  rw [← List.drop_drop]
  rfl
theorem fin_refs (h : Int) (h0 : 0 ≤ h ∧ h ≤ 4294967295) : 
    bits .xor .i64 h (h / 32768) = xr h (h / 32768) ∧ (0 ≤ xr h (h / 32768) ∧ xr h (h / 32768) ≤ 4294967295) ∧
    bits .xor .i64 h (h / 8192) = xr h (h / 8192) ∧ (0 ≤ xr h (h / 8192) ∧ xr h (h / 8192) ≤ 4294967295) ∧
    bits .xor .i64 h (h / 65536) = xr h (h / 65536) ∧ (0 ≤ xr h (h / 65536) ∧ xr h (h / 65536) ≤ 4294967295) :=
  ⟨xor_i64 _ _ (by omega) (by omega) (by omega) (by omega), xr_bound _ _ (by omega) (by omega), xor_i64 _ _ (by omega) (by omega) (by omega) (by omega), xr_bound _ _ (by omega) (by omega), xor_i64 _ _ (by omega) (by omega) (by omega) (by omega), xr_bound _ _ (by omega) (by omega)⟩

theorem sum_long (s : ByteArray) (h : 16 ≤ s.size) :
    sum s.data.toList = fin (tl (((stripe s.data.toList (s.size / 16)).join + s.size) % 4294967296) (cut s (16 * (s.size / 16))).data.toList) := by
  have e : s.data.toList.length = s.size := by simp
  unfold sum
  rw [e, if_pos h, cut_data]
theorem sum_short (s : ByteArray) (h : ¬ 16 ≤ s.size) : sum s.data.toList = fin (tl (374761393 + s.size) s.data.toList) := by
  have e : s.data.toList.length = s.size := by simp
  unfold sum
  rw [e, if_neg h, show s.size / 16 = 0 by omega]
  show fin (tl ((374761393 + (s.size : Int)) % 4294967296) s.data.toList) = _
  rw [show (374761393 + (s.size : Int)) % 4294967296 = 374761393 + (s.size : Int) by omega]

end Go.Proofs.Ytbhemchnjpajiaa.SM

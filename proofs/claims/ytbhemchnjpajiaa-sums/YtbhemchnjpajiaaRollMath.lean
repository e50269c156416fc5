/- Plain arithmetic of the rolling check sum: what the words of the stripes are of a text that goes on. No condition beyond those that each row states. -/
import Derived.Test.YtbhemchnjpajiaaSumMath
namespace Go.Proofs.Ytbhemchnjpajiaa.SM
open Go

theorem num4_append (l t : List UInt8) (h : 4 ≤ l.length) : num4 (l ++ t) = num4 l := by
  match l, h with
  | a :: b :: c :: d :: r, _ => simp [num4]
theorem drop_append (l t : List UInt8) (k : Nat) (h : k ≤ l.length) : (l ++ t).drop k = l.drop k ++ t := by
  rw [List.drop_append, Nat.sub_eq_zero_of_le h, List.drop_zero]
theorem stripe_append (l t : List UInt8) (i : Nat) (h : 16 * i ≤ l.length) : stripe (l ++ t) i = stripe l i := by
  induction i with
  | zero => rfl
  | succ i ih =>
    simp only [stripe, ih (by omega), Four.step, List.drop_drop]
    rw [drop_append l t _ (by omega), drop_append l t _ (by omega), drop_append l t _ (by omega), drop_append l t _ (by omega)]
    rw [num4_append _ _ (by simp; omega), num4_append _ _ (by simp; omega), num4_append _ _ (by simp; omega), num4_append _ _ (by simp; omega)]
theorem data_append (a b : ByteArray) : (a ++ b).data.toList = a.data.toList ++ b.data.toList := by simp
theorem size_append (a b : ByteArray) : (a ++ b).size = a.size + b.size := by simp
theorem cut_append (a b : ByteArray) (k : Nat) (h : k ≤ a.size) : cut a k ++ b = cut (a ++ b) k := by
  apply cut_ext
  rw [data_append, cut_data, cut_data, data_append, drop_append _ _ _ (by simpa using h)]
theorem cut_all (s : ByteArray) (k : Nat) (h : s.size ≤ k) : cut s k = ByteArray.empty := by
  apply cut_ext
  rw [cut_data, List.drop_of_length_le (by simpa using h)]
  rfl

/-- The words of the whole stripes of a text. -/
def words (s : ByteArray) : Four := stripe s.data.toList (s.size / 16)
theorem words_empty : words ByteArray.empty = ⟨606290984, 2246822519, 0, 1640531535⟩ := rfl
theorem sum_of (s : ByteArray) : sum s.data.toList = fin (tl (((if 16 ≤ s.size then (words s).join else 374761393) + s.size) % 4294967296) (cut s (16 * (s.size / 16))).data.toList) := by
  have e : s.data.toList.length = s.size := by simp
  unfold sum words
  rw [e, cut_data]
end Go.Proofs.Ytbhemchnjpajiaa.SM

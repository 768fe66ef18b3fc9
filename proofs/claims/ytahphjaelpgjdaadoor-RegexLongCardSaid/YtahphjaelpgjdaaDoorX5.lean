/- Links between places, one place after another. No condition. -/
import Derived.Test.YtahphjaelpgjdaaDoorX4
namespace Go.Proofs.YtahphjaelpgjdaaDoor.Rx
open Go

theorem linkF_snoc (to : Nat) : ∀ (k : Nat) (r : List Nat) (f fr : Nat), linkF to k (r ++ [f]) fr = linkF to k r fr ++ [if fr.testBit (k + r.length) then f ||| to else f]
  | k, [], f, fr => by simp [linkF]
  | k, g :: r, f, fr => by
    simp only [List.cons_append, linkF, linkF_snoc to (k + 1) r f fr, List.length_cons]
    rw [show k + 1 + r.length = k + (r.length + 1) by omega]
def linkP (to fr : Nat) (l : List Nat) (j : Nat) : List Nat := linkF to 0 (l.take j) fr ++ l.drop j
theorem linkP_zero (to fr : Nat) (l : List Nat) : linkP to fr l 0 = l := by simp [linkP, linkF]
theorem linkP_end (to fr : Nat) (l : List Nat) (j : Nat) (h : l.length ≤ j) : linkP to fr l j = linkF to 0 l fr := by
  unfold linkP; rw [List.take_of_length_le h, List.drop_eq_nil_of_le h, List.append_nil]
theorem linkP_length (to fr : Nat) (l : List Nat) (j : Nat) : (linkP to fr l j).length = l.length := by
  unfold linkP; rw [List.length_append, linkF_length, List.length_take, List.length_drop]; omega
theorem linkP_getD (to fr : Nat) (l : List Nat) (j : Nat) (h : j < l.length) : (linkP to fr l j).getD j 0 = l.getD j 0 := by
  unfold linkP
  rw [List.getD_eq_getElem?_getD, List.getElem?_append_right (by rw [linkF_length, List.length_take]; omega), linkF_length, List.length_take, List.getElem?_drop, List.getD_eq_getElem?_getD]
  congr 2; omega
theorem linkP_skip (to fr : Nat) (l : List Nat) (j : Nat) (h : fr.testBit j = false) : linkP to fr l (j + 1) = linkP to fr l j := by
  by_cases hj : j < l.length
  · unfold linkP
    rw [List.take_succ_eq_append_getElem hj, linkF_snoc, List.length_take, show 0 + min j l.length = j by omega, h, List.append_assoc]
    congr 1
    rw [List.drop_eq_getElem_cons hj]
    rfl
  · rw [linkP_end _ _ _ _ (by omega), linkP_end _ _ _ _ (by omega)]
theorem linkP_step (to fr : Nat) (l : List Nat) (j : Nat) (h : fr.testBit j = true) (hj : j < l.length) : linkP to fr l (j + 1) = (linkP to fr l j).set j (l.getD j 0 ||| to) := by
  unfold linkP
  rw [List.take_succ_eq_append_getElem hj, linkF_snoc, List.length_take, show 0 + min j l.length = j by omega, h, List.append_assoc]
  rw [List.set_append_right _ _ (by rw [linkF_length, List.length_take]; omega), linkF_length, List.length_take, show j - min j l.length = 0 by omega]
  have e : l.getD j 0 = l[j] := by simp [hj]
  conv => rhs; rw [List.drop_eq_getElem_cons hj, List.set_cons_zero]
  rw [e]
  rfl
theorem bit_lt {n k t : Nat} (h : t < 2 ^ n) (hk : t.testBit k = true) : k < n := by
  rcases Nat.lt_or_ge k n with h1 | h1
  · exact h1
  · rw [Nat.testBit_lt_two_pow (Nat.lt_of_lt_of_le h (two_le h1))] at hk; cases hk
end Go.Proofs.YtahphjaelpgjdaaDoor.Rx

/- Words of masks, and the lowest bit of a word. No condition. -/
import Derived.Test.YtahphjaelpgjdaaDoorX2
namespace Go.Proofs.YtahphjaelpgjdaaDoor.Rx
open Go

def wd (n i : Nat) : Nat := n / 2 ^ (64 * i) % 2 ^ 64
theorem wd_lt (n i : Nat) : wd n i < 18446744073709551616 := Nat.mod_lt _ (by decide)
theorem wd_bit (n i j : Nat) : (wd n i).testBit j = (decide (j < 64) && n.testBit (64 * i + j)) := by
  unfold wd
  rw [Nat.testBit_mod_two_pow, Nat.testBit_div_two_pow, Nat.add_comm]
theorem wd_or (n m i : Nat) : wd (n ||| m) i = wd n i ||| wd m i := by
  apply Nat.eq_of_testBit_eq
  intro j
  rw [Nat.testBit_or, wd_bit, wd_bit, wd_bit, Nat.testBit_or]
  cases decide (j < 64) <;> simp
theorem wd_zero (i : Nat) : wd 0 i = 0 := by unfold wd; simp
theorem notS_bit (n k : Nat) (hn : n < 2 ^ 256) : (notS n).testBit k = (decide (k < 256) && !n.testBit k) := by
  have e : notS n = 2 ^ 256 - (n + 1) := by unfold notS full; omega
  rw [e, Nat.testBit_two_pow_sub_succ hn]
theorem wd_not (n i : Nat) (hn : n < 2 ^ 256) (hi : i < 4) : wd (notS n) i = 18446744073709551615 - wd n i := by
  have h := wd_lt n i
  have e : 18446744073709551615 - wd n i = 2 ^ 64 - (wd n i + 1) := by omega
  rw [e]
  apply Nat.eq_of_testBit_eq
  intro j
  rw [Nat.testBit_two_pow_sub_succ h, wd_bit, wd_bit, notS_bit _ _ hn]
  by_cases hj : j < 64
  · simp [hj, show 64 * i + j < 256 by omega]
  · simp [hj]
theorem wd_add (n k : Nat) : wd (n ||| 2 ^ k) (k / 64) = wd n (k / 64) ||| 2 ^ (k % 64) := by
  apply Nat.eq_of_testBit_eq
  intro j
  rw [Nat.testBit_or, wd_bit, wd_bit, Nat.testBit_or, Nat.testBit_two_pow, Nat.testBit_two_pow]
  by_cases hj : j < 64
  · have : decide (k = 64 * (k / 64) + j) = decide (k % 64 = j) := by rw [Bool.eq_iff_iff]; simp; omega
    rw [this]; simp [hj]
  · have : decide (k % 64 = j) = false := by simp; omega
    rw [this]; simp [hj]
theorem wd_add_ne (n k i : Nat) (h : i ≠ k / 64) : wd (n ||| 2 ^ k) i = wd n i := by
  apply Nat.eq_of_testBit_eq
  intro j
  rw [wd_bit, wd_bit, Nat.testBit_or, Nat.testBit_two_pow]
  by_cases hj : j < 64
  · have : decide (k = 64 * i + j) = false := by simp; omega
    rw [this]; simp
  · simp [hj]
theorem wd_has (n k : Nat) : (wd n (k / 64) / 2 ^ (k % 64) % 2 = 1) ↔ n.testBit k = true := by
  have h : (wd n (k / 64)).testBit (k % 64) = n.testBit k := by
    rw [wd_bit, show 64 * (k / 64) + k % 64 = k by omega]
    simp [Nat.mod_lt]
  rw [← h, Nat.testBit_eq_decide_div_mod_eq, decide_eq_true_eq]
theorem words_eq {n m : Nat} (hn : n < 2 ^ 256) (hm : m < 2 ^ 256) (h : ∀ i, i < 4 → wd n i = wd m i) : n = m := by
  apply Nat.eq_of_testBit_eq
  intro j
  by_cases hj : j < 256
  · have e := congrArg (fun x => x.testBit (j % 64)) (h (j / 64) (by omega))
    rw [wd_bit, wd_bit, show 64 * (j / 64) + j % 64 = j by omega] at e
    simpa [Nat.mod_lt] using e
  · rw [Nat.testBit_lt_two_pow (Nat.lt_of_lt_of_le hn (two_le (by omega))), Nat.testBit_lt_two_pow (Nat.lt_of_lt_of_le hm (two_le (by omega)))]

/-! the lowest bit -/
theorem low_form : ∀ x : Nat, x ≠ 0 → ∃ t q, x = 2 ^ t * (2 * q + 1) := by
  intro x
  induction x using Nat.strongRecOn with
  | _ x ih =>
    intro hx
    by_cases h : x % 2 = 1
    · exact ⟨0, x / 2, by simp; omega⟩
    · obtain ⟨t, q, e⟩ := ih (x / 2) (by omega) (by omega)
      refine ⟨t + 1, q, ?_⟩
      rw [Nat.pow_succ, Nat.mul_right_comm, ← e]
      omega
theorem form_bit (t a j : Nat) : (2 ^ t * a).testBit j = (decide (t ≤ j) && a.testBit (j - t)) := by
  rw [Nat.testBit_two_pow_mul]
theorem pred_bit (t q j : Nat) : (2 ^ t * (2 * q + 1) - 1).testBit j = (if j < t then true else (2 * q).testBit (j - t)) := by
  have e : 2 ^ t * (2 * q + 1) - 1 = 2 ^ t * (2 * q) + (2 ^ t - 1) := by
    have := two_pos t
    rw [Nat.mul_add, Nat.mul_one]
    omega
  rw [e, Nat.testBit_two_pow_mul_add _ (by have := two_pos t; omega)]
  split
  · rename_i h
    rw [Nat.testBit_two_pow_sub_one]
    simp [h]
  · rfl
theorem odd_bit (q m : Nat) : ((2 * q + 1).testBit m && (2 * q).testBit m) = (2 * q).testBit m := by
  cases m with
  | zero => simp
  | succ m =>
    rw [Nat.testBit_succ, Nat.testBit_succ, show (2 * q + 1) / 2 = 2 * q / 2 by omega]
    simp
/-- the word without its lowest bit -/
theorem and_pred (t q : Nat) : 2 ^ t * (2 * q + 1) &&& (2 ^ t * (2 * q + 1) - 1) = 2 ^ t * (2 * q) := by
  apply Nat.eq_of_testBit_eq
  intro j
  rw [Nat.testBit_and, form_bit, form_bit, pred_bit]
  by_cases h : j < t
  · have : decide (t ≤ j) = false := by simp; omega
    simp [this]
  · rw [if_neg h, Bool.and_assoc, odd_bit]
theorem and_neg (t q : Nat) (h : 2 ^ t * (2 * q + 1) < 18446744073709551616) : 2 ^ t * (2 * q + 1) &&& (18446744073709551616 - 2 ^ t * (2 * q + 1)) = 2 ^ t := by
  have hp : 0 < 2 ^ t * (2 * q + 1) := Nat.mul_pos (two_pos t) (by omega)
  have e : 18446744073709551616 - 2 ^ t * (2 * q + 1) = 2 ^ 64 - ((2 ^ t * (2 * q + 1) - 1) + 1) := by
    generalize 2 ^ t * (2 * q + 1) = x at *
    omega
  have ht : t < 64 := by
    rcases Nat.lt_or_ge t 64 with h1 | h1
    · exact h1
    · have : 2 ^ 64 ≤ 2 ^ t := two_le h1
      have : 2 ^ t ≤ 2 ^ t * (2 * q + 1) := Nat.le_mul_of_pos_right _ (by omega)
      omega
  apply Nat.eq_of_testBit_eq
  intro j
  rw [e, Nat.testBit_and, Nat.testBit_two_pow_sub_succ (by generalize 2 ^ t * (2 * q + 1) = x at *; omega), form_bit, pred_bit, Nat.testBit_two_pow]
  by_cases h1 : j < t
  · have : decide (t ≤ j) = false := by simp; omega
    have h2 : decide (t = j) = false := by simp; omega
    simp [this, h2]
  · rw [if_neg h1]
    by_cases h2 : t = j
    · subst h2; simp [ht]
    · have h3 : decide (t = j) = false := by simp [h2]
      obtain ⟨m, hm⟩ : ∃ m, j - t = m + 1 := ⟨j - t - 1, by omega⟩
      rw [h3, hm, Nat.testBit_succ, Nat.testBit_succ, show (2 * q + 1) / 2 = 2 * q / 2 by omega]
      cases (2 * q / 2).testBit m <;> simp
theorem low_lt (t q : Nat) (h : 2 ^ t * (2 * q + 1) < 18446744073709551616) : t < 64 := by
  rcases Nat.lt_or_ge t 64 with h1 | h1
  · exact h1
  · have : 2 ^ 64 ≤ 2 ^ t := two_le h1
    have : 2 ^ t ≤ 2 ^ t * (2 * q + 1) := Nat.le_mul_of_pos_right _ (by omega)
    omega

/-! the bits of a set that are still to come: from k on -/
def from_ (n k : Nat) : Nat := n / 2 ^ k * 2 ^ k
theorem from_bit (n k j : Nat) : (from_ n k).testBit j = (decide (k ≤ j) && n.testBit j) := by
  unfold from_
  rw [Nat.testBit_mul_two_pow, Nat.testBit_div_two_pow]
  by_cases h : k ≤ j
  · simp [h]
  · simp [h]
end Go.Proofs.YtahphjaelpgjdaaDoor.Rx

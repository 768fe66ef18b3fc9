/- Of what a set's bits are told in turn. No condition. -/
import Derived.Test.YtahphjaelpgjdaaDoorX3
namespace Go.Proofs.YtahphjaelpgjdaaDoor.Rx
open Go

theorem word_from (n i : Nat) : wd (from_ n (64 * i)) i = wd n i := by
  apply Nat.eq_of_testBit_eq
  intro j
  rw [wd_bit, wd_bit, from_bit]
  have : decide (64 * i ≤ 64 * i + j) = true := by simp
  rw [this, Bool.true_and]
theorem word_none (n c i : Nat) (h : wd (from_ n c) i = 0) (hc : 64 * i ≤ c) : ∀ j, c ≤ j → j < 64 * (i + 1) → n.testBit j = false := by
  intro j h1 h2
  have e := congrArg (fun x => Nat.testBit x (j - 64 * i)) h
  simp only [Nat.zero_testBit] at e
  rw [wd_bit, from_bit, show 64 * i + (j - 64 * i) = j by omega] at e
  have a1 : decide (j - 64 * i < 64) = true := by simp; omega
  have a2 : decide (c ≤ j) = true := by simp; omega
  rw [a1, a2] at e
  simpa using e
/-- the next bit, what lies ahead of it, and what is left -/
theorem word_next (n c i t q : Nat) (h : wd (from_ n c) i = 2 ^ t * (2 * q + 1)) (hc : 64 * i ≤ c) :
    t < 64 ∧ c ≤ 64 * i + t ∧ n.testBit (64 * i + t) = true ∧ (∀ j, c ≤ j → j < 64 * i + t → n.testBit j = false) ∧ 2 ^ t * (2 * q) = wd (from_ n (64 * i + t + 1)) i := by
  have hb : ∀ j, (wd (from_ n c) i).testBit j = (decide (t ≤ j) && (2 * q + 1).testBit (j - t)) := fun j => by rw [h, form_bit]
  have ht := low_lt t q (by rw [← h]; exact wd_lt _ _)
  have h0 := hb t
  rw [wd_bit, from_bit] at h0
  have e1 : (decide (t ≤ t) && (2 * q + 1).testBit (t - t)) = true := by simp
  rw [e1] at h0
  simp only [Bool.and_eq_true, decide_eq_true_eq] at h0
  refine ⟨ht, h0.2.1, h0.2.2, fun j h1 h2 => ?_, ?_⟩
  · have e := hb (j - 64 * i)
    rw [wd_bit, from_bit, show 64 * i + (j - 64 * i) = j by omega] at e
    have a1 : decide (j - 64 * i < 64) = true := by simp; omega
    have a2 : decide (c ≤ j) = true := by simp; omega
    have a3 : decide (t ≤ j - 64 * i) = false := by simp; omega
    rw [a1, a2, a3] at e
    simpa using e
  · apply Nat.eq_of_testBit_eq
    intro j
    have e := hb j
    rw [wd_bit, from_bit] at e
    rw [form_bit, wd_bit, from_bit]
    by_cases h1 : j ≤ t
    · have a1 : decide (64 * i + t + 1 ≤ 64 * i + j) = false := by simp; omega
      rw [a1]
      by_cases h2 : j = t
      · subst h2; simp
      · have a2 : decide (t ≤ j) = false := by simp; omega
        rw [a2]; simp
    · have a1 : decide (64 * i + t + 1 ≤ 64 * i + j) = true := by simp; omega
      have a2 : decide (t ≤ j) = true := by simp; omega
      have a3 : decide (c ≤ 64 * i + j) = true := by simp; omega
      obtain ⟨m, hm⟩ : ∃ m, j - t = m + 1 := ⟨j - t - 1, by omega⟩
      rw [a2, a3, hm, Nat.testBit_succ, show (2 * q + 1) / 2 = 2 * q / 2 by omega] at e
      rw [a1, a2, hm, Nat.testBit_succ]
      simpa using e.symm
end Go.Proofs.YtahphjaelpgjdaaDoor.Rx

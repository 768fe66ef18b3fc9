/- Plain facts on floats of 64 bits: the order of any two, by whole numbers. No condition. -/
import Derived.Test.YtencpjhpedenbaaGreatDoorFb
namespace Go.Proofs.YtencpjhpedenbaaGreatDoor.Fl
open Ieee
set_option linter.unusedVariables false

/-- the whole number of units of a word that is no NaN; of an infinite one the one behind all -/
def vi (v : Nat) : Int := sv (decide (9223372036854775808 ≤ v)) (v % 9223372036854775808)
def nanB (v : Nat) : Bool := decide (9218868437227405312 < v % 9223372036854775808)
theorem val_inj {r s : Nat} (h : val r = val s) : r = s := by have := congrArg rnd h; rwa [rnd_val, rnd_val] at this
theorem val_lt {r s : Nat} (h : r < s) : val r < val s := by
  have := val_mono (Nat.le_of_lt h)
  have hne : val r ≠ val s := fun e => by have := val_inj e; omega
  omega
theorem word_of (v : Nat) (hv : v < 18446744073709551616) : double.word (decide (9223372036854775808 ≤ v)) (v % 9223372036854775808) = v := by
  by_cases h : 9223372036854775808 ≤ v
  · rw [decide_eq_true h, word_t]; omega
  · rw [decide_eq_false h, word_f]; omega
theorem read_any (v : Nat) (hv : v < 18446744073709551616) (h : v % 9223372036854775808 < 9218868437227405312) :
    double.read v = .number (decide (9223372036854775808 ≤ v)) (magOf (v % 9223372036854775808)) ((plcOf (v % 9223372036854775808) : Int) - 1074) := by
  have := read_rung (decide (9223372036854775808 ≤ v)) (v % 9223372036854775808) h
  rwa [word_of v hv] at this
theorem read_infs (v : Nat) (hv : v < 18446744073709551616) (h : v % 9223372036854775808 = 9218868437227405312) : double.read v = .infinity (decide (9223372036854775808 ≤ v)) := by
  by_cases hs : 9223372036854775808 ≤ v
  · obtain rfl : v = 18442240474082181120 := by omega
    decide
  · obtain rfl : v = 9218868437227405312 := by omega
    decide
theorem read_nan (v : Nat) (h : 9218868437227405312 < v % 9223372036854775808) : ∃ s p, double.read v = .nan s p := by
  unfold Format.read
  rw [bin, infr, sgnw]
  dsimp only
  rw [if_neg (by omega), if_neg (by omega), if_neg (by omega)]
  exact ⟨_, _, rfl⟩
theorem signed_scale (s : Bool) (r a : Nat) (h : a ≤ plcOf r) : Ieee.signed s (magOf r) (plcOf r - a) * ((2 ^ a : Nat) : Int) = sv s r := by
  have hb : magOf r * 2 ^ (plcOf r - a) * 2 ^ a = val r := by rw [Nat.mul_assoc, ← Nat.pow_add, show plcOf r - a + a = plcOf r by omega, val_eq]
  unfold Ieee.signed sv
  rw [← hb]
  simp only [Nat.shiftLeft_eq]
  cases s <;> simp [Int.neg_mul]
theorem compare_scale {a b c : Int} (hc : 0 < c) : compare a b = compare (a * c) (b * c) := by
  rcases Int.lt_trichotomy a b with h | h | h
  · rw [Int.compare_eq_lt.2 h, Int.compare_eq_lt.2 (Int.mul_lt_mul_of_pos_right h hc)]
  · rw [h, Int.compare_eq_eq.2 rfl, Int.compare_eq_eq.2 rfl]
  · rw [Int.compare_eq_gt.2 h, Int.compare_eq_gt.2 (Int.mul_lt_mul_of_pos_right h hc)]
theorem sv_bd (s : Bool) {r : Nat} (h : r < 9218868437227405312) : -(val 9218868437227405312 : Int) < sv s r ∧ sv s r < val 9218868437227405312 := by
  have := val_lt h
  unfold sv
  split <;> omega
theorem val_big : 0 < val 9218868437227405312 := by have := val_lt (show 0 < 9218868437227405312 by omega); omega
theorem sv_t (r : Nat) : sv true r = -(val r : Int) := rfl
theorem sv_f (r : Nat) : sv false r = (val r : Int) := rfl
theorem inf_inf (s t : Bool) (M : Int) (hM : 0 < M) : some (compare t.toNat s.toNat) = some (compare (if s then -M else M) (if t then -M else M)) := by
  cases s <;> cases t
  · simp
  · have : compare M (-M) = .gt := Int.compare_eq_gt.2 (by omega)
    simp [this]; rfl
  · have : compare (-M) M = .lt := Int.compare_eq_lt.2 (by omega)
    simp [this]; rfl
  · simp
theorem order_vi (x y : Nat) (hx : x < 18446744073709551616) (hy : y < 18446744073709551616) :
    double.order x y = if (nanB x || nanB y) = true then none else some (compare (vi x) (vi y)) := by
  unfold Format.order
  have hb := val_big
  by_cases nx : 9218868437227405312 < x % 9223372036854775808
  · obtain ⟨s, p, e⟩ := read_nan x nx
    rw [e, if_pos (by unfold nanB; rw [decide_eq_true nx]; rfl)]
    cases double.read y <;> rfl
  by_cases ny : 9218868437227405312 < y % 9223372036854775808
  · obtain ⟨s, p, e⟩ := read_nan y ny
    rw [e, if_pos (by unfold nanB; rw [decide_eq_true ny]; simp)]
    cases double.read x <;> rfl
  rw [if_neg (by unfold nanB; rw [decide_eq_false nx, decide_eq_false ny]; simp)]
  unfold vi
  generalize hs : decide (9223372036854775808 ≤ x) = s at *
  generalize ht : decide (9223372036854775808 ≤ y) = t at *
  by_cases ix : x % 9223372036854775808 = 9218868437227405312
  · have ex := read_infs x hx ix
    rw [hs] at ex
    by_cases iy : y % 9223372036854775808 = 9218868437227405312
    · have ey := read_infs y hy iy
      rw [ht] at ey
      rw [ex, ey, ix, iy]
      exact inf_inf s t _ (by omega)
    · have ey := read_any y hy (by omega)
      rw [ht] at ey
      have hy' := sv_bd t (show y % 9223372036854775808 < 9218868437227405312 by omega)
      rw [ex, ey, ix]
      cases s
      · rw [sv_f, Int.compare_eq_gt.2 hy'.2]; rfl
      · rw [sv_t, Int.compare_eq_lt.2 hy'.1]; rfl
  · have ex := read_any x hx (by omega)
    rw [hs] at ex
    have hx' := sv_bd s (show x % 9223372036854775808 < 9218868437227405312 by omega)
    by_cases iy : y % 9223372036854775808 = 9218868437227405312
    · have ey := read_infs y hy iy
      rw [ht] at ey
      rw [ex, ey, iy]
      cases t
      · rw [sv_f, Int.compare_eq_lt.2 hx'.2]; rfl
      · rw [sv_t, Int.compare_eq_gt.2 hx'.1]; rfl
    · have ey := read_any y hy (by omega)
      rw [ht] at ey
      rw [ex, ey]
      generalize x % 9223372036854775808 = a at *
      generalize y % 9223372036854775808 = b at *
      unfold Datum.order
      simp only
      rw [show min ((plcOf a : Int) - 1074) ((plcOf b : Int) - 1074) = ((min (plcOf a) (plcOf b) : Nat) : Int) - 1074 by omega]
      rw [show ((plcOf a : Int) - 1074 - (((min (plcOf a) (plcOf b) : Nat) : Int) - 1074)).toNat = plcOf a - min (plcOf a) (plcOf b) by omega, show ((plcOf b : Int) - 1074 - (((min (plcOf a) (plcOf b) : Nat) : Int) - 1074)).toNat = plcOf b - min (plcOf a) (plcOf b) by omega]
      rw [compare_scale (c := ((2 ^ min (plcOf a) (plcOf b) : Nat) : Int)) (by exact_mod_cast Nat.pow_pos (by omega)), signed_scale s a _ (Nat.min_le_left _ _), signed_scale t b _ (Nat.min_le_right _ _)]
end Go.Proofs.YtencpjhpedenbaaGreatDoor.Fl

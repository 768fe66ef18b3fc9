/- Plain facts on floats of 64 bits: how rounding goes with order, by rungs. No condition. -/
import Ieee.Arith
namespace Go.Proofs.YtencpjhpedenbaaGreatDoor.Fl
open Ieee
set_option linter.unusedVariables false

abbrev B52 : Nat := 4503599627370496
abbrev INF : Nat := 9218868437227405312
abbrev SGN : Nat := 9223372036854775808
theorem bin : double.binade = 4503599627370496 := by decide
theorem infr : double.infRung = 9218868437227405312 := by decide
theorem sgnw : double.signWeight = 9223372036854775808 := by decide
theorem lp : double.leastPlace = -1074 := by decide
theorem fb : double.fractionBits = 52 := rfl

/-- the magnitude of a rung, in units of the least one -/
def val (r : Nat) : Nat := if r < 4503599627370496 then r else (4503599627370496 + r % 4503599627370496) * 2 ^ (r / 4503599627370496 - 1)
/-- half to even -/
def rhe (x d : Nat) : Nat := x / d + (decide (d < 2 * (x % d)) || (d == 2 * (x % d) && x / d % 2 == 1)).toNat
/-- the rung that is nearest to a magnitude in units of the least one -/
def rnd (x : Nat) : Nat := if x < 9007199254740992 then x else (x.log2 - 52) * 4503599627370496 + rhe x (2 ^ (x.log2 - 52))

theorem rhe_lo (x d : Nat) : x / d ≤ rhe x d := by unfold rhe; omega
theorem rhe_hi (x d : Nat) : rhe x d ≤ x / d + 1 := by
  unfold rhe
  have : (decide (d < 2 * (x % d)) || (d == 2 * (x % d) && x / d % 2 == 1)).toNat ≤ 1 := Bool.toNat_le _
  omega
theorem rhe_mono {x y d : Nat} (hd : 0 < d) (h : x ≤ y) : rhe x d ≤ rhe y d := by
  have hdiv : x / d ≤ y / d := Nat.div_le_div_right h
  by_cases e : x / d = y / d
  · have hx := Nat.div_add_mod x d
    have hy := Nat.div_add_mod y d
    rw [e] at hx
    have hm : x % d ≤ y % d := by omega
    unfold rhe
    rw [e]
    have key : (decide (d < 2 * (x % d)) || (d == 2 * (x % d) && y / d % 2 == 1)).toNat ≤ (decide (d < 2 * (y % d)) || (d == 2 * (y % d) && y / d % 2 == 1)).toNat := by
      by_cases h1 : d < 2 * (y % d)
      · rw [decide_eq_true h1, Bool.true_or]; exact Bool.toNat_le _
      · by_cases h2 : d < 2 * (x % d)
        · omega
        · rw [decide_eq_false h1, decide_eq_false h2, Bool.false_or, Bool.false_or]
          by_cases h3 : d = 2 * (x % d)
          · have h4 : d = 2 * (y % d) := by omega
            rw [show (d == 2 * (x % d)) = true by simpa using h3, show (d == 2 * (y % d)) = true by simpa using h4]
            exact Nat.le_refl _
          · rw [show (d == 2 * (x % d)) = false by simpa using h3, Bool.false_and]
            exact Nat.zero_le _
    omega
  · have := rhe_hi x d
    have := rhe_lo y d
    omega
theorem log_lo {x : Nat} (h : x ≠ 0) : 2 ^ x.log2 ≤ x := Nat.log2_self_le h
theorem log_hi (x : Nat) : x < 2 ^ (x.log2 + 1) := Nat.lt_log2_self
theorem log_ge {x : Nat} (h : 9007199254740992 ≤ x) : 53 ≤ x.log2 := (Nat.le_log2 (by omega)).2 (by omega)
/-- the quotient that is kept -/
theorem kept_lo {x : Nat} (h : 9007199254740992 ≤ x) : 4503599627370496 ≤ x / 2 ^ (x.log2 - 52) := by
  have h1 := log_ge h
  rw [Nat.le_div_iff_mul_le (Nat.pow_pos (by omega))]
  have e : 4503599627370496 * 2 ^ (x.log2 - 52) = 2 ^ x.log2 := by
    rw [show (4503599627370496 : Nat) = 2 ^ 52 from rfl, ← Nat.pow_add]
    congr 1; omega
  rw [e]
  exact log_lo (by omega)
theorem kept_hi {x : Nat} (h : 9007199254740992 ≤ x) : x / 2 ^ (x.log2 - 52) < 9007199254740992 := by
  have h1 := log_ge h
  rw [Nat.div_lt_iff_lt_mul (Nat.pow_pos (by omega))]
  have e : 9007199254740992 * 2 ^ (x.log2 - 52) = 2 ^ (x.log2 + 1) := by
    rw [show (9007199254740992 : Nat) = 2 ^ 53 from rfl, ← Nat.pow_add]
    congr 1; omega
  rw [e]
  exact log_hi x
theorem log_mono {x y : Nat} (hx : x ≠ 0) (h : x ≤ y) : x.log2 ≤ y.log2 := (Nat.le_log2 (by omega)).2 (Nat.le_trans (log_lo hx) h)
theorem rnd_mono {x y : Nat} (h : x ≤ y) : rnd x ≤ rnd y := by
  unfold rnd
  by_cases hy : y < 9007199254740992
  · rw [if_pos hy, if_pos (by omega)]; exact h
  · rw [if_neg hy]
    have l1 := kept_lo (x := y) (by omega)
    have l2 := rhe_lo y (2 ^ (y.log2 - 52))
    have l3 := log_ge (x := y) (by omega)
    by_cases hx : x < 9007199254740992
    · rw [if_pos hx]
      have : 1 * 4503599627370496 ≤ (y.log2 - 52) * 4503599627370496 := Nat.mul_le_mul_right _ (by omega)
      omega
    · rw [if_neg hx]
      have m1 := log_mono (by omega) h
      have u1 := kept_hi (x := x) (by omega)
      have u2 := rhe_hi x (2 ^ (x.log2 - 52))
      have u3 := log_ge (x := x) (by omega)
      by_cases e : x.log2 = y.log2
      · rw [e]
        have := rhe_mono (d := 2 ^ (y.log2 - 52)) (Nat.pow_pos (by omega)) h
        omega
      · have : (x.log2 - 52 + 1) * 4503599627370496 ≤ (y.log2 - 52) * 4503599627370496 := Nat.mul_le_mul_right _ (by omega)
        rw [Nat.add_mul] at this
        omega
theorem val_log {r : Nat} (h : 4503599627370496 ≤ r) : (val r).log2 = 52 + (r / 4503599627370496 - 1) := by
  unfold val
  rw [if_neg (by omega)]
  have hm : r % 4503599627370496 < 4503599627370496 := Nat.mod_lt _ (by omega)
  rw [Nat.log2_eq_iff (Nat.ne_of_gt (Nat.mul_pos (by omega) (Nat.pow_pos (by omega))))]
  constructor
  · rw [Nat.pow_add]; exact Nat.mul_le_mul_right _ (by omega)
  · rw [show 52 + (r / 4503599627370496 - 1) + 1 = 53 + (r / 4503599627370496 - 1) by omega, Nat.pow_add]
    exact Nat.mul_lt_mul_of_pos_right (by omega) (Nat.pow_pos (by omega))
theorem rnd_val (r : Nat) : rnd (val r) = r := by
  by_cases h : r < 4503599627370496
  · unfold val rnd; rw [if_pos h, if_pos (by omega)]
  · have hl := val_log (r := r) (by omega)
    have hd := Nat.div_add_mod r 4503599627370496
    have hm : r % 4503599627370496 < 4503599627370496 := Nat.mod_lt _ (by omega)
    have h1 : 1 ≤ r / 4503599627370496 := (Nat.le_div_iff_mul_le (by omega)).2 (by omega)
    by_cases h2 : r / 4503599627370496 = 1
    · have hv : val r = r := by unfold val; rw [if_neg h, h2]; simp; omega
      rw [hv]; unfold rnd; rw [if_pos (by omega)]
    · have hge : 9007199254740992 ≤ val r := by
        unfold val
        rw [if_neg h]
        exact Nat.le_trans (show 9007199254740992 ≤ 4503599627370496 * 2 ^ 1 by omega) (Nat.mul_le_mul (by omega) (Nat.pow_le_pow_right (by omega) (by omega)))
      unfold rnd
      rw [if_neg (by omega), hl, show 52 + (r / 4503599627370496 - 1) - 52 = r / 4503599627370496 - 1 by omega]
      have hq : val r / 2 ^ (r / 4503599627370496 - 1) = 4503599627370496 + r % 4503599627370496 := by unfold val; rw [if_neg h, Nat.mul_div_cancel _ (Nat.pow_pos (by omega))]
      have hr : val r % 2 ^ (r / 4503599627370496 - 1) = 0 := by unfold val; rw [if_neg h, Nat.mul_mod_left]
      have hp : 0 < 2 ^ (r / 4503599627370496 - 1) := Nat.pow_pos (by omega)
      unfold rhe
      rw [hq, hr]
      rw [decide_eq_false (by omega), show ((2 ^ (r / 4503599627370496 - 1) == 2 * 0)) = false by simp]
      simp only [Bool.false_and, Bool.or_self, Bool.toNat_false]
      rw [Nat.sub_mul]
      have : 1 * 4503599627370496 ≤ r / 4503599627370496 * 4503599627370496 := Nat.mul_le_mul_right _ h1
      omega
theorem val_mono {r s : Nat} (h : r ≤ s) : val r ≤ val s := by
  rcases Nat.lt_or_ge (val s) (val r) with h' | h'
  · have := rnd_mono (Nat.le_of_lt h')
    rw [rnd_val, rnd_val] at this
    have : r = s := by omega
    subst this; omega
  · exact h'
end Go.Proofs.YtencpjhpedenbaaGreatDoor.Fl

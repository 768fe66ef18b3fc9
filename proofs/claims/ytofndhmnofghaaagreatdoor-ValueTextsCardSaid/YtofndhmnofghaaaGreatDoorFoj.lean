/- Plain facts on floats of 64 bits: how rounding goes with order, by rungs. No condition. -/
import Ieee.Arith
import Derived.Laws.FloatArith
namespace Go.Proofs.YtofndhmnofghaaaGreatDoor.Fl
open Ieee
set_option linter.unusedVariables false

abbrev B52 : Nat := 4503599627370496
abbrev INF : Nat := 9218868437227405312
abbrev SGN : Nat := 9223372036854775808
theorem bin : double.binade = 4503599627370496 := by decide
theorem infr : double.infRung = 9218868437227405312 := by decide
theorem sgnw : double.signWeight = 9223372036854775808 := by decide
theorem lp : double.leastPlace = -1074 := by decide
theorem fb : double.fractionBits = 52 := rfl

/-- the magnitude of a rung, in units of the least one -/
def val (r : Nat) : Nat := if r < 4503599627370496 then r else (4503599627370496 + r % 4503599627370496) * 2 ^ (r / 4503599627370496 - 1)
/-- half to even -/
def rhe (x d : Nat) : Nat := x / d + (decide (d < 2 * (x % d)) || (d == 2 * (x % d) && x / d % 2 == 1)).toNat
/-- the rung that is nearest to a magnitude in units of the least one -/
def rnd (x : Nat) : Nat := if x < 9007199254740992 then x else (x.log2 - 52) * 4503599627370496 + rhe x (2 ^ (x.log2 - 52))

theorem rhe_lo (x d : Nat) : x / d ≤ rhe x d := by unfold rhe; omega
theorem rhe_hi (x d : Nat) : rhe x d ≤ x / d + 1 := by
  unfold rhe
  have : (decide (d < 2 * (x % d)) || (d == 2 * (x % d) && x / d % 2 == 1)).toNat ≤ 1 := Bool.toNat_le _
  omega
theorem rhe_mono {x y d : Nat} (hd : 0 < d) (h : x ≤ y) : rhe x d ≤ rhe y d := by
  have hdiv : x / d ≤ y / d := Nat.div_le_div_right h
  by_cases e : x / d = y / d
  · have hx := Nat.div_add_mod x d
    have hy := Nat.div_add_mod y d
    rw [e] at hx
    have hm : x % d ≤ y % d := by omega
    unfold rhe
    rw [e]
    have key : (decide (d < 2 * (x % d)) || (d == 2 * (x % d) && y / d % 2 == 1)).toNat ≤ (decide (d < 2 * (y % d)) || (d == 2 * (y % d) && y / d % 2 == 1)).toNat := by
      by_cases h1 : d < 2 * (y % d)
      · rw [decide_eq_true h1, Bool.true_or]; exact Bool.toNat_le _
      · by_cases h2 : d < 2 * (x % d)
        · omega
        · rw [decide_eq_false h1, decide_eq_false h2, Bool.false_or, Bool.false_or]
          by_cases h3 : d = 2 * (x % d)
          · have h4 : d = 2 * (y % d) := by omega
            rw [show (d == 2 * (x % d)) = true by simpa using h3, show (d == 2 * (y % d)) = true by simpa using h4]
            exact Nat.le_refl _
          · rw [show (d == 2 * (x % d)) = false by simpa using h3, Bool.false_and]
            exact Nat.zero_le _
    omega
  · have := rhe_hi x d
    have := rhe_lo y d
    omega
theorem log_lo {x : Nat} (h : x ≠ 0) : 2 ^ x.log2 ≤ x := Nat.log2_self_le h
theorem log_hi (x : Nat) : x < 2 ^ (x.log2 + 1) := Nat.lt_log2_self
theorem log_ge {x : Nat} (h : 9007199254740992 ≤ x) : 53 ≤ x.log2 := (Nat.le_log2 (by omega)).2 (by omega)
/-- the quotient that is kept -/
theorem kept_lo {x : Nat} (h : 9007199254740992 ≤ x) : 4503599627370496 ≤ x / 2 ^ (x.log2 - 52) := by
  have h1 := log_ge h
  rw [Nat.le_div_iff_mul_le (Nat.pow_pos (by omega))]
  have e : 4503599627370496 * 2 ^ (x.log2 - 52) = 2 ^ x.log2 := by
    rw [show (4503599627370496 : Nat) = 2 ^ 52 from rfl, ← Nat.pow_add]
    congr 1; omega
  rw [e]
  exact log_lo (by omega)
theorem kept_hi {x : Nat} (h : 9007199254740992 ≤ x) : x / 2 ^ (x.log2 - 52) < 9007199254740992 := by
  have h1 := log_ge h
  rw [Nat.div_lt_iff_lt_mul (Nat.pow_pos (by omega))]
  have e : 9007199254740992 * 2 ^ (x.log2 - 52) = 2 ^ (x.log2 + 1) := by
    rw [show (9007199254740992 : Nat) = 2 ^ 53 from rfl, ← Nat.pow_add]
    congr 1; omega
  rw [e]
  exact log_hi x
theorem log_mono {x y : Nat} (hx : x ≠ 0) (h : x ≤ y) : x.log2 ≤ y.log2 := (Nat.le_log2 (by omega)).2 (Nat.le_trans (log_lo hx) h)
theorem rnd_mono {x y : Nat} (h : x ≤ y) : rnd x ≤ rnd y := by
  unfold rnd
  by_cases hy : y < 9007199254740992
  · rw [if_pos hy, if_pos (by omega)]; exact h
  · rw [if_neg hy]
    have l1 := kept_lo (x := y) (by omega)
    have l2 := rhe_lo y (2 ^ (y.log2 - 52))
    have l3 := log_ge (x := y) (by omega)
    by_cases hx : x < 9007199254740992
    · rw [if_pos hx]
      have : 1 * 4503599627370496 ≤ (y.log2 - 52) * 4503599627370496 := Nat.mul_le_mul_right _ (by omega)
      omega
    · rw [if_neg hx]
      have m1 := log_mono (by omega) h
      have u1 := kept_hi (x := x) (by omega)
      have u2 := rhe_hi x (2 ^ (x.log2 - 52))
      have u3 := log_ge (x := x) (by omega)
      by_cases e : x.log2 = y.log2
      · rw [e]
        have := rhe_mono (d := 2 ^ (y.log2 - 52)) (Nat.pow_pos (by omega)) h
        omega
      · have : (x.log2 - 52 + 1) * 4503599627370496 ≤ (y.log2 - 52) * 4503599627370496 := Nat.mul_le_mul_right _ (by omega)
        rw [Nat.add_mul] at this
        omega
theorem val_log {r : Nat} (h : 4503599627370496 ≤ r) : (val r).log2 = 52 + (r / 4503599627370496 - 1) := by
  unfold val
  rw [if_neg (by omega)]
  have hm : r % 4503599627370496 < 4503599627370496 := Nat.mod_lt _ (by omega)
  rw [Nat.log2_eq_iff (Nat.ne_of_gt (Nat.mul_pos (by omega) (Nat.pow_pos (by omega))))]
  constructor
  · rw [Nat.pow_add]; exact Nat.mul_le_mul_right _ (by omega)
  · rw [show 52 + (r / 4503599627370496 - 1) + 1 = 53 + (r / 4503599627370496 - 1) by omega, Nat.pow_add]
    exact Nat.mul_lt_mul_of_pos_right (by omega) (Nat.pow_pos (by omega))
theorem rnd_val (r : Nat) : rnd (val r) = r := by
  by_cases h : r < 4503599627370496
  · unfold val rnd; rw [if_pos h, if_pos (by omega)]
  · have hl := val_log (r := r) (by omega)
    have hd := Nat.div_add_mod r 4503599627370496
    have hm : r % 4503599627370496 < 4503599627370496 := Nat.mod_lt _ (by omega)
    have h1 : 1 ≤ r / 4503599627370496 := (Nat.le_div_iff_mul_le (by omega)).2 (by omega)
    by_cases h2 : r / 4503599627370496 = 1
    · have hv : val r = r := by unfold val; rw [if_neg h, h2]; simp; omega
      rw [hv]; unfold rnd; rw [if_pos (by omega)]
    · have hge : 9007199254740992 ≤ val r := by
        unfold val
        rw [if_neg h]
        exact Nat.le_trans (show 9007199254740992 ≤ 4503599627370496 * 2 ^ 1 by omega) (Nat.mul_le_mul (by omega) (Nat.pow_le_pow_right (by omega) (by omega)))
      unfold rnd
      rw [if_neg (by omega), hl, show 52 + (r / 4503599627370496 - 1) - 52 = r / 4503599627370496 - 1 by omega]
      have hq : val r / 2 ^ (r / 4503599627370496 - 1) = 4503599627370496 + r % 4503599627370496 := by unfold val; rw [if_neg h, Nat.mul_div_cancel _ (Nat.pow_pos (by omega))]
      have hr : val r % 2 ^ (r / 4503599627370496 - 1) = 0 := by unfold val; rw [if_neg h, Nat.mul_mod_left]
      have hp : 0 < 2 ^ (r / 4503599627370496 - 1) := Nat.pow_pos (by omega)
      unfold rhe
      rw [hq, hr]
      rw [decide_eq_false (by omega), show ((2 ^ (r / 4503599627370496 - 1) == 2 * 0)) = false by simp]
      simp only [Bool.false_and, Bool.or_self, Bool.toNat_false]
      rw [Nat.sub_mul]
      have : 1 * 4503599627370496 ≤ r / 4503599627370496 * 4503599627370496 := Nat.mul_le_mul_right _ h1
      omega
theorem val_mono {r s : Nat} (h : r ≤ s) : val r ≤ val s := by
  rcases Nat.lt_or_ge (val s) (val r) with h' | h'
  · have := rnd_mono (Nat.le_of_lt h')
    rw [rnd_val, rnd_val] at this
    have : r = s := by omega
    subst this; omega
  · exact h'
end Go.Proofs.YtofndhmnofghaaaGreatDoor.Fl

namespace Go.Proofs.YtofndhmnofghaaaGreatDoor.Fl
open Ieee
set_option linter.unusedVariables false

theorem word_f (r : Nat) : double.word false r = r := rfl
theorem word_t (r : Nat) : double.word true r = 9223372036854775808 + r := by unfold Format.word; rw [sgnw]; rfl
theorem cut_zero (neg : Bool) (n : Nat) : Toward.even.cut neg n 0 = n := by
  unfold Toward.cut
  simp [Nat.mod_one]
theorem log_ne {n : Nat} (h : n ≠ 0) : n < 2 ^ (n.log2 + 1) := log_hi n
theorem cut_rhe (neg : Bool) (n drop : Nat) (h : drop ≤ n.log2 + 2) : Toward.even.cut neg n drop = rhe n (2 ^ drop) := by
  unfold Toward.cut rhe
  simp only [Nat.min_eq_left h, Nat.one_shiftLeft]
theorem rhe_scale (x d c : Nat) (hd : 0 < d) (hc : 0 < c) : rhe (x * c) (d * c) = rhe x d := by
  unfold rhe
  rw [Nat.mul_div_mul_right _ _ hc, Nat.mul_mod_mul_right]
  have e1 : decide (d * c < 2 * (x % d * c)) = decide (d < 2 * (x % d)) := by
    rw [decide_eq_decide, ← Nat.mul_assoc]
    exact Nat.mul_lt_mul_right hc
  have e2 : (d * c == 2 * (x % d * c)) = (d == 2 * (x % d)) := by
    rw [← Nat.mul_assoc, Bool.eq_iff_iff, beq_iff_eq, beq_iff_eq]
    exact Nat.mul_left_inj (by omega)
  rw [e1, e2]
theorem rhe_one (x : Nat) : rhe x 1 = x := by
  unfold rhe
  simp [Nat.mod_one]
theorem log_shift {m : Nat} (h : m ≠ 0) (p : Nat) : (m * 2 ^ p).log2 = m.log2 + p := by
  rw [Nat.log2_eq_iff (Nat.ne_of_gt (Nat.mul_pos (by omega) (Nat.pow_pos (by omega))))]
  constructor
  · rw [Nat.pow_add]; exact Nat.mul_le_mul_right _ (log_lo h)
  · rw [show m.log2 + p + 1 = m.log2 + 1 + p by omega, Nat.pow_add]
    exact Nat.mul_lt_mul_of_pos_right (log_hi m) (Nat.pow_pos (by omega))
theorem lt_of_log {x k : Nat} (h : x.log2 < k) : x < 2 ^ k := by
  by_cases h0 : x = 0
  · subst h0; exact Nat.pow_pos (by omega)
  · exact (Nat.log2_lt h0).1 h

/-- rounding in units of the least place -/
theorem nearest_units (neg : Bool) (mag : Nat) (p : Nat) : double.nearest neg mag ((p : Int) - 1074) = double.word neg (min (rnd (mag * 2 ^ p)) 9218868437227405312) := by
  unfold Format.nearest
  by_cases h0 : mag = 0
  · subst h0; rw [if_pos rfl, Nat.zero_mul]; rfl
  rw [if_neg h0, lp, infr, bin, fb]
  have hlog := log_shift h0 p
  have hx0 : mag * 2 ^ p ≠ 0 := Nat.ne_of_gt (Nat.mul_pos (by omega) (Nat.pow_pos (by omega)))
  by_cases ha : mag.log2 + p ≤ 52
  · have hl : max ((p : Int) - 1074 + (mag.log2 : Nat) - (52 : Nat)) (-1074) = -1074 := by omega
    simp only [hl]
    rw [show ((p : Int) - 1074 - -1074).toNat = p by omega, show (-1074 - ((p : Int) - 1074)).toNat = 0 by omega, cut_zero, Nat.shiftLeft_eq]
    have : mag * 2 ^ p < 2 ^ 53 := lt_of_log (by omega)
    unfold rnd
    rw [if_pos (by simpa using this)]
    simp
  · have hl : max ((p : Int) - 1074 + (mag.log2 : Nat) - (52 : Nat)) (-1074) = (p : Int) - 1074 + (mag.log2 : Nat) - 52 := by omega
    simp only [hl]
    have hge : 9007199254740992 ≤ mag * 2 ^ p := by
      have := log_lo hx0
      rw [hlog] at this
      have h53 : 2 ^ 53 ≤ 2 ^ (mag.log2 + p) := Nat.pow_le_pow_right (by omega) (by omega)
      exact Nat.le_trans h53 this
    unfold rnd
    rw [if_neg (Nat.not_lt.2 hge), hlog]
    rw [show ((p : Int) - 1074 + (mag.log2 : Nat) - 52 - -1074).toNat = mag.log2 + p - 52 by omega]
    by_cases hb : 52 ≤ mag.log2
    · rw [show ((p : Int) - 1074 - ((p : Int) - 1074 + (mag.log2 : Nat) - 52)).toNat = 0 by omega, show ((p : Int) - 1074 + (mag.log2 : Nat) - 52 - ((p : Int) - 1074)).toNat = mag.log2 - 52 by omega, Nat.shiftLeft_zero, cut_rhe _ _ _ (by omega)]
      rw [show mag.log2 + p - 52 = (mag.log2 - 52) + p by omega, Nat.pow_add, rhe_scale _ _ _ (Nat.pow_pos (by omega)) (Nat.pow_pos (by omega))]
    · rw [show ((p : Int) - 1074 + (mag.log2 : Nat) - 52 - ((p : Int) - 1074)).toNat = 0 by omega, show ((p : Int) - 1074 - ((p : Int) - 1074 + (mag.log2 : Nat) - 52)).toNat = 52 - mag.log2 by omega, cut_zero, Nat.shiftLeft_eq]
      have e : mag * 2 ^ p = mag * 2 ^ (52 - mag.log2) * 2 ^ (mag.log2 + p - 52) := by
        rw [Nat.mul_assoc, ← Nat.pow_add]
        congr 2
        omega
      have e2 : rhe (mag * 2 ^ p) (2 ^ (mag.log2 + p - 52)) = mag * 2 ^ (52 - mag.log2) := by
        rw [e]
        have := rhe_scale (mag * 2 ^ (52 - mag.log2)) 1 (2 ^ (mag.log2 + p - 52)) (by omega) (Nat.pow_pos (by omega))
        rw [Nat.one_mul] at this
        rw [this, rhe_one]
      rw [e2]

/-! reading -/
/-- the magnitude and the place of a rung -/
def magOf (r : Nat) : Nat := if r < 4503599627370496 then r else 4503599627370496 + r % 4503599627370496
def plcOf (r : Nat) : Nat := if r < 4503599627370496 then 0 else r / 4503599627370496 - 1
theorem val_eq (r : Nat) : magOf r * 2 ^ plcOf r = val r := by
  unfold magOf plcOf val
  split <;> simp
theorem read_rung (s : Bool) (r : Nat) (h : r < 9218868437227405312) : double.read (double.word s r) = .number s (magOf r) ((plcOf r : Int) - 1074) := by
  have hw : double.word s r / 9223372036854775808 % 2 = s.toNat ∧ double.word s r % 9223372036854775808 = r := by
    cases s
    · rw [word_f]; simp only [Bool.toNat_false]; omega
    · rw [word_t]; simp only [Bool.toNat_true]; omega
  unfold Format.read
  rw [sgnw, bin, infr, lp, hw.1, hw.2]
  have hs : (s.toNat == 1) = s := by cases s <;> rfl
  rw [hs]
  unfold magOf plcOf
  by_cases h1 : r < 4503599627370496
  · simp only [if_pos h1]; rfl
  · simp only [if_neg h1, if_pos h]
    congr 1
theorem read_inf : double.read 9218868437227405312 = .infinity false := by decide

/-- the value with its sign -/
def sv (s : Bool) (r : Nat) : Int := if s then -(val r : Int) else (val r : Int)
theorem sum_num (s t : Bool) (m n p q : Nat) :
    ∃ (base : Nat) (tot : Int), Datum.sum (.number s m ((p : Int) - 1074)) (.number t n ((q : Int) - 1074)) = some (.number (if tot = 0 then s && t else decide (tot < 0)) tot.natAbs ((base : Int) - 1074)) ∧
      tot * ((2 ^ base : Nat) : Int) = (if s then -((m * 2 ^ p : Nat) : Int) else ((m * 2 ^ p : Nat) : Int)) + (if t then -((n * 2 ^ q : Nat) : Int) else ((n * 2 ^ q : Nat) : Int)) := by
  refine ⟨min p q, signed s m (p - min p q) + signed t n (q - min p q), ?_, ?_⟩
  · unfold Datum.sum
    simp only
    rw [show min ((p : Int) - 1074) ((q : Int) - 1074) = ((min p q : Nat) : Int) - 1074 by omega]
    rw [show ((p : Int) - 1074 - (((min p q : Nat) : Int) - 1074)).toNat = p - min p q by omega, show ((q : Int) - 1074 - (((min p q : Nat) : Int) - 1074)).toNat = q - min p q by omega]
  · have e : ∀ (s : Bool) (m p b : Nat), b ≤ p → signed s m (p - b) * ((2 ^ b : Nat) : Int) = (if s then -((m * 2 ^ p : Nat) : Int) else ((m * 2 ^ p : Nat) : Int)) := by
      intro s m p b hb
      have : m * 2 ^ (p - b) * 2 ^ b = m * 2 ^ p := by rw [Nat.mul_assoc, ← Nat.pow_add]; congr 2; omega
      unfold signed
      rw [Nat.shiftLeft_eq]
      cases s
      · simp only [Bool.false_eq_true, if_false]; rw [← Int.natCast_mul, this]
      · simp only [if_true]; rw [Int.neg_mul, ← Int.natCast_mul, this]
    rw [Int.add_mul, e s m p _ (Nat.min_le_left _ _), e t n q _ (Nat.min_le_right _ _)]
theorem add_words (s t : Bool) (x y : Nat) (hx : x < 9218868437227405312) (hy : y < 9218868437227405312) :
    double.add (double.word s x) (double.word t y) = some (double.word (if sv s x + sv t y = 0 then s && t else decide (sv s x + sv t y < 0)) (min (rnd (sv s x + sv t y).natAbs) 9218868437227405312)) := by
  unfold Format.add
  rw [read_rung s x hx, read_rung t y hy]
  obtain ⟨base, tot, h1, h2⟩ := sum_num s t (magOf x) (magOf y) (plcOf x) (plcOf y)
  rw [h1, val_eq, val_eq] at *
  have h3 : tot * ((2 ^ base : Nat) : Int) = sv s x + sv t y := h2
  have hp : (0 : Int) < ((2 ^ base : Nat) : Int) := by exact_mod_cast Nat.pow_pos (by omega)
  rw [Option.map_some]
  unfold Format.write
  simp only
  rw [nearest_units]
  have e1 : tot.natAbs * 2 ^ base = (sv s x + sv t y).natAbs := by rw [← h3, Int.natAbs_mul, Int.natAbs_natCast]
  rw [e1]
  congr 2
  have z1 : tot = 0 ↔ sv s x + sv t y = 0 := by
    rw [← h3]
    constructor
    · rintro rfl; simp
    · intro h; rcases Int.mul_eq_zero.1 h with h | h
      · exact h
      · omega
  have z2 : tot < 0 ↔ sv s x + sv t y < 0 := by
    rw [← h3]
    constructor
    · intro h; exact Int.mul_neg_of_neg_of_pos h hp
    · intro h
      rcases Int.lt_or_le tot 0 with h' | h'
      · exact h'
      · have := Int.mul_nonneg h' (Int.le_of_lt hp); omega
  simp only [z1, z2]

/-! what comes of sums -/
/-- bits of a number of at least 0, or infinite -/
def NN (x : Nat) : Prop := x ≤ 9218868437227405312
theorem nn_word (r : Nat) : NN (double.word false (min r 9218868437227405312)) := by rw [word_f]; exact Nat.min_le_right _ _
theorem add_nn {x y : Nat} (hx : NN x) (hy : NN y) : ∃ z, double.add x y = some z ∧ NN z ∧ y ≤ z ∧ x ≤ z := by
  unfold NN at *
  by_cases h1 : x = 9218868437227405312
  · subst h1
    refine ⟨9218868437227405312, ?_, Nat.le_refl _, hy, Nat.le_refl _⟩
    unfold Format.add
    rw [read_inf]
    by_cases h2 : y = 9218868437227405312
    · subst h2; rw [read_inf]; decide
    · have := read_rung false y (by omega)
      rw [word_f] at this
      rw [this]; rfl
  · by_cases h2 : y = 9218868437227405312
    · subst h2
      refine ⟨9218868437227405312, ?_, Nat.le_refl _, Nat.le_refl _, hx⟩
      unfold Format.add
      have := read_rung false x (by omega)
      rw [word_f] at this
      rw [this, read_inf]; rfl
    · have := add_words false false x y (by omega) (by omega)
      rw [word_f, word_f] at this
      have hsv : sv false x + sv false y = ((val x + val y : Nat) : Int) := by simp [sv]
      rw [hsv] at this
      have hneg : (if ((val x + val y : Nat) : Int) = 0 then false && false else decide (((val x + val y : Nat) : Int) < 0)) = false := by
        split
        · rfl
        · rw [decide_eq_false]; omega
      rw [hneg, Int.natAbs_natCast, word_f] at this
      refine ⟨_, this, Nat.min_le_right _ _, ?_, ?_⟩
      · have := rnd_mono (show val y ≤ val x + val y by omega)
        rw [rnd_val] at this
        omega
      · have := rnd_mono (show val x ≤ val x + val y by omega)
        rw [rnd_val] at this
        omega
theorem sub_words (x y : Nat) (hx : x < 9218868437227405312) (hy : y < 9218868437227405312) : double.sub x y = double.add (double.word false x) (double.word true y) := by
  have e1 := read_rung false y hy
  have e2 := read_rung true y hy
  rw [word_f] at e1
  unfold Format.sub Format.add
  rw [e1, e2, word_f]
  rfl
/-- a difference is at least 0, or not beyond what is taken away -/
theorem sub_fall {x y : Nat} (hx : x < 9218868437227405312) (hy : y < 9218868437227405312) : ∃ z, double.sub x y = some z ∧ (NN z ∧ z < 9218868437227405312 ∨ ∃ r, z = double.word true r ∧ r ≤ y ∧ x < y) := by
  rw [sub_words x y hx hy, add_words false true x y hx hy]
  refine ⟨_, rfl, ?_⟩
  have hsv : sv false x + sv true y = (val x : Int) - val y := by simp [sv]; omega
  rw [hsv]
  by_cases h : y ≤ x
  · have hv := val_mono h
    have hneg : (if (val x : Int) - val y = 0 then false && true else decide ((val x : Int) - val y < 0)) = false := by
      split
      · rfl
      · rw [decide_eq_false]; omega
    rw [hneg, word_f]
    left
    have h1 : rnd ((val x : Int) - val y).natAbs ≤ x := by
      have := rnd_mono (show ((val x : Int) - val y).natAbs ≤ val x by omega)
      rwa [rnd_val] at this
    exact ⟨Nat.min_le_right _ _, by omega⟩
  · have hv := val_mono (show x ≤ y by omega)
    have h1 : rnd ((val x : Int) - val y).natAbs ≤ y := by
      have := rnd_mono (show ((val x : Int) - val y).natAbs ≤ val y by omega)
      rwa [rnd_val] at this
    by_cases hz : (val x : Int) - val y = 0
    · rw [if_pos hz]
      left
      exact ⟨Nat.min_le_right _ _, by show min _ _ < _; omega⟩
    · rw [if_neg hz, decide_eq_true (by omega)]
      right
      exact ⟨_, rfl, by omega, by omega⟩
/-- what is not beyond y below 0 is at least 0 with y, or more, added -/
theorem add_rise {r y : Nat} (hr : r ≤ y) (hy : y < 9218868437227405312) : ∃ z, double.add (double.word true r) y = some z ∧ NN z := by
  have := add_words true false r y (by omega) hy
  rw [word_f] at this
  have hv := val_mono hr
  have hsv : sv true r + sv false y = ((val y - val r : Nat) : Int) := by simp [sv]; omega
  rw [hsv] at this
  have hneg : (if ((val y - val r : Nat) : Int) = 0 then true && false else decide (((val y - val r : Nat) : Int) < 0)) = false := by
    split
    · rfl
    · rw [decide_eq_false]; omega
  rw [hneg, word_f] at this
  exact ⟨_, this, Nat.min_le_right _ _⟩

/-! order -/
theorem order_nn {x y : Nat} (hx : NN x) (hy : NN y) : double.order x y = some (compare x y) := by
  unfold NN at *
  unfold Format.order
  have cmp_lt : ∀ {a b : Nat}, a < b → compare a b = .lt := fun h => Nat.compare_eq_lt.2 h
  have cmp_gt : ∀ {a b : Nat}, b < a → compare a b = .gt := fun h => Nat.compare_eq_gt.2 h
  by_cases h1 : x = 9218868437227405312
  · subst h1
    by_cases h2 : y = 9218868437227405312
    · subst h2; decide
    · have := read_rung false y (by omega)
      rw [word_f] at this
      rw [read_inf, this, cmp_gt (by omega)]
      rfl
  · have e1 := read_rung false x (by omega)
    rw [word_f] at e1
    by_cases h2 : y = 9218868437227405312
    · subst h2
      rw [e1, read_inf, cmp_lt (by omega)]
      rfl
    · have e2 := read_rung false y (by omega)
      rw [word_f] at e2
      rw [e1, e2]
      unfold Datum.order
      simp only
      rw [show min ((plcOf x : Int) - 1074) ((plcOf y : Int) - 1074) = ((min (plcOf x) (plcOf y) : Nat) : Int) - 1074 by omega]
      rw [show ((plcOf x : Int) - 1074 - (((min (plcOf x) (plcOf y) : Nat) : Int) - 1074)).toNat = plcOf x - min (plcOf x) (plcOf y) by omega, show ((plcOf y : Int) - 1074 - (((min (plcOf x) (plcOf y) : Nat) : Int) - 1074)).toNat = plcOf y - min (plcOf x) (plcOf y) by omega]
      unfold signed
      simp only [Bool.false_eq_true, if_false, Nat.shiftLeft_eq]
      have hb : ∀ a b m : Nat, b ≤ a → m * 2 ^ (a - b) * 2 ^ b = m * 2 ^ a := fun a b m h => by rw [Nat.mul_assoc, ← Nat.pow_add]; congr 2; omega
      have q1 := hb (plcOf x) (min (plcOf x) (plcOf y)) (magOf x) (Nat.min_le_left _ _)
      have q2 := hb (plcOf y) (min (plcOf x) (plcOf y)) (magOf y) (Nat.min_le_right _ _)
      rw [val_eq] at q1 q2
      have hp : 0 < 2 ^ min (plcOf x) (plcOf y) := Nat.pow_pos (by omega)
      generalize magOf x * 2 ^ (plcOf x - min (plcOf x) (plcOf y)) = a at *
      generalize magOf y * 2 ^ (plcOf y - min (plcOf x) (plcOf y)) = b at *
      generalize 2 ^ min (plcOf x) (plcOf y) = c at *
      have inj : ∀ {r s : Nat}, val r = val s → r = s := fun h => by have := congrArg rnd h; rwa [rnd_val, rnd_val] at this
      congr 1
      rcases Nat.lt_trichotomy x y with h | h | h
      · have hv := val_mono (Nat.le_of_lt h)
        have hne : val x ≠ val y := fun e => by have := inj e; omega
        have hab : a < b := by
          rw [← q1, ← q2] at hv hne
          rcases Nat.lt_or_ge a b with h' | h'
          · exact h'
          · have := Nat.mul_le_mul_right c h'; omega
        rw [cmp_lt h]
        exact Int.compare_eq_lt.2 (by omega)
      · subst h
        have hab : a = b := Nat.eq_of_mul_eq_mul_right hp (q1.trans q2.symm)
        subst hab
        simp
      · have hv := val_mono (Nat.le_of_lt h)
        have hne : val x ≠ val y := fun e => by have := inj e; omega
        have hab : b < a := by
          rw [← q1, ← q2] at hv hne
          rcases Nat.lt_or_ge b a with h' | h'
          · exact h'
          · have := Nat.mul_le_mul_right c h'; omega
        rw [cmp_gt h]
        exact Int.compare_eq_gt.2 (by omega)
end Go.Proofs.YtofndhmnofghaaaGreatDoor.Fl

namespace Go.Proofs.YtofndhmnofghaaaGreatDoor.Fl
open Ieee
set_option linter.unusedVariables false

/-- the whole number of units of a word that is no NaN; of an infinite one the one behind all -/
def vi (v : Nat) : Int := sv (decide (9223372036854775808 ≤ v)) (v % 9223372036854775808)
def nanB (v : Nat) : Bool := decide (9218868437227405312 < v % 9223372036854775808)
theorem val_inj {r s : Nat} (h : val r = val s) : r = s := by have := congrArg rnd h; rwa [rnd_val, rnd_val] at this
theorem val_lt {r s : Nat} (h : r < s) : val r < val s := by
  have := val_mono (Nat.le_of_lt h)
  have hne : val r ≠ val s := fun e => by have := val_inj e; omega
  omega
theorem word_of (v : Nat) (hv : v < 18446744073709551616) : double.word (decide (9223372036854775808 ≤ v)) (v % 9223372036854775808) = v := by
  by_cases h : 9223372036854775808 ≤ v
  · rw [decide_eq_true h, word_t]; omega
  · rw [decide_eq_false h, word_f]; omega
theorem read_any (v : Nat) (hv : v < 18446744073709551616) (h : v % 9223372036854775808 < 9218868437227405312) :
    double.read v = .number (decide (9223372036854775808 ≤ v)) (magOf (v % 9223372036854775808)) ((plcOf (v % 9223372036854775808) : Int) - 1074) := by
  have := read_rung (decide (9223372036854775808 ≤ v)) (v % 9223372036854775808) h
  rwa [word_of v hv] at this
theorem read_infs (v : Nat) (hv : v < 18446744073709551616) (h : v % 9223372036854775808 = 9218868437227405312) : double.read v = .infinity (decide (9223372036854775808 ≤ v)) := by
  by_cases hs : 9223372036854775808 ≤ v
  · obtain rfl : v = 18442240474082181120 := by omega
    decide
  · obtain rfl : v = 9218868437227405312 := by omega
    decide
theorem read_nan (v : Nat) (h : 9218868437227405312 < v % 9223372036854775808) : ∃ s p, double.read v = .nan s p := by
  unfold Format.read
  rw [bin, infr, sgnw]
  dsimp only
  rw [if_neg (by omega), if_neg (by omega), if_neg (by omega)]
  exact ⟨_, _, rfl⟩
theorem signed_scale (s : Bool) (r a : Nat) (h : a ≤ plcOf r) : Ieee.signed s (magOf r) (plcOf r - a) * ((2 ^ a : Nat) : Int) = sv s r := by
  have hb : magOf r * 2 ^ (plcOf r - a) * 2 ^ a = val r := by rw [Nat.mul_assoc, ← Nat.pow_add, show plcOf r - a + a = plcOf r by omega, val_eq]
  unfold Ieee.signed sv
  rw [← hb]
  simp only [Nat.shiftLeft_eq]
  cases s <;> simp [Int.neg_mul]
theorem compare_scale {a b c : Int} (hc : 0 < c) : compare a b = compare (a * c) (b * c) := by
  rcases Int.lt_trichotomy a b with h | h | h
  · rw [Int.compare_eq_lt.2 h, Int.compare_eq_lt.2 (Int.mul_lt_mul_of_pos_right h hc)]
  · rw [h, Int.compare_eq_eq.2 rfl, Int.compare_eq_eq.2 rfl]
  · rw [Int.compare_eq_gt.2 h, Int.compare_eq_gt.2 (Int.mul_lt_mul_of_pos_right h hc)]
theorem sv_bd (s : Bool) {r : Nat} (h : r < 9218868437227405312) : -(val 9218868437227405312 : Int) < sv s r ∧ sv s r < val 9218868437227405312 := by
  have := val_lt h
  unfold sv
  split <;> omega
theorem val_big : 0 < val 9218868437227405312 := by have := val_lt (show 0 < 9218868437227405312 by omega); omega
theorem sv_t (r : Nat) : sv true r = -(val r : Int) := rfl
theorem sv_f (r : Nat) : sv false r = (val r : Int) := rfl
theorem inf_inf (s t : Bool) (M : Int) (hM : 0 < M) : some (compare t.toNat s.toNat) = some (compare (if s then -M else M) (if t then -M else M)) := by
  cases s <;> cases t
  · simp
  · have : compare M (-M) = .gt := Int.compare_eq_gt.2 (by omega)
    simp [this]; rfl
  · have : compare (-M) M = .lt := Int.compare_eq_lt.2 (by omega)
    simp [this]; rfl
  · simp
theorem order_vi (x y : Nat) (hx : x < 18446744073709551616) (hy : y < 18446744073709551616) :
    double.order x y = if (nanB x || nanB y) = true then none else some (compare (vi x) (vi y)) := by
  unfold Format.order
  have hb := val_big
  by_cases nx : 9218868437227405312 < x % 9223372036854775808
  · obtain ⟨s, p, e⟩ := read_nan x nx
    rw [e, if_pos (by unfold nanB; rw [decide_eq_true nx]; rfl)]
    cases double.read y <;> rfl
  by_cases ny : 9218868437227405312 < y % 9223372036854775808
  · obtain ⟨s, p, e⟩ := read_nan y ny
    rw [e, if_pos (by unfold nanB; rw [decide_eq_true ny]; simp)]
    cases double.read x <;> rfl
  rw [if_neg (by unfold nanB; rw [decide_eq_false nx, decide_eq_false ny]; simp)]
  unfold vi
  generalize hs : decide (9223372036854775808 ≤ x) = s at *
  generalize ht : decide (9223372036854775808 ≤ y) = t at *
  by_cases ix : x % 9223372036854775808 = 9218868437227405312
  · have ex := read_infs x hx ix
    rw [hs] at ex
    by_cases iy : y % 9223372036854775808 = 9218868437227405312
    · have ey := read_infs y hy iy
      rw [ht] at ey
      rw [ex, ey, ix, iy]
      exact inf_inf s t _ (by omega)
    · have ey := read_any y hy (by omega)
      rw [ht] at ey
      have hy' := sv_bd t (show y % 9223372036854775808 < 9218868437227405312 by omega)
      rw [ex, ey, ix]
      cases s
      · rw [sv_f, Int.compare_eq_gt.2 hy'.2]; rfl
      · rw [sv_t, Int.compare_eq_lt.2 hy'.1]; rfl
  · have ex := read_any x hx (by omega)
    rw [hs] at ex
    have hx' := sv_bd s (show x % 9223372036854775808 < 9218868437227405312 by omega)
    by_cases iy : y % 9223372036854775808 = 9218868437227405312
    · have ey := read_infs y hy iy
      rw [ht] at ey
      rw [ex, ey, iy]
      cases t
      · rw [sv_f, Int.compare_eq_lt.2 hx'.2]; rfl
      · rw [sv_t, Int.compare_eq_gt.2 hx'.1]; rfl
    · have ey := read_any y hy (by omega)
      rw [ht] at ey
      rw [ex, ey]
      generalize x % 9223372036854775808 = a at *
      generalize y % 9223372036854775808 = b at *
      unfold Datum.order
      simp only
      rw [show min ((plcOf a : Int) - 1074) ((plcOf b : Int) - 1074) = ((min (plcOf a) (plcOf b) : Nat) : Int) - 1074 by omega]
      rw [show ((plcOf a : Int) - 1074 - (((min (plcOf a) (plcOf b) : Nat) : Int) - 1074)).toNat = plcOf a - min (plcOf a) (plcOf b) by omega, show ((plcOf b : Int) - 1074 - (((min (plcOf a) (plcOf b) : Nat) : Int) - 1074)).toNat = plcOf b - min (plcOf a) (plcOf b) by omega]
      rw [compare_scale (c := ((2 ^ min (plcOf a) (plcOf b) : Nat) : Int)) (by exact_mod_cast Nat.pow_pos (by omega)), signed_scale s a _ (Nat.min_le_left _ _), signed_scale t b _ (Nat.min_le_right _ _)]
end Go.Proofs.YtofndhmnofghaaaGreatDoor.Fl

namespace Go.Proofs.YtofndhmnofghaaaGreatDoor.Fl
open Ieee
set_option linter.unusedVariables false

theorem read_infz (s : Bool) : double.read (double.word s 9218868437227405312) = .infinity s := by cases s <;> decide
/-- a float that is no NaN -/
def Pl (x : Nat) : Prop := ∃ s r, r ≤ 9218868437227405312 ∧ x = double.word s r
theorem word_pl (s : Bool) (r : Nat) (h : r ≤ 9218868437227405312) : Pl (double.word s r) := ⟨s, r, h, rfl⟩
theorem write_num (s : Bool) (m : Nat) (p : Int) : Pl (double.write (.number s m p)) := by
  unfold Format.write Format.nearest
  simp only
  split
  · exact word_pl _ _ (by omega)
  · rw [infr]; exact word_pl _ _ (Nat.min_le_right _ _)
theorem write_inf (s : Bool) : Pl (double.write (.infinity s)) := by
  unfold Format.write
  simp only
  rw [infr]; exact word_pl _ _ (Nat.le_refl _)
theorem pl_some {x : Nat} (h : Pl x) : (∃ s m p, double.read x = .number s m p) ∨ (∃ s, double.read x = .infinity s) := by
  obtain ⟨s, r, hr, rfl⟩ := h
  by_cases e : r = 9218868437227405312
  · subst e; exact .inr ⟨s, read_infz s⟩
  · exact .inl ⟨s, _, _, read_rung s r (by omega)⟩
theorem pos_read {y : Nat} (h0 : 0 < y) (h1 : y < 9218868437227405312) : ∃ m p, m ≠ 0 ∧ double.read y = .number false m p := by
  have e := read_rung false y h1
  rw [word_f] at e
  refine ⟨_, _, ?_, e⟩
  unfold magOf
  split <;> omega
theorem mul_pl {x y : Nat} (hx : Pl x) (h0 : 0 < y) (h1 : y < 9218868437227405312) : ∃ z, double.mul x y = some z ∧ Pl z := by
  obtain ⟨n, q, hn, ey⟩ := pos_read h0 h1
  unfold Format.mul
  rw [ey]
  rcases pl_some hx with ⟨s, m, p, e⟩ | ⟨s, e⟩
  · rw [e]; exact ⟨_, rfl, write_num _ _ _⟩
  · rw [e]
    unfold Datum.product
    simp only [if_neg hn]
    exact ⟨_, rfl, write_inf _⟩
theorem div_pl {x y : Nat} (hx : Pl x) (h0 : 0 < y) (h1 : y < 9218868437227405312) : ∃ z, double.div x y = some z ∧ Pl z := by
  obtain ⟨n, q, hn, ey⟩ := pos_read h0 h1
  unfold Format.div
  rw [ey]
  rcases pl_some hx with ⟨s, m, p, e⟩ | ⟨s, e⟩
  · rw [e]
    unfold Datum.quotient
    simp only [if_neg hn]
    exact ⟨_, rfl, write_num _ _ _⟩
  · rw [e]
    exact ⟨_, rfl, write_inf _⟩
theorem of_int (n : Int) : Pl (Go.floatOfInt .f64 n) := write_num _ _ _
theorem neg_pl {x : Nat} (h : Pl x) : Pl (x ^^^ 9223372036854775808) := by
  obtain ⟨s, r, hr, rfl⟩ := h
  refine ⟨!s, r, hr, ?_⟩
  have key : ∀ a : Nat, a ^^^ 9223372036854775808 = 9223372036854775808 * ((a / 9223372036854775808) ^^^ 1) + a % 9223372036854775808 := by
    intro a
    have h1 := Nat.div_add_mod (a ^^^ 9223372036854775808) 9223372036854775808
    have h2 : (a ^^^ 9223372036854775808) / 2 ^ 63 = a / 2 ^ 63 ^^^ 9223372036854775808 / 2 ^ 63 := Nat.xor_div_two_pow
    have h3 : (a ^^^ 9223372036854775808) % 2 ^ 63 = a % 2 ^ 63 ^^^ 9223372036854775808 % 2 ^ 63 := Nat.xor_mod_two_pow
    rw [show (2 : Nat) ^ 63 = 9223372036854775808 from rfl] at h2 h3
    rw [h2, h3, show (9223372036854775808 : Nat) / 9223372036854775808 = 1 from rfl, show (9223372036854775808 : Nat) % 9223372036854775808 = 0 from rfl, Nat.xor_zero] at h1
    exact h1.symm
  rw [key]
  cases s
  · rw [word_f, Nat.div_eq_of_lt (by omega), Nat.mod_eq_of_lt (by omega)]
    rfl
  · rw [word_t, show (9223372036854775808 + r) / 9223372036854775808 = 1 by omega, show (9223372036854775808 + r) % 9223372036854775808 = r by omega]
    show _ = double.word false r
    rw [word_f, show (1 ^^^ 1 : Nat) = 0 from rfl]
    omega
end Go.Proofs.YtofndhmnofghaaaGreatDoor.Fl

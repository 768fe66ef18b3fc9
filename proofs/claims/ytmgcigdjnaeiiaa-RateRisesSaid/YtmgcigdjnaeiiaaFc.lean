/- Plain facts on floats of 64 bits: products and quotients, by rungs. No condition. -/
import Derived.Test.YtmgcigdjnaeiiaaFb
import Derived.Laws.FloatArith
namespace Go.Proofs.Ytmgcigdjnaeiiaa.Fl
open Ieee
set_option linter.unusedVariables false

theorem log_eq {n k : Nat} (h1 : 2 ^ k ≤ n) (h2 : n < 2 ^ (k + 1)) : n.log2 = k := (Nat.log2_eq_iff (by have := Nat.pow_pos (n := k) (show 0 < 2 by omega); omega)).2 ⟨h1, h2⟩
theorem pick_in (A P Q kept : Nat) (h1 : A + 4503599627370496 = P) (h2 : P + 4503599627370496 = Q) (h3 : Q ≤ 9214364837600034816) (k1 : 4503599627370496 ≤ kept) (k2 : kept ≤ 9007199254740992) :
    P ≤ min (A + kept) 9218868437227405312 ∧ min (A + kept) 9218868437227405312 ≤ Q := by omega
/-- rounding of a number of a known power of two -/
theorem nearest_in (neg : Bool) (mag : Nat) (place : Int) (k : Nat) (h0 : mag ≠ 0) (hk : (k : Int) = place + mag.log2 + 1023) (h1 : 1 ≤ k) (h2 : k ≤ 2045) :
    ∃ r, double.nearest neg mag place = double.word neg r ∧ k * 4503599627370496 ≤ r ∧ r ≤ (k + 1) * 4503599627370496 := by
  unfold Format.nearest
  rw [if_neg h0, lp, infr, bin, fb]
  have hl : max (place + (mag.log2 : Nat) - (52 : Nat)) (-1074) = place + (mag.log2 : Nat) - 52 := by omega
  simp only [hl]
  rw [show (place + (mag.log2 : Nat) - 52 - -1074).toNat = k - 1 by omega]
  have key : ∃ kept, Toward.even.cut neg (mag <<< (place - (place + (mag.log2 : Nat) - 52)).toNat) ((place + (mag.log2 : Nat) - 52) - place).toNat = kept ∧ 4503599627370496 ≤ kept ∧ kept ≤ 9007199254740992 := by
    by_cases hb : 52 ≤ mag.log2
    · rw [show (place - (place + (mag.log2 : Nat) - 52)).toNat = 0 by omega, show ((place + (mag.log2 : Nat) - 52) - place).toNat = mag.log2 - 52 by omega, Nat.shiftLeft_zero, cut_rhe _ _ _ (by omega)]
      refine ⟨_, rfl, ?_, ?_⟩
      · refine Nat.le_trans ?_ (rhe_lo _ _)
        rw [Nat.le_div_iff_mul_le (Nat.pow_pos (by omega))]
        have e : 4503599627370496 * 2 ^ (mag.log2 - 52) = 2 ^ mag.log2 := by
          rw [show (4503599627370496 : Nat) = 2 ^ 52 from rfl, ← Nat.pow_add]
          congr 1; omega
        rw [e]
        exact log_lo h0
      · refine Nat.le_trans (rhe_hi _ _) ?_
        have : mag / 2 ^ (mag.log2 - 52) < 9007199254740992 := by
          rw [Nat.div_lt_iff_lt_mul (Nat.pow_pos (by omega))]
          have e : 9007199254740992 * 2 ^ (mag.log2 - 52) = 2 ^ (mag.log2 + 1) := by
            rw [show (9007199254740992 : Nat) = 2 ^ 53 from rfl, ← Nat.pow_add]
            congr 1; omega
          rw [e]
          exact log_hi mag
        omega
    · rw [show (place - (place + (mag.log2 : Nat) - 52)).toNat = 52 - mag.log2 by omega, show ((place + (mag.log2 : Nat) - 52) - place).toNat = 0 by omega, cut_zero, Nat.shiftLeft_eq]
      have e := log_shift h0 (52 - mag.log2)
      have hne : mag * 2 ^ (52 - mag.log2) ≠ 0 := Nat.ne_of_gt (Nat.mul_pos (by omega) (Nat.pow_pos (by omega)))
      have l1 := log_lo hne
      have l2 := log_hi (mag * 2 ^ (52 - mag.log2))
      rw [e, show mag.log2 + (52 - mag.log2) = 52 by omega] at l1 l2
      exact ⟨_, rfl, by omega, by omega⟩
  obtain ⟨kept, e, k1, k2⟩ := key
  rw [e]
  have hkk : (k - 1) * 4503599627370496 + 4503599627370496 = k * 4503599627370496 := by rw [← Nat.succ_mul]; congr 1; omega
  have hk2 : k * 4503599627370496 + 4503599627370496 = (k + 1) * 4503599627370496 := by rw [← Nat.succ_mul]
  have hk3 : (k + 1) * 4503599627370496 ≤ 9214364837600034816 := Nat.mul_le_mul_right 4503599627370496 (show k + 1 ≤ 2046 by omega)
  have hp := pick_in _ _ _ _ hkk hk2 hk3 k1 k2
  exact ⟨_, rfl, hp.1, hp.2⟩

/-! numbers that are no subnormal ones -/
theorem rung_k {r : Nat} (h : 4503599627370496 ≤ r) : magOf r = 4503599627370496 + r % 4503599627370496 ∧ plcOf r = r / 4503599627370496 - 1 := by
  unfold magOf plcOf
  rw [if_neg (by omega), if_neg (by omega)]
  exact ⟨rfl, rfl⟩
theorem mag_log {r : Nat} (h : 4503599627370496 ≤ r) : (magOf r).log2 = 52 := by
  rw [(rung_k h).1]
  have := Nat.mod_lt r (show 0 < 4503599627370496 by omega)
  exact log_eq (by omega) (by omega)
/-- between two powers of two -/
def In (a b x : Nat) : Prop := a * 4503599627370496 ≤ x ∧ x ≤ b * 4503599627370496
theorem In.k {a b x : Nat} (h : In a b x) : a ≤ x / 4503599627370496 ∧ x / 4503599627370496 ≤ b :=
  ⟨(Nat.le_div_iff_mul_le (by omega)).2 h.1, by
    have := Nat.div_le_div_right (c := 4503599627370496) h.2
    rwa [Nat.mul_div_cancel _ (by omega)] at this⟩
theorem In.normal {a b x : Nat} (h : In a b x) (ha : 1 ≤ a) (hb : b ≤ 2046) : 4503599627370496 ≤ x ∧ x < 9218868437227405312 := by
  have h1 : 1 * 4503599627370496 ≤ a * 4503599627370496 := Nat.mul_le_mul_right _ ha
  have h2 : b * 4503599627370496 ≤ 2046 * 4503599627370496 := Nat.mul_le_mul_right _ hb
  have := h.1
  have := h.2
  omega
theorem In.wide {a b c d x : Nat} (h : In a b x) (h1 : c ≤ a) (h2 : b ≤ d) : In c d x :=
  ⟨Nat.le_trans (Nat.mul_le_mul_right _ h1) h.1, Nat.le_trans h.2 (Nat.mul_le_mul_right _ h2)⟩
theorem quot_log (m n : Nat) (hm1 : 4503599627370496 ≤ m) (hm2 : m < 9007199254740992) (hn1 : 4503599627370496 ≤ n) (hn2 : n < 9007199254740992) (bit : Nat) (hb : bit ≤ 1) :
    54 ≤ (2 * (m <<< 54 / n) + bit).log2 ∧ (2 * (m <<< 54 / n) + bit).log2 ≤ 55 ∧ 2 * (m <<< 54 / n) + bit ≠ 0 := by
  rw [Nat.shiftLeft_eq]
  have q1 : 9007199254740992 ≤ m * 2 ^ 54 / n := by
    rw [Nat.le_div_iff_mul_le (by omega)]
    have h1 := Nat.mul_le_mul_left 9007199254740992 (Nat.le_of_lt hn2)
    have h2 := Nat.mul_le_mul_right (2 ^ 54) hm1
    exact Nat.le_trans h1 (Nat.le_trans (by decide) h2)
  have q2 : m * 2 ^ 54 / n < 36028797018963968 := by
    rw [Nat.div_lt_iff_lt_mul (by omega)]
    have h1 := Nat.mul_le_mul_left 36028797018963968 hn1
    have h2 := Nat.mul_lt_mul_of_pos_right hm2 (show 0 < 2 ^ 54 from Nat.pow_pos (by omega))
    exact Nat.lt_of_lt_of_le h2 (Nat.le_trans (by decide) h1)
  generalize m * 2 ^ 54 / n = q at *
  refine ⟨(Nat.le_log2 (by omega)).2 (by omega), ?_, by omega⟩
  have := (Nat.log2_lt (show 2 * q + bit ≠ 0 by omega) (k := 56)).2 (by omega)
  omega
theorem div_in {a b c d x y : Nat} (hx : In a b x) (hy : In c d y) (ha : 1 ≤ a) (hb : b ≤ 2046) (hc : 1 ≤ c) (hd : d ≤ 2046) (hlo : d + 1 ≤ a + 1022) (hhi : b + 1023 ≤ c + 2045) :
    ∃ z, double.div x y = some z ∧ In (a + 1022 - d) (b + 1024 - c) z := by
  have nx := hx.normal ha hb
  have ny := hy.normal hc hd
  have kx := hx.k
  have ky := hy.k
  have e1 := read_rung false x nx.2
  have e2 := read_rung false y ny.2
  rw [word_f] at e1 e2
  have lx := mag_log nx.1
  have ly := mag_log ny.1
  have px := (rung_k nx.1).2
  have py := (rung_k ny.1).2
  have mx := (rung_k nx.1).1
  have my := (rung_k ny.1).1
  have mlx := Nat.mod_lt x (show 0 < 4503599627370496 by omega)
  have mly := Nat.mod_lt y (show 0 < 4503599627370496 by omega)
  unfold Format.div
  rw [e1, e2, fb]
  unfold Datum.quotient
  simp only
  rw [if_neg (by omega), lx, ly, show 52 + 2 + 52 - 52 = 54 by omega, Option.map_some]
  obtain ⟨g1, g2, g3⟩ := quot_log (magOf x) (magOf y) (by omega) (by omega) (by omega) (by omega) (magOf x <<< 54 % magOf y != 0).toNat (Bool.toNat_le _)
  generalize hG : 2 * (magOf x <<< 54 / magOf y) + (magOf x <<< 54 % magOf y != 0).toNat = G at *
  unfold Format.write
  simp only
  obtain ⟨r, hr, r1, r2⟩ := nearest_in (false ^^ false) G ((plcOf x : Int) - 1074 - ((plcOf y : Int) - 1074) - ((54 : Nat) : Int) - 1) (x / 4503599627370496 + G.log2 + 968 - y / 4503599627370496) g3 (by rw [px, py]; omega) (by omega) (by omega)
  rw [hr]
  refine ⟨_, rfl, ?_⟩
  rw [show (false ^^ false) = false from rfl, word_f]
  exact ⟨Nat.le_trans (Nat.mul_le_mul_right _ (by omega)) r1, Nat.le_trans r2 (Nat.mul_le_mul_right _ (by omega))⟩
theorem write_nn (m : Nat) (p : Int) : NN (double.write (.number false m p)) := by
  unfold Format.write Format.nearest
  simp only
  split
  · show (0 : Nat) ≤ _; omega
  · rw [infr]; exact nn_word _
theorem div_nn {x y : Nat} (hx : x < 9218868437227405312) (hy : NN y) (h0 : y ≠ 0) : ∃ z, double.div x y = some z ∧ NN z := by
  have e1 := read_rung false x hx
  rw [word_f] at e1
  unfold NN at hy
  unfold Format.div
  by_cases h2 : y = 9218868437227405312
  · subst h2
    rw [e1, read_inf]
    exact ⟨_, rfl, write_nn _ _⟩
  · have e2 := read_rung false y (by omega)
    rw [word_f] at e2
    rw [e1, e2]
    unfold Datum.quotient
    simp only
    have : magOf y ≠ 0 := by unfold magOf; split <;> omega
    rw [if_neg this]
    exact ⟨_, rfl, write_nn _ _⟩
theorem mul_nn {x y : Nat} (hx : NN x) (hy : 0 < y ∧ y < 9218868437227405312) : ∃ z, double.mul x y = some z ∧ NN z := by
  have e2 := read_rung false y hy.2
  rw [word_f] at e2
  unfold NN at hx
  unfold Format.mul
  by_cases h1 : x = 9218868437227405312
  · subst h1
    rw [read_inf, e2]
    unfold Datum.product
    simp only
    have : magOf y ≠ 0 := by unfold magOf; split <;> omega
    rw [if_neg this]
    exact ⟨_, rfl, show double.write (.infinity (false ^^ false)) ≤ 9218868437227405312 by decide⟩
  · have e1 := read_rung false x (by omega)
    rw [word_f] at e1
    rw [e1, e2]
    exact ⟨_, rfl, write_nn _ _⟩
theorem mul_nn' {x y : Nat} (hx : 0 < x ∧ x < 9218868437227405312) (hy : NN y) : ∃ z, double.mul x y = some z ∧ NN z := by
  have e2 := read_rung false x hx.2
  rw [word_f] at e2
  unfold NN at hy
  unfold Format.mul
  by_cases h1 : y = 9218868437227405312
  · subst h1
    rw [read_inf, e2]
    unfold Datum.product
    simp only
    have : magOf x ≠ 0 := by unfold magOf; split <;> omega
    rw [if_neg this]
    exact ⟨_, rfl, show double.write (.infinity (false ^^ false)) ≤ 9218868437227405312 by decide⟩
  · have e1 := read_rung false y (by omega)
    rw [word_f] at e1
    rw [e1, e2]
    exact ⟨_, rfl, write_nn _ _⟩
theorem val_pow (b : Nat) (hb : 1 ≤ b) : val (b * 4503599627370496) = 4503599627370496 * 2 ^ (b - 1) := by
  unfold val
  have : 1 * 4503599627370496 ≤ b * 4503599627370496 := Nat.mul_le_mul_right _ hb
  rw [if_neg (by omega), Nat.mul_mod_left, Nat.add_zero, Nat.mul_div_cancel _ (by omega)]
theorem add_in {a b x y : Nat} (hx : In a b x) (hy : y ≤ b * 4503599627370496) (hb1 : 1 ≤ b) (hb : b ≤ 2045) : ∃ z, double.add x y = some z ∧ In a (b + 1) z := by
  have hb3 : b * 4503599627370496 ≤ 2045 * 4503599627370496 := Nat.mul_le_mul_right _ hb
  have hxl := hx.2
  have := add_words false false x y (by omega) (by omega)
  rw [word_f, word_f] at this
  have hsv : sv false x + sv false y = ((val x + val y : Nat) : Int) := by simp [sv]
  rw [hsv] at this
  have hneg : (if ((val x + val y : Nat) : Int) = 0 then false && false else decide (((val x + val y : Nat) : Int) < 0)) = false := by
    split
    · rfl
    · rw [decide_eq_false]; omega
  rw [hneg, Int.natAbs_natCast, word_f] at this
  refine ⟨_, this, ?_, ?_⟩
  · have h1 := rnd_mono (show val x ≤ val x + val y by omega)
    rw [rnd_val] at h1
    exact Nat.le_min.2 ⟨Nat.le_trans hx.1 h1, Nat.le_trans hx.1 (Nat.le_trans hxl (Nat.le_trans hb3 (by decide)))⟩
  · have v1 := val_mono hxl
    have v2 := val_mono hy
    have v3 : val ((b + 1) * 4503599627370496) = 2 * val (b * 4503599627370496) := by
      rw [val_pow _ hb1, val_pow _ (by omega), show b + 1 - 1 = (b - 1) + 1 by omega, Nat.pow_succ, ← Nat.mul_assoc, Nat.mul_comm _ 2]
    have v4 : val x + val y ≤ val ((b + 1) * 4503599627370496) := by rw [v3, Nat.two_mul]; exact Nat.add_le_add v1 v2
    have h1 := rnd_mono v4
    rw [rnd_val] at h1
    exact Nat.le_trans (Nat.min_le_left _ _) h1
/-- whole numbers -/
theorem of_int {n : Nat} (h0 : n ≠ 0) (hn : n ≤ 9007199254740992) : In (1023 + n.log2) (1024 + n.log2) (double.write (.number false n 0)) := by
  have hl : n.log2 < 54 := (Nat.log2_lt h0).2 (by omega)
  obtain ⟨r, hr, r1, r2⟩ := nearest_in false n 0 (1023 + n.log2) h0 (by omega) (by omega) (by omega)
  unfold Format.write
  simp only
  rw [hr, word_f]
  exact ⟨r1, by rw [show 1024 + n.log2 = 1023 + n.log2 + 1 by omega]; exact r2⟩
theorem of_zero : double.write (.number false 0 0) = 0 := by decide
theorem div_zero {y : Nat} (hy : 0 < y ∧ y < 9218868437227405312) : double.div 0 y = some 0 := by
  have e2 := read_rung false y hy.2
  have e1 := read_rung false 0 (by omega)
  rw [word_f] at e1 e2
  unfold Format.div
  rw [e1, e2]
  unfold Datum.quotient
  simp only
  have : magOf y ≠ 0 := by unfold magOf; split <;> omega
  rw [if_neg this, show magOf 0 = 0 from rfl]
  simp only [Nat.zero_shiftLeft, Nat.zero_div, Nat.zero_mod, Option.map_some]
  unfold Format.write Format.nearest
  simp only
  rw [if_pos (by rfl)]
  rfl
end Go.Proofs.Ytmgcigdjnaeiiaa.Fl

/- The exact way reads a number that lies in a float's interval as that float, where it says yes. No condition. -/
import Derived.Test.YtofndhmnofghaaaGreatDoorSjj
import Derived.Test.YtofndhmnofghaaaGreatDoorUnj
import Derived.Test.YtofndhmnofghaaaGreatDoorFoj
namespace Go.Proofs.YtofndhmnofghaaaGreatDoor.Sl
open Ieee Fl Ut
set_option linter.unusedVariables false
set_option linter.unusedSimpArgs false

theorem whole_rnd {y : Nat} (h0 : 0 < y) (h1 : y < 9007199254740992) : Whole (rnd (y * u1074)) y := by
  obtain ⟨w, hw⟩ : ∃ w, w = 1074 := ⟨1074, rfl⟩
  have hv := val_rnd h1 w
  rw [← u1074_is w hw] at hv
  have hfin : rnd (y * u1074) < 9218868437227405312 := by
    rcases Nat.lt_or_ge (rnd (y * u1074)) 9218868437227405312 with h | h
    · exact h
    · exfalso
      have h2 := val_mono h
      rw [hv] at h2
      have h3 : decide (9007199254740992 * u1074 < val 9218868437227405312) = true := by decide +kernel
      have h4 := of_decide_eq_true h3
      have h5 : y * u1074 ≤ 9007199254740992 * u1074 := Nat.mul_le_mul_right _ (by omega)
      omega
  exact whole_of hv h0 hfin
theorem pw_vals : ∀ i : Fin 23, val (pwF i.val) = 10 ^ i.val * u1074 := by decide +kernel
theorem whole_pw (i : Nat) (h : i < 23) : Whole (pwF i) (10 ^ i) := whole_of (pw_vals ⟨i, h⟩) (Nat.pow_pos (by omega)) (pwF_in i h).2
theorem mul_rnd {r1 r2 a b : Nat} {s t : Bool} (h1 : Whole r1 a) (h2 : Whole r2 b) :
    double.mul (double.word s r1) (double.word t r2) = some (double.word (s ^^ t) (min (rnd (a * b * u1074)) 9218868437227405312)) := by
  unfold Format.mul
  rw [read_rung s r1 h1.fin, read_rung t r2 h2.fin]
  show some (double.nearest (s ^^ t) (magOf r1 * magOf r2) (((plcOf r1 : Int) - 1074) + ((plcOf r2 : Int) - 1074))) = _
  obtain ⟨p, hp⟩ : ∃ p, plcOf r1 + plcOf r2 = 1074 + p := ⟨plcOf r1 + plcOf r2 - 1074, by have := h1.log; have := h2.log; omega⟩
  rw [show ((plcOf r1 : Int) - 1074) + ((plcOf r2 : Int) - 1074) = (p : Int) - 1074 by omega, nearest_units]
  have hx : magOf r1 * magOf r2 * 2 ^ p = a * b * u1074 := by
    have e : magOf r1 * 2 ^ plcOf r1 * (magOf r2 * 2 ^ plcOf r2) = magOf r1 * magOf r2 * 2 ^ p * u1074 := by
      obtain ⟨w, hw⟩ : ∃ w, w = 1074 := ⟨1074, rfl⟩
      rw [Nat.mul_mul_mul_comm, ← Nat.pow_add, hp, ← hw, Nat.pow_add, ← u1074_is w hw, Nat.mul_comm u1074, Nat.mul_assoc (magOf r1 * magOf r2)]
    rw [h1.eq, h2.eq] at e
    have e2 : a * u1074 * (b * u1074) = a * b * u1074 * u1074 := by rw [Nat.mul_mul_mul_comm, Nat.mul_assoc (a * b)]
    rw [e2] at e
    exact (Nat.eq_of_mul_eq_mul_right u1074_pos e).symm
  rw [hx]
theorem sg_word (ng : Bool) {r : Nat} (h : r < 9223372036854775808) : sgF ng r = double.word ng r := by
  cases ng
  · rfl
  · rw [word_t]
    show r ^^^ 9223372036854775808 = _
    have h1 := Nat.div_add_mod (r ^^^ 9223372036854775808) 9223372036854775808
    have h2 : (r ^^^ 9223372036854775808) / 2 ^ 63 = r / 2 ^ 63 ^^^ 9223372036854775808 / 2 ^ 63 := Nat.xor_div_two_pow
    have h3 : (r ^^^ 9223372036854775808) % 2 ^ 63 = r % 2 ^ 63 ^^^ 9223372036854775808 % 2 ^ 63 := Nat.xor_mod_two_pow
    rw [show (2 : Nat) ^ 63 = 9223372036854775808 from rfl] at h2 h3
    rw [h2, h3, show (9223372036854775808 : Nat) / 9223372036854775808 = 1 from rfl, show (9223372036854775808 : Nat) % 9223372036854775808 = 0 from rfl, Nat.xor_zero, Nat.div_eq_of_lt h, Nat.mod_eq_of_lt h] at h1
    rw [← h1]
    rfl
theorem big_rnd {y : Nat} (h : 9007199254740992 ≤ y) : 4845873199050653696 ≤ rnd (y * u1074) := by
  have h1 : decide (4845873199050653696 ≤ rnd (9007199254740992 * u1074)) = true := by decide +kernel
  exact Nat.le_trans (of_decide_eq_true h1) (rnd_mono (Nat.mul_le_mul_right _ h))
/-- a number above 2^53 is none for the exact way -/
theorem exC_big (ng : Bool) {R j : Nat} (h1 : 4845873199050653696 ≤ R) (h2 : R ≤ 9218868437227405312) : exC (double.word ng R) j = none := by
  have v1 : val 4831355200913801216 < val R := val_lt (by omega)
  unfold exC
  cases ng
  · have e : double.order R 4831355200913801216 = some .gt := by
      rw [order_vi _ _ (by omega) (by omega), if_neg (by unfold nanB; simp; omega)]
      have a : vi R = (val R : Int) := by
        unfold vi
        rw [decide_eq_false (by omega), Nat.mod_eq_of_lt (by omega)]; rfl
      have b : vi 4831355200913801216 = (val 4831355200913801216 : Int) := rfl
      rw [a, b, Int.compare_eq_gt.2 (by omega)]
    rw [if_pos (by show (double.order (double.word false R) 4831355200913801216 == some .gt) = true; rw [word_f, e]; rfl)]
  · have e : double.order (9223372036854775808 + R) 14054727237768577024 = some .lt := by
      rw [order_vi _ _ (by omega) (by omega), if_neg (by unfold nanB; simp; omega)]
      have a : vi (9223372036854775808 + R) = -(val R : Int) := by
        unfold vi
        rw [decide_eq_true (by omega), show (9223372036854775808 + R) % 9223372036854775808 = R by omega]; rfl
      have b : vi 14054727237768577024 = -(val 4831355200913801216 : Int) := rfl
      rw [a, b, Int.compare_eq_lt.2 (by omega)]
    split
    · rfl
    · rw [if_pos (by show (double.order (double.word true R) 14054727237768577024 == some .lt) = true; rw [word_t, e]; rfl)]
theorem exC_is {ng : Bool} {r a j b mant : Nat} {q : Int} (hf : IsF mant q) (hq : q ≤ 971) (hr : Whole r a) (hj : j < 23) (hV : InF mant q (T (a * 10 ^ j) 0)) (h : exC (double.word ng r) j = some b) : b = double.word ng (rungOf mant q) := by
  have hm := mul_in (s := ng) (t := false) hr (whole_pw j hj) hf hV (rung_fin hf hq)
  rw [word_f, Bool.xor_false] at hm
  unfold exC at h
  split at h
  · cases h
  · split at h
    · cases h
    · rw [fm_is hm] at h
      exact (Option.some.inj h).symm
theorem ex_is {z b mant : Nat} {x q : Int} {ng : Bool} (hf : IsF mant q) (hq : q ≤ 971) (hz : 0 < z) (hV : InF mant q (T z x)) (h : exF z x ng = some b) : b = double.word ng (rungOf mant q) := by
  unfold exF at h
  by_cases hz1 : z < 4503599627370496
  · rw [if_pos hz1] at h
    have hw := whole_rnd hz (show z < 9007199254740992 by omega)
    have hfl : Go.floatOfInt .f64 (z : Int) = rnd (z * u1074) := by
      obtain ⟨r, hr, hn⟩ := whole_near hz (show z < 9007199254740992 by omega) false
      have : r = rnd (z * u1074) := val_inj (hr.val.trans hw.val.symm)
      rw [← this]
      show double.nearest (decide ((z : Int) < 0)) (z : Int).natAbs 0 = r
      rw [decide_eq_false (by omega), Int.natAbs_natCast, hn, word_f]
    rw [hfl, sg_word ng (by have := hw.fin; omega)] at h
    generalize rnd (z * u1074) = r at *
    unfold exB at h
    by_cases hx0 : x = 0
    · rw [if_pos hx0] at h
      subst hx0
      rw [← whole_in hw hf hV]
      exact (Option.some.inj h).symm
    · rw [if_neg hx0] at h
      by_cases hxp : 0 < x
      · rw [if_pos hxp] at h
        by_cases hx37 : x ≤ 37
        · rw [if_pos hx37] at h
          obtain ⟨n, rfl⟩ : ∃ n : Nat, x = (n : Int) := ⟨x.toNat, by omega⟩
          have hT : T z (n : Int) = T (z * 10 ^ n) 0 := by
            have := T_up z (p := 0) (by omega) n
            rw [Int.zero_add] at this
            exact this
          rw [hT] at hV
          by_cases h22 : (22 : Int) < (n : Int)
          · rw [if_pos h22] at h
            obtain ⟨k, rfl⟩ : ∃ k, n = k + 22 := ⟨n - 22, by omega⟩
            rw [show (((k + 22 : Nat) : Int) - 22).toNat = k by omega] at h
            have hm := mul_rnd (s := ng) (t := false) hw (whole_pw k (by omega))
            rw [word_f, Bool.xor_false] at hm
            rw [fm_is hm] at h
            by_cases hb : z * 10 ^ k < 9007199254740992
            · have hw2 := whole_rnd (Nat.mul_pos hz (Nat.pow_pos (n := k) (show 0 < 10 by omega))) hb
              rw [Nat.min_eq_left (Nat.le_of_lt hw2.fin)] at h
              refine exC_is hf hq hw2 (by omega) ?_ h
              rw [Nat.mul_assoc, ← Nat.pow_add]; exact hV
            · have := big_rnd (Nat.not_lt.1 hb)
              rw [exC_big ng (R := min (rnd (z * 10 ^ k * u1074)) 9218868437227405312) (by omega) (Nat.min_le_right _ _)] at h
              cases h
          · rw [if_neg h22, Int.toNat_natCast] at h
            exact exC_is hf hq hw (by omega) hV h
        · rw [if_neg hx37] at h; cases h
      · rw [if_neg hxp] at h
        by_cases hx22 : -22 ≤ x
        · rw [if_pos hx22] at h
          obtain ⟨n, rfl⟩ : ∃ n : Nat, x = -(n : Int) := ⟨(-x).toNat, by omega⟩
          rw [show (-(-(n : Int))).toNat = n by omega] at h
          have hd := div_in (s := ng) (t := false) hw (whole_pw n (by omega)) hz (show n ≤ 22 by omega) hf hV (rung_fin hf hq)
          rw [word_f, Bool.xor_false] at hd
          rw [fd_is hd] at h
          exact (Option.some.inj h).symm
        · rw [if_neg hx22] at h; cases h
  · rw [if_neg hz1] at h; cases h
end Go.Proofs.YtofndhmnofghaaaGreatDoor.Sl

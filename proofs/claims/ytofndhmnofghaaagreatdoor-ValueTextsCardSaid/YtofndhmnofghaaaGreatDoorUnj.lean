/- A number that lies in a float's interval is read as that float, by the scaling. No condition. -/
import Derived.Test.YtofndhmnofghaaaGreatDoorUjj
namespace Go.Proofs.YtofndhmnofghaaaGreatDoor.Ut
open Go
set_option linter.unusedVariables false
set_option linter.unusedSimpArgs false

/-- one bit less; what is lost is kept in the last one -/
def halfU (u : Nat) : Nat := if u % 2 = 1 then odd1 (u / 2) else u / 2
theorem half_unr {n d : Nat} (hd : 0 < d) : halfU (unr n d) = unr n (2 * d) := by
  have hq := Nat.div_add_mod n d
  have hr := Nat.mod_lt n hd
  have h2 : n / (2 * d) = n / d / 2 := by rw [Nat.mul_comm, Nat.div_div_eq_div_mul]
  have hm : n % (2 * d) = n % d + d * (n / d % 2) := by rw [Nat.mul_comm 2 d, Nat.mod_mul]
  unfold halfU unr odd1
  rw [h2, hm]
  by_cases h0 : n % d = 0
  · rw [if_pos h0, h0]
    by_cases h1 : n / d % 2 = 1
    · rw [if_pos h1, if_neg (by rw [h1]; omega)]
    · rw [if_neg h1, if_pos (by rw [show n / d % 2 = 0 by omega]; omega)]
  · rw [if_neg h0, if_pos (by omega), if_neg (by omega)]
    omega
/-- what is read: mantissa, exponent -/
def readU (u : Nat) (e0 : Int) : Nat × Int := if 36028797018963966 ≤ u then (roundU (halfU u), -(e0 - 1)) else (roundU u, -e0)
theorem read_is {d b c s mant : Nat} {p e0 q : Int} (hp1 : -348 ≤ p) (hp2 : p ≤ 347) (hb : 1 ≤ b) (hb2 : b ≤ 64) (hc : b + c = 64) (hd1 : 2 ^ (b - 1) ≤ d) (hd2 : d < 2 ^ b)
    (he : e0 = min 1074 (53 - (b : Int) - lp10 p)) (hs : (s : Int) = -(e0 - c + lp10 p + 3)) (hf : IsF mant q) (hV : InF mant q (T d p)) :
    readU (unr (d * 2 ^ c * numA p) (denB p * 2 ^ (128 + s))) e0 = (mant, q) := by
  have hl := lp_bounds p hp1 hp2
  obtain ⟨a1, a2⟩ := lp_ok p hp1 hp2
  obtain ⟨R, hR, hsc⟩ := scale_read (p := p) (e := e0) (s := s) (c := c) hs hp1 hp2 (by omega) (by omega)
  have hTd := (hsc d 1).1
  have hF1 := (hsc d 1).2
  rw [Nat.one_mul] at hF1
  have hB : 0 < denB p := by
    unfold denB
    exact Nat.mul_pos (Nat.pow_pos (Nat.succ_pos 9)) (Nat.two_pow_pos _)
  have hden : 0 < denB p * 2 ^ (128 + s) := Nat.mul_pos hB (Nat.two_pow_pos _)
  -- x has 64 bits
  have hx1 : 9223372036854775808 ≤ d * 2 ^ c := by
    have : 2 ^ (b - 1) * 2 ^ c = 9223372036854775808 := by rw [← Nat.pow_add, show b - 1 + c = 63 by omega]
    rw [← this]; exact Nat.mul_le_mul_right _ hd1
  have hx2 : d * 2 ^ c < 18446744073709551616 := by
    have : 2 ^ b * 2 ^ c = 18446744073709551616 := by rw [← Nat.pow_add, hc]
    rw [← this]; exact Nat.mul_lt_mul_of_pos_right hd2 (Nat.two_pow_pos c)
  have hs8 : 8 ≤ s := by omega
  obtain ⟨j, hj⟩ : ∃ j, s = 8 + j := ⟨s - 8, by omega⟩
  have hj1 : 1 ≤ 2 ^ j := Nat.one_le_two_pow
  have hdj : denB p * 2 ^ (128 + s) = 87112285931760246646623899502532662132736 * (denB p * 2 ^ j) := by
    rw [show 128 + s = 136 + j by omega, Nat.pow_add, show (2 : Nat) ^ 136 = 87112285931760246646623899502532662132736 by decide, Nat.mul_left_comm]
  obtain ⟨x, hx⟩ : ∃ x, d * 2 ^ c = x := ⟨_, rfl⟩
  obtain ⟨A, hA⟩ : ∃ A, numA p = A := ⟨_, rfl⟩
  obtain ⟨B, hBB⟩ : ∃ B, denB p = B := ⟨_, rfl⟩
  rw [hx] at hTd hx1 hx2 ⊢
  rw [hA] at hTd a1 a2 ⊢
  rw [hBB] at hF1 hB hden hdj a1 a2 ⊢
  -- how much x A is
  have u1 : x * A ≤ 18446744073709551615 * (340277174624079928635746076935438991360 * B) := Nat.mul_le_mul (by omega) a2
  have u2 : 9223372036854775808 * (170141183460469231731687303715884105728 * B) ≤ x * A := Nat.mul_le_mul hx1 a1
  have hBj : B ≤ B * 2 ^ j := Nat.le_mul_of_pos_right B (by omega)
  obtain ⟨D, hD⟩ : ∃ D, B * 2 ^ (128 + s) = D := ⟨_, rfl⟩
  rw [hD] at hF1 hden hdj ⊢
  obtain ⟨N, hN⟩ : ∃ N, x * A = N := ⟨_, rfl⟩
  rw [hN] at u1 u2 hTd ⊢
  have up : 2 * N < 36028659580010496 * (4 * D) := by omega
  have nrm : e0 < 1074 → 4503599627370496 * (4 * D) ≤ N := fun h => by
    have hj0 : j = 0 := by omega
    subst hj0
    rw [Nat.pow_zero, Nat.mul_one] at hdj
    omega
  clear u1 u2 hBj hdj a1 a2 hx1 hx2 hx hA hBB hN hsc hd1 hd2
  have hG : 2 * F 1 (-e0) = F 1 (-(e0 - 1)) := by
    have := F_one 1 (e := -(e0 - 1)) (by omega)
    rw [show -(e0 - 1) - 1 = -e0 by omega] at this
    exact this.symm
  unfold readU
  by_cases hu : 36028797018963966 ≤ unr N D
  · rw [if_pos hu, half_unr hden]
    have hlow : 36028797018963966 * D ≤ N := by
      have := unr_lt (n := N) (t := 18014398509481983) hden
      omega
    have hn := round_near (n := N) (d := 2 * D) (by omega)
    generalize roundU (unr N (2 * D)) = Q at *
    have hQ : Q < 9007199254740992 := by
      have h1 := hn.lo
      rcases Nat.lt_or_ge Q 9007199254740992 with h | h
      · exact h
      · exfalso
        have : 2 * 9007199254740992 * (4 * (2 * D)) ≤ 2 * Q * (4 * (2 * D)) := Nat.mul_le_mul_right _ (by omega)
        omega
    have hn2 := near_scale hn hR
    have e1 : 4 * (2 * D) * R = F 1 (-(e0 - 1)) := by rw [← hG, hF1, ← Nat.mul_assoc 2, show 2 * (4 * D) = 4 * (2 * D) by omega]
    rw [e1, ← hTd] at hn2
    have := near_one hf hV hn2 hQ (by omega) (Kept.mk fun _ => by
      have h1 := Nat.mul_le_mul_right R hlow
      rw [← hTd] at h1
      rw [← e1]
      have e2 : 18014398509481983 * (4 * (2 * D) * R) = 4 * (36028797018963966 * D * R) := by
        have : 4 * (2 * D) * R = 8 * (D * R) := by rw [show 4 * (2 * D) = 8 * D by omega, Nat.mul_assoc]
        rw [this, Nat.mul_assoc 36028797018963966]
        omega
      rw [e2]; exact Nat.mul_le_mul_left 4 h1)
    rw [this.1, this.2]
  · rw [if_neg hu]
    have hn := round_near (n := N) hden
    have hRd : roundU (unr N D) = (unr N D + 1 + unr N D / 4 % 2) / 4 := rfl
    generalize roundU (unr N D) = Q at *
    have hn2 := near_scale hn hR
    rw [← hF1, ← hTd] at hn2
    have := near_one hf hV hn2 (by omega) (by omega) (Kept.mk fun h => by
      have h1 := Nat.mul_le_mul_right R (nrm (by omega))
      rw [← hTd] at h1
      rw [hF1]
      have e2 : 4503599627370496 * (4 * D) * R = 4503599627370496 * (4 * D * R) := Nat.mul_assoc ..
      rw [e2] at h1
      generalize 4 * D * R = Z at *
      omega)
    rw [this.1, this.2]
end Go.Proofs.YtofndhmnofghaaaGreatDoor.Ut

namespace Go.Proofs.YtofndhmnofghaaaGreatDoor.Ut
open Go
set_option linter.unusedVariables false
set_option linter.unusedSimpArgs false

/-- with an exact power the scaling is exact for every number -/
theorem uscale_exact {x hi s h m : Nat} (he : hi % 2 = 0) (hh : x * hi = h * 18446744073709551616 + m) (hm : m < 18446744073709551616) :
    sclN h m 0 s = unr (x * (hi * 18446744073709551616)) (2 ^ (128 + s)) := by
  have hp := Nat.two_pow_pos s
  have h1 : 2 ^ (128 + s) = 18446744073709551616 * 18446744073709551616 * 2 ^ s := by rw [Nat.pow_add]
  have hq := Nat.div_add_mod h (2 ^ s)
  have hr := Nat.mod_lt h hp
  have hev : m % 2 = 0 := by
    have : x * hi % 2 = 0 := by rw [Nat.mul_mod, he, Nat.mul_zero, Nat.zero_mod]
    omega
  have hN : x * (hi * 18446744073709551616) = (h * 18446744073709551616 + m) * 18446744073709551616 := by rw [← Nat.mul_assoc, hh]
  unfold sclN
  rw [hN, h1]
  generalize 2 ^ s = y at *
  generalize h / y = Q at *
  generalize h % y = r at *
  have z1 : Q * (18446744073709551616 * 18446744073709551616 * y) = 340282366920938463463374607431768211456 * (y * Q) := by
    rw [Nat.mul_comm Q, Nat.mul_assoc]
  have z2 : (Q + 1) * (18446744073709551616 * 18446744073709551616 * y) = 340282366920938463463374607431768211456 * (y * Q) + 340282366920938463463374607431768211456 * y := by
    rw [Nat.add_mul, z1, Nat.one_mul]
  by_cases h0 : r = 0
  · rw [if_neg (by omega), if_neg (by omega)]
    by_cases h2 : 1 < m - 0
    · rw [if_pos h2]
      exact (unr_over (by rw [z1]; omega) (by rw [z2]; omega)).symm
    · rw [if_neg h2]
      refine (unr_exact (Nat.mul_pos (by decide) hp) ?_).symm
      rw [z1]; omega
  · rw [if_pos h0]
    exact (unr_over (by rw [z1]; omega) (by rw [z2]; omega)).symm
theorem F_mono {q e : Int} (h : e ≤ q) (he : -1500 ≤ e) (a : Nat) : F a e ≤ F a q := by
  have := F_up a he (q - e).toNat
  rw [show e + ((q - e).toNat : Nat) = q by omega] at this
  rw [this]
  exact Nat.le_mul_of_pos_left _ (Nat.two_pow_pos _)
theorem T_mono {q e : Int} (h : e ≤ q) (he : -400 ≤ e) (a : Nat) : T a e ≤ T a q := by
  have := T_up a he (q - e).toNat
  rw [show e + ((q - e).toNat : Nat) = q by omega] at this
  rw [this]
  unfold T
  exact Nat.mul_le_mul_right _ (Nat.le_mul_of_pos_right _ (Nat.pow_pos (by omega)))
theorem InF.ge {mant : Nat} {q : Int} {V : Nat} (h : InF mant q V) (hf : IsF mant q) (hm : 0 < mant) : 2 * F 1 (-1074) ≤ 4 * V := by
  have h1 := h.lo
  have h2 : F 1 (-1074) ≤ F 1 q := F_mono hf.lb (by omega) 1
  have h3 : 2 * F 1 q ≤ 4 * V := by
    split at h1
    · exact Nat.le_trans (Nat.mul_le_mul_right _ (by omega)) h1
    · exact Nat.le_trans (Nat.mul_le_mul_right _ (by omega)) h1
  omega
theorem InF.lt {mant : Nat} {q : Int} {V : Nat} (h : InF mant q V) (hf : IsF mant q) (hq : q ≤ 971) : V < F 1 1024 := by
  have h1 := h.hi
  have h2 : F 1 q ≤ F 1 971 := F_mono hq (by have := hf.lb; omega) 1
  have h3 := F_up 1 (e := 971) (by omega) 53
  rw [show (971 : Int) + (53 : Nat) = 1024 by omega] at h3
  have h4 : (4 * mant + 2) * F 1 q ≤ 36028797018963966 * F 1 971 := Nat.mul_le_mul (by have := hf.lt; omega) h2
  have h5 := F_pos 971
  omega
/-- the power is neither too great nor too small -/
theorem pow_in {mant d : Nat} {q p : Int} (hf : IsF mant q) (hm : 0 < mant) (hq : q ≤ 971) (hd : 0 < d) (hd2 : d < 18446744073709551616) (hp : -400 ≤ p) (hV : InF mant q (T d p)) : -345 ≤ p ∧ p ≤ 310 := by
  have hle : T 1 p ≤ T d p := by unfold T; exact Nat.mul_le_mul_right _ hd
  constructor
  · rcases Int.lt_or_le p (-345) with h | h
    · exfalso
      have h1 := hV.ge hf hm
      have h2 : T d p ≤ T 18446744073709551616 (-346) := Nat.le_trans (by unfold T; exact Nat.mul_le_mul_right _ (by omega)) (T_mono (show p ≤ -346 by omega) hp 18446744073709551616)
      have h3 : decide (4 * T 18446744073709551616 (-346) < 2 * F 1 (-1074)) = true := by decide +kernel
      have h4 := of_decide_eq_true h3
      omega
    · exact h
  · rcases Int.lt_or_le 310 p with h | h
    · exfalso
      have h1 := hV.lt hf hq
      have h2 : T 1 311 ≤ T 1 p := T_mono (by omega) (by omega) 1
      have h3 : decide (F 1 1024 < T 1 311) = true := by decide +kernel
      have h4 := of_decide_eq_true h3
      omega
    · exact h
/-- the shift stays below 64 -/
theorem shift_in {mant d b c : Nat} {q p e0 : Int} (hf : IsF mant q) (hm : 0 < mant) (hp1 : -348 ≤ p) (hp2 : p ≤ 347) (hb : 1 ≤ b) (hc : b + c = 64) (hd : d < 2 ^ b)
    (he : e0 = min 1074 (53 - (b : Int) - lp10 p)) (hV : InF mant q (T d p)) : 8 ≤ -(e0 - c + lp10 p + 3) ∧ -(e0 - c + lp10 p + 3) < 64 := by
  have hl := lp_bounds p hp1 hp2
  refine ⟨by omega, ?_⟩
  rcases Int.lt_or_le (-(e0 - c + lp10 p + 3)) 64 with h | h
  · exact h
  · exfalso
    have he0 : e0 = 1074 := by omega
    obtain ⟨s, hs⟩ : ∃ s : Nat, (s : Int) = -(e0 - c + lp10 p + 3) := ⟨(-(e0 - c + lp10 p + 3)).toNat, by omega⟩
    obtain ⟨R, hR, hsc⟩ := scale_read hs hp1 hp2 (by omega) (by omega)
    have h1 := hV.ge hf hm
    have hA := (lp_ok p hp1 hp2).2
    have hx2 : d * 2 ^ c < 18446744073709551616 := by
      have : 2 ^ b * 2 ^ c = 18446744073709551616 := by rw [← Nat.pow_add, hc]
      rw [← this]; exact Nat.mul_lt_mul_of_pos_right hd (Nat.two_pow_pos c)
    have e1 := (hsc d 1).1
    have e2 := (hsc 0 1).2
    rw [he0, Nat.one_mul] at e2
    rw [e1, e2] at h1
    have h2 : 2 * (4 * (denB p * 2 ^ (128 + s))) ≤ 4 * (d * 2 ^ c * numA p) := by
      rw [← cmp_le hR]
      rw [Nat.mul_assoc 2, Nat.mul_assoc 4 (d * 2 ^ c * numA p)]; exact h1
    obtain ⟨j, hj⟩ : ∃ j, s = 64 + j := ⟨s - 64, by omega⟩
    have hy : 1 ≤ 2 ^ j := Nat.one_le_two_pow
    have hB : denB p ≤ denB p * 2 ^ j := Nat.le_mul_of_pos_right _ (by omega)
    rw [hj, show 128 + (64 + j) = 192 + j by omega, Nat.pow_add, Nat.mul_left_comm (denB p), show (2 : Nat) ^ 192 = 6277101735386680763835789423207666416102355444464034512896 by decide] at h2
    have u1 : d * 2 ^ c * numA p ≤ 18446744073709551615 * (340277174624079928635746076935438991360 * denB p) := Nat.mul_le_mul (by omega) hA
    have hB0 : 0 < denB p := by
      unfold denB
      exact Nat.mul_pos (Nat.pow_pos (Nat.succ_pos 9)) (Nat.two_pow_pos _)
    omega
/-- the bits of a mantissa and a power -/
def packU (m : Nat) (e : Int) : Nat := if m < 4503599627370496 then m else if 972 ≤ e then 9218868437227405312 else m - 4503599627370496 + (1075 + e).toNat * 4503599627370496
theorem pack_is {mant : Nat} {q : Int} (hf : IsF mant q) (hq : q ≤ 971) : packU mant q = rungOf mant q := by
  have h1 := hf.lt
  have h2 := hf.lb
  have h3 := hf.nm
  unfold packU rungOf
  by_cases h : mant < 4503599627370496
  · rw [if_pos h]; omega
  · rw [if_neg h, if_neg (by omega)]; omega
theorem rung_fin {mant : Nat} {q : Int} (hf : IsF mant q) (hq : q ≤ 971) : rungOf mant q < 9218868437227405312 := by
  have h1 := hf.lt
  have h2 := hf.lb
  unfold rungOf
  omega
/-- what the reader reckons: d with b binary digits, times ten to the p -/
theorem parse_is {mant d b c : Nat} {q p e0 : Int} (hf : IsF mant q) (hm : 0 < mant) (hq : q ≤ 971) (hp1 : -348 ≤ p) (hp2 : p ≤ 347) (hb : 1 ≤ b) (hc : b + c = 64) (hd1 : 2 ^ (b - 1) ≤ d) (hd2 : d < 2 ^ b)
    (he : e0 = min 1074 (53 - (b : Int) - lp10 p)) (hV : InF mant q (T d p)) : ∃ s : Nat, (s : Int) = -(e0 - c + lp10 p + 3) ∧ 8 ≤ s ∧ s < 64 ∧
      packU (readU (unr (d * 2 ^ c * numA p) (denB p * 2 ^ (128 + s))) e0).1 (readU (unr (d * 2 ^ c * numA p) (denB p * 2 ^ (128 + s))) e0).2 = rungOf mant q := by
  obtain ⟨h1, h2⟩ := shift_in hf hm hp1 hp2 hb hc hd2 he hV
  obtain ⟨s, hs⟩ : ∃ s : Nat, (s : Int) = -(e0 - c + lp10 p + 3) := ⟨(-(e0 - c + lp10 p + 3)).toNat, by omega⟩
  refine ⟨s, hs, by omega, by omega, ?_⟩
  rw [read_is hp1 hp2 hb (by omega) hc hd1 hd2 he hs hf hV]
  exact pack_is hf hq
end Go.Proofs.YtofndhmnofghaaaGreatDoor.Ut

namespace Go.Proofs.YtofndhmnofghaaaGreatDoor.Ut
open Go Fl Ieee
set_option linter.unusedVariables false
set_option linter.unusedSimpArgs false

theorem whole_near {z : Nat} (h0 : 0 < z) (h1 : z < 9007199254740992) (neg : Bool) : ∃ r, Whole r z ∧ double.nearest neg z 0 = double.word neg r := by
  obtain ⟨w, hw⟩ : ∃ w, w = 1074 := ⟨1074, rfl⟩
  have hn := nearest_units neg z w
  rw [show ((w : Nat) : Int) - 1074 = 0 by omega] at hn
  have hv := val_rnd h1 w
  rw [← u1074_is w hw] at hv hn
  have hfin : rnd (z * u1074) < 9218868437227405312 := by
    rcases Nat.lt_or_ge (rnd (z * u1074)) 9218868437227405312 with h | h
    · exact h
    · exfalso
      have h2 := val_mono h
      rw [hv] at h2
      have h3 : decide (9007199254740992 * u1074 < val 9218868437227405312) = true := by decide +kernel
      have h4 := of_decide_eq_true h3
      have h5 : z * u1074 ≤ 9007199254740992 * u1074 := Nat.mul_le_mul_right _ (by omega)
      omega
  refine ⟨_, whole_of hv h0 hfin, ?_⟩
  rw [hn, Nat.min_eq_left (Nat.le_of_lt hfin)]
/-- a whole number that lies in a float's interval is that float -/
theorem whole_in {r z mant : Nat} {q : Int} (h : Whole r z) (hf : IsF mant q) (hV : InF mant q (T z 0)) : r = rungOf mant q := by
  have hVx : T z 0 = z * u1074 * F 1 (-1074) := by
    rw [T_whole]
    unfold F
    obtain ⟨w, hw⟩ : ∃ w, w = 1074 := ⟨1074, rfl⟩
    rw [Nat.one_mul, Nat.mul_assoc z u1074, ← Nat.mul_assoc u1074, u1074_is w hw, ← Nat.pow_add, ← b1500_is (w + (-1074 + 1500 : Int).toNat) (by omega), Nat.mul_comm t400]
  rw [hVx] at hV
  have h1 := rnd_in hf hV
  rw [← h.val, rnd_val] at h1
  exact h1
end Go.Proofs.YtofndhmnofghaaaGreatDoor.Ut

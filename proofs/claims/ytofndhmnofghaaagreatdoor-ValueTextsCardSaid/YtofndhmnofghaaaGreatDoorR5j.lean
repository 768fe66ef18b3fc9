/- The fast way of reading a number, by the plain theory. No condition. -/
import Derived.Test.YtofndhmnofghaaaGreatDoorR3j
import Derived.Test.YtofndhmnofghaaaGreatDoorX3j
import Derived.Laws.BitsAllLaws
namespace Go.Proofs.YtofndhmnofghaaaGreatDoor.Rd
open Go.RowKit
set_option linter.unusedVariables false
set_option linter.unusedSimpArgs false

theorem and_bits (a b : Nat) (ha : a < 18446744073709551616) (hb : b < 18446744073709551616) : bits BinOp.and IntKind.u64 (a : Int) (b : Int) = ((a &&& b : Nat) : Int) :=
  (bits_nat .u64 64 (by decide) u64n a b (by omega) (by omega)).1
theorem and52 (m : Nat) (hm : m < 18446744073709551616) : bits BinOp.and IntKind.u64 (m : Int) 4503599627370496 = ((m / 4503599627370496 % 2 * 4503599627370496 : Nat) : Int) := by
  have h := and_bits m 4503599627370496 hm (by omega)
  have e : m &&& 4503599627370496 = m / 4503599627370496 % 2 * 4503599627370496 := by
    have a1 := Nat.and_div_two_pow (a := m) (b := 4503599627370496) (n := 52)
    have a2 := Nat.and_mod_two_pow (a := m) (b := 4503599627370496) (n := 52)
    rw [show (2 : Nat) ^ 52 = 4503599627370496 by decide] at a1 a2
    rw [show 4503599627370496 / 4503599627370496 = 1 by decide, Nat.and_one_is_mod] at a1
    rw [show 4503599627370496 % 4503599627370496 = 0 by decide, Nat.and_zero] at a2
    generalize m &&& 4503599627370496 = r at *
    omega
  rw [e] at h
  exact h
theorem not52 (sg mant : Nat) (hsg : sg = 0 ∨ sg = 9223372036854775808) (h1 : 4503599627370496 ≤ mant) (h2 : mant < 9007199254740992) :
    bits BinOp.andNot IntKind.u64 ((sg + mant : Nat) : Int) 4503599627370496 = ((sg + mant - 4503599627370496 : Nat) : Int) := by
  have h := u64_andNot_nat (sg + mant) 4503599627370496 (by omega) (by omega)
  have e : (sg + mant) &&& (18446744073709551615 - 4503599627370496) = sg + mant - 4503599627370496 := by
    have a1 := Nat.and_div_two_pow (a := sg + mant) (b := 18446744073709551615 - 4503599627370496) (n := 52)
    have a2 := Nat.and_mod_two_pow (a := sg + mant) (b := 18446744073709551615 - 4503599627370496) (n := 52)
    rw [show (2 : Nat) ^ 52 = 4503599627370496 by decide] at a1 a2
    rw [show (18446744073709551615 - 4503599627370496) / 4503599627370496 = 4094 by decide] at a1
    rw [show (18446744073709551615 - 4503599627370496) % 4503599627370496 = 2 ^ 52 - 1 by decide, Nat.and_two_pow_sub_one_eq_mod, show (2 : Nat) ^ 52 = 4503599627370496 by decide, Nat.mod_mod] at a2
    generalize (sg + mant) &&& (18446744073709551615 - 4503599627370496) = r at *
    rcases hsg with rfl | rfl
    · rw [show (0 + mant) / 4503599627370496 = 1 by omega, show 1 &&& 4094 = 0 by decide] at a1
      omega
    · rw [show (9223372036854775808 + mant) / 4503599627370496 = 2049 by omega, show 2049 &&& 4094 = 2048 by decide] at a1
      omega
  rw [e] at h
  exact h
theorem or52 (sg lo k : Nat) (hsg : sg = 0 ∨ sg = 9223372036854775808) (hlo : lo < 4503599627370496) (hk : k < 2048) :
    bits BinOp.or IntKind.u64 ((sg + lo : Nat) : Int) ((k * 4503599627370496 : Nat) : Int) = ((sg + (k * 4503599627370496 + lo) : Nat) : Int) := by
  have h := or_bits (sg + lo) (k * 4503599627370496) (by omega) (by omega)
  have e : (sg + lo) ||| (k * 4503599627370496) = sg + (k * 4503599627370496 + lo) := by
    have a1 := Nat.or_div_two_pow (a := sg + lo) (b := k * 4503599627370496) (n := 52)
    have a2 := Nat.or_mod_two_pow (a := sg + lo) (b := k * 4503599627370496) (n := 52)
    rw [show (2 : Nat) ^ 52 = 4503599627370496 by decide] at a1 a2
    rw [Nat.mul_mod_left, Nat.or_zero] at a2
    rw [Nat.mul_div_cancel _ (by omega)] at a1
    generalize (sg + lo) ||| (k * 4503599627370496) = r at *
    rcases hsg with rfl | rfl
    · rw [show (0 + lo) / 4503599627370496 = 0 by omega, Nat.zero_or] at a1
      omega
    · have a3 := Nat.two_pow_add_eq_or_of_lt (i := 11) (b := k) (by omega) 1
      rw [show (9223372036854775808 + lo) / 4503599627370496 = 2048 by omega] at a1
      rw [show (2 : Nat) ^ 11 * 1 = 2048 by decide] at a3
      rw [← a3] at a1
      omega
  rw [e] at h
  exact h
theorem pk_is {mant sg : Nat} {q : Int} (hf : Ut.IsF mant q) (hq : q ≤ 971) (hsg : sg = 0 ∨ sg = 9223372036854775808) : pkB (sg + mant) q = sg + Ut.rungOf mant q := by
  have h1 := hf.lt
  have h2 := hf.lb
  have h3 := hf.nm
  unfold pkB
  rw [and52 _ (by omega)]
  by_cases h : mant < 4503599627370496
  · rw [if_pos (by omega)]
    unfold Ut.rungOf
    omega
  · rw [if_neg (by omega), if_neg (by omega), not52 sg mant hsg (by omega) h1]
    obtain ⟨k, hk⟩ : ∃ k : Nat, 1075 + q = (k : Int) := ⟨(1075 + q).toNat, by omega⟩
    rw [hk, u64n (k : Int) (by omega) (by omega), u64n ((k : Int) * 4503599627370496) (by omega) (by omega)]
    have ho := or52 sg (mant - 4503599627370496) k hsg (by omega) (by omega)
    rw [show sg + mant - 4503599627370496 = sg + (mant - 4503599627370496) by omega, show (k : Int) * 4503599627370496 = ((k * 4503599627370496 : Nat) : Int) by omega, ho, Int.toNat_natCast]
    unfold Ut.rungOf
    omega
end Go.Proofs.YtofndhmnofghaaaGreatDoor.Rd

namespace Go.Proofs.YtofndhmnofghaaaGreatDoor.Rd
open Go.RowKit
set_option linter.unusedVariables false
set_option linter.unusedSimpArgs false

theorem and1 (u : Nat) (hu : u < 18446744073709551616) : bits BinOp.and IntKind.u64 (u : Int) 1 = ((u % 2 : Nat) : Int) := by
  have h := and_bits u 1 hu (by omega)
  rw [Nat.and_one_is_mod] at h
  exact h
theorem pfU_lo (u : Nat) (hu : u < 18446744073709551616) (h : ¬ 36028797018963966 ≤ u) : pfU u = u := by
  unfold pfU pfT
  rw [if_neg h, and1 u hu, show ((u : Int) / 2 ^ 0) = (u : Int) by omega, or_bits u (u % 2) hu (by omega), Int.toNat_natCast]
  rcases Nat.mod_two_eq_zero_or_one u with h2 | h2
  · rw [h2, Nat.or_zero]
  · rw [h2, or_one]; unfold Ut.odd1; omega
theorem pfU_hi (u : Nat) (hu : u < 18446744073709551616) (h : 36028797018963966 ≤ u) : pfU u = Ut.halfU u := by
  unfold pfU pfT Ut.halfU
  rw [if_pos h, and1 u hu, show ((u : Int) / 2 ^ 1) = ((u / 2 : Nat) : Int) by omega, or_bits (u / 2) (u % 2) (by omega) (by omega), Int.toNat_natCast]
  rcases Nat.mod_two_eq_zero_or_one u with h2 | h2
  · rw [h2, Nat.or_zero, if_neg (by omega)]
  · rw [h2, or_one, if_pos rfl]
theorem pfM_is (v sg : Nat) (hv : v < 4611686018427387904) (hsg : sg = 0 ∨ sg = 9223372036854775808) : pfM v sg = sg + Ut.roundU v := by
  have hR : Ut.roundU v < 9223372036854775808 := by unfold Ut.roundU; omega
  unfold pfM
  rw [round_nat v hv, Int.toNat_natCast, or_bits sg _ (by omega) (by omega), Int.toNat_natCast]
  rcases hsg with rfl | rfl
  · rw [Nat.zero_or, Nat.zero_add]
  · have := Nat.two_pow_add_eq_or_of_lt (i := 63) (b := Ut.roundU v) (by omega) 1
    rw [Nat.mul_one, show (2 : Nat) ^ 63 = 9223372036854775808 by decide] at this
    exact this.symm
theorem pf_is {mant d sg : Nat} {q p : Int} (hf : Ut.IsF mant q) (hm : 0 < mant) (hq : q ≤ 971) (hd : 0 < d) (hd2 : d < 144115188075855872) (hp1 : -345 ≤ p) (hp2 : p ≤ 310) (hV : Ut.InF mant q (Ut.T d p)) (hsg : sg = 0 ∨ sg = 9223372036854775808) :
    pfB d p sg = sg + Ut.rungOf mant q := by
  obtain ⟨b1, b2, b3⟩ := Lib.bitLenAux_bounds 64 d (by omega) (by omega)
  have hL : Lib.bitLenAux 64 d = Lib.bitLen d := rfl
  rw [hL] at b1 b2 b3
  have hle := Lib.bitLen_le d 57 (by omega) (by omega)
  unfold pfB pfA pfX
  generalize Lib.bitLen d = b at *
  obtain ⟨c, hc⟩ : ∃ c, 64 - b = c := ⟨_, rfl⟩
  have hbc : b + c = 64 := by omega
  rw [hc, show p - -348 = p + 348 by omega]
  have hlp : p * 108853 / 32768 = Ut.lp10 p := rfl
  rw [hlp]
  obtain ⟨e0, he⟩ : ∃ e0, min 1074 (53 - (b : Int) - Ut.lp10 p) = e0 := ⟨_, rfl⟩
  obtain ⟨s1, s2⟩ := Ut.shift_in hf hm (by omega) (by omega) b1 hbc b3 he.symm hV
  obtain ⟨s, hs⟩ : ∃ s : Nat, (s : Int) = -(e0 - c + Ut.lp10 p + 3) := ⟨(-(e0 - c + Ut.lp10 p + 3)).toNat, by omega⟩
  have hr := Ut.read_is (by omega) (by omega) b1 (by omega) hbc b2 b3 he.symm hs hf hV
  have hS : pfS b (Ut.lp10 p) = s := by
    unfold pfS
    rw [he]
    omega
  have hx2 : d * 2 ^ c < 18446744073709551616 := by
    have : 2 ^ b * 2 ^ c = 18446744073709551616 := by rw [← Nat.pow_add, hbc]
    rw [← this]; exact Nat.mul_lt_mul_of_pos_right b3 (Nat.two_pow_pos c)
  have hX : (IntKind.u64.wrap ((d : Int) * 2 ^ c)).toNat = d * 2 ^ c := by
    have e : (d : Int) * 2 ^ c = ((d * 2 ^ c : Nat) : Int) := by rw [Int.natCast_mul, Int.natCast_pow]; rfl
    rw [e, u64n _ (by omega) (by omega)]
    exact Int.toNat_natCast _
  have hx128 : d * 2 ^ c % 128 = 0 := by
    rw [show c = 7 + (c - 7) by omega, Nat.pow_add, Nat.mul_left_comm]
    exact Nat.mul_mod_right ..
  have hx0 : 0 < d * 2 ^ c := Nat.mul_pos hd (Nat.two_pow_pos c)
  have hsc := scale_is (p := p) (s := s) (by omega) (by omega) hx128 hx0 hx2 (by omega)
  have hsm := unr_small (p := p) (s := s) (by omega) (by omega) hx2 (by omega)
  rw [hS, hX, hsc, Int.toNat_natCast, he, if_neg (by omega)]
  generalize Ut.unr (d * 2 ^ c * Ut.numA p) (Ut.denB p * 2 ^ (128 + s)) = u at *
  unfold Ut.readU at hr
  by_cases hu : 36028797018963966 ≤ u
  · rw [if_pos hu] at hr
    rw [pfU_hi u (by omega) hu, pfM_is _ sg (by unfold Ut.halfU Ut.odd1; split <;> omega) hsg]
    have h1 := congrArg Prod.fst hr
    have h2 := congrArg Prod.snd hr
    simp only at h1 h2
    rw [h1, show pfT u = 1 by unfold pfT; rw [if_pos hu], show -(e0 - ((1 : Nat) : Int)) = q by omega]
    exact pk_is hf hq hsg
  · rw [if_neg hu] at hr
    rw [pfU_lo u (by omega) hu, pfM_is _ sg (by omega) hsg]
    have h1 := congrArg Prod.fst hr
    have h2 := congrArg Prod.snd hr
    simp only at h1 h2
    rw [h1, show pfT u = 0 by unfold pfT; rw [if_neg hu], show -(e0 - ((0 : Nat) : Int)) = q by omega]
    exact pk_is hf hq hsg
end Go.Proofs.YtofndhmnofghaaaGreatDoor.Rd

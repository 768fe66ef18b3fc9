/- The program's scaling and its shortest digits, by the plain theory: what is written lies in the float's interval. No condition. -/
import Derived.Test.YtofndhmnofghaaaGreatDoorA3j
import Derived.Test.YtofndhmnofghaaaGreatDoorUmj
import Derived.Test.YtofndhmnofghaaaGreatDoorUnj
import Derived.Test.YtofndhmnofghaaaGreatDoorB9j
import Derived.Test.YtofndhmnofghaaaGreatDoorUrj
namespace Go.Proofs.YtofndhmnofghaaaGreatDoor
open Go.RowKit
set_option linter.unusedVariables false
set_option linter.unusedSimpArgs false

theorem or_one (a : Nat) : a ||| 1 = Ut.odd1 a := by
  have h1 := Nat.two_pow_add_eq_or_of_lt (i := 1) (b := 1) (by omega) (a / 2)
  have h0 := Nat.two_pow_add_eq_or_of_lt (i := 1) (b := 0) (by omega) (a / 2)
  rw [Nat.pow_one] at h1 h0
  unfold Ut.odd1
  by_cases h : a % 2 = 0
  · have e : a = 2 * (a / 2) := by omega
    have : 2 * (a / 2) ||| 1 = a / 2 * 2 + 1 := by rw [← h1]; omega
    rw [← e] at this
    exact this
  · have e : a = 2 * (a / 2) ||| 1 := by rw [← h1]; omega
    have : (2 * (a / 2) ||| 1) ||| 1 = a / 2 * 2 + 1 := by rw [Nat.or_assoc, Nat.or_self, ← h1]; omega
    rw [← e] at this
    exact this
theorem u64n : ∀ n : Int, 0 ≤ n → n < 2 ^ 64 → IntKind.u64.wrap n = n := fun n a b => by simp [IntKind.wrap, IntKind.bits, IntKind.signed]; omega
theorem or_bits (a b : Nat) (ha : a < 18446744073709551616) (hb : b < 18446744073709551616) : bits BinOp.or IntKind.u64 (a : Int) (b : Int) = ((a ||| b : Nat) : Int) :=
  (bits_nat .u64 64 (by decide) u64n a b (by omega) (by omega)).2
theorem or_bits1 (a : Nat) (ha : a < 18446744073709551616) : bits BinOp.or IntKind.u64 (a : Int) 1 = (Ut.odd1 a : Int) := by
  have := or_bits a 1 ha (by omega)
  rw [or_one] at this
  exact this
theorem or_bits0 (a : Nat) (ha : a < 18446744073709551616) : bits BinOp.or IntKind.u64 (a : Int) 0 = (a : Int) := by
  have := or_bits a 0 ha (by omega)
  rw [Nat.or_zero] at this
  exact this
theorem scl_nat (h m k s : Nat) (hh : h < 18446744073709551616) (h0 : 0 < h) (hm : m < 18446744073709551616) (hk : k < 18446744073709551615) : scl (h : Int) (m : Int) (k : Int) s = (Ut.sclN h m k s : Int) := by
  have hp : 0 < 2 ^ s := Nat.two_pow_pos s
  have hq := Nat.div_add_mod h (2 ^ s)
  have hr := Nat.mod_lt h hp
  have e1 : (h : Int) / 2 ^ s = ((h / 2 ^ s : Nat) : Int) := by rw [Int.natCast_ediv, Int.natCast_pow]; rfl
  have e2 : (h : Int) / 2 ^ s * 2 ^ s = ((h / 2 ^ s * 2 ^ s : Nat) : Int) := by rw [e1, Int.natCast_mul, Int.natCast_pow]; rfl
  have hle : h / 2 ^ s ≤ h := Nat.div_le_self ..
  have hP : h / 2 ^ s * 2 ^ s + h % 2 ^ s = h := by rw [Nat.mul_comm]; exact hq
  have c1 : h % 2 ^ s = 0 → ¬ (IntKind.u64.wrap (((h / 2 ^ s * 2 ^ s : Nat) : Int)) != (h : Int)) = true := by
    intro h0
    generalize h / 2 ^ s * 2 ^ s = P at *
    rw [u64n _ (by omega) (by omega), show (P : Int) = (h : Int) by omega]
    simp
  have c2 : ¬ h % 2 ^ s = 0 → (IntKind.u64.wrap (((h / 2 ^ s * 2 ^ s : Nat) : Int)) != (h : Int)) = true := by
    intro h0
    generalize h / 2 ^ s * 2 ^ s = P at *
    rw [u64n _ (by omega) (by omega)]
    simp only [bne_iff_ne, ne_eq]
    omega
  have hQ1 : h % 2 ^ s = 0 → 1 ≤ h / 2 ^ s := fun h1 => by
    rcases Nat.eq_zero_or_pos (h / 2 ^ s) with h' | h'
    · rw [h', Nat.mul_zero] at hq; omega
    · exact h'
  have e4 : h % 2 ^ s = 0 → (h - 1) / 2 ^ s = h / 2 ^ s - 1 := fun h1 => by
    have := hQ1 h1
    rw [h1, Nat.add_zero] at hq
    generalize h / 2 ^ s = Q at *
    rw [Nat.div_eq_iff hp]
    have : (Q - 1) * 2 ^ s + 2 ^ s = 2 ^ s * Q := by rw [← Nat.succ_mul, Nat.mul_comm, show (Q - 1).succ = Q by omega]
    omega
  have e5 : ((h : Int) - 1) / 2 ^ s = (((h - 1) / 2 ^ s : Nat) : Int) := by
    rw [show (h : Int) - 1 = ((h - 1 : Nat) : Int) by omega, Int.natCast_ediv, Int.natCast_pow]; rfl
  unfold scl Ut.sclN
  rw [e2]
  by_cases hm0 : h % 2 ^ s = 0
  · rw [if_neg (c1 hm0), if_neg (show ¬ h % 2 ^ s ≠ 0 from fun h => h hm0)]
    by_cases hmk : m < k
    · have hw : IntKind.u64.wrap ((m : Int) - (k : Int)) = (m : Int) - k + 18446744073709551616 := by simp [IntKind.wrap, IntKind.bits, IntKind.signed]; omega
      rw [if_pos hmk, show (if decide ((m : Int) < (k : Int)) = true then (1 : Int) else 0) = 1 from if_pos (decide_eq_true (by omega)), u64n ((h : Int) - 1) (by omega) (by omega), hw,
        show (if decide (1 < (m : Int) - k + 18446744073709551616) = true then (1 : Int) else 0) = 1 from if_pos (decide_eq_true (by omega)), e5, e4 hm0, or_bits1 _ (by omega)]
    · rw [if_neg hmk, show (if decide ((m : Int) < (k : Int)) = true then (1 : Int) else 0) = 0 from if_neg (by rw [decide_eq_true_iff]; omega), Int.sub_zero, u64n (h : Int) (by omega) (by omega), e1, u64n ((m : Int) - k) (by omega) (by omega)]
      by_cases h1 : 1 < m - k
      · rw [if_pos h1, show (if decide (1 < (m : Int) - k) = true then (1 : Int) else 0) = 1 from if_pos (decide_eq_true (by omega)), or_bits1 _ (by omega)]
      · rw [if_neg h1, show (if decide (1 < (m : Int) - k) = true then (1 : Int) else 0) = 0 from if_neg (by rw [decide_eq_true_iff]; omega), or_bits0 _ (by omega)]
  · rw [if_pos (c2 hm0), if_pos hm0, e1, or_bits1 _ (by omega)]
theorem scale_is {p : Int} {s x : Nat} (hp1 : -348 ≤ p) (hp2 : p ≤ 347) (hx : x % 128 = 0) (hx0 : 0 < x) (hx2 : x < 18446744073709551616) (hs : 5 ≤ s) :
    scale x ⟨(rowOf (p + 348).toNat).1, (rowOf (p + 348).toNat).2, s⟩ = (Ut.unr (x * Ut.numA p) (Ut.denB p * 2 ^ (128 + s)) : Int) := by
  obtain ⟨i, hi⟩ : ∃ i : Nat, p = (i : Int) - 348 := ⟨(p + 348).toNat, by omega⟩
  rw [show (p + 348).toNat = i by omega]
  have R : Ut.RowIs p (rowOf i) := by rw [hi]; exact Ut.row_is _ _ (Ut.row_ok i (by omega))
  have hb : ∀ a b : Nat, a < 18446744073709551616 → b < 18446744073709551616 → a * b / 18446744073709551616 < 18446744073709551615 := fun a b ha hb => by
    have h1 : a * b ≤ 18446744073709551615 * 18446744073709551615 := Nat.mul_le_mul (by omega) (by omega)
    omega
  have h1 := hb x (rowOf i).1 hx2 R.h2
  have h2 := hb x (rowOf i).2 hx2 R.l
  have h3 : x * (rowOf i).1 % 18446744073709551616 < 18446744073709551616 := Nat.mod_lt _ (by decide)
  have h4 : 0 < x * (rowOf i).1 / 18446744073709551616 := by
    have : 128 * 9223372036854775808 ≤ x * (rowOf i).1 := Nat.mul_le_mul (by omega) R.h1
    omega
  have hsc := Ut.uscale_is R x (x / 128) s (by omega) (by rw [show Ut.two57 = 144115188075855872 from rfl]; omega) (by omega) hs (x * (rowOf i).1 / 18446744073709551616) (x * (rowOf i).1 % 18446744073709551616) (x * (rowOf i).2 / 18446744073709551616) (by omega) h3 rfl
  unfold scale
  rw [scl_nat _ _ _ _ (by omega) h4 h3 h2, hsc]
end Go.Proofs.YtofndhmnofghaaaGreatDoor

namespace Go.Proofs.YtofndhmnofghaaaGreatDoor
open Go.RowKit
set_option linter.unusedVariables false
set_option linter.unusedSimpArgs false

theorem sf_iff (m : Nat) (e : Int) : sfA m e = true ↔ (m = 9223372036854775808 ∧ -1085 < e) := by
  unfold sfA
  rw [Bool.and_eq_true, decide_eq_true_eq, decide_eq_true_eq]
theorem sfZ_is (e : Int) : sfZ e = Ut.sZ e := rfl
theorem sfP_is (m : Nat) (e : Int) : sfP m e = Ut.sP m e := by
  unfold sfP Ut.sP Ut.pA Ut.pB
  by_cases h : m = 9223372036854775808 ∧ -1085 < e
  · rw [if_pos h, if_pos ((sf_iff m e).2 h)]
  · rw [if_neg h, if_neg fun g => h ((sf_iff m e).1 g)]
theorem sfMin_is (m : Nat) (e : Int) : sfMin m e = Ut.sMn m e := by
  unfold sfMin Ut.sMn
  rw [sfZ_is]
  by_cases h : m = 9223372036854775808 ∧ -1085 < e
  · rw [if_pos h, if_pos ((sf_iff m e).2 h)]
  · rw [if_neg h, if_neg fun g => h ((sf_iff m e).1 g)]
theorem sfMax_is (m : Nat) (e : Int) : sfMax m e = Ut.sMx m e := rfl
theorem sfOdd_is (m : Nat) (e : Int) : sfOdd m e = Ut.sOdd m e := rfl
theorem nud_up (u o : Nat) (hu : u < 4611686018427387904) (ho : o ≤ 1) : nud (u : Int) (o : Int) = ((u + o : Nat) : Int) := by
  unfold nud
  rw [u64n (o : Int) (by omega) (by omega), u64n _ (by omega) (by omega)]
  omega
theorem nud_dn (u o : Nat) (hu : u < 4611686018427387904) (ho : o ≤ u) (ho1 : o ≤ 1) : nud (u : Int) (-(o : Int)) = ((u - o : Nat) : Int) := by
  unfold nud
  simp only [IntKind.wrap, IntKind.bits, IntKind.signed]
  simp
  omega
theorem ceil_nat (u : Nat) (hu : u < 9223372036854775808) : ceilF (u : Int) = (((u + 3) / 4 : Nat) : Int) := by
  unfold ceilF
  rw [u64n _ (by omega) (by omega)]
  omega
theorem round_nat (u : Nat) (hu : u < 4611686018427387904) : roundF (u : Int) = (Ut.roundU u : Int) := by
  unfold roundF Ut.roundU
  have h1 := bits_mask .u64 64 (by decide) u64n 1 (by omega) ((u : Int) / 4) (by omega) (by omega)
  have e : ((2 : Int) ^ 1 - 1) = 1 := by decide
  rw [e] at h1
  rw [h1, u64n ((u : Int) + 1) (by omega) (by omega), u64n _ (by omega) (by omega)]
  omega
/-- a scaled number is small -/
theorem unr_small {p : Int} {s x : Nat} (hp1 : -348 ≤ p) (hp2 : p ≤ 347) (hx : x < 18446744073709551616) (hs : 5 ≤ s) : Ut.unr (x * Ut.numA p) (Ut.denB p * 2 ^ (128 + s)) < 4611686018427387904 := by
  have hB : 0 < Ut.denB p := by
    unfold Ut.denB
    exact Nat.mul_pos (Nat.pow_pos (Nat.succ_pos 9)) (Nat.two_pow_pos _)
  have hA := (Ut.lp_ok p hp1 hp2).2
  have h := (Ut.unr_lt (n := x * Ut.numA p) (t := 2305843009213693952) (Nat.mul_pos hB (Nat.two_pow_pos (128 + s)))).2 ?_
  · omega
  · obtain ⟨j, hj⟩ : ∃ j, s = 5 + j := ⟨s - 5, by omega⟩
    have hy : 1 ≤ 2 ^ j := Nat.one_le_two_pow
    rw [hj, show 128 + (5 + j) = 133 + j by omega, Nat.pow_add, show (2 : Nat) ^ 133 = 10889035741470030830827987437816582766592 by decide]
    generalize Ut.denB p = B at *
    generalize Ut.numA p = A at *
    have u1 : x * A ≤ 18446744073709551615 * (340277174624079928635746076935438991360 * B) := Nat.mul_le_mul (by omega) hA
    have u2 : B * (10889035741470030830827987437816582766592 * 1) ≤ B * (10889035741470030830827987437816582766592 * 2 ^ j) := Nat.mul_le_mul_left B (Nat.mul_le_mul_left _ hy)
    omega
theorem unr_pos {n d : Nat} (hd : 0 < d) (hn : 0 < n) : 0 < Ut.unr n d := by
  have := Ut.unr_le (n := n) (t := 0) hd
  omega
/-- what is written of a float -/
theorem short_is {mant z m : Nat} {q e : Int} (h : Ut.Moved mant z m q e) : ∃ D : Nat, sfD m e = (D : Int) ∧ 0 < D ∧ D < 144115188075855872 ∧ -347 ≤ sfE m e ∧ sfE m e ≤ 349 ∧ Ut.InF mant q (Ut.T D (sfE m e)) := by
  obtain ⟨s, D, hs, hs5, hs63, p1, p2, r1, r2, r3, n1, n2, n3, b1, b3, hD, hlt, hV⟩ := Ut.short_all h
  have b2 := h.hi
  have hge := hV.ge h.f h.ends.1.pos
  have ho : sfOdd m e ≤ 1 := by unfold sfOdd; omega
  have hpre : sfPre m e = ⟨(rowOf (Ut.sP m e + 348).toNat).1, (rowOf (Ut.sP m e + 348).toNat).2, s⟩ := by
    unfold sfPre
    rw [sfP_is]
    have : (-(e + Ut.sP m e * 108853 / 32768 + 3)).toNat = s := by
      unfold Ut.lp10 at hs; omega
    rw [this]
  have k1 := scale_is p1 p2 r1 n1 b1 hs5
  have k2 := scale_is p1 p2 r2 n2 b2 hs5
  have k3 := scale_is p1 p2 r3 n3 b3 hs5
  have w1 := unr_small (p := Ut.sP m e) (s := s) p1 p2 b1 hs5
  have w2 := unr_small (p := Ut.sP m e) (s := s) p1 p2 b2 hs5
  have w3 := unr_small (p := Ut.sP m e) (s := s) p1 p2 b3 hs5
  have hB : 0 < Ut.denB (Ut.sP m e) := by
    unfold Ut.denB
    exact Nat.mul_pos (Nat.pow_pos (Nat.succ_pos 9)) (Nat.two_pow_pos _)
  have hA : 0 < Ut.numA (Ut.sP m e) := by
    unfold Ut.numA
    exact Nat.mul_pos (Nat.pow_pos (Nat.succ_pos 9)) (Nat.two_pow_pos _)
  have w4 := unr_pos (Nat.mul_pos hB (Nat.two_pow_pos (128 + s))) (Nat.mul_pos n3 hA)
  have eLo : sfLo m e = (Ut.ceilU (Ut.unr (Ut.sMn m e * Ut.numA (Ut.sP m e)) (Ut.denB (Ut.sP m e) * 2 ^ (128 + s))) (Ut.sOdd m e) : Nat) := by
    unfold sfLo Ut.ceilU
    rw [hpre, sfMin_is, k1, nud_up _ _ w1 ho, ceil_nat _ (by omega), sfOdd_is]
  have eHi : sfHi m e = (Ut.floorU (Ut.unr (Ut.sMx m e * Ut.numA (Ut.sP m e)) (Ut.denB (Ut.sP m e) * 2 ^ (128 + s))) (Ut.sOdd m e) : Nat) := by
    unfold sfHi Ut.floorU
    rw [hpre, sfMax_is, k3, nud_dn _ _ w3 (by omega) ho, sfOdd_is]
    omega
  have eR : roundF (scale m (sfPre m e)) = (Ut.roundU (Ut.unr (m * Ut.numA (Ut.sP m e)) (Ut.denB (Ut.sP m e) * 2 ^ (128 + s))) : Nat) := by
    rw [hpre, k2, round_nat _ w2]
  unfold sfD sfE
  rw [eR, eLo, eHi, sfP_is]
  unfold Ut.shortN at hD
  generalize Ut.ceilU (Ut.unr (Ut.sMn m e * Ut.numA (Ut.sP m e)) (Ut.denB (Ut.sP m e) * 2 ^ (128 + s))) (Ut.sOdd m e) = lo at *
  generalize Ut.floorU (Ut.unr (Ut.sMx m e * Ut.numA (Ut.sP m e)) (Ut.denB (Ut.sP m e) * 2 ^ (128 + s))) (Ut.sOdd m e) = hi at *
  generalize Ut.roundU (Ut.unr (m * Ut.numA (Ut.sP m e)) (Ut.denB (Ut.sP m e) * 2 ^ (128 + s))) = R at *
  have hpos : 0 < D := by
    rcases Nat.eq_zero_or_pos D with h0 | h0
    · exfalso
      rw [h0] at hge
      have hF := Ut.F_pos (-1074)
      unfold Ut.T at hge
      rw [Nat.zero_mul] at hge
      omega
    · exact h0
  by_cases c1 : lo ≤ hi / 10 * 10
  · have c1i : (lo : Int) ≤ (hi : Int) / 10 * 10 := by omega
    rw [if_pos c1] at hD
    rw [if_pos c1i, if_pos c1i]
    refine ⟨hi / 10, by omega, by omega, by omega, by omega, by omega, ?_⟩
    have hT := Ut.T_up (hi / 10) (p := -Ut.sP m e) (by omega) 1
    rw [Nat.pow_one, hD] at hT
    rw [show -(Ut.sP m e - 1) = -Ut.sP m e + ((1 : Nat) : Int) by omega, hT]
    exact hV
  · have c1i : ¬ (lo : Int) ≤ (hi : Int) / 10 * 10 := by omega
    rw [if_neg c1] at hD
    rw [if_neg c1i, if_neg c1i]
    refine ⟨D, ?_, hpos, hlt, by omega, by omega, hV⟩
    by_cases c2 : lo < hi
    · rw [if_pos c2] at hD
      rw [if_pos (show (lo : Int) < (hi : Int) by omega), hD]
    · rw [if_neg c2] at hD
      rw [if_neg (show ¬ (lo : Int) < (hi : Int) by omega), hD]
end Go.Proofs.YtofndhmnofghaaaGreatDoor

namespace Go.Proofs.YtofndhmnofghaaaGreatDoor
open Go.RowKit
set_option linter.unusedVariables false
set_option linter.unusedSimpArgs false

theorem dgs_is (u nd : Nat) : dgs u nd = Ut.tDgs u nd := rfl
theorem trim_is (u nd : Nat) : ∀ k, trimN u nd k = Ut.tTrim u nd k
  | 0 => rfl
  | k + 1 => by unfold trimN Ut.tTrim; rw [trim_is u nd k]
theorem powT_is (y : Int) : powT y = Ut.tPow y := rfl
theorem expT_is (y : Int) : expT y = Ut.tExp y := rfl
theorem efgE_is (neg : Bool) (ds : List UInt8) (x : Int) : efgE neg ds x = Ut.tE neg ds x := rfl
theorem fText_is (neg : Bool) (ds : List UInt8) (dp : Int) : fText neg ds dp = Ut.tF neg ds dp := rfl
theorem gText_is (neg : Bool) (ds : List UInt8) (dp : Int) : gText neg ds dp = Ut.tG neg ds dp := rfl
theorem moved_of {mant : Nat} {q : Int} (hf : Ut.IsF mant q) (h0 : 0 < mant) (hq : q ≤ 971) :
    Ut.Moved mant (64 - Lib.bitLen mant) (mant * 2 ^ (64 - Lib.bitLen mant)) q (q - ((64 - Lib.bitLen mant : Nat) : Int)) := by
  have hlt := hf.lt
  obtain ⟨b1, b2, b3⟩ := Lib.bitLenAux_bounds 64 mant (by omega) (by omega)
  have hL : Lib.bitLenAux 64 mant = Lib.bitLen mant := rfl
  rw [hL] at b1 b2 b3
  have hle := Lib.bitLen_le mant 53 (by omega) (by omega)
  generalize Lib.bitLen mant = b at *
  obtain ⟨z, hz⟩ : ∃ z, 64 - b = z := ⟨_, rfl⟩
  rw [hz]
  have e1 : 2 ^ (b - 1) * 2 ^ z = 9223372036854775808 := by rw [← Nat.pow_add, show b - 1 + z = 63 by omega]
  have e2 : 2 ^ b * 2 ^ z = 18446744073709551616 := by rw [← Nat.pow_add, show b + z = 64 by omega]
  refine ⟨hf, hq, by omega, by omega, rfl, ?_, ?_, rfl⟩
  · rw [← e1]; exact Nat.mul_le_mul_right _ b2
  · rw [← e2]; exact Nat.mul_lt_mul_of_pos_right b3 (Nat.two_pow_pos z)
/-- what is written is read as a number in the interval -/
theorem fin_reads {mant : Nat} {q : Int} (neg : Bool) (hf : Ut.IsF mant q) (h0 : 0 < mant) (hq : q ≤ 971) : ∃ V, Ut.InF mant q V ∧ Ut.ReadsAs (fmtFin neg mant (q + 52)) neg V := by
  obtain ⟨D, hD, hpos, hlt, e1, e2, hV⟩ := short_is (moved_of hf h0 hq)
  refine ⟨_, hV, ?_⟩
  obtain ⟨hsp, h18, hT⟩ := Ut.spell_of hpos hlt (sfE (mant * 2 ^ (64 - Lib.bitLen mant)) (q - ((64 - Lib.bitLen mant : Nat) : Int))) (by omega)
  have hn := Lib.nDigits_pos D
  unfold fmtFin
  rw [show q + 52 - ((64 - Lib.bitLen mant : Nat) : Int) - 52 = q - ((64 - Lib.bitLen mant : Nat) : Int) by omega, hD, Int.toNat_natCast, gText_is, dgs_is, trim_is, show nD D = Lib.nDigits D from if_neg (by omega), ← hT]
  exact Ut.read_g neg _ _ hsp (by omega) (by omega)
theorem fmt_reads (n : Nat) (hn : n < 18446744073709551616) (hfin : n % 9223372036854775808 < 9218868437227405312) (h0 : n % 9223372036854775808 ≠ 0) :
    ∃ mant q V, Ut.IsF mant q ∧ 0 < mant ∧ q ≤ 971 ∧ Ut.rungOf mant q = n % 9223372036854775808 ∧ Ut.InF mant q V ∧ Ut.ReadsAs (fmtF n) (decide (9223372036854775808 ≤ n)) V := by
  unfold fmtF
  rw [if_neg (show ¬ n / 4503599627370496 % 2048 = 2047 by omega)]
  by_cases hb : n / 4503599627370496 % 2048 = 0
  · rw [if_pos hb, if_neg (show ¬ n % 4503599627370496 = 0 by omega)]
    have hf : Ut.IsF (n % 4503599627370496) (-1074) := ⟨by omega, by omega, .inr rfl⟩
    obtain ⟨V, hV, hr⟩ := fin_reads (decide (9223372036854775808 ≤ n)) hf (by omega) (by omega)
    exact ⟨_, _, V, hf, by omega, by omega, by unfold Ut.rungOf; omega, hV, hr⟩
  · rw [if_neg hb]
    have hf : Ut.IsF (n % 4503599627370496 + 4503599627370496) (((n / 4503599627370496 % 2048 : Nat) : Int) - 1075) := ⟨by omega, by omega, .inl (by omega)⟩
    obtain ⟨V, hV, hr⟩ := fin_reads (decide (9223372036854775808 ≤ n)) hf (by omega) (by omega)
    rw [show ((n / 4503599627370496 % 2048 : Nat) : Int) - 1075 + 52 = ((n / 4503599627370496 % 2048 : Nat) : Int) - 1023 by omega] at hr
    exact ⟨_, _, V, hf, by omega, by omega, by unfold Ut.rungOf; omega, hV, hr⟩
end Go.Proofs.YtofndhmnofghaaaGreatDoor

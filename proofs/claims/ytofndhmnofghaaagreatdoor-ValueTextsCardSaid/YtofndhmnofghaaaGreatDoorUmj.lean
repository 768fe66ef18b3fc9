/- The shortest digits lie in the float's interval. No condition. -/
import Derived.Test.YtofndhmnofghaaaGreatDoorUjj
namespace Go.Proofs.YtofndhmnofghaaaGreatDoor.Ut
open Go
set_option linter.unusedVariables false
set_option linter.unusedSimpArgs false

/-- where the bounds of a float stand -/
structure Ends (m mn mx mant z : Nat) (q e : Int) : Prop where
  z2 : 2 ≤ z
  q_is : q = e + (z : Nat)
  lb : -1074 ≤ q
  e_lb : -1500 ≤ e
  m_is : m = mant * 2 ^ z
  mx_is : mx = m + 2 * 2 ^ (z - 2)
  mn_is : mn + (if mant = 4503599627370496 ∧ -1074 < q then 2 ^ (z - 2) else 2 * 2 ^ (z - 2)) = m
  pos : 0 < mant
theorem Ends.pow {m mn mx mant z : Nat} {q e : Int} (h : Ends m mn mx mant z q e) : 2 ^ z = 4 * 2 ^ (z - 2) := by
  rw [show z = 2 + (z - 2) by have := h.z2; omega, Nat.pow_add, show 2 + (z - 2) - 2 = z - 2 by omega]
/-- a number between the bounds lies in the float's interval -/
theorem Ends.inF {m mn mx mant z V : Nat} {q e : Int} (h : Ends m mn mx mant z q e) (lo : F mn e ≤ V) (hi : V ≤ F mx e) (od : mant % 2 = 1 → F mn e < V ∧ V < F mx e) : InF mant q V := by
  have hF := F_up 1 (e := e) h.e_lb z
  rw [← h.q_is, h.pow] at hF
  have h1 := h.m_is
  have h2 := h.mx_is
  have h3 := h.mn_is
  have h4 := h.pos
  rw [h.pow] at h1
  rw [F_mul mn] at lo od
  rw [F_mul mx] at hi od
  generalize 2 ^ (z - 2) = y at *
  generalize F 1 e = f at *
  rw [Nat.mul_assoc] at hF
  have a1 : mx * f = 4 * (mant * (y * f)) + 2 * (y * f) := by
    rw [h2, h1, Nat.add_mul, Nat.mul_assoc, Nat.mul_assoc, Nat.mul_assoc, Nat.mul_left_comm]
  have a2 : mn * f + (if mant = 4503599627370496 ∧ -1074 < q then y * f else 2 * (y * f)) = 4 * (mant * (y * f)) := by
    have : m * f = 4 * (mant * (y * f)) := by rw [h1, Nat.mul_assoc, Nat.mul_assoc, Nat.mul_left_comm]
    rw [← this, ← h3, Nat.add_mul]
    congr 1
    split
    · rfl
    · rw [Nat.mul_assoc]
  have b1 : (4 * mant + 2) * (4 * (y * f)) = 16 * (mant * (y * f)) + 8 * (y * f) := by
    rw [Nat.add_mul, Nat.mul_assoc, Nat.mul_left_comm mant]; omega
  have b2 : (4 * mant - 2) * (4 * (y * f)) = 16 * (mant * (y * f)) - 8 * (y * f) := by
    rw [Nat.sub_mul, Nat.mul_assoc, Nat.mul_left_comm mant]; omega
  have b3 : (4 * mant - 1) * (4 * (y * f)) = 16 * (mant * (y * f)) - 4 * (y * f) := by
    rw [Nat.sub_mul, Nat.mul_assoc, Nat.mul_left_comm mant]; omega
  refine ⟨?_, ?_, ?_⟩
  · rw [hF]
    by_cases hc : mant = 4503599627370496 ∧ -1074 < q
    · rw [if_pos hc] at a2 ⊢
      rw [b3]; omega
    · rw [if_neg hc] at a2 ⊢
      rw [b2]; omega
  · rw [hF, b1]; omega
  · intro ho
    have hc : ¬ (mant = 4503599627370496 ∧ -1074 < q) := fun hc => by have := hc.1; omega
    rw [if_neg hc] at a2
    have := od ho
    rw [hF, b1, b2]; omega
/-- what is written -/
theorem short_write {m mn mx mant z s o : Nat} {q e p : Int} (h : Ends m mn mx mant z q e) (hs : (s : Int) = -(e + lp10 p + 3)) (h1 : -348 ≤ p) (h2 : p ≤ 347) (h0 : 127 - lp10 p ≤ e + 1500)
    (ho : o = mant % 2) (hw : T 1 (-p) ≤ F (mx - mn) e) (hwo : o = 1 → T 1 (-p) < F (mx - mn) e ∨ ∀ D, F mn e ≠ T D (-p)) :
    shortN (unr (mn * numA p) (denB p * 2 ^ (128 + s))) (unr (m * numA p) (denB p * 2 ^ (128 + s))) (unr (mx * numA p) (denB p * 2 ^ (128 + s))) o * (4 * (denB p * 2 ^ (128 + s))) ≤ mx * numA p ∧
    InF mant q (T (shortN (unr (mn * numA p) (denB p * 2 ^ (128 + s))) (unr (m * numA p) (denB p * 2 ^ (128 + s))) (unr (mx * numA p) (denB p * 2 ^ (128 + s))) o) (-p)) := by
  obtain ⟨R, hR, hsc⟩ := scale_write hs h1 h2 h0 h.e_lb
  have hB : 0 < denB p := by
    unfold denB
    exact Nat.mul_pos (Nat.pow_pos (Nat.succ_pos 9)) (Nat.two_pow_pos _)
  have hA : 0 < numA p := by
    unfold numA
    exact Nat.mul_pos (Nat.pow_pos (Nat.succ_pos 9)) (Nat.two_pow_pos _)
  have hd : 0 < denB p * 2 ^ (128 + s) := Nat.mul_pos hB (Nat.two_pow_pos _)
  generalize denB p * 2 ^ (128 + s) = d at *
  generalize numA p = A at *
  have hy : 1 ≤ 2 ^ (z - 2) := Nat.one_le_two_pow
  have e1 := h.m_is
  have e2 := h.mx_is
  have e3 := h.mn_is
  have e4 := h.pow
  have e5 := h.pos
  have hmy : 4 * 2 ^ (z - 2) ≤ m := by rw [e1, e4]; exact Nat.le_mul_of_pos_left _ e5
  rw [(hsc (mx - mn) 1).1, (hsc 0 1).2, Nat.one_mul, cmp_le hR] at hw
  have hin := short_in (mn := mn) (m := m) (mx := mx) (A := A) (o := o) hd (by omega) (by split at e3 <;> omega) hA (by split at e3 <;> omega) (by omega) (by split at e3 <;> omega) (by split at e3 <;> omega) hw (fun hod => by
    rcases hwo hod with h | h
    · rw [(hsc (mx - mn) 1).1, (hsc 0 1).2, Nat.one_mul, cmp_lt hR] at h
      exact .inl h
    · refine .inr fun h0 => h (mn * A / (4 * d)) ?_
      rw [(hsc mn 1).1, (hsc 0 (mn * A / (4 * d))).2]
      have := Nat.div_add_mod (mn * A) (4 * d)
      rw [h0, Nat.add_zero, Nat.mul_comm] at this
      rw [this])
  generalize shortN (unr (mn * A) d) (unr (m * A) d) (unr (mx * A) d) o = D at *
  obtain ⟨i1, i2, i3⟩ := hin
  have t := (hsc 0 D).2
  refine ⟨i2, h.inF ?_ ?_ fun hod => ?_⟩
  · rw [(hsc mn 0).1, t, cmp_le hR]; exact i1
  · rw [(hsc mx 0).1, t, cmp_le hR]; exact i2
  · have := i3 (by omega)
    rw [(hsc mn 0).1, (hsc mx 0).1, t, cmp_lt hR, cmp_lt hR]; exact this
end Go.Proofs.YtofndhmnofghaaaGreatDoor.Ut

namespace Go.Proofs.YtofndhmnofghaaaGreatDoor.Ut
open Go
set_option linter.unusedVariables false
set_option linter.unusedSimpArgs false

def pA (e : Int) : Int := -(((e + 11) * 631305 - 261663) / 2097152)
def pB (e : Int) : Int := -((e + 11) * 78913 / 262144)
def inB (e p : Int) : Bool := decide (5 ≤ -(e + lp10 p + 3)) && decide (-(e + lp10 p + 3) ≤ 63) && decide (-348 ≤ p) && decide (p ≤ 347)
/-- one exponent: the table's index, the shift, and that a unit of the last digit is no wider than the interval -/
def expOk (e : Int) : Bool :=
  inB e (pA e) && inB e (pB e) && decide (T 1 (-pA e) ≤ F 1536 e) && (decide (T 1 (-pB e) < F 2048 e) || decide (e = -11) && decide (T 1 (-pB e) ≤ F 2048 e))
def expAll : Nat → Bool
  | 0 => true
  | n + 1 => expOk ((n : Int) - 1085) && expAll n
set_option maxRecDepth 100000 in
theorem exp_all : expAll 2046 = true := by decide +kernel
theorem exp_in : ∀ (n : Nat), expAll n = true → ∀ i, i < n → expOk ((i : Int) - 1085) = true
  | 0, _, i, hi => absurd hi (Nat.not_lt_zero i)
  | n + 1, h, i, hi => by
    unfold expAll at h
    rw [Bool.and_eq_true] at h
    rcases Nat.lt_or_ge i n with h1 | h1
    · exact exp_in n h.2 i h1
    · rw [show i = n by omega]; exact h.1
structure InB (e p : Int) : Prop where
  s1 : 5 ≤ -(e + lp10 p + 3)
  s2 : -(e + lp10 p + 3) ≤ 63
  p1 : -348 ≤ p
  p2 : p ≤ 347
theorem inB_is {e p : Int} (h : inB e p = true) : InB e p := by
  unfold inB at h
  simp only [Bool.and_eq_true, decide_eq_true_eq] at h
  exact ⟨h.1.1.1, h.1.1.2, h.1.2, h.2⟩
theorem exp_ok (e : Int) (h1 : -1085 ≤ e) (h2 : e ≤ 960) : InB e (pA e) ∧ InB e (pB e) ∧ T 1 (-pA e) ≤ F 1536 e ∧ T 1 (-pB e) ≤ F 2048 e ∧ (e = -11 ∨ T 1 (-pB e) < F 2048 e) := by
  obtain ⟨i, hi⟩ : ∃ i : Nat, e = (i : Int) - 1085 := ⟨(e + 1085).toNat, by omega⟩
  have h := exp_in 2046 exp_all i (by omega)
  rw [← hi] at h
  unfold expOk at h
  simp only [Bool.and_eq_true, Bool.or_eq_true, decide_eq_true_eq] at h
  obtain ⟨⟨⟨a, b⟩, c⟩, d⟩ := h
  refine ⟨inB_is a, inB_is b, c, ?_, ?_⟩
  · rcases d with d | d
    · exact Nat.le_of_lt d
    · exact d.2
  · rcases d with d | d
    · exact .inr d
    · exact .inl d.1
theorem least_ok : T 1 (-324) < F 1 (-1074) := by
  have : decide (T 1 (-324) < F 1 (-1074)) = true := by decide +kernel
  exact of_decide_eq_true this
end Go.Proofs.YtofndhmnofghaaaGreatDoor.Ut

namespace Go.Proofs.YtofndhmnofghaaaGreatDoor.Ut
open Go
set_option linter.unusedVariables false
set_option linter.unusedSimpArgs false

def sZ (e : Int) : Nat := if -1085 ≤ e then 11 else (-1074 - e).toNat
def sP (m : Nat) (e : Int) : Int := if m = 9223372036854775808 ∧ -1085 < e then pA e else if -1085 ≤ e then pB e else 324
def sMn (m : Nat) (e : Int) : Nat := if m = 9223372036854775808 ∧ -1085 < e then 9223372036854775296 else m - 2 ^ (sZ e - 1)
def sMx (m : Nat) (e : Int) : Nat := (m + 2 ^ (sZ e - 1)) % 18446744073709551616
def sOdd (m : Nat) (e : Int) : Nat := m / 2 ^ sZ e % 2
/-- a number is moved up until its 64th bit is set -/
structure Moved (mant z m : Nat) (q e : Int) : Prop where
  f : IsF mant q
  q2 : q ≤ 971
  z1 : 11 ≤ z
  z2 : z ≤ 63
  eq : m = mant * 2 ^ z
  lo : 9223372036854775808 ≤ m
  hi : m < 18446744073709551616
  e_is : e = q - (z : Nat)
theorem Moved.z_is {mant z m : Nat} {q e : Int} (h : Moved mant z m q e) : sZ e = z ∧ (z = 11 ∨ mant < 4503599627370496 ∧ q = -1074 ∧ e < -1085) := by
  have h1 := h.z1
  have h2 := h.eq
  have h3 := h.hi
  have h4 := h.e_is
  have h5 := h.f.lb
  have key : z = 11 ∨ mant < 4503599627370496 ∧ q = -1074 ∧ e < -1085 := by
    by_cases hz : z = 11
    · exact .inl hz
    · have hp : 2 ^ z = 4096 * 2 ^ (z - 12) := by rw [show z = 12 + (z - 12) by omega, Nat.pow_add, show 12 + (z - 12) - 12 = z - 12 by omega]
      have hy : 1 ≤ 2 ^ (z - 12) := Nat.one_le_two_pow
      have hm : mant * 4096 ≤ m := by rw [h2, hp, ← Nat.mul_assoc]; exact Nat.le_mul_of_pos_right _ hy
      have hs : mant < 4503599627370496 := by omega
      have hq : q = -1074 := by
        rcases h.f.nm with h | h
        · omega
        · exact h
      exact .inr ⟨hs, hq, by omega⟩
  refine ⟨?_, key⟩
  unfold sZ
  rcases key with k | ⟨k1, k2, k3⟩
  · rw [if_pos (by omega), k]
  · rw [if_neg (by omega)]; omega
theorem Moved.ends {mant z m : Nat} {q e : Int} (h : Moved mant z m q e) : Ends m (sMn m e) (sMx m e) mant z q e ∧ sOdd m e = mant % 2 ∧ sMx m e = m + 2 ^ (z - 1) ∧ ((m = 9223372036854775808 ∧ -1085 < e) ↔ (mant = 4503599627370496 ∧ -1074 < q)) := by
  obtain ⟨hz, key⟩ := h.z_is
  have h1 := h.z1
  have h2 := h.eq
  have h3 := h.hi
  have h4 := h.e_is
  have h5 := h.f.lb
  have h6 := h.lo
  have h7 := h.z2
  have hp : 2 ^ z = 4 * 2 ^ (z - 2) := by rw [show z = 2 + (z - 2) by omega, Nat.pow_add, show 2 + (z - 2) - 2 = z - 2 by omega]
  have hp1 : 2 ^ (z - 1) = 2 * 2 ^ (z - 2) := by rw [show z - 1 = 1 + (z - 2) by omega, Nat.pow_add]
  have h64 : 2 ^ (64 - z) * 2 ^ z = 18446744073709551616 := by rw [← Nat.pow_add, show 64 - z + z = 64 by omega]
  have hlt : mant < 2 ^ (64 - z) := by
    rcases Nat.lt_or_ge mant (2 ^ (64 - z)) with h | h
    · exact h
    · have := Nat.mul_le_mul_right (2 ^ z) h
      omega
  have hup : m + 2 ^ z ≤ 18446744073709551616 := by
    have := Nat.mul_le_mul_right (2 ^ z) hlt
    rw [Nat.succ_mul] at this
    omega
  have hmx : sMx m e = m + 2 ^ (z - 1) := by
    unfold sMx
    rw [hz, Nat.mod_eq_of_lt]
    have : 1 ≤ 2 ^ (z - 2) := Nat.one_le_two_pow
    omega
  have hA : (m = 9223372036854775808 ∧ -1085 < e) ↔ (mant = 4503599627370496 ∧ -1074 < q) := by
    constructor
    · rintro ⟨a, b⟩
      rcases key with k | ⟨k1, k2, k3⟩
      · subst k
        exact ⟨by omega, by omega⟩
      · omega
    · rintro ⟨a, b⟩
      rcases key with k | ⟨k1, k2, k3⟩
      · subst k
        exact ⟨by omega, by omega⟩
      · omega
  have hpos : 0 < mant := by
    rcases Nat.eq_zero_or_pos mant with h | h
    · subst h; rw [Nat.zero_mul] at h2; omega
    · exact h
  refine ⟨⟨by omega, by omega, h5, by omega, h2, by rw [hmx, hp1], ?_, hpos⟩, ?_, hmx, hA⟩
  · unfold sMn
    by_cases hc : mant = 4503599627370496 ∧ -1074 < q
    · rw [if_pos hc, if_pos (hA.2 hc)]
      have hm := (hA.2 hc).1
      rcases key with k | ⟨k1, k2, k3⟩
      · subst k
        omega
      · omega
    · rw [if_neg hc, if_neg (fun h => hc (hA.1 h)), hz, hp1]
      have : 4 * 2 ^ (z - 2) ≤ m := by rw [h2, hp]; exact Nat.le_mul_of_pos_left _ hpos
      omega
  · unfold sOdd
    rw [hz, h2, Nat.mul_div_cancel _ (Nat.two_pow_pos z)]
theorem T_whole2 (d : Nat) : T d 0 = d * (t400 * b1500) := by
  unfold T
  rw [t400_is (0 + 400 : Int).toNat (by decide)]
/-- half a unit is no whole number -/
theorem half_not {mn : Nat} (h : mn % 2048 = 1024) (D : Nat) : F mn (-11) ≠ T D 0 := by
  intro he
  rw [T_whole2] at he
  unfold F at he
  obtain ⟨w, hw⟩ : ∃ w, w = 1489 := ⟨1489, rfl⟩
  rw [b1500_is (11 + w) (by omega), show (-11 + 1500 : Int).toNat = w by omega, Nat.pow_add] at he
  have hp := Nat.two_pow_pos w
  have ht := t400_pos
  have e1 : D * (t400 * (2 ^ 11 * 2 ^ w)) = D * 2048 * (2 ^ w * t400) := by
    rw [show (2 : Nat) ^ 11 = 2048 by decide]
    generalize 2 ^ w = x
    generalize t400 = y
    simp only [Nat.mul_comm, Nat.mul_left_comm, Nat.mul_assoc]
  rw [e1] at he
  have := Nat.eq_of_mul_eq_mul_right (Nat.mul_pos hp ht) he
  omega
theorem short_all {mant z m : Nat} {q e : Int} (h : Moved mant z m q e) : ∃ s D : Nat, (s : Int) = -(e + lp10 (sP m e) + 3) ∧ 5 ≤ s ∧ s ≤ 63 ∧ -348 ≤ sP m e ∧ sP m e ≤ 347 ∧
    sMn m e % 128 = 0 ∧ m % 128 = 0 ∧ sMx m e % 128 = 0 ∧ 0 < sMn m e ∧ 0 < m ∧ 0 < sMx m e ∧ sMn m e < 18446744073709551616 ∧ sMx m e < 18446744073709551616 ∧
    shortN (unr (sMn m e * numA (sP m e)) (denB (sP m e) * 2 ^ (128 + s))) (unr (m * numA (sP m e)) (denB (sP m e) * 2 ^ (128 + s))) (unr (sMx m e * numA (sP m e)) (denB (sP m e) * 2 ^ (128 + s))) (sOdd m e) = D ∧
    D < 144115188075855872 ∧ InF mant q (T D (-sP m e)) := by
  obtain ⟨hE, hodd, hmx, hA⟩ := h.ends
  obtain ⟨hz, key⟩ := h.z_is
  have h1 := h.z1
  have h3 := h.hi
  have h4 := h.e_is
  have h5 := h.f.lb
  have h6 := h.lo
  have h7 := h.z2
  have h8 := h.q2
  have e1 := hE.m_is
  have e2 := hE.mx_is
  have e3 := hE.mn_is
  have e4 := hE.pow
  have hmx64 : sMx m e < 18446744073709551616 := by unfold sMx; exact Nat.mod_lt _ (by decide)
  have hp9 : 2 ^ (z - 2) = 512 * 2 ^ (z - 11) := by rw [show z - 2 = 9 + (z - 11) by omega, Nat.pow_add]
  have hy : 1 ≤ 2 ^ (z - 11) := Nat.one_le_two_pow
  obtain ⟨v, hv⟩ : ∃ v, m = 512 * v := ⟨mant * (4 * 2 ^ (z - 11)), by rw [e1, e4, hp9, Nat.mul_left_comm 4, Nat.mul_left_comm mant]⟩
  -- the power, the shift, the width
  have hP : InB e (sP m e) ∧ T 1 (-sP m e) ≤ F (sMx m e - sMn m e) e ∧ (sOdd m e = 1 → T 1 (-sP m e) < F (sMx m e - sMn m e) e ∨ ∀ D, F (sMn m e) e ≠ T D (-sP m e)) := by
    by_cases hc : m = 9223372036854775808 ∧ -1085 < e
    · have hc2 := hA.1 hc
      have hzz : z = 11 := by
        rcases key with k | ⟨k1, k2, k3⟩
        · exact k
        · omega
      have hx := exp_ok e (by omega) (by omega)
      have hpp : sP m e = pA e := by unfold sP; rw [if_pos hc]
      rw [if_pos hc2] at e3
      have hd : sMx m e - sMn m e = 1536 := by subst hzz; omega
      rw [hpp, hd]
      exact ⟨hx.1, hx.2.2.1, fun ho => by rw [hodd, hc2.1] at ho; omega⟩
    · have hc2 : ¬ (mant = 4503599627370496 ∧ -1074 < q) := fun h => hc (hA.2 h)
      rw [if_neg hc2] at e3
      rcases key with k | ⟨k1, k2, k3⟩
      · subst k
        have hx := exp_ok e (by omega) (by omega)
        have hpp : sP m e = pB e := by unfold sP; rw [if_neg hc, if_pos (by omega)]
        have hd : sMx m e - sMn m e = 2048 := by omega
        rw [hpp, hd]
        refine ⟨hx.2.1, hx.2.2.2.1, fun ho => ?_⟩
        rcases hx.2.2.2.2 with he | he
        · refine .inr fun D => ?_
          subst he
          exact half_not (by omega) D
        · exact .inl he
      · have hpp : sP m e = 324 := by unfold sP; rw [if_neg hc, if_neg (by omega)]
        have hd : sMx m e - sMn m e = 2 ^ z := by omega
        have hl : lp10 324 = 1076 := by decide
        have hF := F_up 1 (e := e) hE.e_lb z
        rw [← F_mul, show e + (z : Nat) = -1074 by omega] at hF
        rw [hpp, hd, ← hF]
        have hlt := least_ok
        exact ⟨⟨by rw [hl]; omega, by rw [hl]; omega, by omega, by omega⟩, Nat.le_of_lt hlt, fun _ => .inl hlt⟩
  obtain ⟨hB, hw, hwo⟩ := hP
  obtain ⟨s, hs⟩ : ∃ s : Nat, (s : Int) = -(e + lp10 (sP m e) + 3) := ⟨(-(e + lp10 (sP m e) + 3)).toNat, by have := hB.s1; omega⟩
  have hs1 := hB.s1
  have hs2 := hB.s2
  have hW := short_write hE hs hB.p1 hB.p2 (by omega) hodd hw hwo
  have hlp := (lp_ok (sP m e) hB.p1 hB.p2).2
  refine ⟨s, _, hs, by omega, by omega, hB.p1, hB.p2, ?_, ?_, ?_, ?_, ?_, ?_, ?_, hmx64, rfl, ?_, hW.2⟩
  · split at e3 <;> omega
  · omega
  · omega
  · split at e3 <;> omega
  · omega
  · omega
  · split at e3 <;> omega
  · have hb := hW.1
    generalize shortN _ _ _ _ = D at *
    obtain ⟨j, hj⟩ : ∃ j, s = 5 + j := ⟨s - 5, by omega⟩
    have hy2 : 1 ≤ 2 ^ j := Nat.one_le_two_pow
    have hBpos : 0 < denB (sP m e) := by
      unfold denB
      exact Nat.mul_pos (Nat.pow_pos (Nat.succ_pos 9)) (Nat.two_pow_pos _)
    rw [show 128 + s = 133 + j by omega, Nat.pow_add, show (2 : Nat) ^ 133 = 10889035741470030830827987437816582766592 by decide] at hb
    generalize denB (sP m e) = B at *
    generalize numA (sP m e) = A at *
    have u1 : sMx m e * A ≤ 18446744073709551615 * (340277174624079928635746076935438991360 * B) := Nat.mul_le_mul (by omega) hlp
    have u2 : D * (4 * (B * (10889035741470030830827987437816582766592 * 1))) ≤ D * (4 * (B * (10889035741470030830827987437816582766592 * 2 ^ j))) :=
      Nat.mul_le_mul_left D (Nat.mul_le_mul_left 4 (Nat.mul_le_mul_left B (Nat.mul_le_mul_left _ hy2)))
    rcases Nat.lt_or_ge D 144115188075855872 with h | h
    · exact h
    · exfalso
      have u3 : 144115188075855872 * (4 * (B * (10889035741470030830827987437816582766592 * 1))) ≤ D * (4 * (B * (10889035741470030830827987437816582766592 * 1))) := Nat.mul_le_mul_right _ h
      omega
end Go.Proofs.YtofndhmnofghaaaGreatDoor.Ut

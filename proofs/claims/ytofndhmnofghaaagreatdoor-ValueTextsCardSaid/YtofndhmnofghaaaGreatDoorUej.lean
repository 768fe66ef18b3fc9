/- How near a multiple of a power of ten's row comes to a multiple of 2^126: two neighbours certify it. No condition. -/
import GoSem.PinnedTables
namespace Go.Proofs.YtofndhmnofghaaaGreatDoor.Ut
open Go
set_option linter.unusedVariables false

/-! two neighbours: q1 a is e1 above a multiple of M, q2 a is e2 below one; nothing less than q1 + q2 lies between -/
theorem gap {a M q1 q2 e1 e2 p1 p2 x : Nat} (h1 : q1 * a = p1 * M + e1) (h2 : q2 * a + e2 = p2 * M) (hM : q1 * e2 + q2 * e1 = M) (hM0 : 0 < M) (hx : x < q1 + q2) (hx0 : 0 < x) {y : Nat} {r : Int} (hr : (x : Int) * a = y * M + r) :
    ∃ u v : Int, (x : Int) = u * q1 + v * q2 ∧ r = u * e1 - v * e2 ∧ (1 ≤ u ∧ v ≤ 0 ∨ u ≤ 0 ∧ 1 ≤ v) := by
  have H1 : (q1 : Int) * a = p1 * M + e1 := by exact_mod_cast h1
  have H2 : (q2 : Int) * a = p2 * M - e2 := by have : (q2 : Int) * a + e2 = p2 * M := by exact_mod_cast h2
                                               omega
  have HM : (q1 : Int) * e2 + q2 * e1 = M := by exact_mod_cast hM
  have hMi : (M : Int) ≠ 0 := by omega
  have hu : (p2 : Int) * q1 - p1 * q2 = 1 := by
    have : ((p2 : Int) * q1 - p1 * q2) * M = 1 * M := by
      have e1' : ((p2 : Int) * q1 - p1 * q2) * M = q1 * (p2 * M) - q2 * (p1 * M) := by
        rw [Int.sub_mul, Int.mul_assoc, Int.mul_assoc, Int.mul_comm (p2 : Int), Int.mul_comm (p1 : Int), Int.mul_assoc, Int.mul_assoc, Int.mul_comm (M : Int), Int.mul_comm (M : Int)]
      have e2' : (p2 : Int) * M = q2 * a + e2 := by omega
      have e3' : (p1 : Int) * M = q1 * a - e1 := by omega
      rw [e1', e2', e3', Int.mul_add, Int.mul_sub, ← Int.mul_assoc, ← Int.mul_assoc, Int.mul_comm (q1 : Int) q2, Int.one_mul, ← HM]
      omega
    exact Int.eq_of_mul_eq_mul_right hMi this
  refine ⟨(x : Int) * p2 - y * q2, (y : Int) * q1 - x * p1, ?_, ?_, ?_⟩
  · have : ((x : Int) * p2 - y * q2) * q1 + (y * q1 - x * p1) * q2 = x * (p2 * q1 - p1 * q2) := by
      simp only [Int.sub_mul, Int.mul_sub]
      have a1 : (x : Int) * p2 * q1 = x * (p2 * q1) := Int.mul_assoc ..
      have a2 : (x : Int) * p1 * q2 = x * (p1 * q2) := Int.mul_assoc ..
      have a3 : (y : Int) * q2 * q1 = y * q1 * q2 := by rw [Int.mul_assoc, Int.mul_assoc, Int.mul_comm (q2 : Int)]
      omega
    rw [this, hu, Int.mul_one]
  · have : ((x : Int) * p2 - y * q2) * e1 - (y * q1 - x * p1) * e2 = x * (p2 * e1 + p1 * e2) - y * (q1 * e2 + q2 * e1) := by
      simp only [Int.sub_mul, Int.mul_add]
      have a1 : (x : Int) * p2 * e1 = x * (p2 * e1) := Int.mul_assoc ..
      have a2 : (x : Int) * p1 * e2 = x * (p1 * e2) := Int.mul_assoc ..
      have a3 : (y : Int) * q2 * e1 = y * (q2 * e1) := Int.mul_assoc ..
      have a4 : (y : Int) * q1 * e2 = y * (q1 * e2) := Int.mul_assoc ..
      omega
    rw [this, HM]
    have ha : (p2 : Int) * e1 + p1 * e2 = a := by
      have : ((p2 : Int) * e1 + p1 * e2) = (p2 * q1 - p1 * q2) * a := by
        have b1 : (e1 : Int) = q1 * a - p1 * M := by omega
        have b2 : (e2 : Int) = p2 * M - q2 * a := by omega
        rw [b1, b2, Int.mul_sub, Int.mul_sub, Int.sub_mul]
        have c1 : (p2 : Int) * (p1 * M) = p1 * (p2 * M) := Int.mul_left_comm ..
        have c2 : (p2 : Int) * (q1 * a) = p2 * q1 * a := (Int.mul_assoc ..).symm
        have c3 : (p1 : Int) * (q2 * a) = p1 * q2 * a := (Int.mul_assoc ..).symm
        omega
      rw [this, hu, Int.one_mul]
    rw [ha]
    omega
  · generalize hU : (x : Int) * p2 - y * q2 = u
    generalize hV : (y : Int) * q1 - x * p1 = v
    have hxx : (x : Int) = u * q1 + v * q2 := by
      rw [← hU, ← hV]
      have : ((x : Int) * p2 - y * q2) * q1 + (y * q1 - x * p1) * q2 = x * (p2 * q1 - p1 * q2) := by
        simp only [Int.sub_mul, Int.mul_sub]
        have a1 : (x : Int) * p2 * q1 = x * (p2 * q1) := Int.mul_assoc ..
        have a2 : (x : Int) * p1 * q2 = x * (p1 * q2) := Int.mul_assoc ..
        have a3 : (y : Int) * q2 * q1 = y * q1 * q2 := by rw [Int.mul_assoc, Int.mul_assoc, Int.mul_comm (q2 : Int)]
        omega
      rw [this, hu, Int.mul_one]
    by_cases hu1 : 1 ≤ u
    · left
      refine ⟨hu1, ?_⟩
      by_cases hv : v ≤ 0
      · exact hv
      · exfalso
        have m1 : (q1 : Int) ≤ u * q1 := by
          have := Int.mul_le_mul_of_nonneg_right hu1 (Int.natCast_nonneg q1)
          omega
        have m2 : (q2 : Int) ≤ v * q2 := by
          have := Int.mul_le_mul_of_nonneg_right (show 1 ≤ v by omega) (Int.natCast_nonneg q2)
          omega
        omega
    · right
      refine ⟨by omega, ?_⟩
      by_cases hv : 1 ≤ v
      · exact hv
      · exfalso
        have m1 : u * q1 ≤ 0 := Int.mul_nonpos_of_nonpos_of_nonneg (by omega) (Int.natCast_nonneg q1)
        have m2 : v * q2 ≤ 0 := Int.mul_nonpos_of_nonpos_of_nonneg (by omega) (Int.natCast_nonneg q2)
        omega
end Go.Proofs.YtofndhmnofghaaaGreatDoor.Ut

namespace Go.Proofs.YtofndhmnofghaaaGreatDoor.Ut
open Go
set_option linter.unusedVariables false

def two57 : Nat := 144115188075855872
def two126 : Nat := 85070591730234615865843651857942052864
/-- two neighbours, found by Euclid's way -/
def near : Nat → Nat → Nat → Nat → Nat → Nat × Nat × Nat × Nat
  | 0, q1, e1, q2, e2 => (q1, e1, q2, e2)
  | f + 1, q1, e1, q2, e2 =>
    if two57 ≤ q1 + q2 then (q1, e1, q2, e2)
    else if e2 ≤ e1 then near f (q1 + min (e1 / e2) (if q2 = 0 then e1 / e2 else max 1 ((two57 - q1 - 1) / q2)) * q2) (e1 - min (e1 / e2) (if q2 = 0 then e1 / e2 else max 1 ((two57 - q1 - 1) / q2)) * e2) q2 e2
    else if e1 = 0 then (q1, e1, q2 + two57 * q1, e2)
    else near f q1 e1 (q2 + min ((e2 - 1) / e1) (max 1 ((two57 - q2 - 1) / q1)) * q1) (e2 - min ((e2 - 1) / e1) (max 1 ((two57 - q2 - 1) / q1)) * e1)
/-- ten to the p, as much as two to the 127 and more: numerator and denominator -/
def lp10 (p : Int) : Int := p * 108853 / 32768
def numA (p : Int) : Nat := 10 ^ p.toNat * 2 ^ (127 - lp10 p).toNat
def denB (p : Int) : Nat := 10 ^ (-p).toNat * 2 ^ (lp10 p - 127).toNat
def pmOf (r : Nat × Nat) : Nat := r.1 * 18446744073709551616 - r.2
def pairOk (pm A B : Nat) (t : Nat × Nat × Nat × Nat) : Bool :=
  (t.1 * pm % two126 == t.2.1 % two126) && (t.2.1 ≤ t.1 * pm) && ((t.2.2.1 * pm + t.2.2.2) % two126 == 0) && (t.1 * t.2.2.2 + t.2.2.1 * t.2.1 == two126) && (two57 ≤ t.1 + t.2.2.1) && (two57 ≤ t.2.2.2) && (two57 < t.2.1 + t.2.2.2) &&
  ((two57 < t.2.1) || (t.2.1 * B == t.1 * (pm * B - A)))
def rowOk (p : Int) (r : Nat × Nat) : Bool :=
  (9223372036854775808 ≤ r.1) && (r.1 < 18446744073709551616) && (r.2 < 18446744073709551616) && (numA p ≤ pmOf r * denB p) && (pmOf r * denB p < numA p + denB p) &&
  pairOk (pmOf r) (numA p) (denB p) (near 300 1 (pmOf r % two126) 0 two126)
def rowAt (i : Nat) : Nat × Nat := Go.Pinned.pow10Rows.getD i (0, 0)
def allOk : Nat → List (Nat × Nat) → Bool
  | _, [] => true
  | i, r :: l => rowOk ((i : Int) - 348) r && allOk (i + 1) l
set_option maxRecDepth 100000 in
theorem all_ok : allOk 0 Go.Pinned.pow10Rows = true := by decide +kernel
theorem all_at : ∀ (l : List (Nat × Nat)) (i : Nat), allOk i l = true → ∀ j, j < l.length → rowOk (((i + j : Nat) : Int) - 348) (l.getD j (0, 0)) = true
  | [], _, _, j, h => by simp at h
  | r :: l, i, h, j, hj => by
    rw [allOk, Bool.and_eq_true] at h
    cases j with
    | zero => exact h.1
    | succ j =>
      have := all_at l (i + 1) h.2 j (by simpa using hj)
      rw [show i + 1 + j = i + (j + 1) by omega] at this
      simpa using this
theorem rows_len : Go.Pinned.pow10Rows.length = 696 := by decide +kernel
theorem row_ok (i : Nat) (h : i < 696) : rowOk ((i : Int) - 348) (rowAt i) = true := by
  have := all_at _ 0 all_ok i (by rw [rows_len]; exact h)
  rwa [Nat.zero_add] at this
/-- ten to the p lies between 2^lp and its double, and not just below it -/
def lpOk (p : Int) : Bool := (170141183460469231731687303715884105728 * denB p ≤ numA p) && (numA p ≤ 340282366920938463463374607431768211456 * denB p - 5192296858534827628530496329220096 * denB p)
def lpAll : Nat → Bool
  | 0 => true
  | n + 1 => lpOk ((n : Int) - 348) && lpAll n
set_option maxRecDepth 100000 in
theorem lp_all : lpAll 696 = true := by decide +kernel
theorem lp_in : ∀ n, lpAll n = true → ∀ i, i < n → lpOk ((i : Int) - 348) = true
  | 0, _, i, h => by omega
  | n + 1, h, i, hi => by
    rw [lpAll, Bool.and_eq_true] at h
    by_cases e : i = n
    · subst e; exact h.1
    · exact lp_in n h.2 i (by omega)
theorem lp_ok (p : Int) (h1 : -348 ≤ p) (h2 : p ≤ 347) : 170141183460469231731687303715884105728 * denB p ≤ numA p ∧ numA p ≤ 340277174624079928635746076935438991360 * denB p := by
  obtain ⟨i, hi⟩ : ∃ i : Nat, p = (i : Int) - 348 := ⟨(p + 348).toNat, by omega⟩
  have := lp_in 696 lp_all i (by omega)
  rw [← hi] at this
  unfold lpOk at this
  rw [Bool.and_eq_true, decide_eq_true_eq, decide_eq_true_eq] at this
  exact ⟨this.1, by have := this.2; omega⟩
/-- what a row is -/
structure RowIs (p : Int) (r : Nat × Nat) : Prop where
  h1 : 9223372036854775808 ≤ r.1
  h2 : r.1 < 18446744073709551616
  l : r.2 < 18446744073709551616
  up : numA p ≤ pmOf r * denB p
  dn : pmOf r * denB p < numA p + denB p
  ex : ∀ (x : Nat), 0 < x → x < two57 → ∀ (y : Nat) (d : Int), ((x * pmOf r : Nat) : Int) = (y * two126 : Nat) + d → -(two57 : Int) < d → d ≤ two57 → d * denB p = ((x * (pmOf r * denB p - numA p) : Nat) : Int)
theorem row_is (p : Int) (r : Nat × Nat) (h : rowOk p r = true) : RowIs p r := by
  unfold rowOk at h
  simp only [Bool.and_eq_true, decide_eq_true_eq] at h
  obtain ⟨⟨⟨⟨⟨a1, a2⟩, a3⟩, a4⟩, a5⟩, a6⟩ := h
  refine ⟨a1, a2, a3, a4, a5, ?_⟩
  generalize near 300 1 (pmOf r % two126) 0 two126 = t at a6
  obtain ⟨q1, e1, q2, e2⟩ := t
  unfold pairOk at a6
  simp only [Bool.and_eq_true, Bool.or_eq_true, decide_eq_true_eq, beq_iff_eq] at a6
  obtain ⟨⟨⟨⟨⟨⟨⟨b1, b2⟩, b3⟩, b4⟩, b5⟩, b6⟩, b7⟩, b8⟩ := a6
  intro x hx0 hx y d hd hlo hhi
  generalize pmOf r = pm at *
  have hM : two126 = 85070591730234615865843651857942052864 := rfl
  have hN : two57 = 144115188075855872 := rfl
  obtain ⟨p1, hp1⟩ : ∃ p1, q1 * pm = p1 * two126 + e1 := by
    have : (q1 * pm - e1) % two126 = 0 := by
      have := Nat.sub_mod_eq_zero_of_mod_eq b1
      exact this
    refine ⟨(q1 * pm - e1) / two126, ?_⟩
    have h2 := Nat.div_add_mod (q1 * pm - e1) two126
    rw [this, Nat.add_zero, Nat.mul_comm] at h2
    omega
  obtain ⟨p2, hp2⟩ : ∃ p2, q2 * pm + e2 = p2 * two126 := by
    refine ⟨(q2 * pm + e2) / two126, ?_⟩
    have h2 := Nat.div_add_mod (q2 * pm + e2) two126
    rw [b3, Nat.add_zero, Nat.mul_comm] at h2
    exact h2.symm
  obtain ⟨u, v, g1, g2, g3⟩ := gap hp1 hp2 b4 (by omega) (show x < q1 + q2 by omega) hx0 (y := y) (r := d) (by rw [← Int.natCast_mul, hd, Int.natCast_mul])
  rcases g3 with ⟨hu, hv⟩ | ⟨hu, hv⟩
  · have m1 : (e1 : Int) ≤ u * e1 := by
      have := Int.mul_le_mul_of_nonneg_right hu (Int.natCast_nonneg e1)
      omega
    by_cases hv0 : v = 0
    · subst hv0
      rw [Int.zero_mul, Int.sub_zero] at g2
      rw [Int.zero_mul, Int.add_zero] at g1
      rcases b8 with b8 | b8
      · omega
      · have b9 : (e1 : Int) * denB p = q1 * ((pm * denB p - numA p : Nat) : Int) := by exact_mod_cast b8
        rw [g2, Int.natCast_mul, g1, Int.mul_assoc, b9, Int.mul_assoc]
    · exfalso
      have m2 : v * (e2 : Int) ≤ -e2 := by
        have := Int.mul_le_mul_of_nonneg_right (show v ≤ -1 by omega) (Int.natCast_nonneg e2)
        omega
      omega
  · exfalso
    have m1 : u * (e1 : Int) ≤ 0 := Int.mul_nonpos_of_nonpos_of_nonneg hu (Int.natCast_nonneg e1)
    have m2 : (e2 : Int) ≤ v * e2 := by
      have := Int.mul_le_mul_of_nonneg_right hv (Int.natCast_nonneg e2)
      omega
    omega
end Go.Proofs.YtofndhmnofghaaaGreatDoor.Ut

namespace Go.Proofs.YtofndhmnofghaaaGreatDoor.Ut
open Go
set_option linter.unusedVariables false

/-- the floor of a ratio; odd if anything is left -/
def unr (n d : Nat) : Nat := if n % d = 0 then n / d else n / d / 2 * 2 + 1
def odd1 (q : Nat) : Nat := q / 2 * 2 + 1
theorem unr_exact {n d q : Nat} (hd : 0 < d) (h : n = q * d) : unr n d = q := by
  unfold unr
  rw [h, Nat.mul_mod_left, if_pos rfl, Nat.mul_div_cancel _ hd]
theorem unr_over {n d q : Nat} (h1 : q * d < n) (h2 : n < (q + 1) * d) : unr n d = odd1 q := by
  have hq : n / d = q := by
    have hd : 0 < d := by
      rcases Nat.eq_zero_or_pos d with h0 | h0
      · subst h0; simp at h2
      · exact h0
    exact Nat.div_eq_of_lt_le (by omega) h2
  have hm : n % d ≠ 0 := by
    intro h0
    have := Nat.div_add_mod n d
    rw [hq, h0, Nat.add_zero, Nat.mul_comm] at this
    omega
  unfold unr odd1
  rw [if_neg hm, hq]
/-- what the code reckons out of the three words -/
def sclN (h m k s : Nat) : Nat :=
  if h % 2 ^ s ≠ 0 then odd1 (h / 2 ^ s)
  else if m < k then odd1 (h / 2 ^ s - 1) else if 1 < m - k then odd1 (h / 2 ^ s) else h / 2 ^ s
theorem uscale_is {p : Int} {r : Nat × Nat} (R : RowIs p r) (x x' s : Nat) (hx : x = 128 * x') (hx' : x' < two57) (hx0 : 0 < x') (hs : 5 ≤ s) (h m k : Nat) (hh : x * r.1 = h * 18446744073709551616 + m) (hm : m < 18446744073709551616) (hk : k = x * r.2 / 18446744073709551616) :
    sclN h m k s = unr (x * numA p) (denB p * 2 ^ (128 + s)) := by
  have hN : two57 = 144115188075855872 := rfl
  have hx64 : x < 18446744073709551616 := by omega
  have hB : 0 < denB p := by
    have := R.dn
    have := R.up
    omega
  obtain ⟨B, hBB⟩ : ∃ B, denB p = B := ⟨_, rfl⟩
  obtain ⟨A, hAA⟩ : ∃ A, numA p = A := ⟨_, rfl⟩
  obtain ⟨f, hf, hf64⟩ : ∃ f, x * r.2 = k * 18446744073709551616 + f ∧ f < 18446744073709551616 := ⟨x * r.2 % 18446744073709551616, by rw [hk]; omega, by omega⟩
  have hup := R.up
  have hdn := R.dn
  have hex := R.ex
  have hl := R.l
  rw [hBB, hAA] at hup hdn
  rw [hBB, hAA] at hex ⊢
  rw [hBB] at hB
  -- the row times x
  have hpm : pmOf r + r.2 = r.1 * 18446744073709551616 := by
    have := R.h1
    unfold pmOf; omega
  have hX : x * pmOf r + k * 18446744073709551616 + f = h * 340282366920938463463374607431768211456 + m * 18446744073709551616 := by
    have e1 : x * pmOf r + x * r.2 = x * r.1 * 18446744073709551616 := by rw [← Nat.mul_add, hpm, ← Nat.mul_assoc]
    rw [hf, hh] at e1
    omega
  obtain ⟨dl, hdl⟩ : ∃ dl, pmOf r * B = A + dl := ⟨pmOf r * B - A, by omega⟩
  have hdlB : dl < B := by omega
  have hxA : x * A + x * dl = x * pmOf r * B := by rw [← Nat.mul_add, ← hdl, Nat.mul_assoc]
  have hxd : x * dl < 18446744073709551616 * B := by
    rcases Nat.eq_zero_or_pos dl with h0 | h0
    · subst h0; rw [Nat.mul_zero]; omega
    · exact Nat.lt_of_lt_of_le (Nat.mul_lt_mul_of_pos_right hx64 h0) (Nat.mul_le_mul_left _ (Nat.le_of_lt hdlB))
  have hxl : x * r.2 ≤ 18446744073709551615 * 18446744073709551615 := Nat.mul_le_mul (by omega) (by omega)
  have hk2 : k ≤ 18446744073709551614 := by omega
  obtain ⟨X, hXX⟩ : ∃ X, x * pmOf r = X := ⟨_, rfl⟩
  rw [hXX] at hX hxA
  -- in units of B
  have hp : (2 : Nat) ^ (128 + s) = 340282366920938463463374607431768211456 * 2 ^ s := by rw [Nat.pow_add]
  obtain ⟨q, rr, hq, hrr⟩ : ∃ q rr, h = q * 2 ^ s + rr ∧ rr < 2 ^ s := ⟨h / 2 ^ s, h % 2 ^ s, by rw [Nat.mul_comm]; exact (Nat.div_add_mod h (2 ^ s)).symm, Nat.mod_lt _ (Nat.two_pow_pos s)⟩
  have hhq : h / 2 ^ s = q := by rw [hq]; exact Nat.div_eq_of_lt_le (by omega) (by rw [Nat.succ_mul]; omega)
  have hhr : h % 2 ^ s = rr := by rw [hq, Nat.add_comm, Nat.add_mul_mod_self_right]; exact Nat.mod_eq_of_lt hrr
  obtain ⟨S, hS⟩ : ∃ S, (2 : Nat) ^ s = S := ⟨_, rfl⟩
  have hqd : ∀ n : Nat, n * (B * 2 ^ (128 + s)) = n * S * 340282366920938463463374607431768211456 * B := fun n => by
    rw [hp, hS]; simp only [Nat.mul_assoc, Nat.mul_comm, Nat.mul_left_comm]
  have hS0 : 0 < S := by rw [← hS]; exact Nat.two_pow_pos s
  -- bounds in X give bounds of x A
  have low : ∀ Y, Y + 18446744073709551616 ≤ X → Y * B < x * A := fun Y hY => by
    have := Nat.mul_le_mul_right B hY
    rw [Nat.add_mul] at this
    omega
  have high : ∀ Y, X ≤ Y → x * A ≤ Y * B := fun Y hY => by
    have := Nat.mul_le_mul_right B hY
    omega
  have high' : ∀ Y, X < Y → x * A < Y * B := fun Y hY => Nat.lt_of_le_of_lt (high X (Nat.le_refl _)) (Nat.mul_lt_mul_of_pos_right hY hB)
  unfold sclN
  rw [hhr, hhq]
  rw [hS] at hq hrr
  have hqS : q * S ≤ h := by omega
  by_cases hr0 : rr = 0
  · rw [if_neg (by omega)]
    subst hr0
    rw [Nat.add_zero] at hq
    by_cases hmk : m < k
    · rw [if_pos hmk]
      have hh0 : 0 < h := by
        rcases Nat.eq_zero_or_pos h with h0 | h0
        · exfalso; subst h0; omega
        · exact h0
      have hq1 : 1 ≤ q := by
        rcases Nat.eq_zero_or_pos q with h0 | h0
        · subst h0; omega
        · exact h0
      refine (unr_over ?_ ?_).symm
      · rw [hqd]
        refine low _ ?_
        have : (q - 1) * S + S = h := by rw [← Nat.succ_mul, Nat.succ_eq_add_one, Nat.sub_add_cancel hq1]; exact hq.symm
        omega
      · rw [Nat.sub_add_cancel hq1, hqd, ← hq]
        refine high' _ ?_
        omega
    · rw [if_neg hmk]
      by_cases hm2 : 1 < m - k
      · rw [if_pos hm2]
        refine (unr_over ?_ ?_).symm
        · rw [hqd, ← hq]
          refine low _ ?_
          omega
        · rw [hqd, Nat.succ_mul, ← hq]
          refine high' _ ?_
          omega
      · rw [if_neg hm2]
        refine (unr_exact (Nat.mul_pos hB (Nat.two_pow_pos _)) ?_).symm
        rw [hqd, ← hq]
        -- D: how far X is from the multiple
        obtain ⟨j, hj⟩ : ∃ j, s = j + 5 := ⟨s - 5, by omega⟩
        have hS5 : S = 2 ^ j * 32 := by rw [← hS, hj, Nat.pow_add]
        have hM : two126 = 85070591730234615865843651857942052864 := rfl
        have hXx : X = 128 * (x' * pmOf r) := by rw [← hXX, hx, Nat.mul_assoc]
        have hh2 : h * 340282366920938463463374607431768211456 = 128 * (q * 2 ^ j * two126) := by rw [hq, hS5, hM, ← Nat.mul_assoc]; omega
        obtain ⟨d, hd⟩ : ∃ d : Int, ((x' * pmOf r : Nat) : Int) = (q * 2 ^ j * two126 : Nat) + d := ⟨((x' * pmOf r : Nat) : Int) - (q * 2 ^ j * two126 : Nat), by omega⟩
        have hd128 : 128 * d = ((m : Int) - k) * 18446744073709551616 - f := by omega
        have hz := hex x' hx0 hx' (q * 2 ^ j) d hd (by omega) (by omega)
        have hdl2 : pmOf r * B - A = dl := by omega
        rw [hdl2] at hz
        -- so X B less x dl is the multiple times B
        have hfin : ((x * A : Nat) : Int) = ((h * 340282366920938463463374607431768211456 * B : Nat) : Int) := by
          have e1 : ((x * A : Nat) : Int) = ((X * B : Nat) : Int) - ((x * dl : Nat) : Int) := by omega
          have e2 : ((x * dl : Nat) : Int) = 128 * (d * B) := by rw [hz, hx, Nat.mul_assoc]; omega
          have e3 : ((X : Nat) : Int) = ((h * 340282366920938463463374607431768211456 : Nat) : Int) + 128 * d := by omega
          rw [e1, e2, Int.natCast_mul X B, e3, Int.add_mul, Int.natCast_mul _ B]
          have : 128 * d * (B : Int) = 128 * (d * B) := Int.mul_assoc ..
          omega
        exact_mod_cast hfin
  · rw [if_pos hr0]
    have hrS : rr + 1 ≤ S := hrr
    refine (unr_over ?_ ?_).symm
    · rw [hqd]
      refine low _ ?_
      omega
    · rw [hqd, Nat.succ_mul]
      refine high' _ ?_
      have : h + 1 ≤ q * S + S := by omega
      omega
end Go.Proofs.YtofndhmnofghaaaGreatDoor.Ut

namespace Go.Proofs.YtofndhmnofghaaaGreatDoor.Ut
open Go
set_option linter.unusedVariables false

/-! the unrounded against an even number is the ratio against it -/
theorem unr_lt {n d t : Nat} (hd : 0 < d) : unr n d < 2 * t ↔ n < 2 * t * d := by
  have hq := Nat.div_add_mod n d
  have hr := Nat.mod_lt n hd
  have h1 : n / d < 2 * t ↔ n < 2 * t * d := Nat.div_lt_iff_lt_mul hd
  unfold unr
  split
  · exact h1
  · rw [← h1]; omega
theorem unr_le {n d t : Nat} (hd : 0 < d) : unr n d ≤ 2 * t ↔ n ≤ 2 * t * d := by
  have hq := Nat.div_add_mod n d
  have hr := Nat.mod_lt n hd
  unfold unr
  split
  · rename_i h0
    rw [h0, Nat.add_zero] at hq
    constructor
    · intro h
      have := Nat.mul_le_mul_right d h
      rw [Nat.mul_comm] at hq
      omega
    · intro h
      exact Nat.le_of_mul_le_mul_right (by rw [Nat.mul_comm] at hq; omega) hd
  · rename_i h0
    have h1 : n / d < 2 * t ↔ n < 2 * t * d := Nat.div_lt_iff_lt_mul hd
    have h2 : n ≠ 2 * t * d := by
      intro h
      apply h0
      rw [h]; exact Nat.mul_mod_left _ _
    omega
/-- least number that is not below; or above -/
def ceilU (u o : Nat) : Nat := (u + o + 3) / 4
def floorU (u o : Nat) : Nat := (u - o) / 4
def roundU (u : Nat) : Nat := (u + 1 + u / 4 % 2) / 4
theorem ceil_0 {n d D : Nat} (hd : 0 < d) : ceilU (unr n d) 0 ≤ D ↔ n ≤ D * (4 * d) := by
  have := unr_le (n := n) (t := 2 * D) hd
  have e : 2 * (2 * D) * d = D * (4 * d) := by rw [show 2 * (2 * D) = D * 4 by omega, Nat.mul_assoc]
  rw [e] at this
  rw [← this]; unfold ceilU; omega
theorem ceil_1 {n d D : Nat} (hd : 0 < d) : ceilU (unr n d) 1 ≤ D ↔ n < D * (4 * d) := by
  have := unr_lt (n := n) (t := 2 * D) hd
  have e : 2 * (2 * D) * d = D * (4 * d) := by rw [show 2 * (2 * D) = D * 4 by omega, Nat.mul_assoc]
  rw [e] at this
  rw [← this]; unfold ceilU; omega
theorem floor_0 {n d D : Nat} (hd : 0 < d) : D ≤ floorU (unr n d) 0 ↔ D * (4 * d) ≤ n := by
  have := unr_lt (n := n) (t := 2 * D) hd
  have e : 2 * (2 * D) * d = D * (4 * d) := by rw [show 2 * (2 * D) = D * 4 by omega, Nat.mul_assoc]
  rw [e] at this
  unfold floorU; omega
theorem floor_1 {n d D : Nat} (hd : 0 < d) (hn : 0 < n) : D ≤ floorU (unr n d) 1 ↔ D * (4 * d) < n := by
  have := unr_le (n := n) (t := 2 * D) hd
  have e : 2 * (2 * D) * d = D * (4 * d) := by rw [show 2 * (2 * D) = D * 4 by omega, Nat.mul_assoc]
  rw [e] at this
  have h0 := unr_le (n := n) (t := 0) hd
  unfold floorU; omega
/-- the nearest, to even -/
structure Near (n K R : Nat) : Prop where
  lo : 2 * R * K ≤ 2 * n + K
  hi : 2 * n ≤ 2 * R * K + K
  evl : 2 * R * K = 2 * n + K → R % 2 = 0
  evh : 2 * n = 2 * R * K + K → R % 2 = 0
theorem round_near {n d : Nat} (hd : 0 < d) : Near n (4 * d) (roundU (unr n d)) := by
  have hR : roundU (unr n d) = (unr n d + 1 + unr n d / 4 % 2) / 4 := rfl
  generalize roundU (unr n d) = R at *
  have h1 := unr_le (n := n) (t := 2 * R + 1) hd
  have h2 := unr_lt (n := n) (t := 2 * R + 1) hd
  have e1 : 2 * (2 * R + 1) * d = 4 * (R * d) + 2 * d := by rw [Nat.mul_add, Nat.add_mul]; simp only [Nat.mul_assoc]; omega
  have e2 : 2 * R * (4 * d) = 8 * (R * d) := by rw [Nat.mul_comm 2 R, Nat.mul_assoc, show 2 * (4 * d) = 8 * d by omega, Nat.mul_left_comm]
  rw [e1] at h1 h2
  have h3 : R = 0 ∨ ∃ t, R = t + 1 := by cases R with
    | zero => exact .inl rfl
    | succ t => exact .inr ⟨t, rfl⟩
  rcases h3 with h3 | ⟨t, h3⟩
  · subst h3
    refine ⟨by omega, by omega, fun _ => rfl, fun _ => rfl⟩
  · have h4 := unr_lt (n := n) (t := 2 * t + 1) hd
    have h5 := unr_le (n := n) (t := 2 * t + 1) hd
    have e3 : 2 * (2 * t + 1) * d = 4 * (R * d) - 2 * d := by rw [h3, Nat.add_mul, Nat.one_mul, Nat.mul_add, Nat.add_mul]; simp only [Nat.mul_assoc]; omega
    have e4 : d ≤ R * d := by rw [h3, Nat.succ_mul]; omega
    rw [e3] at h4 h5
    generalize R * d = Q at *
    refine ⟨by omega, by omega, fun h => ?_, fun h => ?_⟩
    · have : unr n d = 2 * (2 * t + 1) := by omega
      omega
    · have : unr n d = 2 * (2 * R + 1) := by omega
      omega
/-- the shortest digits out of the three -/
def shortN (umin um umax o : Nat) : Nat :=
  if ceilU umin o ≤ floorU umax o / 10 * 10 then floorU umax o / 10 * 10 else if ceilU umin o < floorU umax o then roundU um else ceilU umin o
/-- between the bounds; not on them if odd -/
def Inside (lo hi v o : Nat) : Prop := lo ≤ v ∧ v ≤ hi ∧ (o = 1 → lo < v ∧ v < hi)
theorem short_in {mn m mx A d o : Nat} (hd : 0 < d) (ho : o ≤ 1) (hmn : 0 < mn) (hA : 0 < A) (h1 : mn < m) (h2 : m < mx) (h3 : mx - m ≤ 2 * (m - mn)) (h4 : m - mn ≤ mx - m)
    (hw : 4 * d ≤ (mx - mn) * A) (hwo : o = 1 → 4 * d < (mx - mn) * A ∨ mn * A % (4 * d) ≠ 0) :
    Inside (mn * A) (mx * A) (shortN (unr (mn * A) d) (unr (m * A) d) (unr (mx * A) d) o * (4 * d)) o := by
  have hK : 0 < 4 * d := by omega
  have hN := round_near (n := m * A) hd
  obtain ⟨K, hKK⟩ : ∃ K, 4 * d = K := ⟨_, rfl⟩
  have lowI : ∀ D, ceilU (unr (mn * A) d) o ≤ D → mn * A ≤ D * K ∧ (o = 1 → mn * A < D * K) := fun D h => by
    have : o = 0 ∨ o = 1 := by omega
    rcases this with rfl | rfl
    · rw [ceil_0 hd, hKK] at h; exact ⟨h, fun h => by omega⟩
    · rw [ceil_1 hd, hKK] at h; exact ⟨Nat.le_of_lt h, fun _ => h⟩
  have highI : ∀ D, D ≤ floorU (unr (mx * A) d) o → D * K ≤ mx * A ∧ (o = 1 → D * K < mx * A) := fun D h => by
    have : o = 0 ∨ o = 1 := by omega
    rcases this with rfl | rfl
    · rw [floor_0 hd, hKK] at h; exact ⟨h, fun h => by omega⟩
    · rw [floor_1 hd (Nat.mul_pos (by omega) hA), hKK] at h; exact ⟨Nat.le_of_lt h, fun _ => h⟩
  have inI : ∀ D, ceilU (unr (mn * A) d) o ≤ D → D ≤ floorU (unr (mx * A) d) o → Inside (mn * A) (mx * A) (D * K) o := fun D a b =>
    ⟨(lowI D a).1, (highI D b).1, fun h => ⟨(lowI D a).2 h, (highI D b).2 h⟩⟩
  have lowC : ∀ D, mn * A < D * K → ceilU (unr (mn * A) d) o ≤ D := fun D h => by
    have : o = 0 ∨ o = 1 := by omega
    rcases this with rfl | rfl
    · rw [ceil_0 hd, hKK]; omega
    · rw [ceil_1 hd, hKK]; exact h
  have highC : ∀ D, D * K < mx * A → D ≤ floorU (unr (mx * A) d) o := fun D h => by
    have : o = 0 ∨ o = 1 := by omega
    rcases this with rfl | rfl
    · rw [floor_0 hd, hKK]; omega
    · rw [floor_1 hd (Nat.mul_pos (by omega) hA), hKK]; exact h
  rw [hKK] at hw hwo hN ⊢
  have eA : mn * A + (mx - mn) * A = mx * A := by rw [← Nat.add_mul]; congr 1; omega
  have eB : mn * A + (m - mn) * A = m * A := by rw [← Nat.add_mul]; congr 1; omega
  have eC : m * A + (mx - m) * A = mx * A := by rw [← Nat.add_mul]; congr 1; omega
  have eD : (mx - m) * A ≤ 2 * ((m - mn) * A) := by rw [← Nat.mul_assoc]; exact Nat.mul_le_mul_right _ h3
  have eE : (m - mn) * A ≤ (mx - m) * A := Nat.mul_le_mul_right _ h4
  have eF : 0 < (m - mn) * A := Nat.mul_pos (by omega) hA
  rw [hKK] at hK
  -- there is a number between
  have hne : ceilU (unr (mn * A) d) o ≤ floorU (unr (mx * A) d) o := by
    have hq := Nat.div_add_mod (mn * A) K
    have hr := Nat.mod_lt (mn * A) hK
    rw [Nat.mul_comm] at hq
    by_cases h0 : mn * A % K = 0
    · rw [h0, Nat.add_zero] at hq
      have : o = 0 ∨ o = 1 := by omega
      rcases this with rfl | rfl
      · have a1 : ceilU (unr (mn * A) d) 0 ≤ mn * A / K := by rw [ceil_0 hd, hKK]; omega
        have a2 : mn * A / K ≤ floorU (unr (mx * A) d) 0 := by rw [floor_0 hd, hKK]; omega
        omega
      · have hw1 : K < (mx - mn) * A := by
          rcases hwo rfl with h | h
          · exact h
          · exact absurd h0 h
        have a1 := lowC (mn * A / K + 1) (by rw [Nat.succ_mul]; omega)
        have a2 := highC (mn * A / K + 1) (by rw [Nat.succ_mul]; omega)
        omega
    · have a1 := lowC (mn * A / K + 1) (by rw [Nat.succ_mul]; omega)
      have a2 := highC (mn * A / K + 1) (by rw [Nat.succ_mul]; omega)
      omega
  unfold shortN
  generalize hdn : ceilU (unr (mn * A) d) o = dn at *
  generalize hdx : floorU (unr (mx * A) d) o = dx at *
  by_cases c1 : dn ≤ dx / 10 * 10
  · rw [if_pos c1]
    exact inI _ c1 (by omega)
  rw [if_neg c1]
  by_cases c2 : dn < dx
  · rw [if_pos c2]
    have l1 := lowI dn (Nat.le_refl _)
    have x1 := highI dx (Nat.le_refl _)
    generalize hR : roundU (unr (m * A) d) = R at *
    obtain ⟨N1, N2, N3, N4⟩ := hN
    rw [Nat.mul_assoc] at N1 N2 N3 N4
    refine inI R ?_ ?_
    · -- not below the least
      rcases Nat.lt_or_ge R dn with h | h
      · exfalso
        have g1 : mn * A ≥ (dn - 1) * K := by
          rcases Nat.lt_or_ge (mn * A) ((dn - 1) * K) with h | h
          · have := lowC (dn - 1) h; omega
          · exact h
        have g2 : R * K ≤ (dn - 1) * K := Nat.mul_le_mul_right _ (by omega)
        have g3 : (dn - 1) * K + K = dn * K := by rw [← Nat.succ_mul]; congr 1; omega
        have g4 : dn * K + K ≤ dx * K := by rw [← Nat.succ_mul]; exact Nat.mul_le_mul_right _ (by omega)
        omega
      · exact h
    · rcases Nat.lt_or_ge dx R with h | h
      · exfalso
        have g1 : mx * A ≤ (dx + 1) * K := by
          rcases Nat.lt_or_ge ((dx + 1) * K) (mx * A) with h | h
          · have := highC (dx + 1) h; omega
          · exact h
        have g2 : (dx + 1) * K ≤ R * K := Nat.mul_le_mul_right _ (by omega)
        rw [Nat.succ_mul] at g1 g2
        have g4 : dn * K + K ≤ dx * K := by rw [← Nat.succ_mul]; exact Nat.mul_le_mul_right _ (by omega)
        omega
      · exact h
  · rw [if_neg c2]
    exact inI dn (Nat.le_refl _) hne
end Go.Proofs.YtofndhmnofghaaaGreatDoor.Ut

namespace Go.Proofs.YtofndhmnofghaaaGreatDoor.Ut
open Go
set_option linter.unusedVariables false
set_option linter.unusedSimpArgs false

/-! one scale: a 2^e and d 10^p, both times 2^1500 10^400 -/
def t400 : Nat := (10 ^ 200) ^ 2
def b1500 : Nat := (2 ^ 250) ^ 6
theorem t400_is (k : Nat) (h : k = 400) : t400 = 10 ^ k := by
  obtain ⟨j, hj, hk⟩ : ∃ j, j = 200 ∧ k = j * 2 := ⟨200, rfl, h⟩
  rw [hk, Nat.pow_mul, hj]; rfl
theorem b1500_is (k : Nat) (h : k = 1500) : b1500 = 2 ^ k := by
  obtain ⟨j, hj, hk⟩ : ∃ j, j = 250 ∧ k = j * 6 := ⟨250, rfl, h⟩
  rw [hk, Nat.pow_mul, hj]; rfl
theorem t400_pos : 0 < t400 := Nat.pow_pos (Nat.pow_pos (Nat.succ_pos 9))
theorem b1500_pos : 0 < b1500 := Nat.pow_pos (Nat.pow_pos (Nat.succ_pos 1))
def F (a : Nat) (e : Int) : Nat := a * (2 ^ (e + 1500).toNat * t400)
def T (d : Nat) (p : Int) : Nat := d * (10 ^ (p + 400).toNat * b1500)
theorem F_mul (a : Nat) (e : Int) : F a e = a * F 1 e := by unfold F; rw [Nat.one_mul]
theorem F_pos (e : Int) : 0 < F 1 e := by unfold F; exact Nat.mul_pos Nat.one_pos (Nat.mul_pos (Nat.two_pow_pos _) t400_pos)
theorem F_up (a : Nat) {e : Int} (h : -1500 ≤ e) (k : Nat) : F a (e + k) = 2 ^ k * F a e := by
  unfold F
  rw [show (e + k + 1500).toNat = (e + 1500).toNat + k by omega, Nat.pow_add]
  generalize t400 = t
  generalize 2 ^ (e + 1500).toNat = x
  generalize 2 ^ k = y
  rw [Nat.mul_comm x y, Nat.mul_assoc, Nat.mul_left_comm]
theorem F_one (a : Nat) {e : Int} (h : -1499 ≤ e) : F a e = 2 * F a (e - 1) := by
  have := F_up a (e := e - 1) (by omega) 1
  rw [show e - 1 + ((1 : Nat) : Int) = e by omega, Nat.pow_one] at this
  exact this
theorem T_up (d : Nat) {p : Int} (h : -400 ≤ p) (k : Nat) : T d (p + k) = T (d * 10 ^ k) p := by
  unfold T
  rw [show (p + k + 400).toNat = (p + 400).toNat + k by omega, Nat.pow_add]
  generalize b1500 = t
  generalize 10 ^ (p + 400).toNat = x
  generalize 10 ^ k = y
  rw [Nat.mul_comm x y, Nat.mul_assoc, Nat.mul_assoc]

/-- what is read as a float: mantissa and exponent; four times the bounds, in the float's own unit -/
structure InF (mant : Nat) (q : Int) (V : Nat) : Prop where
  lo : (if mant = 4503599627370496 ∧ -1074 < q then (4 * mant - 1) * F 1 q else (4 * mant - 2) * F 1 q) ≤ 4 * V
  hi : 4 * V ≤ (4 * mant + 2) * F 1 q
  od : mant % 2 = 1 → (4 * mant - 2) * F 1 q < 4 * V ∧ 4 * V < (4 * mant + 2) * F 1 q
/-- a float's parts -/
structure IsF (mant : Nat) (q : Int) : Prop where
  lt : mant < 9007199254740992
  lb : -1074 ≤ q
  nm : 4503599627370496 ≤ mant ∨ q = -1074
structure Kept (p : Prop) : Prop where
  out : p
theorem near_one {mant R : Nat} {q e : Int} {V : Nat} (hf : IsF mant q) (hV : InF mant q V) (hN : Near V (F 1 e) R) (hR : R < 9007199254740992) (hE : -1074 ≤ e)
    (hlow : Kept (-1074 < e → 18014398509481983 * F 1 e ≤ 4 * V)) : q = e ∧ mant = R := by
  have f1 := hf.lt
  have f2 := hf.lb
  have n1 := hN.lo
  have n2 := hN.hi
  have v2 := hV.hi
  have hlo : (4 * mant - 2) * F 1 q ≤ 4 * V := by
    have v1 := hV.lo
    split at v1
    · exact Nat.le_trans (Nat.mul_le_mul_right _ (by omega)) v1
    · exact v1
  rcases Int.lt_trichotomy q e with h | h | h
  · exfalso
    obtain ⟨k, hk⟩ : ∃ k : Nat, e = q + (k + 1 : Nat) := ⟨(e - q - 1).toNat, by omega⟩
    have hg := F_up 1 (e := q) (by omega) (k + 1)
    rw [← hk, Nat.pow_succ] at hg
    have hl := hlow.out (by omega)
    have hk1 : 1 ≤ 2 ^ k := Nat.one_le_two_pow
    have hH := F_pos q
    have od := Kept.mk hV.od
    clear hV hN hf hlow n1 n2 hk hE hlo f2
    generalize F 1 q = H at *
    generalize F 1 e = G at *
    have h2 : 2 * H ≤ G := by
      rw [hg, Nat.mul_comm (2 ^ k), Nat.mul_assoc]
      exact Nat.mul_le_mul_left 2 (Nat.le_mul_of_pos_left _ hk1)
    clear hg hk1
    have h3 : 18014398509481983 * (2 * H) ≤ 18014398509481983 * G := Nat.mul_le_mul_left _ h2
    by_cases hm2 : mant = 9007199254740991
    · have h4 := (od.out (by omega)).2
      have h5 : (4 * mant + 2) * H ≤ 36028797018963966 * H := Nat.mul_le_mul_right _ (by omega)
      clear v2 f1 hm2 h od
      generalize (4 * mant + 2) * H = P at *
      omega
    · have h4 : (4 * mant + 2) * H ≤ 36028797018963962 * H := Nat.mul_le_mul_right _ (by omega)
      clear f1 hm2 h od
      generalize (4 * mant + 2) * H = P at *
      omega
  · subst h
    refine ⟨rfl, ?_⟩
    have hH := F_pos q
    have evl := Kept.mk hN.evl
    have evh := Kept.mk hN.evh
    have od := Kept.mk hV.od
    clear hN hV hf hlow hE f2
    generalize F 1 q = H at *
    rw [Nat.mul_assoc] at n1 n2
    have e1 : (4 * mant + 2) * H = 4 * (mant * H) + 2 * H := by rw [Nat.add_mul, Nat.mul_assoc]
    rw [e1] at v2
    rcases Nat.lt_trichotomy mant R with h | h | h
    · exfalso
      have h1 : mant * H + H ≤ R * H := by rw [← Nat.succ_mul]; exact Nat.mul_le_mul_right _ h
      have hRe := evl.out (by rw [Nat.mul_assoc]; omega)
      have hme : R = mant + 1 := by
        rcases Nat.lt_or_ge (mant + 1) R with h | h
        · have : mant * H + 2 * H ≤ R * H := by rw [← Nat.add_mul]; exact Nat.mul_le_mul_right _ h
          omega
        · omega
      have := (od.out (by omega)).2
      rw [e1] at this
      omega
    · exact h
    · exfalso
      have h1 : R * H + H ≤ mant * H := by rw [← Nat.succ_mul]; exact Nat.mul_le_mul_right _ h
      have e2 : (4 * mant - 2) * H + 2 * H = 4 * (mant * H) := by rw [← Nat.add_mul, show 4 * mant - 2 + 2 = 4 * mant by omega, Nat.mul_assoc]
      have hRe := evh.out (by rw [Nat.mul_assoc]; omega)
      have hme : mant = R + 1 := by
        rcases Nat.lt_or_ge (R + 1) mant with h | h
        · have : R * H + 2 * H ≤ mant * H := by rw [← Nat.add_mul]; exact Nat.mul_le_mul_right _ h
          omega
        · omega
      have := (od.out (by omega)).1
      omega
  · exfalso
    obtain ⟨k, hk⟩ : ∃ k : Nat, q = e + (k + 1 : Nat) := ⟨(q - e - 1).toNat, by omega⟩
    have hg := F_up 1 (e := e) (by omega) (k + 1)
    rw [← hk, Nat.pow_succ] at hg
    have hk1 : 1 ≤ 2 ^ k := Nat.one_le_two_pow
    have hG := F_pos e
    have hnm : 4503599627370496 ≤ mant := by
      rcases hf.nm with h | h
      · exact h
      · omega
    have h2 : 2 * F 1 e ≤ F 1 q := by
      rw [hg, Nat.mul_comm (2 ^ k), Nat.mul_assoc]
      exact Nat.mul_le_mul_left 2 (Nat.le_mul_of_pos_left _ hk1)
    have v1 := hV.lo
    have evh := Kept.mk hN.evh
    have hq1 : -1074 < q := by omega
    clear hg hk1 hf hN hV hlow hk k f2 v2
    generalize F 1 e = G at *
    generalize F 1 q = H at *
    rw [Nat.mul_assoc] at n1 n2
    have h5 : R * G ≤ 9007199254740991 * G := Nat.mul_le_mul_right _ (by omega)
    by_cases hm2 : mant = 4503599627370496
    · rw [if_pos ⟨hm2, hq1⟩] at v1
      have h3 : 18014398509481983 * (2 * G) ≤ 18014398509481983 * H := Nat.mul_le_mul_left _ h2
      have h6 : 18014398509481983 * H ≤ (4 * mant - 1) * H := Nat.mul_le_mul_right _ (by omega)
      clear hlo hnm hm2 hq1 h
      generalize (4 * mant - 1) * H = P at *
      have hRe := evh.out (by rw [Nat.mul_assoc]; omega)
      have hRm : R = 9007199254740991 := by
        rcases Nat.lt_or_ge R 9007199254740991 with h | h
        · have : R * G ≤ 9007199254740990 * G := Nat.mul_le_mul_right _ (by omega)
          omega
        · omega
      omega
    · have h3 : 18014398509481986 * H ≤ (4 * mant - 2) * H := Nat.mul_le_mul_right _ (by omega)
      have h4 : 18014398509481986 * (2 * G) ≤ 18014398509481986 * H := Nat.mul_le_mul_left _ h2
      clear v1 hnm hm2 hq1 h
      generalize (4 * mant - 2) * H = P at *
      omega
end Go.Proofs.YtofndhmnofghaaaGreatDoor.Ut

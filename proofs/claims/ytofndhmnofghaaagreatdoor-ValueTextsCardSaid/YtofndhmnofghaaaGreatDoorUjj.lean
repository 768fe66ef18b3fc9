/- What the scaling holds against what, on one scale: when a float is written, and when a number is read. No condition. -/
import Derived.Test.YtofndhmnofghaaaGreatDoorUej
import Derived.Test.YtofndhmnofghaaaGreatDoorFoj
namespace Go.Proofs.YtofndhmnofghaaaGreatDoor.Ut
open Go
set_option linter.unusedVariables false
set_option linter.unusedSimpArgs false

theorem lp_bounds (p : Int) (h1 : -348 ≤ p) (h2 : p ≤ 347) : -1157 ≤ lp10 p ∧ lp10 p ≤ 1153 := by unfold lp10; omega
theorem scale_write {p e : Int} {s : Nat} (hs : (s : Int) = -(e + lp10 p + 3)) (h1 : -348 ≤ p) (h2 : p ≤ 347) (h0 : 127 - lp10 p ≤ e + 1500) (he : -1500 ≤ e) :
    ∃ R, 0 < R ∧ ∀ a D, F a e = a * numA p * R ∧ T D (-p) = D * (4 * (denB p * 2 ^ (128 + s))) * R := by
  have hl := lp_bounds p h1 h2
  generalize hlp : lp10 p = lp at *
  obtain ⟨r10, h10⟩ : ∃ r10, p.toNat + r10 = 400 := ⟨400 - p.toNat, by omega⟩
  obtain ⟨r2, h22⟩ : ∃ r2, (127 - lp).toNat + r2 = (e + 1500).toNat := ⟨(e + 1500).toNat - (127 - lp).toNat, by omega⟩
  refine ⟨10 ^ r10 * 2 ^ r2, Nat.mul_pos (Nat.pow_pos (Nat.succ_pos 9)) (Nat.two_pow_pos _), fun a D => ⟨?_, ?_⟩⟩
  · unfold F numA
    rw [hlp, t400_is _ h10, ← h22, Nat.pow_add, Nat.pow_add]
    generalize 10 ^ p.toNat = x1
    generalize 10 ^ r10 = x2
    generalize 2 ^ (127 - lp).toNat = x3
    generalize 2 ^ r2 = x4
    simp only [Nat.mul_comm, Nat.mul_left_comm, Nat.mul_assoc]
  · unfold T denB
    have e1 : (-p + 400).toNat = (-p).toNat + r10 := by omega
    have e2 : 2 + ((lp - 127).toNat + (128 + s)) + r2 = 1500 := by omega
    rw [hlp, e1, b1500_is _ e2, Nat.pow_add 10, Nat.pow_add 2 _ r2, Nat.pow_add 2 2, Nat.pow_add 2 (lp - 127).toNat]
    generalize 10 ^ (-p).toNat = x1
    generalize 10 ^ r10 = x2
    generalize 2 ^ (lp - 127).toNat = x3
    generalize 2 ^ (128 + s) = x4
    generalize 2 ^ r2 = x5
    rw [show (2 : Nat) ^ 2 = 4 from rfl]
    simp only [Nat.mul_comm, Nat.mul_left_comm, Nat.mul_assoc]
theorem scale_read {p e : Int} {s c : Nat} (hs : (s : Int) = -(e - c + lp10 p + 3)) (h1 : -348 ≤ p) (h2 : p ≤ 347) (hc : c ≤ 64) (he : e ≤ 1500) :
    ∃ R, 0 < R ∧ ∀ d n, T d p = d * 2 ^ c * numA p * R ∧ F n (-e) = n * (4 * (denB p * 2 ^ (128 + s))) * R := by
  have hl := lp_bounds p h1 h2
  generalize hlp : lp10 p = lp at *
  obtain ⟨r10, h10⟩ : ∃ r10, (-p).toNat + r10 = 400 := ⟨400 - (-p).toNat, by omega⟩
  obtain ⟨r2, h22⟩ : ∃ r2, c + (127 - lp).toNat + r2 = 1500 := ⟨1500 - (c + (127 - lp).toNat), by omega⟩
  refine ⟨10 ^ r10 * 2 ^ r2, Nat.mul_pos (Nat.pow_pos (Nat.succ_pos 9)) (Nat.two_pow_pos _), fun d n => ⟨?_, ?_⟩⟩
  · unfold T numA
    have e1 : (p + 400).toNat = p.toNat + r10 := by omega
    rw [hlp, e1, b1500_is _ h22, Nat.pow_add, Nat.pow_add, Nat.pow_add]
    generalize 10 ^ p.toNat = x1
    generalize 10 ^ r10 = x2
    generalize 2 ^ (127 - lp).toNat = x3
    generalize 2 ^ r2 = x4
    generalize 2 ^ c = x5
    simp only [Nat.mul_comm, Nat.mul_left_comm, Nat.mul_assoc]
  · unfold F denB
    have e2 : 2 + ((lp - 127).toNat + (128 + s)) + r2 = (-e + 1500).toNat := by omega
    rw [hlp, ← e2, t400_is _ h10, Nat.pow_add 10, Nat.pow_add 2 _ r2, Nat.pow_add 2 2, Nat.pow_add 2 (lp - 127).toNat]
    generalize 10 ^ (-p).toNat = x1
    generalize 10 ^ r10 = x2
    generalize 2 ^ (lp - 127).toNat = x3
    generalize 2 ^ (128 + s) = x4
    generalize 2 ^ r2 = x5
    rw [show (2 : Nat) ^ 2 = 4 from rfl]
    simp only [Nat.mul_comm, Nat.mul_left_comm, Nat.mul_assoc]
theorem cmp_le {a b R : Nat} (hR : 0 < R) : a * R ≤ b * R ↔ a ≤ b := ⟨fun h => Nat.le_of_mul_le_mul_right h hR, fun h => Nat.mul_le_mul_right R h⟩
theorem cmp_lt {a b R : Nat} (hR : 0 < R) : a * R < b * R ↔ a < b := ⟨fun h => Nat.lt_of_mul_lt_mul_right h, fun h => Nat.mul_lt_mul_of_pos_right h hR⟩
/-- near, on another scale -/
theorem near_scale {n K r : Nat} (h : Near n K r) {R : Nat} (hR : 0 < R) : Near (n * R) (K * R) r := by
  obtain ⟨a, b, c, d⟩ := h
  have e1 : 2 * r * (K * R) = 2 * r * K * R := (Nat.mul_assoc ..).symm
  have e2 : 2 * (n * R) + K * R = (2 * n + K) * R := by rw [Nat.add_mul, Nat.mul_assoc]
  have e3 : 2 * (n * R) = 2 * n * R := (Nat.mul_assoc ..).symm
  have e4 : 2 * r * K * R + K * R = (2 * r * K + K) * R := (Nat.add_mul ..).symm
  refine ⟨?_, ?_, fun h => c ?_, fun h => d ?_⟩
  · rw [e1, e2]; exact Nat.mul_le_mul_right R a
  · rw [e1, e3, e4]; exact Nat.mul_le_mul_right R b
  · rw [e1, e2] at h; exact Nat.eq_of_mul_eq_mul_right hR h
  · rw [e1, e3, e4] at h; exact Nat.eq_of_mul_eq_mul_right hR h
end Go.Proofs.YtofndhmnofghaaaGreatDoor.Ut

namespace Go.Proofs.YtofndhmnofghaaaGreatDoor.Ut
open Go Fl
set_option linter.unusedVariables false
set_option linter.unusedSimpArgs false

/-- a float's rung -/
def rungOf (mant : Nat) (q : Int) : Nat := (q + 1074).toNat * 4503599627370496 + mant
theorem rhe_near {x d : Nat} (hd : 0 < d) : Near x d (rhe x d) := by
  have hq := Nat.div_add_mod x d
  have hr := Nat.mod_lt x hd
  obtain ⟨b, hb⟩ : ∃ b, (decide (d < 2 * (x % d)) || (d == 2 * (x % d) && x / d % 2 == 1)) = b := ⟨_, rfl⟩
  have hR : rhe x d = x / d + b.toNat := by unfold rhe; rw [hb]
  rw [hR]
  generalize x / d = Q at *
  generalize x % d = r at *
  cases b with
  | false =>
    have h1 : ¬ d < 2 * r := by
      intro h
      rw [decide_eq_true h, Bool.true_or] at hb
      cases hb
    have h2 : d = 2 * r → Q % 2 = 0 := fun h => by
      rw [decide_eq_false h1, Bool.false_or, show (d == 2 * r) = true by simpa using h, Bool.true_and] at hb
      have : ¬ Q % 2 = 1 := by simpa using hb
      omega
    have e : 2 * (Q + false.toNat) * d = 2 * (d * Q) := by
      show 2 * Q * d = _
      rw [Nat.mul_assoc, Nat.mul_comm Q d]
    refine ⟨?_, ?_, ?_, ?_⟩
    · rw [e]; omega
    · rw [e]; omega
    · rw [e]; intro h; omega
    · rw [e]; intro h; exact h2 (by omega)
  | true =>
    have h1 : d ≤ 2 * r := by
      rcases Nat.lt_or_ge (2 * r) d with h | h
      · rw [decide_eq_false (by omega), Bool.false_or, show (d == 2 * r) = false by simpa using (by omega : ¬ d = 2 * r), Bool.false_and] at hb
        cases hb
      · exact h
    have h2 : d = 2 * r → Q % 2 = 1 := fun h => by
      rw [decide_eq_false (by omega), Bool.false_or, show (d == 2 * r) = true by simpa using h, Bool.true_and] at hb
      simpa using hb
    have e : 2 * (Q + true.toNat) * d = 2 * (d * Q) + 2 * d := by
      show 2 * (Q + 1) * d = _
      rw [Nat.mul_assoc, Nat.add_mul, Nat.one_mul, Nat.mul_comm Q d]; omega
    have hT : true.toNat = 1 := rfl
    refine ⟨?_, ?_, ?_, ?_⟩
    · rw [e]; omega
    · rw [e]; omega
    · rw [e]; intro h; have := h2 (by omega); omega
    · rw [e]; intro h; omega
theorem rnd_in {mant x : Nat} {q : Int} (hf : IsF mant q) (hV : InF mant q (x * F 1 (-1074))) : rnd x = rungOf mant q := by
  have hU := F_pos (-1074)
  by_cases hx : x < 9007199254740992
  · have hn : Near x 1 x := ⟨by omega, by omega, fun h => by omega, fun h => by omega⟩
    have hn2 := near_scale hn hU
    rw [Nat.one_mul] at hn2
    obtain ⟨h1, h2⟩ := near_one hf hV hn2 hx (by omega) (Kept.mk fun h => absurd h (by omega))
    unfold rnd rungOf
    rw [if_pos hx, h1, h2]
    omega
  · have l1 := log_ge (x := x) (by omega)
    have l2 := log_hi x
    have k1 := kept_lo (x := x) (by omega)
    have k2 := kept_hi (x := x) (by omega)
    have r1 := rhe_lo x (2 ^ (x.log2 - 52))
    have r2 := rhe_hi x (2 ^ (x.log2 - 52))
    obtain ⟨L, hL⟩ : ∃ L, x.log2 - 52 = L := ⟨_, rfl⟩
    rw [hL] at k1 k2 r1 r2
    have hd : 0 < 2 ^ L := Nat.two_pow_pos L
    have hn := rhe_near (x := x) hd
    have hFe := F_up 1 (e := -1074) (by omega) L
    have hge : 4503599627370496 * 2 ^ L ≤ x := (Nat.le_div_iff_mul_le hd).1 k1
    unfold rnd
    rw [if_neg hx, hL]
    generalize rhe x (2 ^ L) = R at *
    by_cases hR : R < 9007199254740992
    · have hn2 := near_scale hn hU
      rw [← hFe] at hn2
      obtain ⟨h1, h2⟩ := near_one hf hV hn2 hR (by omega) (Kept.mk fun h => by
        rw [hFe, ← Nat.mul_assoc, ← Nat.mul_assoc]
        exact Nat.mul_le_mul_right _ (by omega))
      unfold rungOf
      rw [h1, h2]
      congr 2; omega
    · have hR2 : R = 9007199254740992 := by omega
      subst hR2
      have n1 := hn.lo
      have hxl : x < 9007199254740992 * 2 ^ L := (Nat.div_lt_iff_lt_mul hd).1 k2
      have hn' : Near x (2 ^ (L + 1)) 4503599627370496 := by
        have hp : 2 ^ (L + 1) = 2 * 2 ^ L := by rw [Nat.pow_succ, Nat.mul_comm]
        rw [hp]
        exact ⟨by omega, by omega, fun _ => rfl, fun _ => rfl⟩
      have hn2 := near_scale hn' hU
      have hFe2 := F_up 1 (e := -1074) (by omega) (L + 1)
      rw [← hFe2] at hn2
      obtain ⟨h1, h2⟩ := near_one hf hV hn2 (by omega) (by omega) (Kept.mk fun h => by
        rw [hFe2, ← Nat.mul_assoc, ← Nat.mul_assoc]
        refine Nat.mul_le_mul_right _ ?_
        rw [Nat.pow_succ]
        omega)
      unfold rungOf
      rw [h1, h2]
      omega
end Go.Proofs.YtofndhmnofghaaaGreatDoor.Ut

namespace Go.Proofs.YtofndhmnofghaaaGreatDoor.Ut
open Go Fl Ieee
set_option linter.unusedVariables false
set_option linter.unusedSimpArgs false

theorem near_unscale {n K r R : Nat} (hR : 0 < R) (h : Near (n * R) (K * R) r) : Near n K r := by
  obtain ⟨a, b, c, d⟩ := h
  have e1 : 2 * r * (K * R) = 2 * r * K * R := (Nat.mul_assoc ..).symm
  have e2 : 2 * (n * R) + K * R = (2 * n + K) * R := by rw [Nat.add_mul, Nat.mul_assoc]
  have e3 : 2 * (n * R) = 2 * n * R := (Nat.mul_assoc ..).symm
  have e4 : 2 * r * (K * R) + K * R = (2 * r * K + K) * R := by rw [Nat.add_mul, e1]
  rw [e1, e2] at a c
  rw [e3, e4] at b d
  exact ⟨(cmp_le hR).1 a, (cmp_le hR).1 b, fun h => c (by rw [h]), fun h => d (by rw [h])⟩
theorem near_unr {n d K R : Nat} (hd : 0 < d) (h : Near (unr n d) (4 * K) R) : Near n (4 * K * d) R := by
  obtain ⟨a, b, c, e⟩ := h
  have lo1 := unr_lt (n := n) (t := 2 * R * K - K) hd
  have lo2 := unr_le (n := n) (t := 2 * R * K - K) hd
  have hi1 := unr_lt (n := n) (t := 2 * R * K + K) hd
  have hi2 := unr_le (n := n) (t := 2 * R * K + K) hd
  have z1 : 2 * R * (4 * K) = 4 * (2 * R * K) := Nat.mul_left_comm ..
  rw [z1] at a b c e
  have z2 : 2 * R * (4 * K * d) = 4 * (2 * R * K * d) := by rw [Nat.mul_assoc 4, Nat.mul_left_comm, Nat.mul_assoc (2 * R)]
  have z3 : 4 * K * d = 4 * (K * d) := Nat.mul_assoc ..
  have z4 : 2 * (2 * R * K - K) * d = 2 * (2 * R * K * d) - 2 * (K * d) := by rw [Nat.mul_assoc, Nat.sub_mul, Nat.mul_sub]
  have z5 : 2 * (2 * R * K + K) * d = 2 * (2 * R * K * d) + 2 * (K * d) := by rw [Nat.mul_assoc, Nat.add_mul, Nat.mul_add]
  rw [z4] at lo1 lo2
  rw [z5] at hi1 hi2
  have hle : R = 0 ∨ K ≤ 2 * R * K := by
    rcases Nat.eq_zero_or_pos R with h | h
    · exact .inl h
    · exact .inr (Nat.le_mul_of_pos_left _ (by omega))
  have hle2 : K ≤ 2 * R * K → K * d ≤ 2 * R * K * d := fun h => Nat.mul_le_mul_right _ h
  have hz : R = 0 → 2 * R * K = 0 ∧ 2 * R * K * d = 0 := fun h => by subst h; simp
  rw [Nat.le_antisymm_iff] at c e
  refine ⟨?_, ?_, ?_, ?_⟩
  all_goals rw [z2, z3]
  all_goals generalize 2 * R * K * d = P at *
  all_goals generalize 2 * R * K = Q at *
  all_goals generalize unr n d = u at *
  all_goals generalize K * d = S at *
  · omega
  · omega
  · intro h; exact c (by omega)
  · intro h; exact e (by omega)
/-- with the rest kept in the last bit -/
theorem rnd_unr {mant N D p V R : Nat} {q : Int} (hD : 0 < D) (hR : 0 < R) (hS : 18014398509481984 ≤ unr N D) (hVN : V = N * R) (hF : F 1 ((p : Int) - 1074) = D * R) (hf : IsF mant q) (hV : InF mant q V) :
    rnd (unr N D * 2 ^ p) = rungOf mant q := by
  have hSN : ∀ t, 2 * t ≤ unr N D → 2 * t * D ≤ N := fun t h => by
    have := unr_lt (n := N) (t := t) hD
    omega
  have hNS : ∀ t, unr N D < 2 * t → N < 2 * t * D := fun t h => (unr_lt hD).1 h
  have hnu : ∀ {K r}, Near (unr N D) (4 * K) r → Near N (4 * K * D) r := near_unr hD
  generalize unr N D = S at *
  have hp : 0 < 2 ^ p := Nat.two_pow_pos p
  have hx : 9007199254740992 ≤ S * 2 ^ p := Nat.le_trans (by omega) (Nat.le_mul_of_pos_right S hp)
  have hlog : (S * 2 ^ p).log2 = S.log2 + p := log_shift (by omega) p
  have hl54 : 54 ≤ S.log2 := (Nat.le_log2 (by omega)).2 (by omega)
  have k1 := kept_lo hx
  have k2 := kept_hi hx
  have r1 := rhe_lo (S * 2 ^ p) (2 ^ ((S * 2 ^ p).log2 - 52))
  have r2 := rhe_hi (S * 2 ^ p) (2 ^ ((S * 2 ^ p).log2 - 52))
  obtain ⟨j, hj⟩ : ∃ j, S.log2 = 54 + j := ⟨S.log2 - 54, by omega⟩
  have hL : (S * 2 ^ p).log2 - 52 = (2 + j) + p := by omega
  unfold rnd
  rw [if_neg (by omega)]
  rw [hL] at k1 k2 r1 r2 ⊢
  have hpow : 2 ^ ((2 + j) + p) = 4 * 2 ^ j * 2 ^ p := by rw [Nat.pow_add, Nat.pow_add]
  have hd : 0 < 2 ^ ((2 + j) + p) := Nat.two_pow_pos _
  have hn := rhe_near (x := S * 2 ^ p) hd
  have hge := (Nat.le_div_iff_mul_le hd).1 k1
  have hlt := (Nat.div_lt_iff_lt_mul hd).1 k2
  have hFe := F_up 1 (e := (p : Int) - 1074) (by omega) (2 + j)
  have hFe2 := F_up 1 (e := (p : Int) - 1074) (by omega) (2 + j + 1)
  have hp4 : 2 ^ (2 + j) = 4 * 2 ^ j := by rw [Nat.pow_add]
  have hp8 : 2 ^ (2 + j + 1) = 4 * (2 * 2 ^ j) := by rw [Nat.pow_succ, hp4]; omega
  rw [hp4, hF] at hFe
  rw [hp8, hF] at hFe2
  generalize rhe (S * 2 ^ p) (2 ^ ((2 + j) + p)) = Q at *
  rw [hpow] at hn hge hlt
  rw [← Nat.mul_assoc, cmp_le hp] at hge
  rw [← Nat.mul_assoc, cmp_lt hp] at hlt
  have hnS := near_unscale hp hn
  -- the low bound
  have g1 := hSN (4503599627370496 * (2 * 2 ^ j)) (by omega)
  have g1R : 18014398509481984 * 2 ^ j * D * R ≤ V := by
    rw [hVN]
    refine Nat.mul_le_mul_right _ ?_
    rw [show 18014398509481984 * 2 ^ j = 2 * (4503599627370496 * (2 * 2 ^ j)) by omega]
    exact g1
  by_cases hQ : Q < 9007199254740992
  · have hn2 := near_scale (hnu hnS) hR
    rw [Nat.mul_assoc (4 * 2 ^ j), ← hFe, ← hVN] at hn2
    obtain ⟨h1, h2⟩ := near_one hf hV hn2 hQ (by omega) (Kept.mk fun h => by
      rw [hFe, ← Nat.mul_assoc, ← Nat.mul_assoc, ← Nat.mul_assoc]
      refine Nat.le_trans (Nat.mul_le_mul_right R (Nat.mul_le_mul_right D (?_ : _ ≤ 4 * (18014398509481984 * 2 ^ j)))) ?_
      · omega
      · rw [Nat.mul_assoc 4, Nat.mul_assoc 4]; exact Nat.mul_le_mul_left 4 g1R)
    unfold rungOf
    rw [h1, h2]
    congr 2; omega
  · have hQ2 : Q = 9007199254740992 := by omega
    subst hQ2
    have hn' : Near S (4 * (2 * 2 ^ j)) 4503599627370496 := by
      have n1 := hnS.lo
      exact ⟨by omega, by omega, fun _ => rfl, fun _ => rfl⟩
    have n1 := (hnu hn').lo
    have hn2 := near_scale (hnu hn') hR
    rw [Nat.mul_assoc (4 * (2 * 2 ^ j)), ← hFe2, ← hVN] at hn2
    have n3 := (hnu hnS).lo
    obtain ⟨h1, h2⟩ := near_one hf hV hn2 (by omega) (by omega) (Kept.mk fun h => by
      rw [hFe2, hVN]
      have n4 := Nat.mul_le_mul_right R n3
      have z1 : 2 * 9007199254740992 * (4 * 2 ^ j * D) * R = 72057594037927936 * (2 ^ j * (D * R)) := by
        rw [Nat.mul_assoc 4, ← Nat.mul_assoc, Nat.mul_assoc, Nat.mul_assoc (2 ^ j)]
      have z2 : (2 * N + 4 * 2 ^ j * D) * R = 2 * (N * R) + 4 * (2 ^ j * (D * R)) := by
        rw [Nat.add_mul, Nat.mul_assoc 4, Nat.mul_assoc 4, Nat.mul_assoc 2, Nat.mul_assoc (2 ^ j)]
      have z3 : 4 * (2 * 2 ^ j) * (D * R) = 8 * (2 ^ j * (D * R)) := by
        rw [show 4 * (2 * 2 ^ j) = 8 * 2 ^ j by omega, Nat.mul_assoc]
      rw [z1, z2] at n4
      rw [z3]
      generalize 2 ^ j * (D * R) = Z at *
      generalize N * R = Y at *
      omega)
    unfold rungOf
    rw [h1, h2]
    omega
end Go.Proofs.YtofndhmnofghaaaGreatDoor.Ut

namespace Go.Proofs.YtofndhmnofghaaaGreatDoor.Ut
open Go Fl Ieee
set_option linter.unusedVariables false
set_option linter.unusedSimpArgs false

def u1074 : Nat := (2 ^ 179) ^ 6
theorem u1074_is (k : Nat) (h : k = 1074) : u1074 = 2 ^ k := by
  obtain ⟨j, hj, hk⟩ : ∃ j, j = 179 ∧ k = j * 6 := ⟨179, rfl, h⟩
  rw [hk, Nat.pow_mul, hj]; rfl
theorem u1074_pos : 0 < u1074 := Nat.pow_pos (Nat.two_pow_pos 179)
/-- a number of at most 53 bits is a float -/
theorem val_rnd {y : Nat} (h : y < 9007199254740992) (j : Nat) : val (rnd (y * 2 ^ j)) = y * 2 ^ j := by
  by_cases hx : y * 2 ^ j < 9007199254740992
  · unfold rnd
    rw [if_pos hx]
    generalize y * 2 ^ j = x at *
    unfold val
    by_cases h1 : x < 4503599627370496
    · rw [if_pos h1]
    · rw [if_neg h1, show x / 4503599627370496 = 1 by omega, show 1 - 1 = 0 from rfl, Nat.pow_zero]; omega
  · have k1 := kept_lo (x := y * 2 ^ j) (by omega)
    have k2 := kept_hi (x := y * 2 ^ j) (by omega)
    have hy : y ≠ 0 := fun h0 => by subst h0; rw [Nat.zero_mul] at hx; exact hx (by decide)
    have l1 := log_shift hy j
    have l2 : y.log2 < 53 := (Nat.log2_lt hy).2 (by omega)
    have l3 := log_ge (x := y * 2 ^ j) (by omega)
    obtain ⟨L, hL⟩ : ∃ L, (y * 2 ^ j).log2 - 52 = L := ⟨_, rfl⟩
    rw [hL] at k1 k2
    have hx2 : y * 2 ^ j = y * 2 ^ (j - L) * 2 ^ L := by rw [Nat.mul_assoc, ← Nat.pow_add, show j - L + L = j by omega]
    unfold rnd
    rw [if_neg hx, hL]
    rw [hx2] at k1 k2 ⊢
    have hd : 0 < 2 ^ L := Nat.two_pow_pos L
    rw [Nat.mul_div_cancel _ hd] at k1 k2
    have hr : rhe (y * 2 ^ (j - L) * 2 ^ L) (2 ^ L) = y * 2 ^ (j - L) := by
      have := rhe_scale (y * 2 ^ (j - L)) 1 (2 ^ L) Nat.one_pos hd
      rw [Nat.one_mul] at this
      rw [this, rhe_one]
    rw [hr]
    generalize y * 2 ^ (j - L) = Q at *
    have hq : (L * 4503599627370496 + Q) / 4503599627370496 = L + 1 := by omega
    have hm : (L * 4503599627370496 + Q) % 4503599627370496 = Q - 4503599627370496 := by omega
    unfold val
    rw [if_neg (by omega), hq, hm, show L + 1 - 1 = L by omega, show 4503599627370496 + (Q - 4503599627370496) = Q by omega]
/-- the rung of a whole number -/
structure Whole (r y : Nat) : Prop where
  val : val r = y * u1074
  fin : r < 9218868437227405312
  big : 4503599627370496 ≤ r
  log : plcOf r = 1022 + y.log2
  m1 : 4503599627370496 ≤ magOf r
  m2 : magOf r < 9007199254740992
  eq : magOf r * 2 ^ plcOf r = y * u1074
theorem whole_of {r y : Nat} (hv : Fl.val r = y * u1074) (hy : 0 < y) (hf : r < 9218868437227405312) : Whole r y := by
  have hbig : 4503599627370496 ≤ r := by
    rcases Nat.lt_or_ge r 4503599627370496 with h | h
    · exfalso
      have : Fl.val r = r := by unfold Fl.val; rw [if_pos h]
      rw [this] at hv
      have h2 : u1074 ≤ y * u1074 := Nat.le_mul_of_pos_left _ hy
      have h3 : 4503599627370496 ≤ u1074 := by
        obtain ⟨k, hk⟩ : ∃ k, k = 1074 := ⟨1074, rfl⟩
        rw [u1074_is k hk, show (4503599627370496 : Nat) = 2 ^ 52 by rfl]
        exact Nat.pow_le_pow_right (by decide) (by omega)
      omega
    · exact h
  have hl := val_log hbig
  obtain ⟨w, hw⟩ : ∃ w, w = 1074 := ⟨1074, rfl⟩
  rw [hv, u1074_is w hw, log_shift (by omega)] at hl
  have hp : plcOf r = r / 4503599627370496 - 1 := by unfold plcOf; rw [if_neg (by omega)]
  have hm : magOf r = 4503599627370496 + r % 4503599627370496 := by unfold magOf; rw [if_neg (by omega)]
  exact ⟨hv, hf, hbig, by omega, by omega, by omega, by rw [val_eq, hv]⟩
theorem T_whole (d : Nat) : T d 0 = d * (t400 * b1500) := by
  unfold T
  rw [t400_is (0 + 400 : Int).toNat (by decide)]
theorem mul_in {r1 r2 a b mant : Nat} {q : Int} {s t : Bool} (h1 : Whole r1 a) (h2 : Whole r2 b) (hf : IsF mant q) (hV : InF mant q (T (a * b) 0)) (hr : rungOf mant q < 9218868437227405312) :
    double.mul (double.word s r1) (double.word t r2) = some (double.word (s ^^ t) (rungOf mant q)) := by
  unfold Format.mul
  rw [read_rung s r1 h1.fin, read_rung t r2 h2.fin]
  show some (double.nearest (s ^^ t) (magOf r1 * magOf r2) (((plcOf r1 : Int) - 1074) + ((plcOf r2 : Int) - 1074))) = _
  obtain ⟨p, hp⟩ : ∃ p, plcOf r1 + plcOf r2 = 1074 + p := ⟨plcOf r1 + plcOf r2 - 1074, by have := h1.log; have := h2.log; omega⟩
  rw [show ((plcOf r1 : Int) - 1074) + ((plcOf r2 : Int) - 1074) = (p : Int) - 1074 by omega, nearest_units]
  have hx : magOf r1 * magOf r2 * 2 ^ p = a * b * u1074 := by
    have e : magOf r1 * 2 ^ plcOf r1 * (magOf r2 * 2 ^ plcOf r2) = magOf r1 * magOf r2 * 2 ^ p * u1074 := by
      obtain ⟨w, hw⟩ : ∃ w, w = 1074 := ⟨1074, rfl⟩
      rw [Nat.mul_mul_mul_comm, ← Nat.pow_add, hp, ← hw, Nat.pow_add, ← u1074_is w hw, Nat.mul_comm u1074, Nat.mul_assoc (magOf r1 * magOf r2)]
    rw [h1.eq, h2.eq] at e
    have e2 : a * u1074 * (b * u1074) = a * b * u1074 * u1074 := by rw [Nat.mul_mul_mul_comm, Nat.mul_assoc (a * b)]
    rw [e2] at e
    exact (Nat.eq_of_mul_eq_mul_right u1074_pos e).symm
  rw [hx]
  have hVx : T (a * b) 0 = a * b * u1074 * F 1 (-1074) := by
    rw [T_whole]
    unfold F
    obtain ⟨w, hw⟩ : ∃ w, w = 1074 := ⟨1074, rfl⟩
    rw [Nat.one_mul, Nat.mul_assoc (a * b) u1074, ← Nat.mul_assoc u1074, u1074_is w hw, ← Nat.pow_add, ← b1500_is (w + (-1074 + 1500 : Int).toNat) (by omega), Nat.mul_comm t400]
  rw [hVx] at hV
  rw [rnd_in hf hV, Nat.min_eq_left (Nat.le_of_lt hr)]
theorem log2_norm {m : Nat} (h1 : 4503599627370496 ≤ m) (h2 : m < 9007199254740992) : m.log2 = 52 := by
  have a := (Nat.le_log2 (n := m) (k := 52) (by omega)).2 (by omega)
  have b := (Nat.log2_lt (n := m) (k := 53) (by omega)).2 (by omega)
  omega
theorem unr_two (N n : Nat) (hn : 0 < n) : 2 * (N / n) + (N % n != 0).toNat = unr (2 * N) n := by
  have hq := Nat.div_add_mod N n
  have hr := Nat.mod_lt N hn
  generalize N / n = Q at *
  generalize N % n = r at *
  by_cases h0 : r = 0
  · subst h0
    rw [unr_exact (q := 2 * Q) hn (by rw [← hq, Nat.mul_comm n Q, Nat.add_zero, Nat.mul_assoc])]
    rfl
  · have hb : (r != 0).toNat = 1 := by rw [show (r != 0) = true by simpa using h0]; rfl
    rw [hb]
    by_cases h1 : 2 * r < n
    · have := unr_over (n := 2 * N) (d := n) (q := 2 * Q) (by rw [Nat.mul_assoc, Nat.mul_comm Q n]; omega) (by rw [Nat.add_mul, Nat.mul_assoc, Nat.mul_comm Q n]; omega)
      rw [this]; unfold odd1; omega
    · by_cases h2 : 2 * r = n
      · rw [unr_exact (q := 2 * Q + 1) hn (by rw [Nat.add_mul, Nat.mul_assoc, Nat.mul_comm Q n]; omega)]
      · have := unr_over (n := 2 * N) (d := n) (q := 2 * Q + 1) (by rw [Nat.add_mul, Nat.mul_assoc, Nat.mul_comm Q n]; omega) (by rw [show 2 * Q + 1 + 1 = 2 * (Q + 1) by omega, Nat.mul_assoc, Nat.add_mul, Nat.mul_comm Q n]; omega)
        rw [this]; unfold odd1; omega
theorem div_in {r1 r2 d mant k : Nat} {q : Int} {s t : Bool} (h1 : Whole r1 d) (h2 : Whole r2 (10 ^ k)) (hd : 0 < d) (hk : k ≤ 22) (hf : IsF mant q) (hV : InF mant q (T d (-k))) (hr : rungOf mant q < 9218868437227405312) :
    double.div (double.word s r1) (double.word t r2) = some (double.word (s ^^ t) (rungOf mant q)) := by
  unfold Format.div
  rw [read_rung s r1 h1.fin, read_rung t r2 h2.fin]
  have hn0 : ¬ magOf r2 = 0 := by have := h2.m1; omega
  have hq : Datum.quotient (double.fractionBits + 2) (.number s (magOf r1) ((plcOf r1 : Int) - 1074)) (.number t (magOf r2) ((plcOf r2 : Int) - 1074))
      = some (.number (s ^^ t) (2 * (magOf r1 <<< 54 / magOf r2) + (magOf r1 <<< 54 % magOf r2 != 0).toNat) ((plcOf r1 : Int) - 1074 - ((plcOf r2 : Int) - 1074) - (54 : Nat) - 1)) := by
    unfold Datum.quotient
    simp only [if_neg hn0]
    rw [fb, log2_norm h1.m1 h1.m2, log2_norm h2.m1 h2.m2]
  rw [hq]
  show some (double.nearest _ _ _) = _
  rw [unr_two _ _ (by omega)]
  have hk10 : (10 ^ k).log2 < 74 := by
    refine (Nat.log2_lt (Nat.ne_of_gt (Nat.pow_pos (by omega)))).2 (Nat.lt_of_le_of_lt (Nat.pow_le_pow_right (by omega) hk) (by decide))
  obtain ⟨p, hp⟩ : ∃ p : Nat, (p : Int) = (plcOf r1 : Int) - plcOf r2 + 1019 := ⟨(plcOf r1 + 1019 - plcOf r2 : Nat), by have := h1.log; have := h2.log; omega⟩
  have hp2 : 648 ≤ p := by have := h1.log; have := h2.log; omega
  rw [show (plcOf r1 : Int) - 1074 - ((plcOf r2 : Int) - 1074) - (54 : Nat) - 1 = (p : Int) - 1074 by omega, nearest_units]
  obtain ⟨j, hj⟩ : ∃ j, p = 648 + j := ⟨p - 648, by omega⟩
  have hD : 0 < magOf r2 := by omega
  have e1 := h1.eq
  have e2 := h2.eq
  -- the scale
  have hF : F 1 ((p : Int) - 1074) = magOf r2 * (2 ^ plcOf r2 * 2 ^ j * 10 ^ (400 - k)) := by
    unfold F
    obtain ⟨w, hw⟩ : ∃ w, w = 1074 := ⟨1074, rfl⟩
    rw [Nat.one_mul, ← Nat.mul_assoc, ← Nat.mul_assoc, e2, show ((p : Int) - 1074 + 1500).toNat = w + j by omega, Nat.pow_add 2 w, ← u1074_is w hw, t400_is (k + (400 - k)) (by omega), Nat.pow_add 10]
    generalize u1074 = u
    generalize 10 ^ (400 - k) = z
    generalize 10 ^ k = y
    generalize 2 ^ j = x
    ac_rfl
  have hR : 0 < 2 ^ plcOf r2 * 2 ^ j * 10 ^ (400 - k) := Nat.mul_pos (Nat.mul_pos (Nat.two_pow_pos _) (Nat.two_pow_pos _)) (Nat.pow_pos (by omega))
  have hVN : T d (-k) = 2 * (magOf r1 <<< 54) * (2 ^ plcOf r2 * 2 ^ j * 10 ^ (400 - k)) := by
    unfold T
    have hx : plcOf r2 + j + 55 = plcOf r1 + 426 := by omega
    have e3 : 2 * (magOf r1 <<< 54) * (2 ^ plcOf r2 * 2 ^ j * 10 ^ (400 - k)) = magOf r1 * 2 ^ (plcOf r2 + j + 55) * 10 ^ (400 - k) := by
      rw [Nat.shiftLeft_eq, Nat.pow_add, Nat.pow_add]
      generalize 10 ^ (400 - k) = z
      generalize 2 ^ j = y
      generalize 2 ^ plcOf r2 = x
      generalize magOf r1 = w
      rw [show (2 : Nat) ^ 55 = 2 * 2 ^ 54 by decide]
      generalize (2 : Nat) ^ 54 = v
      ac_rfl
    obtain ⟨w, hw⟩ : ∃ w, w = 1074 := ⟨1074, rfl⟩
    rw [e3, hx, Nat.pow_add, ← Nat.mul_assoc (magOf r1), e1, b1500_is (w + 426) (by omega), Nat.pow_add 2 w, ← u1074_is w hw, show (-(k : Int) + 400).toNat = 400 - k by omega]
    generalize 10 ^ (400 - k) = z
    generalize u1074 = u
    generalize (2 : Nat) ^ 426 = v
    ac_rfl
  have hS : 18014398509481984 ≤ unr (2 * (magOf r1 <<< 54)) (magOf r2) := by
    have := unr_lt (n := 2 * (magOf r1 <<< 54)) (t := 9007199254740992) hD
    have hm := h1.m1
    have hm2 := h2.m2
    rw [Nat.shiftLeft_eq] at this ⊢
    omega
  rw [rnd_unr hD hR hS hVN hF hf hV, Nat.min_eq_left (Nat.le_of_lt hr)]
end Go.Proofs.YtofndhmnofghaaaGreatDoor.Ut

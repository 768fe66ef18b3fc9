/- The text of digits is read as those digits. No condition. -/
import Derived.Test.YtofndhmnofghaaaGreatDoorUsj
import Derived.Lib.ItoaNum
namespace Go.Proofs.YtofndhmnofghaaaGreatDoor.Ut
open Go
set_option linter.unusedVariables false
set_option linter.unusedSimpArgs false

def tSgn (neg : Bool) : List UInt8 := if neg = true then [45] else []
def tFrac (ds : List UInt8) : List UInt8 := if 1 < ds.length then 46 :: ds.drop 1 else []
def tB8 (z : Int) : UInt8 := UInt8.ofNat z.toNat
def tPow (y : Int) : List UInt8 := if y < 10 then [48, tB8 (y + 48)] else if y < 100 then [tB8 (y / 10 + 48), tB8 (y % 10 + 48)] else [tB8 (y / 100 + 48), tB8 (y / 10 % 10 + 48), tB8 (y % 10 + 48)]
def tExp (y : Int) : List UInt8 := if y < 0 then 45 :: tPow (-y) else 43 :: tPow y
def tE (neg : Bool) (ds : List UInt8) (x : Int) : List UInt8 := tSgn neg ++ [ds.headD 48] ++ tFrac ds ++ [101] ++ tExp (if ds.length = 0 then 0 else x)
def tF (neg : Bool) (ds : List UInt8) (dp : Int) : List UInt8 :=
  if 0 < dp then
    if dp.toNat < ds.length then tSgn neg ++ ds.take dp.toNat ++ [46] ++ ds.drop dp.toNat else tSgn neg ++ ds ++ List.replicate (dp.toNat - ds.length) 48
  else if 0 < ds.length + (-dp).toNat then tSgn neg ++ [48] ++ [46] ++ List.replicate (-dp).toNat 48 ++ ds else tSgn neg ++ [48]
def tG (neg : Bool) (ds : List UInt8) (dp : Int) : List UInt8 := if dp - 1 < -4 ∨ (-4 ≤ dp - 1 ∧ 6 ≤ dp - 1) then tE neg ds (dp - 1) else tF neg ds dp

theorem read_sgn (neg : Bool) (c : UInt8) (l : List UInt8) (h : 48 ≤ c.toNat) : readF (tSgn neg ++ c :: l) = bodyR neg (c :: l) := by
  cases neg with
  | true => show readF (45 :: c :: l) = _; rw [readF, if_neg (by decide), if_pos (by decide)]
  | false => show readF (c :: l) = _; rw [readF, if_neg (by omega), if_neg (by omega)]
theorem b8_is (k : Nat) (h : k < 10) : 48 ≤ (tB8 ((k : Int) + 48)).toNat ∧ (tB8 ((k : Int) + 48)).toNat ≤ 57 ∧ (tB8 ((k : Int) + 48)).toNat - 48 = k := by
  have e : (tB8 ((k : Int) + 48)).toNat = k + 48 := by
    unfold tB8
    rw [show ((k : Int) + 48).toNat = k + 48 by omega, UInt8.toNat_ofNat']
    omega
  omega
theorem pow_is (y : Nat) (h : y < 1000) : ∃ c l, tPow (y : Int) = c :: l ∧ 48 ≤ c.toNat ∧ c.toNat ≤ 57 ∧ expL (c :: l) 0 = (y, []) := by
  unfold tPow
  by_cases h1 : y < 10
  · rw [if_pos (by omega)]
    have a := b8_is y h1
    refine ⟨_, _, rfl, by decide, by decide, ?_⟩
    rw [expL_digs _ 0 (by intro c hc; simp only [List.mem_cons, List.not_mem_nil, or_false] at hc; rcases hc with rfl | rfl; exact ⟨by decide, by decide⟩; exact ⟨a.1, a.2.1⟩) (by simp)]
    rw [valL_cons, valL_cons, a.2.2]
    simp [valL]
  · rw [if_neg (by omega)]
    by_cases h2 : y < 100
    · rw [if_pos (by omega)]
      have a := b8_is (y / 10) (by omega)
      have b := b8_is (y % 10) (by omega)
      rw [show ((y / 10 : Nat) : Int) = (y : Int) / 10 by omega] at a
      rw [show ((y % 10 : Nat) : Int) = (y : Int) % 10 by omega] at b
      refine ⟨_, _, rfl, a.1, a.2.1, ?_⟩
      rw [expL_digs _ 0 (by intro c hc; simp only [List.mem_cons, List.not_mem_nil, or_false] at hc; rcases hc with rfl | rfl; exact ⟨a.1, a.2.1⟩; exact ⟨b.1, b.2.1⟩) (by simp)]
      rw [valL_cons, valL_cons, a.2.2, b.2.2]
      show ((0 * 10 + y / 10) * 10 + y % 10, []) = _
      rw [show (0 * 10 + y / 10) * 10 + y % 10 = y by omega]
    · rw [if_neg (by omega)]
      have a := b8_is (y / 100) (by omega)
      have b := b8_is (y / 10 % 10) (by omega)
      have d := b8_is (y % 10) (by omega)
      rw [show ((y / 100 : Nat) : Int) = (y : Int) / 100 by omega] at a
      rw [show ((y / 10 % 10 : Nat) : Int) = (y : Int) / 10 % 10 by omega] at b
      rw [show ((y % 10 : Nat) : Int) = (y : Int) % 10 by omega] at d
      refine ⟨_, _, rfl, a.1, a.2.1, ?_⟩
      rw [expL_digs _ 0 (by intro c hc; simp only [List.mem_cons, List.not_mem_nil, or_false] at hc; rcases hc with rfl | rfl | rfl; exact ⟨a.1, a.2.1⟩; exact ⟨b.1, b.2.1⟩; exact ⟨d.1, d.2.1⟩) (by simp)]
      rw [valL_cons, valL_cons, valL_cons, a.2.2, b.2.2, d.2.2]
      show (((0 * 10 + y / 100) * 10 + y / 10 % 10) * 10 + y % 10, []) = _
      rw [show ((0 * 10 + y / 100) * 10 + y / 10 % 10) * 10 + y % 10 = y by omega]
theorem exp_is (r : Rd) (neg : Bool) (y : Int) (h1 : -1000 < y) (h2 : y < 1000) : sgnR r neg (tExp y) = outR r neg (dpR r + y) [] := by
  unfold tExp
  by_cases h : y < 0
  · rw [if_pos h]
    obtain ⟨k, hk⟩ : ∃ k : Nat, -y = (k : Int) := ⟨(-y).toNat, by omega⟩
    obtain ⟨c, l, e1, e2, e3, e4⟩ := pow_is k (by omega)
    rw [hk, e1, sgnR, if_neg (by decide), if_pos (by decide), powR, if_pos ⟨e2, e3⟩, e4, if_pos rfl]
    show outR r neg (dpR r + -(k : Int)) [] = _
    rw [← hk, Int.neg_neg]
  · rw [if_neg h]
    obtain ⟨k, hk⟩ : ∃ k : Nat, y = (k : Int) := ⟨y.toNat, by omega⟩
    obtain ⟨c, l, e1, e2, e3, e4⟩ := pow_is k (by omega)
    rw [hk, e1, sgnR, if_pos (by decide), powR, if_pos ⟨e2, e3⟩, e4, if_neg (by decide)]
/-- digits of a number, the first no nought -/
structure Spell (ds : List UInt8) : Prop where
  dg : Dgt ds
  ne : ds ≠ []
  hd : ds.headD 0 ≠ 48
  len : ds.length ≤ 18
  lt : valL ds 0 < 144115188075855872
theorem Spell.pos {ds : List UInt8} (h : Spell ds) : 0 < valL ds 0 ∧ valL ds 0 < 144115188075855872 := by
  refine ⟨?_, h.lt⟩
  obtain ⟨dg, ne, hd, len, hlt⟩ := h
  cases ds with
  | nil => exact absurd rfl ne
  | cons c l =>
    rw [valL_cons]
    have hc := dg c (List.mem_cons_self ..)
    have : c.toNat ≠ 48 := fun hh => hd (by rw [List.headD_cons]; exact UInt8.toNat_inj.1 hh)
    exact Nat.lt_of_lt_of_le (by omega) (valL_le l _)
def ReadsAs (text : List UInt8) (neg : Bool) (V : Nat) : Prop := ∃ z x, readF text = ⟨z, x, neg, false, [], true⟩ ∧ 0 < z ∧ z < 144115188075855872 ∧ -400 ≤ x ∧ T z x = V
theorem read_e (neg : Bool) (ds : List UInt8) (dp : Int) (h : Spell ds) (h1 : -380 ≤ dp) (h2 : dp ≤ 380) : ReadsAs (tE neg ds (dp - 1)) neg (T (valL ds 0) (dp - ds.length)) := by
  have hp := h.pos
  obtain ⟨dg, ne, hd, len, hlt⟩ := h
  cases ds with
  | nil => exact absurd rfl ne
  | cons c l =>
    have hc := dg c (List.mem_cons_self ..)
    have hcl : Dgt l := fun c hc => dg c (List.mem_cons_of_mem _ hc)
    rw [List.headD_cons] at hd
    rw [List.length_cons] at len
    unfold tE
    rw [List.headD_cons, if_neg (by simp), List.append_assoc, List.append_assoc, List.append_assoc, List.singleton_append]
    refine ⟨valL (c :: l) 0, dp - (c :: l).length, ?_, hp.1, hp.2, by rw [List.length_cons]; omega, rfl⟩
    rw [read_sgn neg c _ hc.1]
    unfold bodyR
    have e0 := rdL_digs [c] (tFrac (c :: l) ++ ([101] ++ tExp (dp - 1))) ⟨0, 0, 0, false, false, false, 0⟩ (fun d hdm => by rw [List.mem_singleton.1 hdm]; exact hc) (fun _ => hd) rfl (by simp)
    rw [List.singleton_append] at e0
    rw [e0]
    clear e0
    have fin : ∀ r : Rd, r.sg = true → restR neg (rdL ([101] ++ tExp (dp - 1)) r).1 (rdL ([101] ++ tExp (dp - 1)) r).2 = outR r neg (dpR r + (dp - 1)) [] := fun r hr => by
      rw [List.singleton_append, rdL, if_neg (by decide), if_neg (by decide)]
      show restR neg r (101 :: tExp (dp - 1)) = _
      rw [restR, if_neg (by rw [hr]; decide), if_pos (.inl (by decide)), exp_is _ _ _ (by omega) (by omega)]
    by_cases hl : l = []
    · subst hl
      have ef : tFrac [c] = [] := by unfold tFrac; rw [if_neg (by simp)]
      rw [ef, List.nil_append, fin _ rfl]
      have hz : ¬ valL [c] 0 = 0 := by omega
      unfold outR
      simp only [if_neg hz]
      unfold dpR
      simp only [List.length_cons, List.length_nil]
      congr 1
      · simp; omega
    · have ef : tFrac (c :: l) = 46 :: l := by
        unfold tFrac
        rw [if_pos (by have := List.length_pos_iff.2 hl; rw [List.length_cons]; omega)]
        rfl
      rw [ef, List.cons_append, rdL_dot _ _ rfl, rdL_digs l _ _ hcl (fun h => absurd h (by simp)) rfl (by simp; omega), fin _ rfl]
      have hz : ¬ valL l (valL [c] 0) = 0 := by
        rw [← valL_app]; show ¬ valL (c :: l) 0 = 0; omega
      unfold outR
      simp only [if_neg hz]
      unfold dpR
      simp only [List.length_cons, List.length_nil]
      rw [← valL_app, List.singleton_append]
      congr 1
      · simp; omega
end Go.Proofs.YtofndhmnofghaaaGreatDoor.Ut

namespace Go.Proofs.YtofndhmnofghaaaGreatDoor.Ut
open Go
set_option linter.unusedVariables false
set_option linter.unusedSimpArgs false

theorem Dgt.app {a b : List UInt8} (ha : Dgt a) (hb : Dgt b) : Dgt (a ++ b) := fun c hc => by
  rcases List.mem_append.1 hc with h | h
  · exact ha c h
  · exact hb c h
theorem Dgt.zeros (k : Nat) : Dgt (List.replicate k 48) := fun c hc => by
  rw [(List.mem_replicate.1 hc).2]; exact ⟨by decide, by decide⟩
theorem read_cons (neg : Bool) (text : List UInt8) (h : 48 ≤ (text.headD 0).toNat) : readF (tSgn neg ++ text) = bodyR neg text := by
  cases text with
  | nil => exact absurd h (by decide)
  | cons c l => exact read_sgn neg c l h
theorem read_f (neg : Bool) (ds : List UInt8) (dp : Int) (h : Spell ds) (h1 : -6 ≤ dp) (h2 : dp ≤ 6) : ReadsAs (tF neg ds dp) neg (T (valL ds 0) (dp - ds.length)) := by
  have hp := h.pos
  obtain ⟨dg, ne, hd, len, hlt0⟩ := h
  have hlen := List.length_pos_iff.2 ne
  have hhd : 48 ≤ (ds.headD 0).toNat := by
    cases ds with
    | nil => exact absurd rfl ne
    | cons c l => exact (dg c (List.mem_cons_self ..)).1
  have hz : ¬ valL ds 0 = 0 := by omega
  unfold tF
  by_cases hdp : 0 < dp
  · rw [if_pos hdp]
    obtain ⟨k, hk⟩ : ∃ k : Nat, dp = (k : Int) := ⟨dp.toNat, by omega⟩
    rw [show dp.toNat = k by omega]
    by_cases hkl : k < ds.length
    · rw [if_pos hkl]
      refine ⟨valL ds 0, dp - ds.length, ?_, hp.1, hp.2, by omega, rfl⟩
      have hdt : Dgt (ds.take k) := fun c hc => dg c (List.mem_of_mem_take hc)
      have hdd : Dgt (ds.drop k) := fun c hc => dg c (List.mem_of_mem_drop hc)
      have lt : (ds.take k).length = k := by rw [List.length_take]; omega
      have ld : (ds.drop k).length = ds.length - k := List.length_drop ..
      have hth : (ds.take k).headD 0 = ds.headD 0 := by
        cases ds with
        | nil => exact absurd rfl ne
        | cons c l => cases k with
          | zero => omega
          | succ j => rfl
      have hne : ds.take k ≠ [] := fun h => by rw [h] at lt; simp at lt; omega
      rw [List.append_assoc, List.append_assoc, read_cons _ _ (by
        have : (ds.take k ++ ([46] ++ ds.drop k)).headD 0 = (ds.take k).headD 0 := by
          cases hh : ds.take k with
          | nil => exact absurd hh hne
          | cons c l => rfl
        rw [this, hth]; exact hhd)]
      unfold bodyR
      rw [rdL_digs (ds.take k) _ _ hdt (fun _ => by rw [hth]; exact hd) rfl (by rw [lt]; simp; omega), List.singleton_append, rdL_dot _ _ rfl]
      have e1 := rdL_digs (ds.drop k) [] { z := valL (ds.take k) 0, nd := 0 + (ds.take k).length, nm := 0 + (ds.take k).length, sd := true, sg := false || !(ds.take k).isEmpty, tr := false, dp := ((0 + (ds.take k).length : Nat) : Int) } hdd (fun h => absurd h (by simp only; omega)) rfl (by simp only; omega)
      rw [List.append_nil] at e1
      rw [e1, rdL]
      have hem : (ds.take k).isEmpty = false := by
        cases hh : ds.take k with
        | nil => exact absurd hh hne
        | cons c l => rfl
      simp only [hem, Bool.not_false, Bool.or_true, Bool.true_or, lt, ld, Nat.zero_add]
      rw [restR, if_neg (by simp)]
      have hv : valL (ds.drop k) (valL (ds.take k) 0) = valL ds 0 := by rw [← valL_app, List.take_append_drop]
      unfold outR dpR
      simp only [hv, if_neg hz, if_pos]
      congr 1
      omega
    · rw [if_neg hkl]
      have hv : valL (ds ++ List.replicate (k - ds.length) 48) 0 = valL ds 0 * 10 ^ (k - ds.length) := by rw [valL_app, valL_zeros]
      have hdg := dg.app (Dgt.zeros (k - ds.length))
      have hl : (ds ++ List.replicate (k - ds.length) 48).length = k := by rw [List.length_append, List.length_replicate]; omega
      have hlt := valL_lt _ hdg 0 0 (by omega)
      rw [hl, hv] at hlt
      have hT : T (valL ds 0 * 10 ^ (k - ds.length)) 0 = T (valL ds 0) (dp - ds.length) := by
        rw [← T_up _ (by omega), show (0 : Int) + ((k - ds.length : Nat) : Int) = dp - ds.length by omega]
      have hpos : 0 < valL ds 0 * 10 ^ (k - ds.length) := Nat.mul_pos hp.1 (Nat.pow_pos (by omega))
      refine ⟨valL ds 0 * 10 ^ (k - ds.length), 0, ?_, hpos, ?_, by omega, hT⟩
      · rw [List.append_assoc, read_cons _ _ (by
          cases ds with
          | nil => exact absurd rfl ne
          | cons c l => exact hhd)]
        unfold bodyR
        have e1 := rdL_digs (ds ++ List.replicate (k - ds.length) 48) [] ⟨0, 0, 0, false, false, false, 0⟩ hdg (fun _ => by
          cases ds with
          | nil => exact absurd rfl ne
          | cons c l => exact hd) rfl (by rw [hl]; simp only; omega)
        rw [List.append_nil] at e1
        rw [e1, rdL, hl, hv]
        have hem : (ds ++ List.replicate (k - ds.length) 48).isEmpty = false := by
          cases ds with
          | nil => exact absurd rfl ne
          | cons c l => rfl
        simp only [hem, Bool.not_false, Bool.or_true, Nat.zero_add]
        rw [restR, if_neg (by simp)]
        unfold outR dpR
        simp only [if_neg (Nat.ne_of_gt hpos)]
        congr 1
        simp
      · exact Nat.lt_trans hlt (Nat.lt_of_le_of_lt (Nat.pow_le_pow_right (by omega) (show 0 + k ≤ 6 by omega)) (by decide))
  · rw [if_neg hdp, if_pos (by omega)]
    obtain ⟨k, hk⟩ : ∃ k : Nat, -dp = (k : Int) := ⟨(-dp).toNat, by omega⟩
    rw [show (-dp).toNat = k by omega]
    refine ⟨valL ds 0, dp - ds.length, ?_, hp.1, hp.2, by omega, rfl⟩
    rw [List.append_assoc, List.append_assoc, List.append_assoc, read_cons _ _ (by show 48 ≤ (48 : UInt8).toNat; decide)]
    unfold bodyR
    have e1 := rdL_zeros 1 ([46] ++ (List.replicate k 48 ++ ds)) ⟨0, 0, 0, false, false, false, 0⟩ rfl
    rw [show List.replicate 1 (48 : UInt8) = [48] by rfl] at e1
    rw [e1, List.singleton_append, rdL_dot _ _ rfl, rdL_zeros k ds _ rfl]
    have e2 := rdL_digs ds [] { z := 0, nd := 0, nm := 0, sd := true, sg := (false || decide (0 < 1)) || decide (0 < k), tr := false, dp := ((0 : Nat) : Int) - (k : Int) } dg (fun _ => hd) rfl (by simp only; omega)
    rw [List.append_nil] at e2
    rw [e2, rdL]
    simp only [Nat.zero_add]
    rw [restR, if_neg (by simp)]
    unfold outR dpR
    simp only [if_neg hz, if_pos]
    congr 1
    omega
theorem read_g (neg : Bool) (ds : List UInt8) (dp : Int) (h : Spell ds) (h1 : -380 ≤ dp) (h2 : dp ≤ 380) : ReadsAs (tG neg ds dp) neg (T (valL ds 0) (dp - ds.length)) := by
  unfold tG
  by_cases hc : dp - 1 < -4 ∨ (-4 ≤ dp - 1 ∧ 6 ≤ dp - 1)
  · rw [if_pos hc]; exact read_e neg ds dp h h1 h2
  · rw [if_neg hc]; exact read_f neg ds dp h (by omega) (by omega)
end Go.Proofs.YtofndhmnofghaaaGreatDoor.Ut

namespace Go.Proofs.YtofndhmnofghaaaGreatDoor.Ut
open Go
set_option linter.unusedVariables false
set_option linter.unusedSimpArgs false

def tDgs (u nd : Nat) : List UInt8 := (List.range nd).map fun t => Lib.dg u (nd - 1 - t)
def tTrim (u nd : Nat) : Nat → Nat
  | 0 => 0
  | k + 1 => if (Lib.dg u (nd - 1 - k) == 48) = true then tTrim u nd k else k + 1
theorem dg_val (u j : Nat) : (Lib.dg u j).toNat = 48 + u / 10 ^ j % 10 := by
  unfold Lib.dg
  rw [UInt8.toNat_ofNat']
  omega
theorem tTrim_le (u nd k : Nat) : tTrim u nd k ≤ k := by
  induction k with
  | zero => exact Nat.le_refl _
  | succ k ih => unfold tTrim; split <;> omega
theorem tTrim_div (u nd : Nat) : ∀ k, k ≤ nd → u % 10 ^ (nd - k) = 0 → u % 10 ^ (nd - tTrim u nd k) = 0
  | 0, _, h => h
  | k + 1, hk, h => by
    unfold tTrim
    by_cases h0 : (Lib.dg u (nd - 1 - k) == 48) = true
    · rw [if_pos h0]
      refine tTrim_div u nd k (by omega) ?_
      have hv := dg_val u (nd - 1 - k)
      rw [show Lib.dg u (nd - 1 - k) = 48 by simpa using h0, show (48 : UInt8).toNat = 48 by decide] at hv
      have e : nd - k = (nd - (k + 1)) + 1 := by omega
      rw [e, Nat.pow_succ, Nat.mod_mul, h, show nd - (k + 1) = nd - 1 - k by omega, show u / 10 ^ (nd - 1 - k) % 10 = 0 by omega, Nat.mul_zero]
    · rw [if_neg h0]; exact h
theorem take_dgs (u nd k : Nat) (h : k ≤ nd) : (tDgs u nd).take k = (List.range k).map fun t => Lib.dg u (nd - 1 - t) := by
  unfold tDgs
  rw [← List.map_take, List.take_range, Nat.min_eq_left h]
theorem val_dgs (u nd : Nat) (hu : u < 10 ^ nd) : ∀ k, k ≤ nd → valL ((List.range k).map fun t => Lib.dg u (nd - 1 - t)) 0 = u / 10 ^ (nd - k)
  | 0, _ => by
    rw [Nat.sub_zero, Nat.div_eq_of_lt hu]; rfl
  | k + 1, h => by
    rw [List.range_succ, List.map_append, valL_app, val_dgs u nd hu k (by omega)]
    show valL [Lib.dg u (nd - 1 - k)] (u / 10 ^ (nd - k)) = _
    rw [valL_cons, dg_val]
    show u / 10 ^ (nd - k) * 10 + _ = _
    rw [show nd - k = (nd - (k + 1)) + 1 by omega, Nat.pow_succ, ← Nat.div_div_eq_div_mul, show nd - 1 - k = nd - (k + 1) by omega]
    omega
/-- what the digits of a number come to -/
theorem spell_of {u : Nat} (hu : 0 < u) (hlt : u < 144115188075855872) (E : Int) (hE : -400 ≤ E) :
    Spell ((tDgs u (Lib.nDigits u)).take (tTrim u (Lib.nDigits u) (Lib.nDigits u))) ∧ Lib.nDigits u ≤ 18 ∧
      T (valL ((tDgs u (Lib.nDigits u)).take (tTrim u (Lib.nDigits u) (Lib.nDigits u))) 0) ((Lib.nDigits u : Int) + E - ((tDgs u (Lib.nDigits u)).take (tTrim u (Lib.nDigits u) (Lib.nDigits u))).length) = T u E := by
  have h10 := Lib.lt_pow_nDigits u
  have hpos := Lib.nDigits_pos u
  have hlow : 10 ^ (Lib.nDigits u - 1) ≤ u := by
    rcases Nat.lt_or_ge u (10 ^ (Lib.nDigits u - 1)) with h | h
    · exfalso
      by_cases h1 : Lib.nDigits u = 1
      · rw [h1] at h; simp at h; omega
      · obtain ⟨j, hj1, hj2⟩ : ∃ j, 10 ^ j ≤ u ∧ u < 10 ^ (j + 1) := by
          have : ∀ k, u < 10 ^ k → ∃ j, 10 ^ j ≤ u ∧ u < 10 ^ (j + 1) := fun k => by
            induction k with
            | zero => intro h; rw [Nat.pow_zero] at h; omega
            | succ k ih =>
              intro h
              rcases Nat.lt_or_ge u (10 ^ k) with h2 | h2
              · exact ih h2
              · exact ⟨k, h2, h⟩
          exact this _ h
        have hn := Lib.nDigits_unique j u hj1 hj2
        rw [hn, Nat.add_sub_cancel] at h
        omega
    · exact h
  have h18 : Lib.nDigits u ≤ 18 := by
    rcases Nat.lt_or_ge 18 (Lib.nDigits u) with h | h
    · exfalso
      have : 10 ^ 18 ≤ 10 ^ (Lib.nDigits u - 1) := Nat.pow_le_pow_right (by omega) (by omega)
      omega
    · exact h
  generalize Lib.nDigits u = nd at *
  have hk := tTrim_le u nd nd
  have hd := tTrim_div u nd nd (Nat.le_refl _) (by rw [Nat.sub_self]; exact Nat.mod_one u)
  generalize tTrim u nd nd = k at *
  have hk1 : 1 ≤ k := by
    rcases Nat.eq_zero_or_pos k with h | h
    · subst h
      rw [Nat.sub_zero, Nat.mod_eq_of_lt h10] at hd
      omega
    · exact h
  have hlen : ((tDgs u nd).take k).length = k := by rw [take_dgs u nd k hk, List.length_map, List.length_range]
  have hval : valL ((tDgs u nd).take k) 0 = u / 10 ^ (nd - k) := by rw [take_dgs u nd k hk]; exact val_dgs u nd h10 k hk
  have hmul : u / 10 ^ (nd - k) * 10 ^ (nd - k) = u := by
    have := Nat.div_add_mod u (10 ^ (nd - k))
    rw [hd, Nat.add_zero, Nat.mul_comm] at this
    exact this
  refine ⟨⟨?_, ?_, ?_, by omega, ?_⟩, h18, ?_⟩
  · intro c hc
    rw [take_dgs u nd k hk] at hc
    obtain ⟨t, _, rfl⟩ := List.mem_map.1 hc
    have := dg_val u (nd - 1 - t)
    omega
  · intro h
    rw [h] at hlen
    simp at hlen
    omega
  · obtain ⟨j, rfl⟩ : ∃ j, k = j + 1 := ⟨k - 1, by omega⟩
    rw [take_dgs u nd _ hk, List.range_succ_eq_map, List.map_cons, List.headD_cons]
    intro h
    have hv := dg_val u (nd - 1 - 0)
    rw [h, show (48 : UInt8).toNat = 48 by decide, Nat.sub_zero] at hv
    have h1 : 1 ≤ u / 10 ^ (nd - 1) := (Nat.le_div_iff_mul_le (Nat.pow_pos (by omega))).2 (by omega)
    have h2 : u / 10 ^ (nd - 1) < 10 := (Nat.div_lt_iff_lt_mul (Nat.pow_pos (by omega))).2 (by
      have : 10 * 10 ^ (nd - 1) = 10 ^ nd := by rw [Nat.mul_comm, ← Nat.pow_succ, show (nd - 1).succ = nd by omega]
      omega)
    omega
  · rw [hval]; exact Nat.lt_of_le_of_lt (Nat.div_le_self ..) hlt
  · rw [hlen, hval, show (nd : Int) + E - k = E + ((nd - k : Nat) : Int) by omega, T_up _ hE, hmul]
end Go.Proofs.YtofndhmnofghaaaGreatDoor.Ut

/- Lemmas. No condition. -/
import Derived.Test.YtofndhmnofghaaaGreatDoorRows
import Derived.WalkKit
import Derived.WalkLawsBesides
import Derived.WalkSpells
import Derived.RegionTactic
import Derived.Deep.QuietTactic
import Derived.BigQuiet
import Derived.Deep.LoopGhost
import Derived.Lib.Hide
import Derived.Handy
import Ieee.Arith
import Derived.Test.YtofndhmnofghaaaGreatDoorFoj
import Derived.Deep.RegionHeld3
namespace Go.Proofs.YtofndhmnofghaaaGreatDoor
open Go.RowKit Ieee
set_option linter.unusedVariables false

/-! points, and the bits of numbers -/
abbrev Pt := Int × Int
def p0 : Pt := (0, 0)
def noneB (v : Int) : Bool := (v / 4503599627370496 % 2048 == 2047) && (v % 4503599627370496 != 0)
def normI (v : Int) : Int := if (noneB v && (v != 9218868437227405314)) = true then 9221120237041090561 else v
def tmB (t : Int) : Bool := decide (-1125899906842624 ≤ t) && decide (t ≤ 1125899906842624)
def Bits (v : Int) : Prop := 0 ≤ v ∧ v < 18446744073709551616

theorem norm_bits {v : Int} (h : Bits v) : Bits (normI v) := by
  unfold normI
  split
  · exact ⟨by omega, by omega⟩
  · exact h
theorem norm_norm (v : Int) : normI (normI v) = normI v := by
  by_cases h : (noneB v && (v != 9218868437227405314)) = true
  · have e : normI v = 9221120237041090561 := by unfold normI; rw [if_pos h]
    rw [e]
    unfold normI
    split
    · rfl
    · rfl
  · have e : normI v = v := by unfold normI; rw [if_neg h]
    rw [e, e]

/-- is it a number, by its bits? -/
theorem order_self (v : Nat) (hv : v < 18446744073709551616) : (double.order v v == some .eq) = !noneB v := by
  have b1 : double.binade = 4503599627370496 := by decide
  have b2 : double.infRung = 9218868437227405312 := by decide
  have b3 : double.signWeight = 9223372036854775808 := by decide
  unfold Format.order
  unfold Format.read
  rw [b1, b2, b3]
  dsimp only
  have hn : noneB v = decide (9218868437227405312 < v % 9223372036854775808) := by
    unfold noneB
    rw [Bool.eq_iff_iff]
    simp only [Bool.and_eq_true, beq_iff_eq, bne_iff_ne, decide_eq_true_eq]
    omega
  rw [hn]
  by_cases h1 : v % 9223372036854775808 < 4503599627370496
  · rw [if_pos h1, decide_eq_false (by omega)]
    simp [Datum.order]
  · rw [if_neg h1]
    by_cases h2 : v % 9223372036854775808 < 9218868437227405312
    · rw [if_pos h2, decide_eq_false (by omega)]
      simp [Datum.order]
    · rw [if_neg h2]
      by_cases h3 : v % 9223372036854775808 = 9218868437227405312
      · rw [if_pos h3, decide_eq_false (by omega)]
        simp [Datum.order]
      · rw [if_neg h3, decide_eq_true (by omega)]
        simp [Datum.order]

theorem frombits (n : Nat) (w : World) : (callFunc 19 #[.int .u64 (n : Int)]).run Tryz.prog w = .ok (.value (.float .f64 n)) w := by kernel_rfl
theorem isnum_any (x : Nat) (r : Bool) (h : (double.order x x == some .eq) = r) (w : World) : Calls Tryz.prog 18 #[.float .f64 x] w fun e w' => e = .returned (.bool r) ∧ w = w' := by
  have h' : (FloatKind.f64.format.order x x == some .eq) = r := h
  clear h
  go_enter Tryz.func18, Tryz.ntmps18
  go_wp2
  go_ret
  exact ⟨rfl, rfl⟩
theorem norm_is (x : Nat) (hx : x < 18446744073709551616) (w : World) : Calls Tryz.prog 7 #[.int .u64 (x : Int)] w fun e w' => e = .returned (.int .u64 (normI (x : Int))) ∧ w = w' := by
  have H := Lib.hid (fun r h w => isnum_any x r h w)
  have hb := fun w => frombits x w
  have ho := order_self x hx
  by_cases h1 : (x : Int) = 9218868437227405314
  · have hne : ((x : Int) == 9218868437227405314) = true := beq_iff_eq.2 h1
    have e : normI (x : Int) = (x : Int) := by unfold normI; rw [if_neg]; rw [h1]; decide
    rw [e]
    clear ho H h1 e
    go_enter Tryz.func7, Tryz.ntmps7
    go_wp2
    go_ret
    exact ⟨rfl, rfl⟩
  · have hne : ((x : Int) == 9218868437227405314) = false := beq_eq_false_iff_ne.2 h1
    have hne2 : ((x : Int) != 9218868437227405314) = true := by simpa using h1
    cases hn : noneB (x : Int) with
    | true =>
      have e : normI (x : Int) = 9221120237041090561 := by unfold normI; rw [if_pos (by rw [hn, hne2]; rfl)]
      rw [e]
      rw [hn] at ho
      have H2 := Lib.hid (H.out _ ho)
      clear ho H h1 e hn hne2
      go_enter Tryz.func7, Tryz.ntmps7
      go_wp2_with fail
      refine (H2.out _).mono ?_
      rintro e w1 ⟨rfl, rfl⟩
      go_wp2
      go_ret
      exact ⟨rfl, rfl⟩
    | false =>
      have e : normI (x : Int) = (x : Int) := by unfold normI; rw [if_neg (by rw [hn]; simp)]
      rw [e]
      rw [hn] at ho
      have H2 := Lib.hid (H.out _ ho)
      clear ho H h1 e hn hne2
      go_enter Tryz.func7, Tryz.ntmps7
      go_wp2_with fail
      refine (H2.out _).mono ?_
      rintro e w1 ⟨rfl, rfl⟩
      go_wp2
      go_ret
      exact ⟨rfl, rfl⟩
theorem norm_any (v : Int) (hv : Bits v) (w : World) : Calls Tryz.prog 7 #[.int .u64 v] w fun e w' => e = .returned (.int .u64 (normI v)) ∧ w = w' := by
  obtain ⟨n, rfl⟩ : ∃ n : Nat, v = (n : Int) := ⟨v.toNat, by have := hv.1; omega⟩
  exact norm_is n (by have := hv.2; omega) w
end Go.Proofs.YtofndhmnofghaaaGreatDoor

namespace Go.Proofs.YtofndhmnofghaaaGreatDoor
open Go.RowKit Ieee
set_option linter.unusedVariables false

/-- where bits stand in order -/
def key (v : Int) : Int := if noneB v = true then -(Fl.val 9218868437227405312 : Int) - 1 else Fl.vi v.toNat
def cmpI (a b : Int) : Int := if key a < key b then -1 else if key b < key a then 1 else 0
theorem none_nan (v : Nat) (hv : v < 18446744073709551616) : noneB (v : Int) = Fl.nanB v := by
  unfold noneB Fl.nanB
  rw [Bool.eq_iff_iff]
  simp only [Bool.and_eq_true, beq_iff_eq, bne_iff_ne, decide_eq_true_eq]
  omega
theorem vi_lo (v : Nat) (h : Fl.nanB v = false) : -(Fl.val 9218868437227405312 : Int) ≤ Fl.vi v := by
  unfold Fl.nanB at h
  have h := of_decide_eq_false h
  have := Fl.val_mono (show v % 9223372036854775808 ≤ 9218868437227405312 by omega)
  unfold Fl.vi Fl.sv
  split <;> omega
theorem key_norm (v : Int) : key (normI v) = key v := by
  by_cases h : (noneB v && (v != 9218868437227405314)) = true
  · have e : normI v = 9221120237041090561 := by unfold normI; rw [if_pos h]
    rw [e]
    have hn : noneB v = true := by simp at h; exact h.1
    unfold key
    rw [hn]
    rfl
  · have e : normI v = v := by unfold normI; rw [if_neg h]
    rw [e]

def cmpB : Bool → Bool → Bool → Bool → Int
  | true, _, _, _ => -1
  | false, _, false, true => -1
  | false, true, _, _ => 1
  | false, false, true, false => 1
  | false, false, _, _ => 0
set_option maxRecDepth 100000 in
set_option maxHeartbeats 4000000 in
theorem cmp_walk (x y : Nat) (lt gt nx ny : Bool) (h1 : (double.order x y == some .lt) = lt) (h2 : (double.order x y == some .gt) = gt) (h3 : (double.order x x == some .eq) = nx) (h4 : (double.order y y == some .eq) = ny) (w : World) :
    Calls Tryz.prog 10 #[.int .u64 (x : Int), .int .u64 (y : Int)] w fun e w' => e = .returned (.int .i64 (cmpB lt gt nx ny)) ∧ w = w' := by
  have HX := Lib.hid (fun W => isnum_any x nx h3 W)
  have HY := Lib.hid (fun W => isnum_any y ny h4 W)
  have hbx := fun w => frombits x w
  have hby := fun w => frombits y w
  have h1' : (FloatKind.f64.format.order x y == some .lt) = lt := h1
  have h2' : (FloatKind.f64.format.order x y == some .gt) = gt := h2
  clear h1 h2 h3 h4
  cases lt <;> cases gt <;> cases nx <;> cases ny
  all_goals
    go_enter Tryz.func10, Tryz.ntmps10
    go_wp2_with (first | (go_at_call_of 18 (Value.float FloatKind.f64 x); refine (HX.out _).mono ?_; rintro e w1 ⟨rfl, rfl⟩) | (go_at_call_of 18 (Value.float FloatKind.f64 y); refine (HY.out _).mono ?_; rintro e w1 ⟨rfl, rfl⟩))
    go_ret
    exact ⟨rfl, rfl⟩
theorem cmp_math (nx ny : Bool) (u v M : Int) (lx : nx = false → -M ≤ u) (ly : ny = false → -M ≤ v) :
    cmpB ((if (nx || ny) = true then none else some (compare u v)) == some .lt) ((if (nx || ny) = true then none else some (compare u v)) == some .gt) (!nx) (!ny)
      = if (if nx = true then -M - 1 else u) < (if ny = true then -M - 1 else v) then -1 else if (if ny = true then -M - 1 else v) < (if nx = true then -M - 1 else u) then 1 else 0 := by
  cases nx <;> cases ny
  · have c : cmpB (compare u v == .lt) (compare u v == .gt) true true = if u < v then -1 else if v < u then 1 else 0 := by
      rcases Int.lt_trichotomy u v with h | h | h
      · rw [Int.compare_eq_lt.2 h, if_pos h]; rfl
      · subst h; rw [Int.compare_eq_eq.2 rfl, if_neg (by omega), if_neg (by omega)]; rfl
      · rw [Int.compare_eq_gt.2 h, if_neg (by omega), if_pos h]; rfl
    simpa using c
  · have := lx rfl
    have e1 : ¬ u < -M - 1 := by omega
    have e2 : -M - 1 < u := by omega
    simp [e1, e2, cmpB]
  · have := ly rfl
    have e2 : -M - 1 < v := by omega
    simp [e2, cmpB]
  · simp [cmpB]
theorem cmp_any (a b : Int) (ha : Bits a) (hb : Bits b) (w : World) : Calls Tryz.prog 10 #[.int .u64 a, .int .u64 b] w fun e w' => e = .returned (.int .i64 (cmpI a b)) ∧ w = w' := by
  obtain ⟨x, rfl⟩ : ∃ n : Nat, a = (n : Int) := ⟨a.toNat, by have := ha.1; omega⟩
  obtain ⟨y, rfl⟩ : ∃ n : Nat, b = (n : Int) := ⟨b.toNat, by have := hb.1; omega⟩
  have hx : x < 18446744073709551616 := by have := ha.2; omega
  have hy : y < 18446744073709551616 := by have := hb.2; omega
  refine (cmp_walk x y _ _ _ _ rfl rfl rfl rfl w).mono ?_
  rintro e w' ⟨rfl, rfl⟩
  refine ⟨?_, rfl⟩
  congr 2
  rw [order_self x hx, order_self y hy, Fl.order_vi x y hx hy, none_nan x hx, none_nan y hy]
  unfold cmpI key
  rw [none_nan x hx, none_nan y hy, Int.toNat_natCast, Int.toNat_natCast]
  exact cmp_math _ _ _ _ _ (vi_lo x) (vi_lo y)
end Go.Proofs.YtofndhmnofghaaaGreatDoor

import Derived.Test.YtencpjhpedenbaaGreatDoorRows
import Derived.WalkKit
import Derived.WalkLawsBesides
import Derived.WalkSpells
import Derived.RegionTactic
import Derived.Deep.QuietTactic
import Derived.BigQuiet
import Derived.Deep.LoopGhost
import Derived.Lib.Hide
import Derived.Handy
import Ieee.Arith
namespace Go.Proofs.YtencpjhpedenbaaGreatDoor.Vl
open Go.RowKit Ieee
set_option linter.unusedVariables false

/-! points, and the bits of numbers -/
abbrev Pt := Int × Int
def p0 : Pt := (0, 0)
def noneB (v : Int) : Bool := (v / 4503599627370496 % 2048 == 2047) && (v % 4503599627370496 != 0)
def normI (v : Int) : Int := if (noneB v && (v != 9218868437227405314)) = true then 9221120237041090561 else v
def tmB (t : Int) : Bool := decide (-1125899906842624 ≤ t) && decide (t ≤ 1125899906842624)
def Bits (v : Int) : Prop := 0 ≤ v ∧ v < 18446744073709551616

theorem norm_bits {v : Int} (h : Bits v) : Bits (normI v) := by
  unfold normI
  split
  · exact ⟨by omega, by omega⟩
  · exact h
theorem norm_norm (v : Int) : normI (normI v) = normI v := by
  by_cases h : (noneB v && (v != 9218868437227405314)) = true
  · have e : normI v = 9221120237041090561 := by unfold normI; rw [if_pos h]
    rw [e]
    unfold normI
    split
    · rfl
    · rfl
  · have e : normI v = v := by unfold normI; rw [if_neg h]
    rw [e, e]

/-- is it a number, by its bits? -/
theorem order_self (v : Nat) (hv : v < 18446744073709551616) : (double.order v v == some .eq) = !noneB v := by
  have b1 : double.binade = 4503599627370496 := by decide
  have b2 : double.infRung = 9218868437227405312 := by decide
  have b3 : double.signWeight = 9223372036854775808 := by decide
  unfold Format.order
  unfold Format.read
  rw [b1, b2, b3]
  dsimp only
  have hn : noneB v = decide (9218868437227405312 < v % 9223372036854775808) := by
    unfold noneB
    rw [Bool.eq_iff_iff]
    simp only [Bool.and_eq_true, beq_iff_eq, bne_iff_ne, decide_eq_true_eq]
    omega
  rw [hn]
  by_cases h1 : v % 9223372036854775808 < 4503599627370496
  · rw [if_pos h1, decide_eq_false (by omega)]
    simp [Datum.order]
  · rw [if_neg h1]
    by_cases h2 : v % 9223372036854775808 < 9218868437227405312
    · rw [if_pos h2, decide_eq_false (by omega)]
      simp [Datum.order]
    · rw [if_neg h2]
      by_cases h3 : v % 9223372036854775808 = 9218868437227405312
      · rw [if_pos h3, decide_eq_false (by omega)]
        simp [Datum.order]
      · rw [if_neg h3, decide_eq_true (by omega)]
        simp [Datum.order]

theorem frombits (n : Nat) (w : World) : (callFunc 30 #[.int .u64 (n : Int)]).run Tryz.prog w = .ok (.value (.float .f64 n)) w := by kernel_rfl
theorem isnum_any (x : Nat) (r : Bool) (h : (double.order x x == some .eq) = r) (w : World) : Calls Tryz.prog 45 #[.float .f64 x] w fun e w' => e = .returned (.bool r) ∧ w = w' := by
  have h' : (FloatKind.f64.format.order x x == some .eq) = r := h
  clear h
  go_enter Tryz.func45, Tryz.ntmps45
  go_wp2
  go_ret
  exact ⟨rfl, rfl⟩
theorem norm_is (x : Nat) (hx : x < 18446744073709551616) (w : World) : Calls Tryz.prog 28 #[.int .u64 (x : Int)] w fun e w' => e = .returned (.int .u64 (normI (x : Int))) ∧ w = w' := by
  have H := Lib.hid (fun r h w => isnum_any x r h w)
  have hb := fun w => frombits x w
  have ho := order_self x hx
  by_cases h1 : (x : Int) = 9218868437227405314
  · have hne : ((x : Int) == 9218868437227405314) = true := beq_iff_eq.2 h1
    have e : normI (x : Int) = (x : Int) := by unfold normI; rw [if_neg]; rw [h1]; decide
    rw [e]
    clear ho H h1 e
    go_enter Tryz.func28, Tryz.ntmps28
    go_wp2
    go_ret
    exact ⟨rfl, rfl⟩
  · have hne : ((x : Int) == 9218868437227405314) = false := beq_eq_false_iff_ne.2 h1
    have hne2 : ((x : Int) != 9218868437227405314) = true := by simpa using h1
    cases hn : noneB (x : Int) with
    | true =>
      have e : normI (x : Int) = 9221120237041090561 := by unfold normI; rw [if_pos (by rw [hn, hne2]; rfl)]
      rw [e]
      rw [hn] at ho
      have H2 := Lib.hid (H.out _ ho)
      clear ho H h1 e hn hne2
      go_enter Tryz.func28, Tryz.ntmps28
      go_wp2_with fail
      refine (H2.out _).mono ?_
      rintro e w1 ⟨rfl, rfl⟩
      go_wp2
      go_ret
      exact ⟨rfl, rfl⟩
    | false =>
      have e : normI (x : Int) = (x : Int) := by unfold normI; rw [if_neg (by rw [hn]; simp)]
      rw [e]
      rw [hn] at ho
      have H2 := Lib.hid (H.out _ ho)
      clear ho H h1 e hn hne2
      go_enter Tryz.func28, Tryz.ntmps28
      go_wp2_with fail
      refine (H2.out _).mono ?_
      rintro e w1 ⟨rfl, rfl⟩
      go_wp2
      go_ret
      exact ⟨rfl, rfl⟩
theorem norm_any (v : Int) (hv : Bits v) (w : World) : Calls Tryz.prog 28 #[.int .u64 v] w fun e w' => e = .returned (.int .u64 (normI v)) ∧ w = w' := by
  obtain ⟨n, rfl⟩ : ∃ n : Nat, v = (n : Int) := ⟨v.toNat, by have := hv.1; omega⟩
  exact norm_is n (by have := hv.2; omega) w
end Go.Proofs.YtencpjhpedenbaaGreatDoor.Vl

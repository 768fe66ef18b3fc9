import Derived.Test.YtaggmakaceafgaaGreatDoorA1

import Derived.Test.YtaggmakaceafgaaGreatDoorM4
import Derived.Lib.IndexBytes
namespace Go.Proofs.YtaggmakaceafgaaGreatDoor
open Go.RowKit Lx
set_option linter.unusedVariables false

/-! the kinds of bytes -/
theorem digit_any (c : UInt8) (w : World) : Calls Tryz.prog 37 #[.int .u8 (c.toNat : Int)] w fun e w' => e = .returned (.bool (Lx.isD c)) ∧ w = w' := by
  unfold Lx.isD
  generalize c.toNat = n
  by_cases h1 : 48 ≤ n
  · have d : (48 : Int) ≤ (n : Int) := by omega
    have d2 : decide (48 ≤ n) = true := decide_eq_true h1
    have hr : (decide (48 ≤ n) && decide (n ≤ 57)) = decide ((n : Int) ≤ 57) := by rw [d2, Bool.true_and]; exact decide_eq_decide.2 (by omega)
    rw [hr]
    clear hr
    go_enter Tryz.func37, Tryz.ntmps37
    go_wp2
    go_ret
    exact ⟨rfl, rfl⟩
  · have d : ¬ (48 : Int) ≤ (n : Int) := by omega
    have hr : (decide (48 ≤ n) && decide (n ≤ 57)) = false := by rw [decide_eq_false h1, Bool.false_and]
    rw [hr]
    clear hr
    go_enter Tryz.func37, Tryz.ntmps37
    go_wp2
    go_ret
    exact ⟨rfl, rfl⟩
theorem letter_any (c : UInt8) (w : World) : Calls Tryz.prog 35 #[.int .u8 (c.toNat : Int)] w fun e w' => e = .returned (.bool (Lx.isL c)) ∧ w = w' := by
  generalize hr : Lx.isL c = r
  have h95 : (c == 95) = ((c.toNat : Int) == 95) := by
    have : (c == 95) = decide (c.toNat = 95) := by rw [Bool.eq_iff_iff]; simp [← UInt8.toNat_inj]
    rw [this, Bool.eq_iff_iff]; simp; omega
  have h58 : (c == 58) = ((c.toNat : Int) == 58) := by
    have : (c == 58) = decide (c.toNat = 58) := by rw [Bool.eq_iff_iff]; simp [← UInt8.toNat_inj]
    rw [this, Bool.eq_iff_iff]; simp; omega
  unfold Lx.isL at hr
  rw [h95, h58] at hr
  clear h95 h58
  generalize c.toNat = n at *
  have HR := Lib.hid hr
  clear hr
  by_cases h1 : 97 ≤ n ∧ n ≤ 122
  · have hf : r = true := by rw [← HR.out]; simp [h1]
    subst hf
    have d1 : (97 : Int) ≤ (n : Int) := by omega
    have d2 : (n : Int) ≤ 122 := by omega
    clear h1
    go_enter Tryz.func35, Tryz.ntmps35
    go_wp2
    go_ret
    exact ⟨rfl, rfl⟩
  · by_cases h2 : 65 ≤ n ∧ n ≤ 90
    · have hf : r = true := by rw [← HR.out]; simp [h2]
      subst hf
      have d1 : ¬ (97 : Int) ≤ (n : Int) := by omega
      have d2 : (65 : Int) ≤ (n : Int) := by omega
      have d3 : (n : Int) ≤ 90 := by omega
      clear h1 h2
      go_enter Tryz.func35, Tryz.ntmps35
      go_wp2
      go_ret
      exact ⟨rfl, rfl⟩
    · have hf : r = (((n : Int) == 95) || ((n : Int) == 58)) := by
        rw [← HR.out]
        have e1 : (decide (97 ≤ n) && decide (n ≤ 122)) = false := by simp; omega
        have e2 : (decide (65 ≤ n) && decide (n ≤ 90)) = false := by simp; omega
        rw [e1, e2]; simp
      clear HR
      by_cases h3 : n = 95
      · subst h3
        have hf2 : r = true := by rw [hf]; rfl
        subst hf2
        clear hf h1 h2
        go_enter Tryz.func35, Tryz.ntmps35
        go_wp2
        go_ret
        exact ⟨rfl, rfl⟩
      · have d95 : ((n : Int) == 95) = false := beq_eq_false_iff_ne.2 (by omega)
        rw [d95, Bool.false_or] at hf
        subst hf
        by_cases k1 : 97 ≤ n
        · have k0 : (97 : Int) ≤ (n : Int) := by omega
          have k2 : ¬ (n : Int) ≤ 122 := by omega
          have k3 : ¬ (n : Int) ≤ 90 := by omega
          have k4 : (65 : Int) ≤ (n : Int) := by omega
          clear h1 h2 h3 k1
          go_enter Tryz.func35, Tryz.ntmps35
          go_wp2
          go_ret
          exact ⟨rfl, rfl⟩
        · have k0 : ¬ (97 : Int) ≤ (n : Int) := by omega
          by_cases k2 : 65 ≤ n
          · have k4 : (65 : Int) ≤ (n : Int) := by omega
            have k3 : ¬ (n : Int) ≤ 90 := by omega
            clear h1 h2 h3 k1 k2
            go_enter Tryz.func35, Tryz.ntmps35
            go_wp2
            go_ret
            exact ⟨rfl, rfl⟩
          · have k4 : ¬ (65 : Int) ≤ (n : Int) := by omega
            clear h1 h2 h3 k1 k2
            go_enter Tryz.func35, Tryz.ntmps35
            go_wp2
            go_ret
            exact ⟨rfl, rfl⟩
theorem wordc_any (c : UInt8) (w : World) : Calls Tryz.prog 36 #[.int .u8 (c.toNat : Int)] w fun e w' => e = .returned (.bool (isW c)) ∧ w = w' := by
  have HL := Lib.hid (letter_any c)
  have HD := Lib.hid (digit_any c)
  unfold isW
  cases hl : Lx.isL c with
  | true =>
    rw [hl] at HL
    clear hl
    go_enter Tryz.func36, Tryz.ntmps36
    go_wp2_with fail
    refine (HL.out _).mono ?_
    rintro e w1 ⟨rfl, rfl⟩
    go_wp2_with fail
    go_ret
    exact ⟨rfl, rfl⟩
  | false =>
    rw [hl] at HL
    clear hl
    go_enter Tryz.func36, Tryz.ntmps36
    go_wp2_with fail
    refine (HL.out _).mono ?_
    rintro e w1 ⟨rfl, rfl⟩
    go_wp2_with fail
    refine (HD.out _).mono ?_
    rintro e w1 ⟨rfl, rfl⟩
    go_wp2_with fail
    go_ret
    exact ⟨rfl, rfl⟩
theorem byte_eq (c : UInt8) (n : Nat) (h : n < 256) : (c == UInt8.ofNat n) = ((c.toNat : Int) == (n : Int)) := by
  have : (c == UInt8.ofNat n) = decide (c.toNat = n) := by
    rw [Bool.eq_iff_iff]; simp [← UInt8.toNat_inj, Nat.mod_eq_of_lt h]
  rw [this, Bool.eq_iff_iff]; simp; omega
theorem isB_index (c : UInt8) : decide (0 ≤ Lib.indexByte [32, 9, 10, 13] c) = isB c := by
  have : ∀ n : Nat, n < 256 → decide (0 ≤ Lib.indexByte [32, 9, 10, 13] (UInt8.ofNat n)) = isB (UInt8.ofNat n) := by decide +kernel
  have h := this c.toNat c.toNat_lt
  rwa [UInt8.ofNat_toNat] at h
end Go.Proofs.YtaggmakaceafgaaGreatDoor

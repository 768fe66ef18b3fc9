import Derived.Test.YtencpjhpedenbaaGreatDoorRows
import Derived.WalkKit
import Derived.WalkLawsBesides
import Derived.WalkSpells
import Derived.RegionTactic
import Derived.Deep.QuietTactic
import Derived.BigQuiet
import Derived.Deep.LoopGhost
import Derived.Lib.Hide
import Derived.Handy
import Derived.WalkMore
import Derived.Test.YtencpjhpedenbaaGreatDoorM1
namespace Go.Proofs.YtencpjhpedenbaaGreatDoor
open Go.RowKit Lb
set_option linter.unusedVariables false

theorem digit_any (c : Int) (w : World) : Calls Tryz.prog 67 #[.int .u8 c] w fun e w' => e = .returned (.bool (isDig c)) ∧ w = w' := by
  unfold isDig
  by_cases h1 : 48 ≤ c
  · go_enter Tryz.func67, Tryz.ntmps67
    go_wp2
    go_ret
    exact ⟨by simp [h1], rfl⟩
  · go_enter Tryz.func67, Tryz.ntmps67
    go_wp2
    go_ret
    exact ⟨by simp; omega, rfl⟩

theorem letter_any (c : Int) (w : World) : Calls Tryz.prog 68 #[.int .u8 c] w fun e w' => e = .returned (.bool (isLet c)) ∧ w = w' := by
  generalize hr : isLet c = r
  have HR := Lib.hid hr
  clear hr
  by_cases h1 : 97 ≤ c ∧ c ≤ 122
  · have hf : r = true := by rw [← HR.out]; simp [isLet, h1]
    subst hf
    obtain ⟨h1, h2⟩ := h1
    go_enter Tryz.func68, Tryz.ntmps68
    go_wp2
    go_ret
    exact ⟨rfl, rfl⟩
  · by_cases h2 : 65 ≤ c ∧ c ≤ 90
    · have hf : r = true := by rw [← HR.out]; simp [isLet, h2]
      subst hf
      have d1 : decide (97 ≤ c) = false := by simp; omega
      obtain ⟨h2, h3⟩ := h2
      go_enter Tryz.func68, Tryz.ntmps68
      go_wp2
      go_ret
      exact ⟨rfl, rfl⟩
    · have hf : r = (c == 95) := by
        rw [← HR.out]; unfold isLet
        have e1 : (decide (97 ≤ c) && decide (c ≤ 122)) = false := by
          by_cases k : 97 ≤ c
          · rw [decide_eq_false (p := c ≤ 122) (by omega), Bool.and_false]
          · rw [decide_eq_false k, Bool.false_and]
        have e2 : (decide (65 ≤ c) && decide (c ≤ 90)) = false := by
          by_cases k : 65 ≤ c
          · rw [decide_eq_false (p := c ≤ 90) (by omega), Bool.and_false]
          · rw [decide_eq_false k, Bool.false_and]
        rw [e1, e2]; simp
      subst hf
      clear HR
      by_cases k1 : 97 ≤ c
      · have k2 : ¬ c ≤ 122 := by omega
        have k3 : ¬ c ≤ 90 := by omega
        have k4 : 65 ≤ c := by omega
        go_enter Tryz.func68, Tryz.ntmps68
        go_wp2
        go_ret
        exact ⟨rfl, rfl⟩
      · by_cases k2 : 65 ≤ c
        · have k3 : ¬ c ≤ 90 := by omega
          go_enter Tryz.func68, Tryz.ntmps68
          go_wp2
          go_ret
          exact ⟨rfl, rfl⟩
        · go_enter Tryz.func68, Tryz.ntmps68
          go_wp2
          go_ret
          exact ⟨rfl, rfl⟩

theorem nan_str (x : ByteArray) (w : World) : Calls Tryz.prog 92 #[.string x] w fun e w' => e = .returned (.bool false) ∧ w = w' := by
  go_enter Tryz.func92, Tryz.ntmps92
  go_wp2
  go_ret
  exact ⟨by simp, rfl⟩
theorem nan_int (x : Int) (w : World) : Calls Tryz.prog 71 #[.int .i64 x] w fun e w' => e = .returned (.bool false) ∧ w = w' := by
  go_enter Tryz.func71, Tryz.ntmps71
  go_wp2
  go_ret
  exact ⟨by simp, rfl⟩

theorem compare_str (x y : ByteArray) (w : World) : Calls Tryz.prog 70 #[.string x, .string y] w fun e w' => e = .returned (.int .i64 (cmpS x y)) ∧ w = w' := by
  rcases cmpS_cases x y with ⟨h, e⟩ | ⟨rfl, e⟩ | ⟨h, e⟩
  · rw [e]
    have h1 : Op.bytesLess x.toList y.toList = true := h
    clear h e
    go_enter Tryz.func70, Tryz.ntmps70
    go_wp2_with (go_at_call 92; refine (nan_str _ _).mono ?_; rintro e w' ⟨rfl, rfl⟩)
    go_ret
    exact ⟨rfl, rfl⟩
  · rw [e]
    have h1 : Op.bytesLess x.toList x.toList = false := less_irrefl _
    clear e
    go_enter Tryz.func70, Tryz.ntmps70
    go_wp2_with (go_at_call 92; refine (nan_str _ _).mono ?_; rintro e w' ⟨rfl, rfl⟩)
    go_ret
    exact ⟨rfl, rfl⟩
  · have h1 : Op.bytesLess x.toList y.toList = false := by
      cases k : Op.bytesLess x.toList y.toList with
      | false => rfl
      | true =>
        have := less_trans _ _ _ h k
        rw [less_irrefl] at this; cases this
    have h2 : (x.toList == y.toList) = false := by
      cases k : (x.toList == y.toList) with
      | false => rfl
      | true =>
        have k2 : x.toList = y.toList := by simpa using k
        unfold sl at h
        rw [k2, less_irrefl] at h; cases h
    rw [e]
    clear h e
    go_enter Tryz.func70, Tryz.ntmps70
    go_wp2_with (go_at_call 92; refine (nan_str _ _).mono ?_; rintro e w' ⟨rfl, rfl⟩)
    go_ret
    exact ⟨rfl, rfl⟩

def cmpI (x y : Int) : Int := if x < y then -1 else if y < x then 1 else 0
theorem compare_int (x y : Int) (w : World) : Calls Tryz.prog 56 #[.int .i64 x, .int .i64 y] w fun e w' => e = .returned (.int .i64 (cmpI x y)) ∧ w = w' := by
  unfold cmpI
  by_cases h1 : x < y
  · rw [if_pos h1]
    go_enter Tryz.func56, Tryz.ntmps56
    go_wp2_with (go_at_call 71; refine (nan_int _ _).mono ?_; rintro e w' ⟨rfl, rfl⟩)
    go_ret
    exact ⟨rfl, rfl⟩
  · rw [if_neg h1]
    by_cases h2 : y < x
    · rw [if_pos h2]
      go_enter Tryz.func56, Tryz.ntmps56
      go_wp2_with (go_at_call 71; refine (nan_int _ _).mono ?_; rintro e w' ⟨rfl, rfl⟩)
      go_ret
      exact ⟨rfl, rfl⟩
    · rw [if_neg h2]
      go_enter Tryz.func56, Tryz.ntmps56
      go_wp2_with (go_at_call 71; refine (nan_int _ _).mono ?_; rintro e w' ⟨rfl, rfl⟩)
      go_ret
      exact ⟨rfl, rfl⟩
end Go.Proofs.YtencpjhpedenbaaGreatDoor

import Derived.Test.YtencpjhpedenbaaGreatDoorP1
import Derived.Lib.ValidLaws
namespace Go.Proofs.YtencpjhpedenbaaGreatDoor
open Go.RowKit Lb
set_option linter.unusedVariables false

set_option maxRecDepth 100000 in
set_option maxHeartbeats 4000000 in
theorem rune_d0 (s : ByteArray) (k : Nat) (h : k < s.size) (hs : s.size ≤ 65536) (w : World) (c : Nat) (hc : (s[k]'h).toNat = c) (h1 : ¬ c < 224) (h2 : c < 240) (h3 : c = 224) :
    Calls Tryz.prog 63 #[.string s, .int .i64 k] w fun e w' => e = .returned (.int .i64 (runeN s k c : Int)) ∧ w = w' := by
  have d : decide (k < s.size) = true := by simpa using h
  have d1 : decide ((s[k]'h).toNat < 128) = false := by simp; omega
  have d2 : decide (194 ≤ (s[k]'h).toNat) = true := by simp; omega
  have d3 : decide ((s[k]'h).toNat < 224) = false := by simp; omega
  have d4 : decide (224 ≤ (s[k]'h).toNat) = true := by simp; omega
  have g0 : decide (240 ≤ (s[k]'h).toNat) = false := by simp; omega
  have g1 : decide ((s[k]'h).toNat < 240) = true := by simp; omega
  have g2 : (((s[k]'h).toNat : Int) == 224) = true := by simp; omega
  have gn2 : ((s[k]'h).toNat == 224) = true := by simp; omega
  have gd2 : decide ((s[k]'h).toNat = 224) = true := by simp; omega
  have g3 : (((s[k]'h).toNat : Int) == 237) = false := by simp; omega
  have gn3 : ((s[k]'h).toNat == 237) = false := by simp; omega
  have gd3 : decide ((s[k]'h).toNat = 237) = false := by simp; omega
  cases hi0 : inR s (k + 1) 160 191 with
  | false =>
    have e : runeN s k c = 0 := by simp [runeN, h3, hi0]
    rw [e]
    have HI0 := Lib.hid hi0
    clear e hi0
    go_enter Tryz.func63, Tryz.ntmps63
    go_wp2_with fail
    refine (in_is s (k + 1) 160 191 _ HI0.out _ _ _ (by go_num) (by go_num) (by go_num) _).mono ?_
    rintro e w' ⟨rfl, rfl⟩
    go_wp2
    go_ret
    exact ⟨rfl, rfl⟩
  | true =>
    cases hi1 : inR s (k + 2) 128 191 with
    | false =>
      have e : runeN s k c = 0 := by simp [runeN, h3, hi0, hi1]
      rw [e]
      have HI0 := Lib.hid hi0
      have HI1 := Lib.hid hi1
      clear e hi0 hi1
      go_enter Tryz.func63, Tryz.ntmps63
      go_wp2_with fail
      refine (in_is s (k + 1) 160 191 _ HI0.out _ _ _ (by go_num) (by go_num) (by go_num) _).mono ?_
      rintro e w' ⟨rfl, rfl⟩
      go_wp2_with fail
      refine (in_is s (k + 2) 128 191 _ HI1.out _ _ _ (by go_num) (by go_num) (by go_num) _).mono ?_
      rintro e w' ⟨rfl, rfl⟩
      go_wp2
      go_ret
      exact ⟨rfl, rfl⟩
    | true =>
      have e : runeN s k c = 3 := by simp [runeN, h3, hi0, hi1]
      rw [e]
      have HI0 := Lib.hid hi0
      have HI1 := Lib.hid hi1
      clear e hi0 hi1
      go_enter Tryz.func63, Tryz.ntmps63
      go_wp2_with fail
      refine (in_is s (k + 1) 160 191 _ HI0.out _ _ _ (by go_num) (by go_num) (by go_num) _).mono ?_
      rintro e w' ⟨rfl, rfl⟩
      go_wp2_with fail
      refine (in_is s (k + 2) 128 191 _ HI1.out _ _ _ (by go_num) (by go_num) (by go_num) _).mono ?_
      rintro e w' ⟨rfl, rfl⟩
      go_wp2
      go_ret
      exact ⟨rfl, rfl⟩

set_option maxRecDepth 100000 in
set_option maxHeartbeats 4000000 in
theorem rune_d1 (s : ByteArray) (k : Nat) (h : k < s.size) (hs : s.size ≤ 65536) (w : World) (c : Nat) (hc : (s[k]'h).toNat = c) (h1 : ¬ c < 224) (h2 : c < 240) (h3 : c = 237) :
    Calls Tryz.prog 63 #[.string s, .int .i64 k] w fun e w' => e = .returned (.int .i64 (runeN s k c : Int)) ∧ w = w' := by
  have d : decide (k < s.size) = true := by simpa using h
  have d1 : decide ((s[k]'h).toNat < 128) = false := by simp; omega
  have d2 : decide (194 ≤ (s[k]'h).toNat) = true := by simp; omega
  have d3 : decide ((s[k]'h).toNat < 224) = false := by simp; omega
  have d4 : decide (224 ≤ (s[k]'h).toNat) = true := by simp; omega
  have g0 : decide (240 ≤ (s[k]'h).toNat) = false := by simp; omega
  have g1 : decide ((s[k]'h).toNat < 240) = true := by simp; omega
  have g2 : (((s[k]'h).toNat : Int) == 224) = false := by simp; omega
  have gn2 : ((s[k]'h).toNat == 224) = false := by simp; omega
  have gd2 : decide ((s[k]'h).toNat = 224) = false := by simp; omega
  have g3 : (((s[k]'h).toNat : Int) == 237) = true := by simp; omega
  have gn3 : ((s[k]'h).toNat == 237) = true := by simp; omega
  have gd3 : decide ((s[k]'h).toNat = 237) = true := by simp; omega
  cases hi0 : inR s (k + 1) 128 159 with
  | false =>
    have e : runeN s k c = 0 := by simp [runeN, h3, hi0]
    rw [e]
    have HI0 := Lib.hid hi0
    clear e hi0
    go_enter Tryz.func63, Tryz.ntmps63
    go_wp2_with fail
    refine (in_is s (k + 1) 128 159 _ HI0.out _ _ _ (by go_num) (by go_num) (by go_num) _).mono ?_
    rintro e w' ⟨rfl, rfl⟩
    go_wp2
    go_ret
    exact ⟨rfl, rfl⟩
  | true =>
    cases hi1 : inR s (k + 2) 128 191 with
    | false =>
      have e : runeN s k c = 0 := by simp [runeN, h3, hi0, hi1]
      rw [e]
      have HI0 := Lib.hid hi0
      have HI1 := Lib.hid hi1
      clear e hi0 hi1
      go_enter Tryz.func63, Tryz.ntmps63
      go_wp2_with fail
      refine (in_is s (k + 1) 128 159 _ HI0.out _ _ _ (by go_num) (by go_num) (by go_num) _).mono ?_
      rintro e w' ⟨rfl, rfl⟩
      go_wp2_with fail
      refine (in_is s (k + 2) 128 191 _ HI1.out _ _ _ (by go_num) (by go_num) (by go_num) _).mono ?_
      rintro e w' ⟨rfl, rfl⟩
      go_wp2
      go_ret
      exact ⟨rfl, rfl⟩
    | true =>
      have e : runeN s k c = 3 := by simp [runeN, h3, hi0, hi1]
      rw [e]
      have HI0 := Lib.hid hi0
      have HI1 := Lib.hid hi1
      clear e hi0 hi1
      go_enter Tryz.func63, Tryz.ntmps63
      go_wp2_with fail
      refine (in_is s (k + 1) 128 159 _ HI0.out _ _ _ (by go_num) (by go_num) (by go_num) _).mono ?_
      rintro e w' ⟨rfl, rfl⟩
      go_wp2_with fail
      refine (in_is s (k + 2) 128 191 _ HI1.out _ _ _ (by go_num) (by go_num) (by go_num) _).mono ?_
      rintro e w' ⟨rfl, rfl⟩
      go_wp2
      go_ret
      exact ⟨rfl, rfl⟩

set_option maxRecDepth 100000 in
set_option maxHeartbeats 4000000 in
theorem rune_d2 (s : ByteArray) (k : Nat) (h : k < s.size) (hs : s.size ≤ 65536) (w : World) (c : Nat) (hc : (s[k]'h).toNat = c) (h1 : ¬ c < 224) (h2 : c < 240) (h3 : c ≠ 224) (h4 : c ≠ 237) :
    Calls Tryz.prog 63 #[.string s, .int .i64 k] w fun e w' => e = .returned (.int .i64 (runeN s k c : Int)) ∧ w = w' := by
  have d : decide (k < s.size) = true := by simpa using h
  have d1 : decide ((s[k]'h).toNat < 128) = false := by simp; omega
  have d2 : decide (194 ≤ (s[k]'h).toNat) = true := by simp; omega
  have d3 : decide ((s[k]'h).toNat < 224) = false := by simp; omega
  have d4 : decide (224 ≤ (s[k]'h).toNat) = true := by simp; omega
  have g0 : decide (240 ≤ (s[k]'h).toNat) = false := by simp; omega
  have g1 : decide ((s[k]'h).toNat < 240) = true := by simp; omega
  have g2 : (((s[k]'h).toNat : Int) == 224) = false := by simp; omega
  have gn2 : ((s[k]'h).toNat == 224) = false := by simp; omega
  have gd2 : decide ((s[k]'h).toNat = 224) = false := by simp; omega
  have g3 : (((s[k]'h).toNat : Int) == 237) = false := by simp; omega
  have gn3 : ((s[k]'h).toNat == 237) = false := by simp; omega
  have gd3 : decide ((s[k]'h).toNat = 237) = false := by simp; omega
  cases hi0 : inR s (k + 1) 128 191 with
  | false =>
    have e : runeN s k c = 0 := by simp [runeN, h1, h2, show ¬ c < 128 by omega, show ¬ c < 194 by omega, h3, h4, hi0]
    rw [e]
    have HI0 := Lib.hid hi0
    clear e hi0
    go_enter Tryz.func63, Tryz.ntmps63
    go_wp2_with fail
    refine (in_is s (k + 1) 128 191 _ HI0.out _ _ _ (by go_num) (by go_num) (by go_num) _).mono ?_
    rintro e w' ⟨rfl, rfl⟩
    go_wp2
    go_ret
    exact ⟨rfl, rfl⟩
  | true =>
    cases hi1 : inR s (k + 2) 128 191 with
    | false =>
      have e : runeN s k c = 0 := by simp [runeN, h1, h2, show ¬ c < 128 by omega, show ¬ c < 194 by omega, h3, h4, hi0, hi1]
      rw [e]
      have HI0 := Lib.hid hi0
      have HI1 := Lib.hid hi1
      clear e hi0 hi1
      go_enter Tryz.func63, Tryz.ntmps63
      go_wp2_with fail
      refine (in_is s (k + 1) 128 191 _ HI0.out _ _ _ (by go_num) (by go_num) (by go_num) _).mono ?_
      rintro e w' ⟨rfl, rfl⟩
      go_wp2_with fail
      refine (in_is s (k + 2) 128 191 _ HI1.out _ _ _ (by go_num) (by go_num) (by go_num) _).mono ?_
      rintro e w' ⟨rfl, rfl⟩
      go_wp2
      go_ret
      exact ⟨rfl, rfl⟩
    | true =>
      have e : runeN s k c = 3 := by simp [runeN, h1, h2, show ¬ c < 128 by omega, show ¬ c < 194 by omega, h3, h4, hi0, hi1]
      rw [e]
      have HI0 := Lib.hid hi0
      have HI1 := Lib.hid hi1
      clear e hi0 hi1
      go_enter Tryz.func63, Tryz.ntmps63
      go_wp2_with fail
      refine (in_is s (k + 1) 128 191 _ HI0.out _ _ _ (by go_num) (by go_num) (by go_num) _).mono ?_
      rintro e w' ⟨rfl, rfl⟩
      go_wp2_with fail
      refine (in_is s (k + 2) 128 191 _ HI1.out _ _ _ (by go_num) (by go_num) (by go_num) _).mono ?_
      rintro e w' ⟨rfl, rfl⟩
      go_wp2
      go_ret
      exact ⟨rfl, rfl⟩

set_option maxRecDepth 100000 in
set_option maxHeartbeats 4000000 in
theorem rune_e0 (s : ByteArray) (k : Nat) (h : k < s.size) (hs : s.size ≤ 65536) (w : World) (c : Nat) (hc : (s[k]'h).toNat = c) (h1 : ¬ c < 240) (h2 : c < 245) (h3 : c = 240) :
    Calls Tryz.prog 63 #[.string s, .int .i64 k] w fun e w' => e = .returned (.int .i64 (runeN s k c : Int)) ∧ w = w' := by
  have d : decide (k < s.size) = true := by simpa using h
  have d1 : decide ((s[k]'h).toNat < 128) = false := by simp; omega
  have d2 : decide (194 ≤ (s[k]'h).toNat) = true := by simp; omega
  have d3 : decide ((s[k]'h).toNat < 224) = false := by simp; omega
  have d4 : decide (224 ≤ (s[k]'h).toNat) = true := by simp; omega
  have g0 : decide (240 ≤ (s[k]'h).toNat) = true := by simp; omega
  have g1 : decide ((s[k]'h).toNat < 240) = false := by simp; omega
  have g2 : decide ((s[k]'h).toNat < 245) = true := by simp; omega
  have g3 : (((s[k]'h).toNat : Int) == 240) = true := by simp; omega
  have gn3 : ((s[k]'h).toNat == 240) = true := by simp; omega
  have gd3 : decide ((s[k]'h).toNat = 240) = true := by simp; omega
  have g4 : (((s[k]'h).toNat : Int) == 244) = false := by simp; omega
  have gn4 : ((s[k]'h).toNat == 244) = false := by simp; omega
  have gd4 : decide ((s[k]'h).toNat = 244) = false := by simp; omega
  cases hi0 : inR s (k + 1) 144 191 with
  | false =>
    have e : runeN s k c = 0 := by simp [runeN, h3, hi0]
    rw [e]
    have HI0 := Lib.hid hi0
    clear e hi0
    go_enter Tryz.func63, Tryz.ntmps63
    go_wp2_with fail
    refine (in_is s (k + 1) 144 191 _ HI0.out _ _ _ (by go_num) (by go_num) (by go_num) _).mono ?_
    rintro e w' ⟨rfl, rfl⟩
    go_wp2
    go_ret
    exact ⟨rfl, rfl⟩
  | true =>
    cases hi1 : inR s (k + 2) 128 191 with
    | false =>
      have e : runeN s k c = 0 := by simp [runeN, h3, hi0, hi1]
      rw [e]
      have HI0 := Lib.hid hi0
      have HI1 := Lib.hid hi1
      clear e hi0 hi1
      go_enter Tryz.func63, Tryz.ntmps63
      go_wp2_with fail
      refine (in_is s (k + 1) 144 191 _ HI0.out _ _ _ (by go_num) (by go_num) (by go_num) _).mono ?_
      rintro e w' ⟨rfl, rfl⟩
      go_wp2_with fail
      refine (in_is s (k + 2) 128 191 _ HI1.out _ _ _ (by go_num) (by go_num) (by go_num) _).mono ?_
      rintro e w' ⟨rfl, rfl⟩
      go_wp2
      go_ret
      exact ⟨rfl, rfl⟩
    | true =>
      cases hi2 : inR s (k + 3) 128 191 with
      | false =>
        have e : runeN s k c = 0 := by simp [runeN, h3, hi0, hi1, hi2]
        rw [e]
        have HI0 := Lib.hid hi0
        have HI1 := Lib.hid hi1
        have HI2 := Lib.hid hi2
        clear e hi0 hi1 hi2
        go_enter Tryz.func63, Tryz.ntmps63
        go_wp2_with fail
        refine (in_is s (k + 1) 144 191 _ HI0.out _ _ _ (by go_num) (by go_num) (by go_num) _).mono ?_
        rintro e w' ⟨rfl, rfl⟩
        go_wp2_with fail
        refine (in_is s (k + 2) 128 191 _ HI1.out _ _ _ (by go_num) (by go_num) (by go_num) _).mono ?_
        rintro e w' ⟨rfl, rfl⟩
        go_wp2_with fail
        refine (in_is s (k + 3) 128 191 _ HI2.out _ _ _ (by go_num) (by go_num) (by go_num) _).mono ?_
        rintro e w' ⟨rfl, rfl⟩
        go_wp2
        go_ret
        exact ⟨rfl, rfl⟩
      | true =>
        have e : runeN s k c = 4 := by simp [runeN, h3, hi0, hi1, hi2]
        rw [e]
        have HI0 := Lib.hid hi0
        have HI1 := Lib.hid hi1
        have HI2 := Lib.hid hi2
        clear e hi0 hi1 hi2
        go_enter Tryz.func63, Tryz.ntmps63
        go_wp2_with fail
        refine (in_is s (k + 1) 144 191 _ HI0.out _ _ _ (by go_num) (by go_num) (by go_num) _).mono ?_
        rintro e w' ⟨rfl, rfl⟩
        go_wp2_with fail
        refine (in_is s (k + 2) 128 191 _ HI1.out _ _ _ (by go_num) (by go_num) (by go_num) _).mono ?_
        rintro e w' ⟨rfl, rfl⟩
        go_wp2_with fail
        refine (in_is s (k + 3) 128 191 _ HI2.out _ _ _ (by go_num) (by go_num) (by go_num) _).mono ?_
        rintro e w' ⟨rfl, rfl⟩
        go_wp2
        go_ret
        exact ⟨rfl, rfl⟩

set_option maxRecDepth 100000 in
set_option maxHeartbeats 4000000 in
theorem rune_e1 (s : ByteArray) (k : Nat) (h : k < s.size) (hs : s.size ≤ 65536) (w : World) (c : Nat) (hc : (s[k]'h).toNat = c) (h1 : ¬ c < 240) (h2 : c < 245) (h3 : c = 244) :
    Calls Tryz.prog 63 #[.string s, .int .i64 k] w fun e w' => e = .returned (.int .i64 (runeN s k c : Int)) ∧ w = w' := by
  have d : decide (k < s.size) = true := by simpa using h
  have d1 : decide ((s[k]'h).toNat < 128) = false := by simp; omega
  have d2 : decide (194 ≤ (s[k]'h).toNat) = true := by simp; omega
  have d3 : decide ((s[k]'h).toNat < 224) = false := by simp; omega
  have d4 : decide (224 ≤ (s[k]'h).toNat) = true := by simp; omega
  have g0 : decide (240 ≤ (s[k]'h).toNat) = true := by simp; omega
  have g1 : decide ((s[k]'h).toNat < 240) = false := by simp; omega
  have g2 : decide ((s[k]'h).toNat < 245) = true := by simp; omega
  have g3 : (((s[k]'h).toNat : Int) == 240) = false := by simp; omega
  have gn3 : ((s[k]'h).toNat == 240) = false := by simp; omega
  have gd3 : decide ((s[k]'h).toNat = 240) = false := by simp; omega
  have g4 : (((s[k]'h).toNat : Int) == 244) = true := by simp; omega
  have gn4 : ((s[k]'h).toNat == 244) = true := by simp; omega
  have gd4 : decide ((s[k]'h).toNat = 244) = true := by simp; omega
  cases hi0 : inR s (k + 1) 128 143 with
  | false =>
    have e : runeN s k c = 0 := by simp [runeN, h3, hi0]
    rw [e]
    have HI0 := Lib.hid hi0
    clear e hi0
    go_enter Tryz.func63, Tryz.ntmps63
    go_wp2_with fail
    refine (in_is s (k + 1) 128 143 _ HI0.out _ _ _ (by go_num) (by go_num) (by go_num) _).mono ?_
    rintro e w' ⟨rfl, rfl⟩
    go_wp2
    go_ret
    exact ⟨rfl, rfl⟩
  | true =>
    cases hi1 : inR s (k + 2) 128 191 with
    | false =>
      have e : runeN s k c = 0 := by simp [runeN, h3, hi0, hi1]
      rw [e]
      have HI0 := Lib.hid hi0
      have HI1 := Lib.hid hi1
      clear e hi0 hi1
      go_enter Tryz.func63, Tryz.ntmps63
      go_wp2_with fail
      refine (in_is s (k + 1) 128 143 _ HI0.out _ _ _ (by go_num) (by go_num) (by go_num) _).mono ?_
      rintro e w' ⟨rfl, rfl⟩
      go_wp2_with fail
      refine (in_is s (k + 2) 128 191 _ HI1.out _ _ _ (by go_num) (by go_num) (by go_num) _).mono ?_
      rintro e w' ⟨rfl, rfl⟩
      go_wp2
      go_ret
      exact ⟨rfl, rfl⟩
    | true =>
      cases hi2 : inR s (k + 3) 128 191 with
      | false =>
        have e : runeN s k c = 0 := by simp [runeN, h3, hi0, hi1, hi2]
        rw [e]
        have HI0 := Lib.hid hi0
        have HI1 := Lib.hid hi1
        have HI2 := Lib.hid hi2
        clear e hi0 hi1 hi2
        go_enter Tryz.func63, Tryz.ntmps63
        go_wp2_with fail
        refine (in_is s (k + 1) 128 143 _ HI0.out _ _ _ (by go_num) (by go_num) (by go_num) _).mono ?_
        rintro e w' ⟨rfl, rfl⟩
        go_wp2_with fail
        refine (in_is s (k + 2) 128 191 _ HI1.out _ _ _ (by go_num) (by go_num) (by go_num) _).mono ?_
        rintro e w' ⟨rfl, rfl⟩
        go_wp2_with fail
        refine (in_is s (k + 3) 128 191 _ HI2.out _ _ _ (by go_num) (by go_num) (by go_num) _).mono ?_
        rintro e w' ⟨rfl, rfl⟩
        go_wp2
        go_ret
        exact ⟨rfl, rfl⟩
      | true =>
        have e : runeN s k c = 4 := by simp [runeN, h3, hi0, hi1, hi2]
        rw [e]
        have HI0 := Lib.hid hi0
        have HI1 := Lib.hid hi1
        have HI2 := Lib.hid hi2
        clear e hi0 hi1 hi2
        go_enter Tryz.func63, Tryz.ntmps63
        go_wp2_with fail
        refine (in_is s (k + 1) 128 143 _ HI0.out _ _ _ (by go_num) (by go_num) (by go_num) _).mono ?_
        rintro e w' ⟨rfl, rfl⟩
        go_wp2_with fail
        refine (in_is s (k + 2) 128 191 _ HI1.out _ _ _ (by go_num) (by go_num) (by go_num) _).mono ?_
        rintro e w' ⟨rfl, rfl⟩
        go_wp2_with fail
        refine (in_is s (k + 3) 128 191 _ HI2.out _ _ _ (by go_num) (by go_num) (by go_num) _).mono ?_
        rintro e w' ⟨rfl, rfl⟩
        go_wp2
        go_ret
        exact ⟨rfl, rfl⟩

set_option maxRecDepth 100000 in
set_option maxHeartbeats 4000000 in
theorem rune_e2 (s : ByteArray) (k : Nat) (h : k < s.size) (hs : s.size ≤ 65536) (w : World) (c : Nat) (hc : (s[k]'h).toNat = c) (h1 : ¬ c < 240) (h2 : c < 245) (h3 : c ≠ 240) (h4 : c ≠ 244) :
    Calls Tryz.prog 63 #[.string s, .int .i64 k] w fun e w' => e = .returned (.int .i64 (runeN s k c : Int)) ∧ w = w' := by
  have d : decide (k < s.size) = true := by simpa using h
  have d1 : decide ((s[k]'h).toNat < 128) = false := by simp; omega
  have d2 : decide (194 ≤ (s[k]'h).toNat) = true := by simp; omega
  have d3 : decide ((s[k]'h).toNat < 224) = false := by simp; omega
  have d4 : decide (224 ≤ (s[k]'h).toNat) = true := by simp; omega
  have g0 : decide (240 ≤ (s[k]'h).toNat) = true := by simp; omega
  have g1 : decide ((s[k]'h).toNat < 240) = false := by simp; omega
  have g2 : decide ((s[k]'h).toNat < 245) = true := by simp; omega
  have g3 : (((s[k]'h).toNat : Int) == 240) = false := by simp; omega
  have gn3 : ((s[k]'h).toNat == 240) = false := by simp; omega
  have gd3 : decide ((s[k]'h).toNat = 240) = false := by simp; omega
  have g4 : (((s[k]'h).toNat : Int) == 244) = false := by simp; omega
  have gn4 : ((s[k]'h).toNat == 244) = false := by simp; omega
  have gd4 : decide ((s[k]'h).toNat = 244) = false := by simp; omega
  cases hi0 : inR s (k + 1) 128 191 with
  | false =>
    have e : runeN s k c = 0 := by simp [runeN, h1, h2, show ¬ c < 128 by omega, show ¬ c < 194 by omega, show ¬ c < 224 by omega, h3, h4, hi0]
    rw [e]
    have HI0 := Lib.hid hi0
    clear e hi0
    go_enter Tryz.func63, Tryz.ntmps63
    go_wp2_with fail
    refine (in_is s (k + 1) 128 191 _ HI0.out _ _ _ (by go_num) (by go_num) (by go_num) _).mono ?_
    rintro e w' ⟨rfl, rfl⟩
    go_wp2
    go_ret
    exact ⟨rfl, rfl⟩
  | true =>
    cases hi1 : inR s (k + 2) 128 191 with
    | false =>
      have e : runeN s k c = 0 := by simp [runeN, h1, h2, show ¬ c < 128 by omega, show ¬ c < 194 by omega, show ¬ c < 224 by omega, h3, h4, hi0, hi1]
      rw [e]
      have HI0 := Lib.hid hi0
      have HI1 := Lib.hid hi1
      clear e hi0 hi1
      go_enter Tryz.func63, Tryz.ntmps63
      go_wp2_with fail
      refine (in_is s (k + 1) 128 191 _ HI0.out _ _ _ (by go_num) (by go_num) (by go_num) _).mono ?_
      rintro e w' ⟨rfl, rfl⟩
      go_wp2_with fail
      refine (in_is s (k + 2) 128 191 _ HI1.out _ _ _ (by go_num) (by go_num) (by go_num) _).mono ?_
      rintro e w' ⟨rfl, rfl⟩
      go_wp2
      go_ret
      exact ⟨rfl, rfl⟩
    | true =>
      cases hi2 : inR s (k + 3) 128 191 with
      | false =>
        have e : runeN s k c = 0 := by simp [runeN, h1, h2, show ¬ c < 128 by omega, show ¬ c < 194 by omega, show ¬ c < 224 by omega, h3, h4, hi0, hi1, hi2]
        rw [e]
        have HI0 := Lib.hid hi0
        have HI1 := Lib.hid hi1
        have HI2 := Lib.hid hi2
        clear e hi0 hi1 hi2
        go_enter Tryz.func63, Tryz.ntmps63
        go_wp2_with fail
        refine (in_is s (k + 1) 128 191 _ HI0.out _ _ _ (by go_num) (by go_num) (by go_num) _).mono ?_
        rintro e w' ⟨rfl, rfl⟩
        go_wp2_with fail
        refine (in_is s (k + 2) 128 191 _ HI1.out _ _ _ (by go_num) (by go_num) (by go_num) _).mono ?_
        rintro e w' ⟨rfl, rfl⟩
        go_wp2_with fail
        refine (in_is s (k + 3) 128 191 _ HI2.out _ _ _ (by go_num) (by go_num) (by go_num) _).mono ?_
        rintro e w' ⟨rfl, rfl⟩
        go_wp2
        go_ret
        exact ⟨rfl, rfl⟩
      | true =>
        have e : runeN s k c = 4 := by simp [runeN, h1, h2, show ¬ c < 128 by omega, show ¬ c < 194 by omega, show ¬ c < 224 by omega, h3, h4, hi0, hi1, hi2]
        rw [e]
        have HI0 := Lib.hid hi0
        have HI1 := Lib.hid hi1
        have HI2 := Lib.hid hi2
        clear e hi0 hi1 hi2
        go_enter Tryz.func63, Tryz.ntmps63
        go_wp2_with fail
        refine (in_is s (k + 1) 128 191 _ HI0.out _ _ _ (by go_num) (by go_num) (by go_num) _).mono ?_
        rintro e w' ⟨rfl, rfl⟩
        go_wp2_with fail
        refine (in_is s (k + 2) 128 191 _ HI1.out _ _ _ (by go_num) (by go_num) (by go_num) _).mono ?_
        rintro e w' ⟨rfl, rfl⟩
        go_wp2_with fail
        refine (in_is s (k + 3) 128 191 _ HI2.out _ _ _ (by go_num) (by go_num) (by go_num) _).mono ?_
        rintro e w' ⟨rfl, rfl⟩
        go_wp2
        go_ret
        exact ⟨rfl, rfl⟩

end Go.Proofs.YtencpjhpedenbaaGreatDoor

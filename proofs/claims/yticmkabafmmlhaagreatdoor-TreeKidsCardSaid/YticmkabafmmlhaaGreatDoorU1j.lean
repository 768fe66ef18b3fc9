import Derived.Test.YticmkabafmmlhaaGreatDoorT1j
import GoSem.Op.String
import Derived.Laws.Strings
import Derived.Lib.ValidU
import Derived.Lib.ValidLaws
set_option linter.unusedVariables false
set_option maxRecDepth 100000
set_option maxHeartbeats 4000000
namespace Go.Proofs.YticmkabafmmlhaaGreatDoor.Ut
open Go.RowKit
open Lib (hid)
def inR (s : ByteArray) (k lo hi : Nat) : Bool := if h : k < s.size then decide (lo ≤ (s[k]'h).toNat) && decide ((s[k]'h).toNat ≤ hi) else false
theorem in_any (s : ByteArray) (k lo hi : Nat) (w : World) : Calls Tryz.prog 91 #[.string s, .int .i64 k, .int .u8 lo, .int .u8 hi] w fun e w' => e = .returned (.bool (inR s k lo hi)) ∧ w = w' := by
 by_cases h : k < s.size
 · have d : decide (k < s.size) = true := by simpa using h
   by_cases h1 : lo ≤ (s[k]'h).toNat
   · have e : inR s k lo hi = decide ((s[k]'h).toNat ≤ hi) := by simp [inR, h, h1]
     rw [e]
     have d1 : decide (lo ≤ (s[k]'h).toNat) = true := by simpa using h1
     have d1' : ((lo : Int) ≤ ((s[k]'h).toNat : Int)) := by omega
     clear e
     go_enter Tryz.func91, Tryz.ntmps91
     go_wp2
     go_ret
     exact ⟨by simp, rfl⟩
   · have e : inR s k lo hi = false := by simp [inR, h, h1]
     rw [e]
     have d1 : decide (lo ≤ (s[k]'h).toNat) = false := by simpa using h1
     have d1' : ¬ ((lo : Int) ≤ ((s[k]'h).toNat : Int)) := by omega
     clear e
     go_enter Tryz.func91, Tryz.ntmps91
     go_wp2
     go_ret
     exact ⟨rfl, rfl⟩
 · have e : inR s k lo hi = false := by simp [inR, h]
   rw [e]
   have d : decide (k < s.size) = false := by simpa using h
   clear e
   go_enter Tryz.func91, Tryz.ntmps91
   go_wp2
   go_ret
   exact ⟨rfl, rfl⟩
theorem in_is (s : ByteArray) (k lo hi : Nat) (r : Bool) (h : inR s k lo hi = r) (i lo' hi' : Int) (hi1 : i = k) (h2 : lo' = lo) (h3 : hi' = hi) (w : World) :
 Calls Tryz.prog 91 #[.string s, .int .i64 i, .int .u8 lo', .int .u8 hi'] w fun e w' => e = .returned (.bool r) ∧ w = w' := by
 subst h; subst hi1; subst h2; subst h3; exact in_any s k lo hi w
def runeN (s : ByteArray) (k c : Nat) : Nat :=
 if c < 128 then 1
 else if c < 194 then 0
 else if c < 224 then (if inR s (k + 1) 128 191 = true then 2 else 0)
 else if c < 240 then (if inR s (k + 1) (if c = 224 then 160 else 128) (if c = 237 then 159 else 191) = true then (if inR s (k + 2) 128 191 = true then 3 else 0) else 0)
 else if c < 245 then (if inR s (k + 1) (if c = 240 then 144 else 128) (if c = 244 then 143 else 191) = true then (if inR s (k + 2) 128 191 = true then (if inR s (k + 3) 128 191 = true then 4 else 0) else 0) else 0)
 else 0
theorem rune_a (s : ByteArray) (k : Nat) (h : k < s.size) (hs : s.size ≤ 65536) (w : World) (c : Nat) (hc : (s[k]'h).toNat = c) (h1 : c < 194) :
 Calls Tryz.prog 76 #[.string s, .int .i64 k] w fun e w' => e = .returned (.int .i64 (runeN s k c : Int)) ∧ w = w' := by
 by_cases h2 : c < 128
 · have e : runeN s k c = 1 := by simp [runeN, h2]
   rw [e]
   have hc' : ((s[k]'h).toNat : Int) < 128 := by omega
   have d : decide (k < s.size) = true := by simpa using h
   clear e
   go_enter Tryz.func76, Tryz.ntmps76
   go_wp2
   go_ret
   exact ⟨rfl, rfl⟩
 · have e : runeN s k c = 0 := by simp [runeN, h1, h2]
   rw [e]
   have hc' : ¬ ((s[k]'h).toNat : Int) < 128 := by omega
   have d1 : decide ((s[k]'h).toNat < 128) = false := by simp; omega
   have d2 : decide (194 ≤ (s[k]'h).toNat) = false := by simp; omega
   have d3 : decide (224 ≤ (s[k]'h).toNat) = false := by simp; omega
   have d4 : decide (240 ≤ (s[k]'h).toNat) = false := by simp; omega
   have d : decide (k < s.size) = true := by simpa using h
   clear e
   go_enter Tryz.func76, Tryz.ntmps76
   go_wp2
   go_ret
   exact ⟨rfl, rfl⟩
theorem rune_c (s : ByteArray) (k : Nat) (h : k < s.size) (hs : s.size ≤ 65536) (w : World) (c : Nat) (hc : (s[k]'h).toNat = c) (h1 : ¬ c < 194) (h2 : c < 224) :
 Calls Tryz.prog 76 #[.string s, .int .i64 k] w fun e w' => e = .returned (.int .i64 (runeN s k c : Int)) ∧ w = w' := by
 have d : decide (k < s.size) = true := by simpa using h
 have d1 : decide ((s[k]'h).toNat < 128) = false := by simp; omega
 have d2 : decide (194 ≤ (s[k]'h).toNat) = true := by simp; omega
 have d3 : decide (224 ≤ (s[k]'h).toNat) = false := by simp; omega
 have d4 : decide (240 ≤ (s[k]'h).toNat) = false := by simp; omega
 have d5 : decide ((s[k]'h).toNat < 224) = true := by simp; omega
 cases hi : inR s (k + 1) 128 191 with
 | true =>
   have e : runeN s k c = 2 := by simp [runeN, h1, h2, show ¬ c < 128 by omega, hi]
   rw [e]
   have HI := hid hi
   clear e hi
   go_enter Tryz.func76, Tryz.ntmps76
   go_wp2_with (go_at_call 91; refine (in_is s (k + 1) 128 191 _ HI.out _ _ _ (by go_num) (by go_num) (by go_num) _).mono ?_; rintro e w' ⟨rfl, rfl⟩)
   go_ret
   exact ⟨rfl, rfl⟩
 | false =>
   have e : runeN s k c = 0 := by simp [runeN, h1, h2, show ¬ c < 128 by omega, hi]
   rw [e]
   have HI := hid hi
   clear e hi
   go_enter Tryz.func76, Tryz.ntmps76
   go_wp2_with (go_at_call 91; refine (in_is s (k + 1) 128 191 _ HI.out _ _ _ (by go_num) (by go_num) (by go_num) _).mono ?_; rintro e w' ⟨rfl, rfl⟩)
   go_ret
   exact ⟨rfl, rfl⟩
theorem rune_d0 (s : ByteArray) (k : Nat) (h : k < s.size) (hs : s.size ≤ 65536) (w : World) (c : Nat) (hc : (s[k]'h).toNat = c) (h1 : ¬ c < 224) (h2 : c < 240) (h3 : c = 224) :
 Calls Tryz.prog 76 #[.string s, .int .i64 k] w fun e w' => e = .returned (.int .i64 (runeN s k c : Int)) ∧ w = w' := by
 have d : decide (k < s.size) = true := by simpa using h
 have d1 : decide ((s[k]'h).toNat < 128) = false := by simp; omega
 have d2 : decide (194 ≤ (s[k]'h).toNat) = true := by simp; omega
 have d3 : decide ((s[k]'h).toNat < 224) = false := by simp; omega
 have d4 : decide (224 ≤ (s[k]'h).toNat) = true := by simp; omega
 have g0 : decide (240 ≤ (s[k]'h).toNat) = false := by simp; omega
 have g1 : decide ((s[k]'h).toNat < 240) = true := by simp; omega
 have g2 : (((s[k]'h).toNat : Int) == 224) = true := by simp; omega
 have gn2 : ((s[k]'h).toNat == 224) = true := by simp; omega
 have gd2 : decide ((s[k]'h).toNat = 224) = true := by simp; omega
 have g3 : (((s[k]'h).toNat : Int) == 237) = false := by simp; omega
 have gn3 : ((s[k]'h).toNat == 237) = false := by simp; omega
 have gd3 : decide ((s[k]'h).toNat = 237) = false := by simp; omega
 cases hi0 : inR s (k + 1) 160 191 with
 | false =>
   have e : runeN s k c = 0 := by simp [runeN, h3, hi0]
   rw [e]
   have HI0 := hid hi0
   clear e hi0
   go_enter Tryz.func76, Tryz.ntmps76
   go_wp2_with fail
   refine (in_is s (k + 1) 160 191 _ HI0.out _ _ _ (by go_num) (by go_num) (by go_num) _).mono ?_
   rintro e w' ⟨rfl, rfl⟩
   go_wp2
   go_ret
   exact ⟨rfl, rfl⟩
 | true =>
   cases hi1 : inR s (k + 2) 128 191 with
   | false =>
     have e : runeN s k c = 0 := by simp [runeN, h3, hi0, hi1]
     rw [e]
     have HI0 := hid hi0
     have HI1 := hid hi1
     clear e hi0 hi1
     go_enter Tryz.func76, Tryz.ntmps76
     go_wp2_with fail
     refine (in_is s (k + 1) 160 191 _ HI0.out _ _ _ (by go_num) (by go_num) (by go_num) _).mono ?_
     rintro e w' ⟨rfl, rfl⟩
     go_wp2_with fail
     refine (in_is s (k + 2) 128 191 _ HI1.out _ _ _ (by go_num) (by go_num) (by go_num) _).mono ?_
     rintro e w' ⟨rfl, rfl⟩
     go_wp2
     go_ret
     exact ⟨rfl, rfl⟩
   | true =>
     have e : runeN s k c = 3 := by simp [runeN, h3, hi0, hi1]
     rw [e]
     have HI0 := hid hi0
     have HI1 := hid hi1
     clear e hi0 hi1
     go_enter Tryz.func76, Tryz.ntmps76
     go_wp2_with fail
     refine (in_is s (k + 1) 160 191 _ HI0.out _ _ _ (by go_num) (by go_num) (by go_num) _).mono ?_
     rintro e w' ⟨rfl, rfl⟩
     go_wp2_with fail
     refine (in_is s (k + 2) 128 191 _ HI1.out _ _ _ (by go_num) (by go_num) (by go_num) _).mono ?_
     rintro e w' ⟨rfl, rfl⟩
     go_wp2
     go_ret
     exact ⟨rfl, rfl⟩
theorem rune_d1 (s : ByteArray) (k : Nat) (h : k < s.size) (hs : s.size ≤ 65536) (w : World) (c : Nat) (hc : (s[k]'h).toNat = c) (h1 : ¬ c < 224) (h2 : c < 240) (h3 : c = 237) :
 Calls Tryz.prog 76 #[.string s, .int .i64 k] w fun e w' => e = .returned (.int .i64 (runeN s k c : Int)) ∧ w = w' := by
 have d : decide (k < s.size) = true := by simpa using h
 have d1 : decide ((s[k]'h).toNat < 128) = false := by simp; omega
 have d2 : decide (194 ≤ (s[k]'h).toNat) = true := by simp; omega
 have d3 : decide ((s[k]'h).toNat < 224) = false := by simp; omega
 have d4 : decide (224 ≤ (s[k]'h).toNat) = true := by simp; omega
 have g0 : decide (240 ≤ (s[k]'h).toNat) = false := by simp; omega
 have g1 : decide ((s[k]'h).toNat < 240) = true := by simp; omega
 have g2 : (((s[k]'h).toNat : Int) == 224) = false := by simp; omega
 have gn2 : ((s[k]'h).toNat == 224) = false := by simp; omega
 have gd2 : decide ((s[k]'h).toNat = 224) = false := by simp; omega
 have g3 : (((s[k]'h).toNat : Int) == 237) = true := by simp; omega
 have gn3 : ((s[k]'h).toNat == 237) = true := by simp; omega
 have gd3 : decide ((s[k]'h).toNat = 237) = true := by simp; omega
 cases hi0 : inR s (k + 1) 128 159 with
 | false =>
   have e : runeN s k c = 0 := by simp [runeN, h3, hi0]
   rw [e]
   have HI0 := hid hi0
   clear e hi0
   go_enter Tryz.func76, Tryz.ntmps76
   go_wp2_with fail
   refine (in_is s (k + 1) 128 159 _ HI0.out _ _ _ (by go_num) (by go_num) (by go_num) _).mono ?_
   rintro e w' ⟨rfl, rfl⟩
   go_wp2
   go_ret
   exact ⟨rfl, rfl⟩
 | true =>
   cases hi1 : inR s (k + 2) 128 191 with
   | false =>
     have e : runeN s k c = 0 := by simp [runeN, h3, hi0, hi1]
     rw [e]
     have HI0 := hid hi0
     have HI1 := hid hi1
     clear e hi0 hi1
     go_enter Tryz.func76, Tryz.ntmps76
     go_wp2_with fail
     refine (in_is s (k + 1) 128 159 _ HI0.out _ _ _ (by go_num) (by go_num) (by go_num) _).mono ?_
     rintro e w' ⟨rfl, rfl⟩
     go_wp2_with fail
     refine (in_is s (k + 2) 128 191 _ HI1.out _ _ _ (by go_num) (by go_num) (by go_num) _).mono ?_
     rintro e w' ⟨rfl, rfl⟩
     go_wp2
     go_ret
     exact ⟨rfl, rfl⟩
   | true =>
     have e : runeN s k c = 3 := by simp [runeN, h3, hi0, hi1]
     rw [e]
     have HI0 := hid hi0
     have HI1 := hid hi1
     clear e hi0 hi1
     go_enter Tryz.func76, Tryz.ntmps76
     go_wp2_with fail
     refine (in_is s (k + 1) 128 159 _ HI0.out _ _ _ (by go_num) (by go_num) (by go_num) _).mono ?_
     rintro e w' ⟨rfl, rfl⟩
     go_wp2_with fail
     refine (in_is s (k + 2) 128 191 _ HI1.out _ _ _ (by go_num) (by go_num) (by go_num) _).mono ?_
     rintro e w' ⟨rfl, rfl⟩
     go_wp2
     go_ret
     exact ⟨rfl, rfl⟩
theorem rune_d2 (s : ByteArray) (k : Nat) (h : k < s.size) (hs : s.size ≤ 65536) (w : World) (c : Nat) (hc : (s[k]'h).toNat = c) (h1 : ¬ c < 224) (h2 : c < 240) (h3 : c ≠ 224) (h4 : c ≠ 237) :
 Calls Tryz.prog 76 #[.string s, .int .i64 k] w fun e w' => e = .returned (.int .i64 (runeN s k c : Int)) ∧ w = w' := by
 have d : decide (k < s.size) = true := by simpa using h
 have d1 : decide ((s[k]'h).toNat < 128) = false := by simp; omega
 have d2 : decide (194 ≤ (s[k]'h).toNat) = true := by simp; omega
 have d3 : decide ((s[k]'h).toNat < 224) = false := by simp; omega
 have d4 : decide (224 ≤ (s[k]'h).toNat) = true := by simp; omega
 have g0 : decide (240 ≤ (s[k]'h).toNat) = false := by simp; omega
 have g1 : decide ((s[k]'h).toNat < 240) = true := by simp; omega
 have g2 : (((s[k]'h).toNat : Int) == 224) = false := by simp; omega
 have gn2 : ((s[k]'h).toNat == 224) = false := by simp; omega
 have gd2 : decide ((s[k]'h).toNat = 224) = false := by simp; omega
 have g3 : (((s[k]'h).toNat : Int) == 237) = false := by simp; omega
 have gn3 : ((s[k]'h).toNat == 237) = false := by simp; omega
 have gd3 : decide ((s[k]'h).toNat = 237) = false := by simp; omega
 cases hi0 : inR s (k + 1) 128 191 with
 | false =>
   have e : runeN s k c = 0 := by simp [runeN, h1, h2, show ¬ c < 128 by omega, show ¬ c < 194 by omega, h3, h4, hi0]
   rw [e]
   have HI0 := hid hi0
   clear e hi0
   go_enter Tryz.func76, Tryz.ntmps76
   go_wp2_with fail
   refine (in_is s (k + 1) 128 191 _ HI0.out _ _ _ (by go_num) (by go_num) (by go_num) _).mono ?_
   rintro e w' ⟨rfl, rfl⟩
   go_wp2
   go_ret
   exact ⟨rfl, rfl⟩
 | true =>
   cases hi1 : inR s (k + 2) 128 191 with
   | false =>
     have e : runeN s k c = 0 := by simp [runeN, h1, h2, show ¬ c < 128 by omega, show ¬ c < 194 by omega, h3, h4, hi0, hi1]
     rw [e]
     have HI0 := hid hi0
     have HI1 := hid hi1
     clear e hi0 hi1
     go_enter Tryz.func76, Tryz.ntmps76
     go_wp2_with fail
     refine (in_is s (k + 1) 128 191 _ HI0.out _ _ _ (by go_num) (by go_num) (by go_num) _).mono ?_
     rintro e w' ⟨rfl, rfl⟩
     go_wp2_with fail
     refine (in_is s (k + 2) 128 191 _ HI1.out _ _ _ (by go_num) (by go_num) (by go_num) _).mono ?_
     rintro e w' ⟨rfl, rfl⟩
     go_wp2
     go_ret
     exact ⟨rfl, rfl⟩
   | true =>
     have e : runeN s k c = 3 := by simp [runeN, h1, h2, show ¬ c < 128 by omega, show ¬ c < 194 by omega, h3, h4, hi0, hi1]
     rw [e]
     have HI0 := hid hi0
     have HI1 := hid hi1
     clear e hi0 hi1
     go_enter Tryz.func76, Tryz.ntmps76
     go_wp2_with fail
     refine (in_is s (k + 1) 128 191 _ HI0.out _ _ _ (by go_num) (by go_num) (by go_num) _).mono ?_
     rintro e w' ⟨rfl, rfl⟩
     go_wp2_with fail
     refine (in_is s (k + 2) 128 191 _ HI1.out _ _ _ (by go_num) (by go_num) (by go_num) _).mono ?_
     rintro e w' ⟨rfl, rfl⟩
     go_wp2
     go_ret
     exact ⟨rfl, rfl⟩
theorem rune_e0 (s : ByteArray) (k : Nat) (h : k < s.size) (hs : s.size ≤ 65536) (w : World) (c : Nat) (hc : (s[k]'h).toNat = c) (h1 : ¬ c < 240) (h2 : c < 245) (h3 : c = 240) :
 Calls Tryz.prog 76 #[.string s, .int .i64 k] w fun e w' => e = .returned (.int .i64 (runeN s k c : Int)) ∧ w = w' := by
 have d : decide (k < s.size) = true := by simpa using h
 have d1 : decide ((s[k]'h).toNat < 128) = false := by simp; omega
 have d2 : decide (194 ≤ (s[k]'h).toNat) = true := by simp; omega
 have d3 : decide ((s[k]'h).toNat < 224) = false := by simp; omega
 have d4 : decide (224 ≤ (s[k]'h).toNat) = true := by simp; omega
 have g0 : decide (240 ≤ (s[k]'h).toNat) = true := by simp; omega
 have g1 : decide ((s[k]'h).toNat < 240) = false := by simp; omega
 have g2 : decide ((s[k]'h).toNat < 245) = true := by simp; omega
 have g3 : (((s[k]'h).toNat : Int) == 240) = true := by simp; omega
 have gn3 : ((s[k]'h).toNat == 240) = true := by simp; omega
 have gd3 : decide ((s[k]'h).toNat = 240) = true := by simp; omega
 have g4 : (((s[k]'h).toNat : Int) == 244) = false := by simp; omega
 have gn4 : ((s[k]'h).toNat == 244) = false := by simp; omega
 have gd4 : decide ((s[k]'h).toNat = 244) = false := by simp; omega
 cases hi0 : inR s (k + 1) 144 191 with
 | false =>
   have e : runeN s k c = 0 := by simp [runeN, h3, hi0]
   rw [e]
   have HI0 := hid hi0
   clear e hi0
   go_enter Tryz.func76, Tryz.ntmps76
   go_wp2_with fail
   refine (in_is s (k + 1) 144 191 _ HI0.out _ _ _ (by go_num) (by go_num) (by go_num) _).mono ?_
   rintro e w' ⟨rfl, rfl⟩
   go_wp2
   go_ret
   exact ⟨rfl, rfl⟩
 | true =>
   cases hi1 : inR s (k + 2) 128 191 with
   | false =>
     have e : runeN s k c = 0 := by simp [runeN, h3, hi0, hi1]
     rw [e]
     have HI0 := hid hi0
     have HI1 := hid hi1
     clear e hi0 hi1
     go_enter Tryz.func76, Tryz.ntmps76
     go_wp2_with fail
     refine (in_is s (k + 1) 144 191 _ HI0.out _ _ _ (by go_num) (by go_num) (by go_num) _).mono ?_
     rintro e w' ⟨rfl, rfl⟩
     go_wp2_with fail
     refine (in_is s (k + 2) 128 191 _ HI1.out _ _ _ (by go_num) (by go_num) (by go_num) _).mono ?_
     rintro e w' ⟨rfl, rfl⟩
     go_wp2
     go_ret
     exact ⟨rfl, rfl⟩
   | true =>
     cases hi2 : inR s (k + 3) 128 191 with
     | false =>
       have e : runeN s k c = 0 := by simp [runeN, h3, hi0, hi1, hi2]
       rw [e]
       have HI0 := hid hi0
       have HI1 := hid hi1
       have HI2 := hid hi2
       clear e hi0 hi1 hi2
       go_enter Tryz.func76, Tryz.ntmps76
       go_wp2_with fail
       refine (in_is s (k + 1) 144 191 _ HI0.out _ _ _ (by go_num) (by go_num) (by go_num) _).mono ?_
       rintro e w' ⟨rfl, rfl⟩
       go_wp2_with fail
       refine (in_is s (k + 2) 128 191 _ HI1.out _ _ _ (by go_num) (by go_num) (by go_num) _).mono ?_
       rintro e w' ⟨rfl, rfl⟩
       go_wp2_with fail
       refine (in_is s (k + 3) 128 191 _ HI2.out _ _ _ (by go_num) (by go_num) (by go_num) _).mono ?_
       rintro e w' ⟨rfl, rfl⟩
       go_wp2
       go_ret
       exact ⟨rfl, rfl⟩
     | true =>
       have e : runeN s k c = 4 := by simp [runeN, h3, hi0, hi1, hi2]
       rw [e]
       have HI0 := hid hi0
       have HI1 := hid hi1
       have HI2 := hid hi2
       clear e hi0 hi1 hi2
       go_enter Tryz.func76, Tryz.ntmps76
       go_wp2_with fail
       refine (in_is s (k + 1) 144 191 _ HI0.out _ _ _ (by go_num) (by go_num) (by go_num) _).mono ?_
       rintro e w' ⟨rfl, rfl⟩
       go_wp2_with fail
       refine (in_is s (k + 2) 128 191 _ HI1.out _ _ _ (by go_num) (by go_num) (by go_num) _).mono ?_
       rintro e w' ⟨rfl, rfl⟩
       go_wp2_with fail
       refine (in_is s (k + 3) 128 191 _ HI2.out _ _ _ (by go_num) (by go_num) (by go_num) _).mono ?_
       rintro e w' ⟨rfl, rfl⟩
       go_wp2
       go_ret
       exact ⟨rfl, rfl⟩
theorem rune_e1 (s : ByteArray) (k : Nat) (h : k < s.size) (hs : s.size ≤ 65536) (w : World) (c : Nat) (hc : (s[k]'h).toNat = c) (h1 : ¬ c < 240) (h2 : c < 245) (h3 : c = 244) :
 Calls Tryz.prog 76 #[.string s, .int .i64 k] w fun e w' => e = .returned (.int .i64 (runeN s k c : Int)) ∧ w = w' := by
 have d : decide (k < s.size) = true := by simpa using h
 have d1 : decide ((s[k]'h).toNat < 128) = false := by simp; omega
 have d2 : decide (194 ≤ (s[k]'h).toNat) = true := by simp; omega
 have d3 : decide ((s[k]'h).toNat < 224) = false := by simp; omega
 have d4 : decide (224 ≤ (s[k]'h).toNat) = true := by simp; omega
 have g0 : decide (240 ≤ (s[k]'h).toNat) = true := by simp; omega
 have g1 : decide ((s[k]'h).toNat < 240) = false := by simp; omega
 have g2 : decide ((s[k]'h).toNat < 245) = true := by simp; omega
 have g3 : (((s[k]'h).toNat : Int) == 240) = false := by simp; omega
 have gn3 : ((s[k]'h).toNat == 240) = false := by simp; omega
 have gd3 : decide ((s[k]'h).toNat = 240) = false := by simp; omega
 have g4 : (((s[k]'h).toNat : Int) == 244) = true := by simp; omega
 have gn4 : ((s[k]'h).toNat == 244) = true := by simp; omega
 have gd4 : decide ((s[k]'h).toNat = 244) = true := by simp; omega
 cases hi0 : inR s (k + 1) 128 143 with
 | false =>
   have e : runeN s k c = 0 := by simp [runeN, h3, hi0]
   rw [e]
   have HI0 := hid hi0
   clear e hi0
   go_enter Tryz.func76, Tryz.ntmps76
   go_wp2_with fail
   refine (in_is s (k + 1) 128 143 _ HI0.out _ _ _ (by go_num) (by go_num) (by go_num) _).mono ?_
   rintro e w' ⟨rfl, rfl⟩
   go_wp2
   go_ret
   exact ⟨rfl, rfl⟩
 | true =>
   cases hi1 : inR s (k + 2) 128 191 with
   | false =>
     have e : runeN s k c = 0 := by simp [runeN, h3, hi0, hi1]
     rw [e]
     have HI0 := hid hi0
     have HI1 := hid hi1
     clear e hi0 hi1
     go_enter Tryz.func76, Tryz.ntmps76
     go_wp2_with fail
     refine (in_is s (k + 1) 128 143 _ HI0.out _ _ _ (by go_num) (by go_num) (by go_num) _).mono ?_
     rintro e w' ⟨rfl, rfl⟩
     go_wp2_with fail
     refine (in_is s (k + 2) 128 191 _ HI1.out _ _ _ (by go_num) (by go_num) (by go_num) _).mono ?_
     rintro e w' ⟨rfl, rfl⟩
     go_wp2
     go_ret
     exact ⟨rfl, rfl⟩
   | true =>
     cases hi2 : inR s (k + 3) 128 191 with
     | false =>
       have e : runeN s k c = 0 := by simp [runeN, h3, hi0, hi1, hi2]
       rw [e]
       have HI0 := hid hi0
       have HI1 := hid hi1
       have HI2 := hid hi2
       clear e hi0 hi1 hi2
       go_enter Tryz.func76, Tryz.ntmps76
       go_wp2_with fail
       refine (in_is s (k + 1) 128 143 _ HI0.out _ _ _ (by go_num) (by go_num) (by go_num) _).mono ?_
       rintro e w' ⟨rfl, rfl⟩
       go_wp2_with fail
       refine (in_is s (k + 2) 128 191 _ HI1.out _ _ _ (by go_num) (by go_num) (by go_num) _).mono ?_
       rintro e w' ⟨rfl, rfl⟩
       go_wp2_with fail
       refine (in_is s (k + 3) 128 191 _ HI2.out _ _ _ (by go_num) (by go_num) (by go_num) _).mono ?_
       rintro e w' ⟨rfl, rfl⟩
       go_wp2
       go_ret
       exact ⟨rfl, rfl⟩
     | true =>
       have e : runeN s k c = 4 := by simp [runeN, h3, hi0, hi1, hi2]
       rw [e]
       have HI0 := hid hi0
       have HI1 := hid hi1
       have HI2 := hid hi2
       clear e hi0 hi1 hi2
       go_enter Tryz.func76, Tryz.ntmps76
       go_wp2_with fail
       refine (in_is s (k + 1) 128 143 _ HI0.out _ _ _ (by go_num) (by go_num) (by go_num) _).mono ?_
       rintro e w' ⟨rfl, rfl⟩
       go_wp2_with fail
       refine (in_is s (k + 2) 128 191 _ HI1.out _ _ _ (by go_num) (by go_num) (by go_num) _).mono ?_
       rintro e w' ⟨rfl, rfl⟩
       go_wp2_with fail
       refine (in_is s (k + 3) 128 191 _ HI2.out _ _ _ (by go_num) (by go_num) (by go_num) _).mono ?_
       rintro e w' ⟨rfl, rfl⟩
       go_wp2
       go_ret
       exact ⟨rfl, rfl⟩
theorem rune_e2 (s : ByteArray) (k : Nat) (h : k < s.size) (hs : s.size ≤ 65536) (w : World) (c : Nat) (hc : (s[k]'h).toNat = c) (h1 : ¬ c < 240) (h2 : c < 245) (h3 : c ≠ 240) (h4 : c ≠ 244) :
 Calls Tryz.prog 76 #[.string s, .int .i64 k] w fun e w' => e = .returned (.int .i64 (runeN s k c : Int)) ∧ w = w' := by
 have d : decide (k < s.size) = true := by simpa using h
 have d1 : decide ((s[k]'h).toNat < 128) = false := by simp; omega
 have d2 : decide (194 ≤ (s[k]'h).toNat) = true := by simp; omega
 have d3 : decide ((s[k]'h).toNat < 224) = false := by simp; omega
 have d4 : decide (224 ≤ (s[k]'h).toNat) = true := by simp; omega
 have g0 : decide (240 ≤ (s[k]'h).toNat) = true := by simp; omega
 have g1 : decide ((s[k]'h).toNat < 240) = false := by simp; omega
 have g2 : decide ((s[k]'h).toNat < 245) = true := by simp; omega
 have g3 : (((s[k]'h).toNat : Int) == 240) = false := by simp; omega
 have gn3 : ((s[k]'h).toNat == 240) = false := by simp; omega
 have gd3 : decide ((s[k]'h).toNat = 240) = false := by simp; omega
 have g4 : (((s[k]'h).toNat : Int) == 244) = false := by simp; omega
 have gn4 : ((s[k]'h).toNat == 244) = false := by simp; omega
 have gd4 : decide ((s[k]'h).toNat = 244) = false := by simp; omega
 cases hi0 : inR s (k + 1) 128 191 with
 | false =>
   have e : runeN s k c = 0 := by simp [runeN, h1, h2, show ¬ c < 128 by omega, show ¬ c < 194 by omega, show ¬ c < 224 by omega, h3, h4, hi0]
   rw [e]
   have HI0 := hid hi0
   clear e hi0
   go_enter Tryz.func76, Tryz.ntmps76
   go_wp2_with fail
   refine (in_is s (k + 1) 128 191 _ HI0.out _ _ _ (by go_num) (by go_num) (by go_num) _).mono ?_
   rintro e w' ⟨rfl, rfl⟩
   go_wp2
   go_ret
   exact ⟨rfl, rfl⟩
 | true =>
   cases hi1 : inR s (k + 2) 128 191 with
   | false =>
     have e : runeN s k c = 0 := by simp [runeN, h1, h2, show ¬ c < 128 by omega, show ¬ c < 194 by omega, show ¬ c < 224 by omega, h3, h4, hi0, hi1]
     rw [e]
     have HI0 := hid hi0
     have HI1 := hid hi1
     clear e hi0 hi1
     go_enter Tryz.func76, Tryz.ntmps76
     go_wp2_with fail
     refine (in_is s (k + 1) 128 191 _ HI0.out _ _ _ (by go_num) (by go_num) (by go_num) _).mono ?_
     rintro e w' ⟨rfl, rfl⟩
     go_wp2_with fail
     refine (in_is s (k + 2) 128 191 _ HI1.out _ _ _ (by go_num) (by go_num) (by go_num) _).mono ?_
     rintro e w' ⟨rfl, rfl⟩
     go_wp2
     go_ret
     exact ⟨rfl, rfl⟩
   | true =>
     cases hi2 : inR s (k + 3) 128 191 with
     | false =>
       have e : runeN s k c = 0 := by simp [runeN, h1, h2, show ¬ c < 128 by omega, show ¬ c < 194 by omega, show ¬ c < 224 by omega, h3, h4, hi0, hi1, hi2]
       rw [e]
       have HI0 := hid hi0
       have HI1 := hid hi1
       have HI2 := hid hi2
       clear e hi0 hi1 hi2
       go_enter Tryz.func76, Tryz.ntmps76
       go_wp2_with fail
       refine (in_is s (k + 1) 128 191 _ HI0.out _ _ _ (by go_num) (by go_num) (by go_num) _).mono ?_
       rintro e w' ⟨rfl, rfl⟩
       go_wp2_with fail
       refine (in_is s (k + 2) 128 191 _ HI1.out _ _ _ (by go_num) (by go_num) (by go_num) _).mono ?_
       rintro e w' ⟨rfl, rfl⟩
       go_wp2_with fail
       refine (in_is s (k + 3) 128 191 _ HI2.out _ _ _ (by go_num) (by go_num) (by go_num) _).mono ?_
       rintro e w' ⟨rfl, rfl⟩
       go_wp2
       go_ret
       exact ⟨rfl, rfl⟩
     | true =>
       have e : runeN s k c = 4 := by simp [runeN, h1, h2, show ¬ c < 128 by omega, show ¬ c < 194 by omega, show ¬ c < 224 by omega, h3, h4, hi0, hi1, hi2]
       rw [e]
       have HI0 := hid hi0
       have HI1 := hid hi1
       have HI2 := hid hi2
       clear e hi0 hi1 hi2
       go_enter Tryz.func76, Tryz.ntmps76
       go_wp2_with fail
       refine (in_is s (k + 1) 128 191 _ HI0.out _ _ _ (by go_num) (by go_num) (by go_num) _).mono ?_
       rintro e w' ⟨rfl, rfl⟩
       go_wp2_with fail
       refine (in_is s (k + 2) 128 191 _ HI1.out _ _ _ (by go_num) (by go_num) (by go_num) _).mono ?_
       rintro e w' ⟨rfl, rfl⟩
       go_wp2_with fail
       refine (in_is s (k + 3) 128 191 _ HI2.out _ _ _ (by go_num) (by go_num) (by go_num) _).mono ?_
       rintro e w' ⟨rfl, rfl⟩
       go_wp2
       go_ret
       exact ⟨rfl, rfl⟩
theorem rune_f (s : ByteArray) (k : Nat) (h : k < s.size) (hs : s.size ≤ 65536) (w : World) (c : Nat) (hc : (s[k]'h).toNat = c) (h1 : ¬ c < 245) :
 Calls Tryz.prog 76 #[.string s, .int .i64 k] w fun e w' => e = .returned (.int .i64 (runeN s k c : Int)) ∧ w = w' := by
 have d : decide (k < s.size) = true := by simpa using h
 have d1 : decide ((s[k]'h).toNat < 128) = false := by simp; omega
 have d2 : decide (194 ≤ (s[k]'h).toNat) = true := by simp; omega
 have d3 : decide ((s[k]'h).toNat < 224) = false := by simp; omega
 have d4 : decide (224 ≤ (s[k]'h).toNat) = true := by simp; omega
 have d5 : decide ((s[k]'h).toNat < 240) = false := by simp; omega
 have d6 : decide (240 ≤ (s[k]'h).toNat) = true := by simp; omega
 have d7 : decide ((s[k]'h).toNat < 245) = false := by simp; omega
 have e : runeN s k c = 0 := by simp [runeN, h1, show ¬ c < 128 by omega, show ¬ c < 194 by omega, show ¬ c < 224 by omega, show ¬ c < 240 by omega]
 rw [e]
 clear e
 go_enter Tryz.func76, Tryz.ntmps76
 go_wp2
 go_ret
 exact ⟨rfl, rfl⟩
theorem rune_any (s : ByteArray) (k : Nat) (h : k < s.size) (hs : s.size ≤ 65536) (w : World) (m : Nat) (hm : runeN s k (s[k]'h).toNat = m) :
 Calls Tryz.prog 76 #[.string s, .int .i64 k] w fun e w' => e = .returned (.int .i64 (m : Int)) ∧ w = w' := by
 subst hm
 generalize hc : (s[k]'h).toNat = c
 by_cases h1 : c < 194
 · exact rune_a s k h hs w c hc h1
 by_cases h2 : c < 224
 · exact rune_c s k h hs w c hc h1 h2
 by_cases h3 : c < 240
 · by_cases h4 : c = 224
   · exact rune_d0 s k h hs w c hc h2 h3 h4
   by_cases h5 : c = 237
   · exact rune_d1 s k h hs w c hc h2 h3 h5
   · exact rune_d2 s k h hs w c hc h2 h3 h4 h5
 by_cases h6 : c < 245
 · by_cases h4 : c = 240
   · exact rune_e0 s k h hs w c hc h3 h6 h4
   by_cases h5 : c = 244
   · exact rune_e1 s k h hs w c hc h3 h6 h5
   · exact rune_e2 s k h hs w c hc h3 h6 h4 h5
 · exact rune_f s k h hs w c hc h6
theorem rune_check (s : ByteArray) (k c n b1 b2 b3 : Nat) (h0 : 128 ≤ c) (h0' : c < 256)
 (i1 : ∀ lo hi, inR s (k + 1) lo hi = (decide (1 < n) && (decide (lo ≤ b1) && decide (b1 ≤ hi))))
 (i2 : ∀ lo hi, inR s (k + 2) lo hi = (decide (2 < n) && (decide (lo ≤ b2) && decide (b2 ≤ hi))))
 (i3 : ∀ lo hi, inR s (k + 3) lo hi = (decide (3 < n) && (decide (lo ≤ b3) && decide (b3 ≤ hi)))) :
 Lib.checkN n b1 b2 b3 (Lib.firstT c % 8) (Lib.accLo (Lib.firstT c / 16)) (Lib.accHi (Lib.firstT c / 16)) = if runeN s k c = 0 then none else some (runeN s k c) := by
 have key2 : ∀ lo hi, Lib.checkN n b1 b2 b3 2 lo hi = if inR s (k + 1) lo hi = true then some 2 else none := fun lo hi => by
  rw [i1]; unfold Lib.checkN
  by_cases h : n < 2 ∨ b1 < lo ∨ hi < b1
  · rw [if_pos rfl, if_pos h, if_neg]; simp; omega
  · rw [if_pos rfl, if_neg h, if_pos]; simp; omega
 have key3 : ∀ lo hi, Lib.checkN n b1 b2 b3 3 lo hi = if inR s (k + 1) lo hi = true then (if inR s (k + 2) 128 191 = true then some 3 else none) else none := fun lo hi => by
  rw [i1, i2]; unfold Lib.checkN
  rw [if_neg (by decide), if_pos rfl]
  by_cases h : n < 3 ∨ b1 < lo ∨ hi < b1 ∨ b2 < 128 ∨ 191 < b2
  · rw [if_pos h]
    split
    · rw [if_neg]; simp_all; omega
    · rfl
  · rw [if_neg h, if_pos, if_pos]
    · simp; omega
    · simp; omega
 have key4 : ∀ lo hi, Lib.checkN n b1 b2 b3 4 lo hi = if inR s (k + 1) lo hi = true then (if inR s (k + 2) 128 191 = true then (if inR s (k + 3) 128 191 = true then some 4 else none) else none) else none := fun lo hi => by
  rw [i1, i2, i3]; unfold Lib.checkN
  rw [if_neg (by decide), if_neg (by decide), if_pos rfl]
  by_cases h : n < 4 ∨ b1 < lo ∨ hi < b1 ∨ b2 < 128 ∨ 191 < b2 ∨ b3 < 128 ∨ 191 < b3
  · rw [if_pos h]
    split
    · split
      · rw [if_neg]; simp_all; omega
      · rfl
    · rfl
  · rw [if_neg h, if_pos, if_pos, if_pos]
    · simp; omega
    · simp; omega
    · simp; omega
 by_cases c0 : c < 194
 · simp [Lib.firstT, Lib.checkN, runeN, show ¬ c < 128 by omega, c0]
 by_cases c1 : c < 224
 · rw [show Lib.firstT c = 2 by simp [Lib.firstT, show ¬ c < 128 by omega, c0, c1]]
   rw [show Lib.accLo (2 / 16) = 128 by decide, show Lib.accHi (2 / 16) = 191 by decide, show 2 % 8 = 2 by decide, key2]
   have er : runeN s k c = (if inR s (k + 1) 128 191 = true then 2 else 0) := by
    unfold runeN
    rw [if_neg (by omega), if_neg c0, if_pos c1]
   rw [er]
   split <;> rfl
 have c3 : ∀ lo hi, (if c = 224 then 160 else 128) = lo → (if c = 237 then 159 else 191) = hi → c < 240 → Lib.checkN n b1 b2 b3 3 lo hi = if runeN s k c = 0 then none else some (runeN s k c) := fun lo hi e1 e2 h => by
  rw [key3]
  have er : runeN s k c = (if inR s (k + 1) lo hi = true then (if inR s (k + 2) 128 191 = true then 3 else 0) else 0) := by
   unfold runeN
   rw [if_neg (by omega), if_neg c0, if_neg c1, if_pos h, e1, e2]
  rw [er]
  split
  · split <;> rfl
  · rfl
 by_cases d1 : c = 224
 · subst d1; exact c3 160 191 rfl rfl (by omega)
 by_cases d2 : c = 237
 · subst d2; exact c3 128 159 rfl rfl (by omega)
 by_cases d3 : c < 240
 · have ft : Lib.firstT c = 3 := by
    unfold Lib.firstT
    repeat' split
    all_goals first | rfl | (exfalso; omega)
   rw [ft]
   exact c3 128 191 (if_neg d1) (if_neg d2) d3
 have c4 : ∀ lo hi, (if c = 240 then 144 else 128) = lo → (if c = 244 then 143 else 191) = hi → c < 245 → Lib.checkN n b1 b2 b3 4 lo hi = if runeN s k c = 0 then none else some (runeN s k c) := fun lo hi e1 e2 h => by
  rw [key4]
  have er : runeN s k c = (if inR s (k + 1) lo hi = true then (if inR s (k + 2) 128 191 = true then (if inR s (k + 3) 128 191 = true then 4 else 0) else 0) else 0) := by
   unfold runeN
   rw [if_neg (by omega), if_neg c0, if_neg c1, if_neg d3, if_pos h, e1, e2]
  rw [er]
  split
  · split
    · split <;> rfl
    · rfl
  · rfl
 by_cases e1 : c = 240
 · subst e1; exact c4 144 191 rfl rfl (by omega)
 by_cases e2 : c = 244
 · subst e2; exact c4 128 143 rfl rfl (by omega)
 by_cases e3 : c < 245
 · have ft : Lib.firstT c = 4 := by
    unfold Lib.firstT
    repeat' split
    all_goals first | rfl | (exfalso; omega)
   rw [ft]
   exact c4 128 191 (if_neg e1) (if_neg e2) e3
 · have ft : Lib.firstT c = 241 := by
    unfold Lib.firstT
    repeat' split
    all_goals first | rfl | (exfalso; omega)
   rw [ft]
   rw [show runeN s k c = 0 by simp [runeN, e3, show ¬ c < 128 by omega, c0, c1, d3]]
   rfl
theorem tail_at (s : ByteArray) (k j : Nat) (h : k + j < s.size) : (s.data.toList.drop k).getD j 0 = s[k + j]'h := by
 have h' : k + j < s.data.toList.length := by simpa using h
 rw [List.getD_eq_getElem?_getD, List.getElem?_drop, List.getElem?_eq_getElem h']
 simp
 rfl
theorem in_tail (s : ByteArray) (k j lo hi : Nat) : inR s (k + j) lo hi = (decide (j < (s.data.toList.drop k).length) && (decide (lo ≤ ((s.data.toList.drop k).getD j 0).toNat) && decide (((s.data.toList.drop k).getD j 0).toNat ≤ hi))) := by
 have hl : (s.data.toList.drop k).length = s.size - k := by simp
 unfold inR
 by_cases h : k + j < s.size
 · rw [dif_pos h, tail_at s k j h, hl]
   rw [show decide (j < s.size - k) = true by simp; omega]
   simp
 · rw [dif_neg h, hl, show decide (j < s.size - k) = false by simp; omega]
   rfl
theorem valid_rune (s : ByteArray) (k : Nat) (h : k < s.size) : Lib.validD (s.data.toList.drop k) = if runeN s k (s[k]'h).toNat = 0 then false else Lib.validD (s.data.toList.drop (k + runeN s k (s[k]'h).toNat)) := by
 have hl : (s.data.toList.drop k).length = s.size - k := by simp
 have hne : s.data.toList.drop k ≠ [] := by intro e; rw [e] at hl; simp at hl; omega
 have h0 : (s.data.toList.drop k).getD 0 0 = s[k]'h := tail_at s k 0 h
 by_cases hc : (s[k]'h).toNat < 128
 · have e : runeN s k (s[k]'h).toNat = 1 := by simp [runeN, hc]
   rw [e, if_neg (by decide)]
   have := Lib.validD_ascii 1 (s.data.toList.drop k) (fun b hb => by
    cases hd : s.data.toList.drop k with
    | nil => exact absurd hd hne
    | cons x t =>
      rw [hd] at hb h0
      simp at hb h0
      rw [hb, h0]; exact hc)
   rw [this, List.drop_drop]
 · rw [Lib.validD_lead _ hne (by rw [h0]; omega), h0, rune_check s k (s[k]'h).toNat _ _ _ _ (by omega) (UInt8.toNat_lt _) (fun lo hi => in_tail s k 1 lo hi) (fun lo hi => in_tail s k 2 lo hi) (fun lo hi => in_tail s k 3 lo hi)]
   by_cases hz : runeN s k (s[k]'h).toNat = 0
   · rw [if_pos hz, if_pos hz]
   · rw [if_neg hz, if_neg hz]
     show Lib.validD (List.drop _ (List.drop k s.data.toList)) = _
     rw [List.drop_drop]
theorem in_lt {s : ByteArray} {k lo hi : Nat} (h : inR s k lo hi = true) : k < s.size := by
 unfold inR at h
 split at h
 · assumption
 · cases h
theorem rune_fits (s : ByteArray) (k c : Nat) (h : k < s.size) : k + runeN s k c ≤ s.size := by
 unfold runeN
 repeat' split
 all_goals first | omega | (have := in_lt (by assumption : inR s (k + 3) 128 191 = true); omega) | (have := in_lt (by assumption : inR s (k + 2) 128 191 = true); omega) | (have := in_lt (by assumption : inR s (k + 1) 128 191 = true); omega)
theorem text_any (s : ByteArray) (hs : s.size ≤ 65536) (w : World) : Calls Tryz.prog 49 #[.string s] w fun e w' => e = .returned (.bool (Lib.validD s.data.toList)) ∧ w = w' := by
 generalize hr : Lib.validD s.data.toList = r
 have HR : Hid (Lib.validD (s.data.toList.drop 0) = r) := by rw [List.drop_zero]; exact hr
 clear hr
 go_enter Tryz.func49, Tryz.ntmps49
 go_wp2
 go_loop [3] (fun i => ∃ k : Nat, k ≤ s.size ∧ i = .int .i64 k ∧ Hid (Lib.validD (s.data.toList.drop k) = r)) (fun i => s.size - (intOf i).toNat)
 case atStart => exact ⟨0, Nat.zero_le _, rfl, HR⟩
 case round =>
  obtain ⟨k, hk, rfl, hv⟩ := hrel
  by_cases hlt : k < s.size
  · have hstep := hv.out
    rw [valid_rune s k hlt] at hstep
    have hfit := rune_fits s k (s[k]'hlt).toNat hlt
    generalize hm : runeN s k (s[k]'hlt).toNat = m at *
    have HC := hid (fun W => rune_any s k hlt hs W m hm)
    clear hm
    have d : decide (k < s.size) = true := by simpa using hlt
    by_cases hz : m = 0
    · subst hz
      rw [if_pos rfl] at hstep
      subst hstep
      go_wp2_with (go_at_call 76; refine (HC.out _).mono ?_; rintro e w' ⟨rfl, rfl⟩)
      go_ret
      exact ⟨rfl, rfl⟩
    · rw [if_neg hz] at hstep
      have HS := hid hstep
      have z1 : ((m : Int) == 0) = false := by simp; omega
      clear hstep
      go_wp2_with (go_at_call 76; refine (HC.out _).mono ?_; rintro e w' ⟨rfl, rfl⟩)
      go_round
      case rel => exact ⟨k + m, by omega, by go_num, HS⟩
      case measure => simp [intOf]; omega
  · have hf : r = true := by
     have := hv.out
     rw [List.drop_eq_nil_of_le (by have : s.data.toList.length = s.size := rfl; omega), Lib.validD_nil] at this
     exact this.symm
    subst hf
    have d : decide (k < s.size) = false := by simpa using hlt
    go_wp2
    go_ret
    exact ⟨rfl, rfl⟩
end Go.Proofs.YticmkabafmmlhaaGreatDoor.Ut

import Derived.Test.YtencpjhpedenbaaGreatDoorM2
namespace Go.Proofs.YtencpjhpedenbaaGreatDoor
open Go.RowKit Lb
set_option linter.unusedVariables false

/-! the document's reading of UTF-8 -/
def inR (s : ByteArray) (k lo hi : Nat) : Bool := if h : k < s.size then decide (lo ≤ (s[k]'h).toNat) && decide ((s[k]'h).toNat ≤ hi) else false

set_option maxHeartbeats 1000000 in
theorem in_any (s : ByteArray) (k lo hi : Nat) (w : World) : Calls Tryz.prog 88 #[.string s, .int .i64 k, .int .u8 lo, .int .u8 hi] w fun e w' => e = .returned (.bool (inR s k lo hi)) ∧ w = w' := by
  by_cases h : k < s.size
  · have d : decide (k < s.size) = true := by simpa using h
    by_cases h1 : lo ≤ (s[k]'h).toNat
    · have e : inR s k lo hi = decide ((s[k]'h).toNat ≤ hi) := by simp [inR, h, h1]
      rw [e]
      have d1 : decide (lo ≤ (s[k]'h).toNat) = true := by simpa using h1
      have d1' : ((lo : Int) ≤ ((s[k]'h).toNat : Int)) := by omega
      clear e
      go_enter Tryz.func88, Tryz.ntmps88
      go_wp2
      go_ret
      exact ⟨by simp, rfl⟩
    · have e : inR s k lo hi = false := by simp [inR, h, h1]
      rw [e]
      have d1 : decide (lo ≤ (s[k]'h).toNat) = false := by simpa using h1
      have d1' : ¬ ((lo : Int) ≤ ((s[k]'h).toNat : Int)) := by omega
      clear e
      go_enter Tryz.func88, Tryz.ntmps88
      go_wp2
      go_ret
      exact ⟨rfl, rfl⟩
  · have e : inR s k lo hi = false := by simp [inR, h]
    rw [e]
    have d : decide (k < s.size) = false := by simpa using h
    clear e
    go_enter Tryz.func88, Tryz.ntmps88
    go_wp2
    go_ret
    exact ⟨rfl, rfl⟩
theorem in_is (s : ByteArray) (k lo hi : Nat) (r : Bool) (h : inR s k lo hi = r) (i lo' hi' : Int) (hi1 : i = k) (h2 : lo' = lo) (h3 : hi' = hi) (w : World) :
    Calls Tryz.prog 88 #[.string s, .int .i64 i, .int .u8 lo', .int .u8 hi'] w fun e w' => e = .returned (.bool r) ∧ w = w' := by
  subst h; subst hi1; subst h2; subst h3; exact in_any s k lo hi w

/-- the bytes of the rune that stands at a place; 0: none -/
def runeN (s : ByteArray) (k c : Nat) : Nat :=
  if c < 128 then 1
  else if c < 194 then 0
  else if c < 224 then (if inR s (k + 1) 128 191 = true then 2 else 0)
  else if c < 240 then (if inR s (k + 1) (if c = 224 then 160 else 128) (if c = 237 then 159 else 191) = true then (if inR s (k + 2) 128 191 = true then 3 else 0) else 0)
  else if c < 245 then (if inR s (k + 1) (if c = 240 then 144 else 128) (if c = 244 then 143 else 191) = true then (if inR s (k + 2) 128 191 = true then (if inR s (k + 3) 128 191 = true then 4 else 0) else 0) else 0)
  else 0

set_option maxRecDepth 100000 in
set_option maxHeartbeats 4000000 in
theorem rune_a (s : ByteArray) (k : Nat) (h : k < s.size) (hs : s.size ≤ 65536) (w : World) (c : Nat) (hc : (s[k]'h).toNat = c) (h1 : c < 194) :
    Calls Tryz.prog 63 #[.string s, .int .i64 k] w fun e w' => e = .returned (.int .i64 (runeN s k c : Int)) ∧ w = w' := by
  by_cases h2 : c < 128
  · have e : runeN s k c = 1 := by simp [runeN, h2]
    rw [e]
    have hc' : ((s[k]'h).toNat : Int) < 128 := by omega
    have d : decide (k < s.size) = true := by simpa using h
    clear e
    go_enter Tryz.func63, Tryz.ntmps63
    go_wp2
    go_ret
    exact ⟨rfl, rfl⟩
  · have e : runeN s k c = 0 := by simp [runeN, h1, h2]
    rw [e]
    have hc' : ¬ ((s[k]'h).toNat : Int) < 128 := by omega
    have d1 : decide ((s[k]'h).toNat < 128) = false := by simp; omega
    have d2 : decide (194 ≤ (s[k]'h).toNat) = false := by simp; omega
    have d3 : decide (224 ≤ (s[k]'h).toNat) = false := by simp; omega
    have d4 : decide (240 ≤ (s[k]'h).toNat) = false := by simp; omega
    have d : decide (k < s.size) = true := by simpa using h
    clear e
    go_enter Tryz.func63, Tryz.ntmps63
    go_wp2
    go_ret
    exact ⟨rfl, rfl⟩

set_option maxRecDepth 100000 in
set_option maxHeartbeats 4000000 in
theorem rune_c (s : ByteArray) (k : Nat) (h : k < s.size) (hs : s.size ≤ 65536) (w : World) (c : Nat) (hc : (s[k]'h).toNat = c) (h1 : ¬ c < 194) (h2 : c < 224) :
    Calls Tryz.prog 63 #[.string s, .int .i64 k] w fun e w' => e = .returned (.int .i64 (runeN s k c : Int)) ∧ w = w' := by
  have d : decide (k < s.size) = true := by simpa using h
  have d1 : decide ((s[k]'h).toNat < 128) = false := by simp; omega
  have d2 : decide (194 ≤ (s[k]'h).toNat) = true := by simp; omega
  have d3 : decide (224 ≤ (s[k]'h).toNat) = false := by simp; omega
  have d4 : decide (240 ≤ (s[k]'h).toNat) = false := by simp; omega
  have d5 : decide ((s[k]'h).toNat < 224) = true := by simp; omega
  cases hi : inR s (k + 1) 128 191 with
  | true =>
    have e : runeN s k c = 2 := by simp [runeN, h1, h2, show ¬ c < 128 by omega, hi]
    rw [e]
    have HI := Lib.hid hi
    clear e hi
    go_enter Tryz.func63, Tryz.ntmps63
    go_wp2_with (go_at_call 88; refine (in_is s (k + 1) 128 191 _ HI.out _ _ _ (by go_num) (by go_num) (by go_num) _).mono ?_; rintro e w' ⟨rfl, rfl⟩)
    go_ret
    exact ⟨rfl, rfl⟩
  | false =>
    have e : runeN s k c = 0 := by simp [runeN, h1, h2, show ¬ c < 128 by omega, hi]
    rw [e]
    have HI := Lib.hid hi
    clear e hi
    go_enter Tryz.func63, Tryz.ntmps63
    go_wp2_with (go_at_call 88; refine (in_is s (k + 1) 128 191 _ HI.out _ _ _ (by go_num) (by go_num) (by go_num) _).mono ?_; rintro e w' ⟨rfl, rfl⟩)
    go_ret
    exact ⟨rfl, rfl⟩
end Go.Proofs.YtencpjhpedenbaaGreatDoor

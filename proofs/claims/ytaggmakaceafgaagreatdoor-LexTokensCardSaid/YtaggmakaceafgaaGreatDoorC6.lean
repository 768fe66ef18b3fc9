import Derived.Test.YtaggmakaceafgaaGreatDoorC5
import Derived.Test.YtaggmakaceafgaaGreatDoorShelfV
namespace Go.Proofs.YtaggmakaceafgaaGreatDoor
open Go.RowKit Lx
set_option linter.unusedVariables false

/-! signs, and what stands behind a \ -/
def escF (s : ByteArray) (k : Nat) : Option UInt8 :=
  if h : k < s.size then (if s[k] = 34 ∨ s[k] = 92 then some s[k] else if s[k] = 110 then some 10 else none) else none
def escV : Option UInt8 → Value
  | some c => .tuple #[.int .u8 (c.toNat : Int), .bool true]
  | none => .tuple #[.int .u8 0, .bool false]
theorem byte_is (c : UInt8) (n : Nat) (h : n < 256) (hc : c = UInt8.ofNat n) : (c.toNat : Int) = (n : Int) := by
  subst hc; simp [Nat.mod_eq_of_lt h]
theorem byte_not (c : UInt8) (n : Nat) (h : n < 256) (hc : c ≠ UInt8.ofNat n) : ((c.toNat : Int) == (n : Int)) = false := by
  rw [← byte_eq c n h]; simpa using hc
theorem esc_any (s : ByteArray) (k : Nat) (w : World) (hk : k ≤ s.size) (hs : s.size ≤ 65536) :
    Calls Tryz.prog 43 #[.string s, .int .i64 (k : Int)] w fun e w' => e = .returned (escV (escF s k)) ∧ w = w' := by
  by_cases hl : k < s.size
  · have d : ((k : Int) == (s.size : Int)) = false := beq_eq_false_iff_ne.2 (by omega)
    generalize hx : escF s k = x
    unfold escF at hx
    rw [dif_pos hl] at hx
    by_cases h34 : s[k] = 34
    · have e34 : (s[k].toNat : Int) = 34 := byte_is _ 34 (by omega) h34
      rw [if_pos (.inl h34)] at hx
      have HX : Hid (escV x = .tuple #[.int .u8 34, .bool true]) := by show _ = _; rw [← hx, h34]; rfl
      clear hx h34
      go_enter Tryz.func43, Tryz.ntmps43
      go_wp2_with fail
      go_ret2
      exact ⟨by rw [HX.out]; rfl, rfl⟩
    · have e34 : ((s[k].toNat : Int) == 34) = false := byte_not _ 34 (by omega) h34
      by_cases h92 : s[k] = 92
      · have e92 : (s[k].toNat : Int) = 92 := byte_is _ 92 (by omega) h92
        rw [if_pos (.inr h92)] at hx
        have HX : Hid (escV x = .tuple #[.int .u8 92, .bool true]) := by show _ = _; rw [← hx, h92]; rfl
        clear hx h34 h92 e34
        go_enter Tryz.func43, Tryz.ntmps43
        go_wp2_with fail
        go_ret2
        exact ⟨by rw [HX.out]; rfl, rfl⟩
      · have e92 : ((s[k].toNat : Int) == 92) = false := byte_not _ 92 (by omega) h92
        rw [if_neg (by rintro (h | h); exact h34 h; exact h92 h)] at hx
        by_cases h110 : s[k] = 110
        · have e110 : ((s[k].toNat : Int) == 110) = true := by rw [byte_is _ 110 (by omega) h110]; rfl
          rw [if_pos h110] at hx
          have HX : Hid (escV x = .tuple #[.int .u8 10, .bool true]) := by show _ = _; rw [← hx]; rfl
          clear hx h34 h92 h110
          go_enter Tryz.func43, Tryz.ntmps43
          go_wp2_with fail
          go_ret2
          exact ⟨by rw [HX.out]; rfl, rfl⟩
        · have e110 : ((s[k].toNat : Int) == 110) = false := byte_not _ 110 (by omega) h110
          rw [if_neg h110] at hx
          have HX : Hid (escV x = .tuple #[.int .u8 0, .bool false]) := by show _ = _; rw [← hx]; rfl
          clear hx h34 h92 h110
          go_enter Tryz.func43, Tryz.ntmps43
          go_wp2_with fail
          go_ret2
          exact ⟨by rw [HX.out]; rfl, rfl⟩
  · have d : ((k : Int) == (s.size : Int)) = true := beq_iff_eq.2 (by omega)
    have HX : Hid (escV (escF s k) = .tuple #[.int .u8 0, .bool false]) := by show _ = _; unfold escF; rw [dif_neg hl]; rfl
    generalize escV (escF s k) = x at *
    clear hl
    go_enter Tryz.func43, Tryz.ntmps43
    go_wp2_with fail
    go_ret2
    exact ⟨by rw [HX.out]; rfl, rfl⟩
theorem double_any (t : ByteArray) (c d : UInt8) (ht : t.data.toList = [c, d]) (w : World) : Calls Tryz.prog 45 #[.string t] w fun e w' => e = .returned (.bool (dbl c d)) ∧ w = w' := by
  have h2 : t.toList = [c, d] := by rw [Lib.toList_data]; exact ht
  have hq : ∀ a b : UInt8, (t.toList == [a, b]) = (c == a && d == b) := fun a b => by
    rw [h2, Bool.eq_iff_iff]; simp
  have q1 := hq 61 61
  have q2 := hq 33 61
  have q3 := hq 61 126
  have q4 := hq 33 126
  have q5 := hq 62 61
  have q6 := hq 60 61
  have hd : dbl c d = ((((((t.toList == [61, 61]) || (t.toList == [33, 61])) || (t.toList == [61, 126])) || (t.toList == [33, 126])) || (t.toList == [62, 61])) || (t.toList == [60, 61])) := by
    rw [q1, q2, q3, q4, q5, q6]; rfl
  rw [hd]
  clear hd q1 q2 q3 q4 q5 q6 hq h2 ht
  have H : ∀ b, ((((((t.toList == [61, 61]) || (t.toList == [33, 61])) || (t.toList == [61, 126])) || (t.toList == [33, 126])) || (t.toList == [62, 61])) || (t.toList == [60, 61])) = b → Calls Tryz.prog 45 #[.string t] w fun e w' => e = .returned (.bool b) ∧ w = w' := by
    intro b hb
    have HB := Lib.hid hb
    clear hb
    cases k1 : t.toList == [61, 61] with
    | true =>
      have hbb : b = true := by rw [← HB.out, k1]; rfl
      subst hbb
      clear HB
      go_enter Tryz.func45, Tryz.ntmps45
      go_wp2_with fail
      go_ret
      exact ⟨rfl, rfl⟩
    | false =>
    cases k2 : t.toList == [33, 61] with
    | true =>
      have hbb : b = true := by rw [← HB.out, k1, k2]; rfl
      subst hbb
      clear HB
      go_enter Tryz.func45, Tryz.ntmps45
      go_wp2_with fail
      go_ret
      exact ⟨rfl, rfl⟩
    | false =>
    cases k3 : t.toList == [61, 126] with
    | true =>
      have hbb : b = true := by rw [← HB.out, k1, k2, k3]; rfl
      subst hbb
      clear HB
      go_enter Tryz.func45, Tryz.ntmps45
      go_wp2_with fail
      go_ret
      exact ⟨rfl, rfl⟩
    | false =>
    cases k4 : t.toList == [33, 126] with
    | true =>
      have hbb : b = true := by rw [← HB.out, k1, k2, k3, k4]; rfl
      subst hbb
      clear HB
      go_enter Tryz.func45, Tryz.ntmps45
      go_wp2_with fail
      go_ret
      exact ⟨rfl, rfl⟩
    | false =>
    cases k5 : t.toList == [62, 61] with
    | true =>
      have hbb : b = true := by rw [← HB.out, k1, k2, k3, k4, k5]; rfl
      subst hbb
      clear HB
      go_enter Tryz.func45, Tryz.ntmps45
      go_wp2_with fail
      go_ret
      exact ⟨rfl, rfl⟩
    | false =>
    cases k6 : t.toList == [60, 61] with
    | true =>
      have hbb : b = true := by rw [← HB.out, k1, k2, k3, k4, k5, k6]; rfl
      subst hbb
      clear HB
      go_enter Tryz.func45, Tryz.ntmps45
      go_wp2_with fail
      go_ret
      exact ⟨rfl, rfl⟩
    | false =>
      have hbb : b = false := by rw [← HB.out, k1, k2, k3, k4, k5, k6]; rfl
      subst hbb
      clear HB
      go_enter Tryz.func45, Tryz.ntmps45
      go_wp2_with fail
      go_ret
      exact ⟨rfl, rfl⟩
  exact H _ rfl
theorem sgn_index (c : UInt8) : decide (0 ≤ Lib.indexByte [61, 62, 60, 43, 45, 42, 47, 37, 64, 40, 41, 123, 125, 91, 93, 44] c) = sgn1 c := by
  rw [← Lib.contains_iff_indexByte]; rfl
def signF (l : List UInt8) : Option (Nat × List UInt8 × Nat) := if signN l = 0 then none else some (5, l.take (signN l), signN l)
theorem signN_one (c : UInt8) : signN [c] = if sgn1 c = true then 1 else 0 := rfl
theorem signN_two (c d : UInt8) (r : List UInt8) : signN (c :: d :: r) = if dbl c d = true then 2 else if sgn1 c = true then 1 else 0 := rfl
end Go.Proofs.YtaggmakaceafgaaGreatDoor

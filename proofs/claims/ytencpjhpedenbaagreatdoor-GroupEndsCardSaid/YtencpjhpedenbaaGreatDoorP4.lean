import Derived.Test.YtencpjhpedenbaaGreatDoorP3
namespace Go.Proofs.YtencpjhpedenbaaGreatDoor
open Go.RowKit Lb
set_option linter.unusedVariables false

theorem isDig_of {c : Nat} (h : 48 ≤ c) (h' : c ≤ 57) : isDig (c : Int) = true := by simp [isDig]; omega
theorem isDig_not {c : Nat} (h : c < 48 ∨ 57 < c) : isDig (c : Int) = false := by simp [isDig]; omega
theorem isLet_of {c : Nat} (h : (97 ≤ c ∧ c ≤ 122) ∨ (65 ≤ c ∧ c ≤ 90) ∨ c = 95) : isLet (c : Int) = true := by simp [isLet]; omega
theorem isLet_not {c : Nat} (h : (c < 97 ∨ 122 < c) ∧ (c < 65 ∨ 90 < c) ∧ c ≠ 95) : isLet (c : Int) = false := by simp [isLet]; omega

set_option maxRecDepth 100000 in
set_option maxHeartbeats 4000000 in
theorem refname_any (s : ByteArray) (hs : s.size ≤ 65536) (w : World) : Calls Tryz.prog 31 #[.string s] w fun e w' => e = .returned (.bool (nameB s)) ∧ w = w' := by
  generalize hr : nameB s = r
  have HR := Lib.hid hr
  clear hr
  go_enter Tryz.func31, Tryz.ntmps31
  go_wp2
  go_loop [3] (fun i => ∃ k : Nat, k ≤ s.size ∧ i = .int .i64 k ∧ Hid (Named s k ∧ (0 < k → isDig (by_ s 0) = false))) (fun i => s.size - (intOf i).toNat)
  case atStart => exact ⟨0, Nat.zero_le _, rfl, ⟨named_zero s, fun h => absurd h (Nat.lt_irrefl _)⟩⟩
  case round =>
    obtain ⟨k, hk, rfl, hn⟩ := hrel
    by_cases hlt : k < s.size
    · have hbk := by_eq s k hlt
      have d : decide (k < s.size) = true := by simpa using hlt
      by_cases c0 : (s[k]'hlt).toNat < 48
      · have t0 : decide (48 ≤ (s[k]'hlt).toNat) = false := by simp; omega
        have t1 : decide ((s[k]'hlt).toNat ≤ 57) = true := by simp; omega
        have t2 : decide ((s[k]'hlt).toNat < 97) = true := by simp; omega
        have t3 : decide (122 < (s[k]'hlt).toNat) = false := by simp; omega
        have t4 : decide ((s[k]'hlt).toNat < 65) = true := by simp; omega
        have t5 : decide (90 < (s[k]'hlt).toNat) = false := by simp; omega
        have t6 : (((s[k]'hlt).toNat : Int) == 95) = false := by simp; omega
        have t7 : (((s[k]'hlt).toNat : Int) != 95) = true := by simp; omega
        have hf : r = false := by rw [← HR.out]; exact name_no (.inr (.inr (.inr ⟨k, hlt, by rw [← hbk, isLet_not (by omega), isDig_not (by omega)]; rfl⟩)))
        subst hf
        clear hbk
        go_wp2
        go_ret
        exact ⟨rfl, rfl⟩
      by_cases c1 : (s[k]'hlt).toNat ≤ 57
      · have t0 : decide (48 ≤ (s[k]'hlt).toNat) = true := by simp; omega
        have t1 : decide ((s[k]'hlt).toNat ≤ 57) = true := by simp; omega
        have t2 : decide ((s[k]'hlt).toNat < 97) = true := by simp; omega
        have t3 : decide (122 < (s[k]'hlt).toNat) = false := by simp; omega
        have t4 : decide ((s[k]'hlt).toNat < 65) = true := by simp; omega
        have t5 : decide (90 < (s[k]'hlt).toNat) = false := by simp; omega
        have t6 : (((s[k]'hlt).toNat : Int) == 95) = false := by simp; omega
        have t7 : (((s[k]'hlt).toNat : Int) != 95) = true := by simp; omega
        by_cases hk0 : k = 0
        · subst hk0
          have hf : r = false := by rw [← HR.out]; exact name_no (.inr (.inr (.inl (by rw [← hbk]; exact isDig_of (by omega) (by omega)))))
          subst hf
          clear hbk
          go_wp2
          go_ret
          exact ⟨rfl, rfl⟩
        · have z : ((k : Int) == 0) = false := by simp; omega
          have HN : Hid (Named s (k + 1) ∧ (0 < k + 1 → isDig (by_ s 0) = false)) := ⟨named_succ hn.out.1 (by rw [← hbk, isDig_of (by omega) (by omega), Bool.or_true]), fun _ => hn.out.2 (by omega)⟩
          clear hbk
          go_wp2
          go_round
          case rel => exact ⟨k + 1, by omega, by go_num, HN⟩
          case measure => simp [intOf]; omega
      by_cases c2 : (s[k]'hlt).toNat < 65
      · have t0 : decide (48 ≤ (s[k]'hlt).toNat) = true := by simp; omega
        have t1 : decide ((s[k]'hlt).toNat ≤ 57) = false := by simp; omega
        have t2 : decide ((s[k]'hlt).toNat < 97) = true := by simp; omega
        have t3 : decide (122 < (s[k]'hlt).toNat) = false := by simp; omega
        have t4 : decide ((s[k]'hlt).toNat < 65) = true := by simp; omega
        have t5 : decide (90 < (s[k]'hlt).toNat) = false := by simp; omega
        have t6 : (((s[k]'hlt).toNat : Int) == 95) = false := by simp; omega
        have t7 : (((s[k]'hlt).toNat : Int) != 95) = true := by simp; omega
        have hf : r = false := by rw [← HR.out]; exact name_no (.inr (.inr (.inr ⟨k, hlt, by rw [← hbk, isLet_not (by omega), isDig_not (by omega)]; rfl⟩)))
        subst hf
        clear hbk
        go_wp2
        go_ret
        exact ⟨rfl, rfl⟩
      by_cases c3 : (s[k]'hlt).toNat ≤ 90
      · have t0 : decide (48 ≤ (s[k]'hlt).toNat) = true := by simp; omega
        have t1 : decide ((s[k]'hlt).toNat ≤ 57) = false := by simp; omega
        have t2 : decide ((s[k]'hlt).toNat < 97) = true := by simp; omega
        have t3 : decide (122 < (s[k]'hlt).toNat) = false := by simp; omega
        have t4 : decide ((s[k]'hlt).toNat < 65) = false := by simp; omega
        have t5 : decide (90 < (s[k]'hlt).toNat) = false := by simp; omega
        have t6 : (((s[k]'hlt).toNat : Int) == 95) = false := by simp; omega
        have t7 : (((s[k]'hlt).toNat : Int) != 95) = true := by simp; omega
        have HN : Hid (Named s (k + 1) ∧ (0 < k + 1 → isDig (by_ s 0) = false)) := ⟨named_succ hn.out.1 (by rw [← hbk, isLet_of (by omega)]; rfl), fun _ => by
          by_cases hk0 : k = 0
          · subst hk0; rw [← hbk]; exact isDig_not (by omega)
          · exact hn.out.2 (by omega)⟩
        clear hbk
        go_wp2
        go_round
        case rel => exact ⟨k + 1, by omega, by go_num, HN⟩
        case measure => simp [intOf]; omega
      by_cases c4 : (s[k]'hlt).toNat < 95
      · have t0 : decide (48 ≤ (s[k]'hlt).toNat) = true := by simp; omega
        have t1 : decide ((s[k]'hlt).toNat ≤ 57) = false := by simp; omega
        have t2 : decide ((s[k]'hlt).toNat < 97) = true := by simp; omega
        have t3 : decide (122 < (s[k]'hlt).toNat) = false := by simp; omega
        have t4 : decide ((s[k]'hlt).toNat < 65) = false := by simp; omega
        have t5 : decide (90 < (s[k]'hlt).toNat) = true := by simp; omega
        have t6 : (((s[k]'hlt).toNat : Int) == 95) = false := by simp; omega
        have t7 : (((s[k]'hlt).toNat : Int) != 95) = true := by simp; omega
        have hf : r = false := by rw [← HR.out]; exact name_no (.inr (.inr (.inr ⟨k, hlt, by rw [← hbk, isLet_not (by omega), isDig_not (by omega)]; rfl⟩)))
        subst hf
        clear hbk
        go_wp2
        go_ret
        exact ⟨rfl, rfl⟩
      by_cases c5 : (s[k]'hlt).toNat = 95
      · have t0 : decide (48 ≤ (s[k]'hlt).toNat) = true := by simp; omega
        have t1 : decide ((s[k]'hlt).toNat ≤ 57) = false := by simp; omega
        have t2 : decide ((s[k]'hlt).toNat < 97) = true := by simp; omega
        have t3 : decide (122 < (s[k]'hlt).toNat) = false := by simp; omega
        have t4 : decide ((s[k]'hlt).toNat < 65) = false := by simp; omega
        have t5 : decide (90 < (s[k]'hlt).toNat) = true := by simp; omega
        have t6 : (((s[k]'hlt).toNat : Int) == 95) = true := by simp; omega
        have t7 : (((s[k]'hlt).toNat : Int) != 95) = false := by simp; omega
        have HN : Hid (Named s (k + 1) ∧ (0 < k + 1 → isDig (by_ s 0) = false)) := ⟨named_succ hn.out.1 (by rw [← hbk, isLet_of (by omega)]; rfl), fun _ => by
          by_cases hk0 : k = 0
          · subst hk0; rw [← hbk]; exact isDig_not (by omega)
          · exact hn.out.2 (by omega)⟩
        clear hbk
        go_wp2
        go_round
        case rel => exact ⟨k + 1, by omega, by go_num, HN⟩
        case measure => simp [intOf]; omega
      by_cases c6 : (s[k]'hlt).toNat < 97
      · have t0 : decide (48 ≤ (s[k]'hlt).toNat) = true := by simp; omega
        have t1 : decide ((s[k]'hlt).toNat ≤ 57) = false := by simp; omega
        have t2 : decide ((s[k]'hlt).toNat < 97) = true := by simp; omega
        have t3 : decide (122 < (s[k]'hlt).toNat) = false := by simp; omega
        have t4 : decide ((s[k]'hlt).toNat < 65) = false := by simp; omega
        have t5 : decide (90 < (s[k]'hlt).toNat) = true := by simp; omega
        have t6 : (((s[k]'hlt).toNat : Int) == 95) = false := by simp; omega
        have t7 : (((s[k]'hlt).toNat : Int) != 95) = true := by simp; omega
        have hf : r = false := by rw [← HR.out]; exact name_no (.inr (.inr (.inr ⟨k, hlt, by rw [← hbk, isLet_not (by omega), isDig_not (by omega)]; rfl⟩)))
        subst hf
        clear hbk
        go_wp2
        go_ret
        exact ⟨rfl, rfl⟩
      by_cases c7 : (s[k]'hlt).toNat ≤ 122
      · have t0 : decide (48 ≤ (s[k]'hlt).toNat) = true := by simp; omega
        have t1 : decide ((s[k]'hlt).toNat ≤ 57) = false := by simp; omega
        have t2 : decide ((s[k]'hlt).toNat < 97) = false := by simp; omega
        have t3 : decide (122 < (s[k]'hlt).toNat) = false := by simp; omega
        have t4 : decide ((s[k]'hlt).toNat < 65) = false := by simp; omega
        have t5 : decide (90 < (s[k]'hlt).toNat) = true := by simp; omega
        have t6 : (((s[k]'hlt).toNat : Int) == 95) = false := by simp; omega
        have t7 : (((s[k]'hlt).toNat : Int) != 95) = true := by simp; omega
        have HN : Hid (Named s (k + 1) ∧ (0 < k + 1 → isDig (by_ s 0) = false)) := ⟨named_succ hn.out.1 (by rw [← hbk, isLet_of (by omega)]; rfl), fun _ => by
          by_cases hk0 : k = 0
          · subst hk0; rw [← hbk]; exact isDig_not (by omega)
          · exact hn.out.2 (by omega)⟩
        clear hbk
        go_wp2
        go_round
        case rel => exact ⟨k + 1, by omega, by go_num, HN⟩
        case measure => simp [intOf]; omega
      · have t0 : decide (48 ≤ (s[k]'hlt).toNat) = true := by simp; omega
        have t1 : decide ((s[k]'hlt).toNat ≤ 57) = false := by simp; omega
        have t2 : decide ((s[k]'hlt).toNat < 97) = false := by simp; omega
        have t3 : decide (122 < (s[k]'hlt).toNat) = true := by simp; omega
        have t4 : decide ((s[k]'hlt).toNat < 65) = false := by simp; omega
        have t5 : decide (90 < (s[k]'hlt).toNat) = true := by simp; omega
        have t6 : (((s[k]'hlt).toNat : Int) == 95) = false := by simp; omega
        have t7 : (((s[k]'hlt).toNat : Int) != 95) = true := by simp; omega
        have hf : r = false := by rw [← HR.out]; exact name_no (.inr (.inr (.inr ⟨k, hlt, by rw [← hbk, isLet_not (by omega), isDig_not (by omega)]; rfl⟩)))
        subst hf
        clear hbk
        go_wp2
        go_ret
        exact ⟨rfl, rfl⟩
    · have d : decide (k < s.size) = false := by simpa using hlt
      have hkn : s.size = k := by omega
      by_cases h0 : 0 < s.size
      · by_cases h2 : s.size ≤ 200
        · have hf : r = true := by
            rw [← HR.out]
            exact name_yes h0 h2 (hn.out.2 (by omega)) (by rw [hkn]; exact hn.out.1)
          subst hf
          have z1 : decide (0 < s.size) = true := by simpa using h0
          have z2 : decide (s.size ≤ 200) = true := by simpa using h2
          clear hkn
          go_wp2
          go_ret
          exact ⟨by simp; omega, rfl⟩
        · have hf : r = false := by rw [← HR.out]; exact name_no (.inr (.inl (by omega)))
          subst hf
          have z1 : decide (0 < s.size) = true := by simpa using h0
          have z2 : decide (s.size ≤ 200) = false := by simpa using h2
          clear hkn
          go_wp2
          go_ret
          exact ⟨by simp; omega, rfl⟩
      · have hf : r = false := by rw [← HR.out]; exact name_no (.inl (by omega))
        subst hf
        have z1 : decide (0 < s.size) = false := by simpa using h0
        clear hkn
        go_wp2
        go_ret
        exact ⟨rfl, rfl⟩
end Go.Proofs.YtencpjhpedenbaaGreatDoor

import Derived.Test.YtencpjhpedenbaaGreatDoorN1
namespace Go.Proofs.YtencpjhpedenbaaGreatDoor
open Go.RowKit Lb
set_option linter.unusedVariables false

theorem digit_is (c : Int) (r : Bool) (h : isDig c = r) (w : World) : Calls Tryz.prog 67 #[.int .u8 c] w fun e w' => e = .returned (.bool r) ∧ w = w' := by
  subst h; exact digit_any c w
theorem letter_is (c : Int) (r : Bool) (h : isLet c = r) (w : World) : Calls Tryz.prog 68 #[.int .u8 c] w fun e w' => e = .returned (.bool r) ∧ w = w' := by
  subst h; exact letter_any c w

set_option maxHeartbeats 1000000 in
theorem name_any (s : ByteArray) (w : World) : Calls Tryz.prog 53 #[.string s] w fun e w' => e = .returned (.bool (nameB s)) ∧ w = w' := by
  generalize hr : nameB s = r
  have HR := Lib.hid hr
  clear hr
  by_cases h0 : s.size = 0
  · have hf : r = false := by rw [← HR.out]; exact name_no (.inl h0)
    subst hf
    have he : s.toList.isEmpty = true := by
      rw [ByteArray.toList_eq]
      have : s.data.size = 0 := h0
      simp [Array.eq_empty_of_size_eq_zero this]
    clear h0 HR
    go_enter Tryz.func53, Tryz.ntmps53
    go_wp2
    go_ret
    exact ⟨rfl, rfl⟩
  · have he : s.toList.isEmpty = false := by
      rw [ByteArray.toList_eq]
      cases hs : s.data.toList with
      | nil =>
        exfalso; apply h0
        have : s.data.toList.length = 0 := by rw [hs]; rfl
        simpa using this
      | cons => rfl
    have hp : 0 < s.size := by omega
    by_cases h1 : 200 < s.size
    · have hf : r = false := by rw [← HR.out]; exact name_no (.inr (.inl h1))
      subst hf
      have h1' : (200 : Int) < (s.size : Int) := by omega
      clear HR h0
      go_enter Tryz.func53, Tryz.ntmps53
      go_wp2
      go_ret
      exact ⟨rfl, rfl⟩
    · have d1 : decide (200 < s.size) = false := by simp; omega
      have hb := by_eq s 0 hp
      cases h2 : isDig (by_ s 0) with
      | true =>
        have hf : r = false := by rw [← HR.out]; exact name_no (.inr (.inr (.inl h2)))
        subst hf
        rw [← hb] at h2
        have H2 := Lib.hid h2
        clear HR h0 h2 hb
        go_enter Tryz.func53, Tryz.ntmps53
        go_wp2_with (go_at_call 67; refine (digit_is _ true H2.out _).mono ?_; rintro e w' ⟨rfl, rfl⟩)
        go_ret
        exact ⟨rfl, rfl⟩
      | false =>
        have h2' := h2
        rw [← hb] at h2
        have H2 := Lib.hid h2
        have H2' := Lib.hid h2'
        clear h0 h2 h2' hb
        go_enter Tryz.func53, Tryz.ntmps53
        go_wp2_with (go_at_call 67; refine (digit_is _ false H2.out _).mono ?_; rintro e w' ⟨rfl, rfl⟩)
        go_loop [18] (fun i => ∃ k : Nat, k ≤ s.size ∧ i = .int .i64 k ∧ Hid (Named s k)) (fun i => s.size - (intOf i).toNat)
        case atStart => exact ⟨0, Nat.zero_le _, rfl, named_zero s⟩
        case round =>
          obtain ⟨k, hk, rfl, hn⟩ := hrel
          by_cases hlt : k < s.size
          · have hbk := by_eq s k hlt
            cases h3 : isLet (by_ s k) with
            | true =>
              have HN : Hid (Named s (k + 1)) := named_succ hn.out (by rw [h3]; rfl)
              rw [← hbk] at h3
              have H3 := Lib.hid h3
              clear h3 hbk
              go_wp2_with (go_at_call 68; refine (letter_is _ true H3.out _).mono ?_; rintro e w' ⟨rfl, rfl⟩)
              go_round
              case rel => exact ⟨k + 1, by omega, by go_num, HN⟩
              case measure => simp [intOf]; omega
            | false =>
              cases h4 : isDig (by_ s k) with
              | true =>
                have HN : Hid (Named s (k + 1)) := named_succ hn.out (by rw [h3, h4]; rfl)
                rw [← hbk] at h3 h4
                have H3 := Lib.hid h3
                have H4 := Lib.hid h4
                clear h3 h4 hbk
                go_wp2_with (first | (go_at_call 68; refine (letter_is _ false H3.out _).mono ?_; rintro e w' ⟨rfl, rfl⟩) | (go_at_call 67; refine (digit_is _ true H4.out _).mono ?_; rintro e w' ⟨rfl, rfl⟩))
                go_round
                case rel => exact ⟨k + 1, by omega, by go_num, HN⟩
                case measure => simp [intOf]; omega
              | false =>
                have hf : r = false := by rw [← HR.out]; exact name_no (.inr (.inr (.inr ⟨k, hlt, by rw [h3, h4]; rfl⟩)))
                subst hf
                rw [← hbk] at h3 h4
                have H3 := Lib.hid h3
                have H4 := Lib.hid h4
                clear h3 h4 hbk
                go_wp2_with (first | (go_at_call 68; refine (letter_is _ false H3.out _).mono ?_; rintro e w' ⟨rfl, rfl⟩) | (go_at_call 67; refine (digit_is _ false H4.out _).mono ?_; rintro e w' ⟨rfl, rfl⟩))
                go_ret
                exact ⟨rfl, rfl⟩
          · have hf : r = true := by
              rw [← HR.out]
              exact name_yes hp (by omega) H2'.out (by rw [show s.size = k by omega]; exact hn.out)
            subst hf
            go_wp2
            go_ret
            exact ⟨rfl, rfl⟩

/-! labels, one against another -/
def cmpT (a b : Lab) : Int := if cmpS a.1 b.1 = 0 then cmpS a.2 b.2 else cmpS a.1 b.1

theorem tag_any (a b c d : ByteArray) (w : World) : Calls Tryz.prog 55 #[.agg #[.string a, .string b], .agg #[.string c, .string d]] w fun e w' => e = .returned (.int .i64 (cmpT (a, b) (c, d))) ∧ ∃ o o', w' = (w.alloc o).alloc o' := by
  unfold cmpT
  simp only []
  have H1 := Lib.hid (fun w => compare_str a c w)
  have H2 := Lib.hid (fun w => compare_str b d w)
  generalize cmpS a c = x at *
  generalize cmpS b d = y at *
  by_cases h : x = 0
  · subst h
    rw [if_pos rfl]
    go_enter Tryz.func55, Tryz.ntmps55
    go_wp2_with fail
    refine (H1.out _).mono ?_
    rintro e w' ⟨rfl, rfl⟩
    go_wp2_with fail
    refine (H2.out _).mono ?_
    rintro e w' ⟨rfl, rfl⟩
    go_wp2
    go_ret
    exact ⟨rfl, _, _, rfl⟩
  · rw [if_neg h]
    have hb : (x != 0) = true := by simpa using h
    go_enter Tryz.func55, Tryz.ntmps55
    go_wp2_with fail
    refine (H1.out _).mono ?_
    rintro e w' ⟨rfl, rfl⟩
    go_wp2
    go_ret
    exact ⟨rfl, _, _, rfl⟩
end Go.Proofs.YtencpjhpedenbaaGreatDoor

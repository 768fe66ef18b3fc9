import Derived.Test.YtmodehfedhgcbaaGreatDoorB1
namespace Go.Proofs.YtmodehfedhgcbaaGreatDoor
open Go.RowKit
set_option linter.unusedVariables false

theorem results_tmp3 {fn : Func} {a b c : Tmp} (h : fn.results = #[.tmp a, .tmp b, .tmp c]) (tmps : Array Value) (P : Program) (w : World) :
    (results fn tmps).run P w = .ok (.tuple #[tmps.getD a undef, tmps.getD b undef, tmps.getD c undef]) w := by
  simp [results, h]
theorem results_tmp7 {fn : Func} {a b c d e f g : Tmp} (h : fn.results = #[.tmp a, .tmp b, .tmp c, .tmp d, .tmp e, .tmp f, .tmp g]) (tmps : Array Value) (P : Program) (w : World) :
    (results fn tmps).run P w = .ok (.tuple #[tmps.getD a undef, tmps.getD b undef, tmps.getD c undef, tmps.getD d undef, tmps.getD e undef, tmps.getD f undef, tmps.getD g undef]) w := by
  simp [results, h]
/-! no text of digits is a special one -/
abbrev infS : ByteArray := ⟨#[105, 110, 102, 105, 110, 105, 116, 121]⟩
set_option maxRecDepth 100000 in
theorem common_none (t : ByteArray) (w : World) (h : ∀ h : 0 < t.size, t[0].toNat ≠ 105 ∧ t[0].toNat ≠ 73) (hs : t.size ≤ 1000) : Calls Tryz.prog 182 #[.string t, .string infS] w fun e w' => e = .returned (.int .i64 0) ∧ w = w' := by
  by_cases h0 : t.size = 0
  · go_enter Tryz.func182, Tryz.ntmps182
    go_wp2_with fail
    go_loopg [6] 1 (fun g s6 wx => s6 = .int .i64 0 ∧ w = wx)
    case atStart => exact ⟨rfl, rfl⟩
    case round =>
      obtain ⟨rfl, rfl⟩ := hrel
      go_wp2_with fail
      go_ret
      exact ⟨by first | rfl | simp [h0], rfl⟩
  · have g0 : ∀ h, infS[0]'h = 105 := fun _ => rfl
    have n0 : (105 : UInt8).toNat = 105 := rfl
    have hts : 0 < t.size := by omega
    obtain ⟨x, hx⟩ : ∃ x, t[0].toNat = x := ⟨_, rfl⟩
    have h1 := h hts
    rw [hx] at h1
    obtain ⟨h1, h2⟩ := h1
    rcases Nat.lt_or_ge t.size 8 with h8 | h8
    · have h8i : (t.size : Int) < 8 := by omega
      by_cases hc : 65 ≤ x ∧ x ≤ 90
      · obtain ⟨hc1, hc2⟩ := hc
        have c1 : (65 : Int) ≤ (x : Int) := by omega
        have c2 : decide ((x : Int) ≤ 90) = true := decide_eq_true (by omega)
        have c3 : ((x : Int) + 32 != 105) = true := by simp; omega
        clear h1 h2 h0 h
        go_enter Tryz.func182, Tryz.ntmps182
        go_wp2_with fail
        go_loopg [6] 1 (fun g s6 wx => s6 = .int .i64 0 ∧ w = wx)
        case atStart => exact ⟨rfl, rfl⟩
        case round =>
          obtain ⟨rfl, rfl⟩ := hrel
          go_wp2_with fail
          go_ret
          exact ⟨rfl, rfl⟩
      · have c3 : ((x : Int) != 105) = true := by simp; omega
        by_cases hc1 : 65 ≤ x
        · have c1 : (65 : Int) ≤ (x : Int) := by omega
          have c2 : decide ((x : Int) ≤ 90) = false := decide_eq_false (by omega)
          clear h1 h2 h0 h hc
          go_enter Tryz.func182, Tryz.ntmps182
          go_wp2_with fail
          go_loopg [6] 1 (fun g s6 wx => s6 = .int .i64 0 ∧ w = wx)
          case atStart => exact ⟨rfl, rfl⟩
          case round =>
            obtain ⟨rfl, rfl⟩ := hrel
            go_wp2_with fail
            go_ret
            exact ⟨rfl, rfl⟩
        · have c1 : decide ((65 : Int) ≤ (x : Int)) = false := decide_eq_false (by omega)
          clear h1 h2 h0 h hc
          go_enter Tryz.func182, Tryz.ntmps182
          go_wp2_with fail
          go_loopg [6] 1 (fun g s6 wx => s6 = .int .i64 0 ∧ w = wx)
          case atStart => exact ⟨rfl, rfl⟩
          case round =>
            obtain ⟨rfl, rfl⟩ := hrel
            go_wp2_with fail
            go_ret
            exact ⟨rfl, rfl⟩
    · have h8i : (8 : Int) ≤ (t.size : Int) := by omega
      by_cases hc : 65 ≤ x ∧ x ≤ 90
      · obtain ⟨hc1, hc2⟩ := hc
        have c1 : (65 : Int) ≤ (x : Int) := by omega
        have c2 : decide ((x : Int) ≤ 90) = true := decide_eq_true (by omega)
        have c3 : ((x : Int) + 32 != 105) = true := by simp; omega
        clear h1 h2 h0 h
        go_enter Tryz.func182, Tryz.ntmps182
        go_wp2_with fail
        go_loopg [6] 1 (fun g s6 wx => s6 = .int .i64 0 ∧ w = wx)
        case atStart => exact ⟨rfl, rfl⟩
        case round =>
          obtain ⟨rfl, rfl⟩ := hrel
          go_wp2_with fail
          go_ret
          exact ⟨rfl, rfl⟩
      · have c3 : ((x : Int) != 105) = true := by simp; omega
        by_cases hc1 : 65 ≤ x
        · have c1 : (65 : Int) ≤ (x : Int) := by omega
          have c2 : decide ((x : Int) ≤ 90) = false := decide_eq_false (by omega)
          clear h1 h2 h0 h hc
          go_enter Tryz.func182, Tryz.ntmps182
          go_wp2_with fail
          go_loopg [6] 1 (fun g s6 wx => s6 = .int .i64 0 ∧ w = wx)
          case atStart => exact ⟨rfl, rfl⟩
          case round =>
            obtain ⟨rfl, rfl⟩ := hrel
            go_wp2_with fail
            go_ret
            exact ⟨rfl, rfl⟩
        · have c1 : decide ((65 : Int) ≤ (x : Int)) = false := decide_eq_false (by omega)
          clear h1 h2 h0 h hc
          go_enter Tryz.func182, Tryz.ntmps182
          go_wp2_with fail
          go_loopg [6] 1 (fun g s6 wx => s6 = .int .i64 0 ∧ w = wx)
          case atStart => exact ⟨rfl, rfl⟩
          case round =>
            obtain ⟨rfl, rfl⟩ := hrel
            go_wp2_with fail
            go_ret
            exact ⟨rfl, rfl⟩
theorem cut_byte (s : ByteArray) (a b i : Nat) (hi : i < b - a) (hb : b ≤ s.size) (h1 : i < (s.extract a b).size) : (s.extract a b)[i] = s[a + i] := by
  simp [ByteArray.getElem_extract]
set_option maxRecDepth 100000 in
theorem special_none (s : ByteArray) (w : World) (ha : Al s) (hs : s.size ≤ 1000) : Calls Tryz.prog 168 #[.string s] w fun e w' => e = .returned (.tuple #[.float .f64 0, .int .i64 0, .bool false]) ∧ w = w' := by
  by_cases h0 : s.size = 0
  · go_enter Tryz.func168, Tryz.ntmps168
    go_wp2_with fail
    refine bodyPost_ret (results_tmp3 rfl _ _ _) rfl ?_
    exact ⟨rfl, rfl⟩
  · have hal := ha 0 (by omega)
    have hss : 0 < s.size := by omega
    have hsz : ((s.size : Int) == 0) = false := beq_eq_false_iff_ne.2 (by omega)
    have HC : Hid (∀ W, Calls Tryz.prog 182 #[.string (s.extract 1 s.size), .string infS] W fun e w' => e = .returned (.int .i64 0) ∧ W = w') := by
      intro W
      refine common_none _ W (fun h => ?_) (by rw [ByteArray.size_extract]; omega)
      have hsz : 1 < s.size := by rw [ByteArray.size_extract] at h; omega
      have h1 := ha 1 hsz
      rw [cut_byte s 1 s.size 0 (by omega) (Nat.le_refl _) h]
      have e : s[1 + 0] = s[1] := rfl
      rw [e]
      omega
    obtain ⟨x, hx⟩ : ∃ x, s[0].toNat = x := ⟨_, rfl⟩
    rw [hx] at hal
    clear ha
    by_cases h43 : x = 43
    · subst h43
      clear hal h0
      go_enter Tryz.func168, Tryz.ntmps168
      go_wp2_with fail
      refine (HC.out _).mono ?_
      rintro e w1 ⟨rfl, rfl⟩
      go_wp2_with fail
      refine bodyPost_ret (results_tmp3 rfl _ _ _) rfl ?_
      exact ⟨rfl, rfl⟩
    · have h43f : ((x : Int) == 43) = false := beq_eq_false_iff_ne.2 (by omega)
      by_cases h45 : x = 45
      · subst h45
        clear hal h0
        go_enter Tryz.func168, Tryz.ntmps168
        go_wp2_with fail
        refine (HC.out _).mono ?_
        rintro e w1 ⟨rfl, rfl⟩
        go_wp2_with fail
        refine bodyPost_ret (results_tmp3 rfl _ _ _) rfl ?_
        exact ⟨rfl, rfl⟩
      · have h45f : ((x : Int) == 45) = false := beq_eq_false_iff_ne.2 (by omega)
        have e1 : ((x : Int) == 105) = false := beq_eq_false_iff_ne.2 (by omega)
        have e2 : ((x : Int) == 73) = false := beq_eq_false_iff_ne.2 (by omega)
        have e3 : ((x : Int) == 110) = false := beq_eq_false_iff_ne.2 (by omega)
        have e4 : ((x : Int) == 78) = false := beq_eq_false_iff_ne.2 (by omega)
        clear hal h0 h43 h45
        go_enter Tryz.func168, Tryz.ntmps168
        go_wp2_with fail
        refine bodyPost_ret (results_tmp3 rfl _ _ _) rfl ?_
        exact ⟨rfl, rfl⟩
end Go.Proofs.YtmodehfedhgcbaaGreatDoor

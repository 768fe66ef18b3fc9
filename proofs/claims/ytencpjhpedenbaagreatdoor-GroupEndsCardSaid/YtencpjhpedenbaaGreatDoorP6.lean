import Derived.Test.YtencpjhpedenbaaGreatDoorK2
import Derived.Test.YtencpjhpedenbaaGreatDoorH1
namespace Go.Proofs.YtencpjhpedenbaaGreatDoor
open Go.RowKit Lb
set_option linter.unusedVariables false

theorem beq_false_of_ne {x y : ByteArray} (h : x ≠ y) : (x.toList == y.toList) = false := by
  have := seqB_iff x y
  unfold seqB at this
  cases hb : (x.toList == y.toList) with
  | false => rfl
  | true => exact absurd (this.1 hb) h

set_option maxRecDepth 100000 in
set_option maxHeartbeats 4000000 in
theorem refcmp_any (A B : Option Addr) (ca cb : Nat) (a b : List Lab) (w : World) (hA : Lbs w A a) (hB : Lbs w B b) (ha : a.length ≤ 65536) (hb : b.length ≤ 65536) :
    Calls Tryz.prog 18 #[.slice A a.length ca, .slice B b.length cb] w fun e w' => e = .returned (.int .i64 (cmpL a b)) ∧ ∃ q, w' = w.drewN q := by
  rw [cmpL_eq]
  generalize hr : cmpR a b = r
  have HR : Hid (cmpR (a.drop 0) (b.drop 0) = r) := by rw [List.drop_zero, List.drop_zero]; exact hr
  have HA := Lib.hid hA
  have HB := Lib.hid hB
  clear hA hB hr
  generalize hn : a.length = n at *
  generalize hm : b.length = m at *
  have HN := Lib.hid hn
  have HM := Lib.hid hm
  clear hn hm
  go_enter Tryz.func18, Tryz.ntmps18
  go_wp2
  go_loopw [5] (fun i wr => ∃ k j : Nat, k ≤ n ∧ k ≤ m ∧ i = .int .i64 k ∧ wr = w.drewN j ∧ Hid (cmpR (a.drop k) (b.drop k) = r)) (fun i _ => n - (intOf i).toNat)
  case atStart => exact ⟨0, 0, Nat.zero_le _, Nat.zero_le _, rfl, rfl, HR⟩
  case round =>
    obtain ⟨k, j, hk, hkm, rfl, rfl, HC⟩ := hrel
    by_cases hlt : k < n
    · have d1 : decide (k < n) = true := by simpa using hlt
      by_cases hlt2 : k < m
      · have d2 : decide (k < m) = true := by simpa using hlt2
        have hka : k < a.length := by rw [HN.out]; exact hlt
        have hkb : k < b.length := by rw [HM.out]; exact hlt2
        obtain ⟨b0, off, rfl, hb0, hc⟩ := HA.out (by omega)
        obtain ⟨b1, off1, rfl, hb1, hc'⟩ := HB.out (by omega)
        have hc1 := (hc k hka).1
        have hc2 := (hc k hka).2
        have hc3 := (hc' k hkb).1
        have hc4 := (hc' k hkb).2
        have ea : a.getD k e0 = a[k] := by simp [hka]
        have eb : b.getD k e0 = b[k] := by simp [hkb]
        have hstep := HC.out
        rw [List.drop_eq_getElem_cons hka, List.drop_eq_getElem_cons hkb, cmpR, ← ea, ← eb] at hstep
        have hcases := cmpT_cases (a.getD k e0) (b.getD k e0)
        have hpa : a.getD k e0 = ((a.getD k e0).1, (a.getD k e0).2) := rfl
        have hpb : b.getD k e0 = ((b.getD k e0).1, (b.getD k e0).2) := rfl
        rw [hpa, hpb] at hcases hstep
        clear hc hc' ea eb hpa hpb
        generalize (a.getD k e0).1 = x at *
        generalize (a.getD k e0).2 = y at *
        generalize (b.getD k e0).1 = x' at *
        generalize (b.getD k e0).2 = y' at *
        rcases hcases with ⟨h1, h2⟩ | ⟨h1, h2⟩ | ⟨h1, h2⟩
        · rw [h1] at hstep
          have hf : r = -1 := by simpa using hstep.symm
          subst hf
          clear hstep h1
          rcases h2 with h2 | ⟨h2, h3⟩
          · have i1 : Op.bytesLess x.toList x'.toList = true := h2
            go_wp2_with fail
            go_quiet (fail)
            go_wp2
            go_ret
            exact ⟨rfl, by simp only [World.drewN_drewN]; exact ⟨_, rfl⟩⟩
          · obtain rfl : x = x' := h2
            have i1 : Op.bytesLess x.toList x.toList = false := less_irrefl _
            have i2 : Op.bytesLess y.toList y'.toList = true := h3
            have i3 : (x.toList == x.toList) = true := by simp
            go_wp2_with fail
            go_quiet (fail)
            go_wp2
            go_ret
            exact ⟨rfl, by simp only [World.drewN_drewN]; exact ⟨_, rfl⟩⟩
        · rw [h1] at hstep
          have HS : Hid (cmpR (a.drop (k + 1)) (b.drop (k + 1)) = r) := by rw [if_pos rfl] at hstep; exact hstep
          obtain ⟨rfl, rfl⟩ : x = x' ∧ y = y' := by simpa using h2
          clear hstep h1 h2
          have i1 : Op.bytesLess x.toList x.toList = false := less_irrefl _
          have i2 : Op.bytesLess y.toList y.toList = false := less_irrefl _
          have i3 : (x.toList == x.toList) = true := by simp
          go_wp2_with fail
          go_quiet (fail)
          go_wp2_with fail
          go_quiet (fail)
          go_wp2
          go_roundw
          case rel => exact ⟨k + 1, _, by omega, by omega, by go_num, rfl, HS⟩
          case measure => simp [intOf]; omega
        · rw [h1] at hstep
          have hf : r = 1 := by simpa using hstep.symm
          subst hf
          clear hstep h1
          rcases h2 with h2 | ⟨h2, h3⟩
          · have hne : x ≠ x' := fun e => by subst e; rw [sl_irrefl] at h2; cases h2
            have i0 : Op.bytesLess x.toList x'.toList = false := by
              cases hq : Op.bytesLess x.toList x'.toList with
              | false => rfl
              | true => exact absurd (less_trans _ _ _ hq h2) (by rw [less_irrefl]; decide)
            have i3 : (x.toList == x'.toList) = false := beq_false_of_ne hne
            go_wp2_with fail
            go_quiet (fail)
            go_wp2_with fail
            go_quiet (fail)
            go_wp2
            go_ret
            exact ⟨rfl, by simp only [World.drewN_drewN]; exact ⟨_, rfl⟩⟩
          · obtain rfl : x = x' := h2
            have hne : y ≠ y' := fun e => by subst e; rw [sl_irrefl] at h3; cases h3
            have i1 : Op.bytesLess x.toList x.toList = false := less_irrefl _
            have i2 : Op.bytesLess y.toList y'.toList = false := by
              cases hq : Op.bytesLess y.toList y'.toList with
              | false => rfl
              | true => exact absurd (less_trans _ _ _ hq h3) (by rw [less_irrefl]; decide)
            have i3 : (x.toList == x.toList) = true := by simp
            have i4 : (y.toList == y'.toList) = false := beq_false_of_ne hne
            go_wp2_with fail
            go_quiet (fail)
            go_wp2_with fail
            go_quiet (fail)
            go_wp2
            go_ret
            exact ⟨rfl, by simp only [World.drewN_drewN]; exact ⟨_, rfl⟩⟩
      · have d2 : decide (k < m) = false := by simpa using hlt2
        obtain rfl : k = m := by omega
        have hstep := HC.out
        have hdb : b.drop k = [] := List.drop_eq_nil_of_le (by rw [HM.out]; omega)
        rw [hdb] at hstep
        have hf : r = 1 := by
          rw [← hstep]
          cases hd : a.drop k with
          | nil =>
            have := congrArg List.length hd
            rw [List.length_drop, HN.out] at this
            simp at this; omega
          | cons => rfl
        subst hf
        have d3 : decide (n < k) = false := by simp; omega
        clear hstep
        go_wp2
        go_ret
        exact ⟨rfl, _, rfl⟩
    · have d1 : decide (k < n) = false := by simpa using hlt
      obtain rfl : k = n := by omega
      have hstep := HC.out
      have hda : a.drop k = [] := List.drop_eq_nil_of_le (by rw [HN.out]; omega)
      rw [hda] at hstep
      by_cases hlt2 : k < m
      · have d2 : decide (k < m) = true := by simpa using hlt2
        have hf : r = -1 := by
          rw [← hstep]
          cases hd : b.drop k with
          | nil =>
            have := congrArg List.length hd
            rw [List.length_drop, HM.out] at this
            simp at this; omega
          | cons => rfl
        subst hf
        clear hstep
        go_wp2
        go_ret
        exact ⟨rfl, _, rfl⟩
      · have d2 : decide (k < m) = false := by simpa using hlt2
        obtain rfl : k = m := by omega
        have hdb : b.drop k = [] := List.drop_eq_nil_of_le (by rw [HM.out]; omega)
        rw [hdb] at hstep
        have hf : r = 0 := by rw [← hstep]; rfl
        subst hf
        clear hstep
        go_wp2
        go_ret
        exact ⟨rfl, _, rfl⟩
end Go.Proofs.YtencpjhpedenbaaGreatDoor

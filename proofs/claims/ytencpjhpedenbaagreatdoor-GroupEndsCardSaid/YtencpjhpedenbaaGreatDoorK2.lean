import Derived.Test.YtencpjhpedenbaaGreatDoorM3
namespace Go.Proofs.YtencpjhpedenbaaGreatDoor
open Go.RowKit Lb
set_option linter.unusedVariables false

def shB (x : Lab) : Bool := decide (x.1.size ≤ 400) && decide (x.2.size ≤ 400)
def Sh (l : List Lab) (k : Nat) : Prop := ∀ i, i < k → shB (l.getD i e0) = true
instance (l : List Lab) (k : Nat) : Decidable (Sh l k) := by unfold Sh; infer_instance
def shortB (l : List Lab) : Bool := decide (Sh l l.length) && decide (l.length ≤ 40)
theorem sh_zero (l : List Lab) : Sh l 0 := fun _ h => absurd h (Nat.not_lt_zero _)
theorem sh_succ {l : List Lab} {k : Nat} (h : Sh l k) (h1 : (l.getD k e0).1.size ≤ 400) (h2 : (l.getD k e0).2.size ≤ 400) : Sh l (k + 1) := by
  intro i hi
  by_cases e : i = k
  · subst e; simp [shB] at *; omega
  · exact h i (by omega)
theorem short_bad {l : List Lab} {k : Nat} (h : k < l.length) (h1 : 400 < (l.getD k e0).1.size ∨ 400 < (l.getD k e0).2.size) : shortB l = false := by
  unfold shortB
  rw [decide_eq_false, Bool.false_and]
  intro h2
  have := h2 k h
  simp only [shB, Bool.and_eq_true, decide_eq_true_eq] at this
  omega
theorem short_good {l : List Lab} (h : Sh l l.length) : shortB l = decide (l.length ≤ 40) := by
  unfold shortB
  rw [decide_eq_true h, Bool.true_and]

set_option maxHeartbeats 1000000 in
theorem short_any (A : Option Addr) (cap : Nat) (l : List Lab) (w : World) (hL : Lbs w A l) (hl : l.length ≤ 9223372036854775807) :
    Calls Tryz.prog 15 #[.slice A l.length cap] w fun e w' => e = .returned (.bool (shortB l)) ∧ w = w' := by
  generalize hr : shortB l = r
  have HR := Lib.hid hr
  have HL := Lib.hid hL
  clear hr hL
  generalize hn : l.length = n at *
  have HN := Lib.hid hn
  clear hn
  go_enter Tryz.func15, Tryz.ntmps15
  go_wp2
  go_loop [3] (fun i => ∃ k : Nat, k ≤ n ∧ i = .int .i64 k ∧ Hid (Sh l k)) (fun i => n - (intOf i).toNat)
  case atStart => exact ⟨0, Nat.zero_le _, rfl, sh_zero l⟩
  case round =>
    obtain ⟨k, hk, rfl, hs⟩ := hrel
    by_cases hlt : k < n
    · have hkl : k < l.length := by rw [HN.out]; exact hlt
      obtain ⟨b0, off, rfl, hb0, hc⟩ := HL.out (by omega)
      have hx := (hc k hkl).1
      have hy := (hc k hkl).2
      have HBAD := Lib.hid (@short_bad l k hkl)
      have HGO := Lib.hid (@sh_succ l k hs.out)
      clear hc
      generalize (l.getD k e0).1 = x at *
      generalize (l.getD k e0).2 = y at *
      by_cases h1 : 400 < x.size
      · have hf : r = false := by rw [← HR.out]; exact HBAD.out (.inl h1)
        subst hf
        have h1' : (400 : Int) < (x.size : Int) := by omega
        go_wp2
        go_ret
        exact ⟨rfl, rfl⟩
      · have d1 : decide (400 < x.size) = false := by simpa using h1
        by_cases h2 : 400 < y.size
        · have hf : r = false := by rw [← HR.out]; exact HBAD.out (.inr h2)
          subst hf
          have h2' : (400 : Int) < (y.size : Int) := by omega
          go_wp2
          go_ret
          exact ⟨rfl, rfl⟩
        · have d2 : decide (400 < y.size) = false := by simpa using h2
          have HS : Hid (Sh l (k + 1)) := HGO.out (by omega) (by omega)
          go_wp2
          go_round
          case rel => exact ⟨k + 1, by omega, by go_num, HS⟩
          case measure => simp [intOf]; omega
    · have hf : r = decide (n ≤ 40) := by
        rw [← HR.out, short_good (by rw [HN.out, show n = k by omega]; exact hs.out), HN.out]
      subst hf
      clear HR
      go_wp2
      go_ret
      exact ⟨by simp; omega, rfl⟩

set_option maxHeartbeats 1000000 in
/-- of the same labels: 0 -/
theorem refcmp_same (A B : Option Addr) (ca cb : Nat) (l : List Lab) (w : World) (hA : Lbs w A l) (hB : Lbs w B l) (hl : l.length ≤ 65536) :
    Calls Tryz.prog 18 #[.slice A l.length ca, .slice B l.length cb] w fun e w' => e = .returned (.int .i64 0) ∧ ∃ q, w' = w.drewN q := by
  have HA := Lib.hid hA
  have HB := Lib.hid hB
  clear hA hB
  generalize hn : l.length = n at *
  have HN := Lib.hid hn
  clear hn
  go_enter Tryz.func18, Tryz.ntmps18
  go_wp2
  go_loopw [5] (fun i wr => ∃ k m : Nat, k ≤ n ∧ i = .int .i64 k ∧ wr = w.drewN m) (fun i _ => n - (intOf i).toNat)
  case atStart => exact ⟨0, 0, Nat.zero_le _, rfl, rfl⟩
  case round =>
    obtain ⟨k, m, hk, rfl, rfl⟩ := hrel
    by_cases hlt : k < n
    · have hkl : k < l.length := by rw [HN.out]; exact hlt
      obtain ⟨b0, off, rfl, hb0, hc⟩ := HA.out (by omega)
      obtain ⟨b1, off1, rfl, hb1, hc'⟩ := HB.out (by omega)
      have hc1 := (hc k hkl).1
      have hc2 := (hc k hkl).2
      have hc3 := (hc' k hkl).1
      have hc4 := (hc' k hkl).2
      clear hc hc'
      generalize (l.getD k e0).1 = x at *
      generalize (l.getD k e0).2 = y at *
      have i1 : Op.bytesLess x.toList x.toList = false := less_irrefl _
      have i2 : Op.bytesLess y.toList y.toList = false := less_irrefl _
      have i3 : (x.toList == x.toList) = true := by simp
      go_wp2_with fail
      go_quiet (fail)
      go_wp2_with fail
      go_quiet (fail)
      go_wp2
      go_roundw
      case rel => exact ⟨k + 1, _, by omega, by go_num, rfl⟩
      case measure => simp [intOf]; omega
    · have hkn : ¬ (k : Int) < (n : Int) := by omega
      have d : decide (k < n) = false := by simpa using hlt
      go_wp2
      go_ret
      exact ⟨rfl, _, rfl⟩
end Go.Proofs.YtencpjhpedenbaaGreatDoor

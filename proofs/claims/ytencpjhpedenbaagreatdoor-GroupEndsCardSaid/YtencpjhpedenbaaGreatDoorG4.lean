/- Elements that are short, and a vector: ref13.Short, few, ref13.Right, group.Right. Conditions: as each says. -/
import Derived.Test.YtencpjhpedenbaaGreatDoorG1
import Derived.Test.YtencpjhpedenbaaGreatDoorV2
import Derived.Test.YtencpjhpedenbaaGreatDoorP6
import Derived.Test.YtencpjhpedenbaaGreatDoorP7
import Derived.Deep.RegionHeld3
namespace Go.Proofs.YtencpjhpedenbaaGreatDoor
open Go.RowKit Lb
set_option linter.unusedVariables false
set_option linter.unusedSimpArgs false
set_option maxRecDepth 100000
set_option maxHeartbeats 4000000

/-! short elements -/
def ShTo (S : List El) (k : Nat) : Prop := ∀ i, i < k → shortB (S.getD i z0).1 = true
instance (S : List El) (k : Nat) : Decidable (ShTo S k) := inferInstanceAs (Decidable (∀ i, i < k → shortB (S.getD i z0).1 = true))
def shS (S : List El) : Bool := decide (ShTo S S.length) && decide (S.length ≤ 60)
theorem shTo_zero (S : List El) : ShTo S 0 := fun _ h => absurd h (Nat.not_lt_zero _)
theorem shTo_succ {S : List El} {k : Nat} (h : ShTo S k) (h1 : shortB (S.getD k z0).1 = true) : ShTo S (k + 1) := by
  intro i hi
  rcases Nat.lt_succ_iff_lt_or_eq.1 hi with h2 | rfl
  · exact h i h2
  · exact h1
theorem shS_bad {S : List El} {k : Nat} (hk : k < S.length) (h : shortB (S.getD k z0).1 = false) : shS S = false := by
  unfold shS
  rw [Bool.and_eq_false_iff]
  exact .inl (decide_eq_false fun h2 => by rw [h2 k hk] at h; cases h)
theorem shS_good {S : List El} (h : ShTo S S.length) : shS S = decide (S.length ≤ 60) := by unfold shS; rw [decide_eq_true h, Bool.true_and]
theorem short_q (A : Option Addr) (cap : Nat) (l : List Lab) (r : Bool) (h : shortB l = r) (w : World) (hL : Lbs w A l) (hl : l.length ≤ 9223372036854775807) :
    Calls Tryz.prog 15 #[.slice A l.length cap] w fun e w' => e = .returned (.bool r) ∧ w = w' := by
  subst h; exact short_any A cap l w hL hl
theorem refshort_any (A : Option Addr) (cap : Nat) (S : List El) (w : World) (hE : Els w A S) (hl : S.length ≤ 9223372036854775807) (hm : ∀ i, i < S.length → (S.getD i z0).1.length ≤ 9223372036854775807) :
    Calls Tryz.prog 5 #[.slice A S.length cap] w fun e w' => e = .returned (.bool (shS S)) ∧ w = w' := by
  obtain ⟨r, hr⟩ : ∃ r, shS S = r := ⟨_, rfl⟩
  rw [hr]
  have HR := Lib.hid hr
  have HE := Lib.hid hE
  have HM := Lib.hid hm
  clear hr hE hm
  generalize hn : S.length = n at *
  have HN := Lib.hid hn
  clear hn
  go_enter Tryz.func5, Tryz.ntmps5
  go_wp2
  go_loop [3] (fun i => ∃ k : Nat, k ≤ n ∧ i = .int .i64 k ∧ Hid (ShTo S k)) (fun i => n - (intOf i).toNat)
  case atStart => exact ⟨0, Nat.zero_le _, rfl, shTo_zero S⟩
  case round =>
    obtain ⟨k, hk, rfl, HC⟩ := hrel
    by_cases hlt : k < n
    · have hkl : k < S.length := by rw [HN.out]; exact hlt
      obtain ⟨b, off, LA, lc, rfl, hb, c1, c2, hL, _, _⟩ := HE.out.at_ hkl
      have hll := HM.out k hlt
      have HL := Lib.hid hL
      have HBAD := Lib.hid (@shS_bad S k hkl)
      have HGO := Lib.hid (@shTo_succ S k HC.out)
      have HSH := Lib.hid (fun r h => short_q LA lc (S.getD k z0).1 r h w hL hll)
      have d : decide (k < n) = true := by simpa using hlt
      clear hL hll
      generalize (S.getD k z0).1 = l at *
      generalize l.length = m at *
      generalize (S.getD k z0).2 = v at *
      cases hs : shortB l with
      | false =>
        obtain rfl : false = r := by rw [← HR.out]; exact (HBAD.out hs).symm
        have H1 := Lib.hid (HSH.out _ hs)
        clear hs
        go_wp2_with fail
        refine (H1.out).mono ?_
        rintro e w1 ⟨rfl, rfl⟩
        go_wp2
        go_ret
        exact ⟨rfl, rfl⟩
      | true =>
        have HS := Lib.hid (HGO.out hs)
        have H1 := Lib.hid (HSH.out _ hs)
        clear hs
        go_wp2_with fail
        refine (H1.out).mono ?_
        rintro e w1 ⟨rfl, rfl⟩
        go_wp2
        go_round
        case rel => exact ⟨k + 1, by omega, by go_num, HS⟩
        case measure => simp [intOf]; omega
    · have d : decide (k < n) = false := by simpa using hlt
      obtain rfl : decide (n ≤ 60) = r := by rw [← HR.out, shS_good (by rw [HN.out, show n = k by omega]; exact HC.out), HN.out]
      go_wp2
      go_ret
      exact ⟨by simp; omega, rfl⟩

/-! few names -/
def FwTo (ns : List ByteArray) (k : Nat) : Prop := ∀ i, i < k → (ns.getD i ⟨#[]⟩).size ≤ 400
instance (S : List ByteArray) (k : Nat) : Decidable (FwTo S k) := inferInstanceAs (Decidable (∀ i, i < k → (S.getD i ⟨#[]⟩).size ≤ 400))
def fewS (ns : List ByteArray) : Bool := decide (FwTo ns ns.length) && decide (ns.length ≤ 20)
theorem fwTo_zero (S : List ByteArray) : FwTo S 0 := fun _ h => absurd h (Nat.not_lt_zero _)
theorem fwTo_succ {S : List ByteArray} {k : Nat} (h : FwTo S k) (h1 : (S.getD k ⟨#[]⟩).size ≤ 400) : FwTo S (k + 1) := by
  intro i hi
  rcases Nat.lt_succ_iff_lt_or_eq.1 hi with h2 | rfl
  · exact h i h2
  · exact h1
theorem fewS_bad {S : List ByteArray} {k : Nat} (hk : k < S.length) (h : 400 < (S.getD k ⟨#[]⟩).size) : fewS S = false := by
  unfold fewS
  rw [Bool.and_eq_false_iff]
  exact .inl (decide_eq_false fun h2 => by have := h2 k hk; omega)
theorem fewS_good {S : List ByteArray} (h : FwTo S S.length) : fewS S = decide (S.length ≤ 20) := by unfold fewS; rw [decide_eq_true h, Bool.true_and]
theorem few_any (A : Option Addr) (cap : Nat) (S : List ByteArray) (w : World) (hE : Sts w A S) (hl : S.length ≤ 9223372036854775807) :
    Calls Tryz.prog 6 #[.slice A S.length cap] w fun e w' => e = .returned (.bool (fewS S)) ∧ w = w' := by
  obtain ⟨r, hr⟩ : ∃ r, fewS S = r := ⟨_, rfl⟩
  rw [hr]
  have HR := Lib.hid hr
  have HE := Lib.hid hE
  clear hr hE
  generalize hn : S.length = n at *
  have HN := Lib.hid hn
  clear hn
  go_enter Tryz.func6, Tryz.ntmps6
  go_wp2
  go_loop [3] (fun i => ∃ k : Nat, k ≤ n ∧ i = .int .i64 k ∧ Hid (FwTo S k)) (fun i => n - (intOf i).toNat)
  case atStart => exact ⟨0, Nat.zero_le _, rfl, fwTo_zero S⟩
  case round =>
    obtain ⟨k, hk, rfl, HC⟩ := hrel
    by_cases hlt : k < n
    · have hkl : k < S.length := by rw [HN.out]; exact hlt
      obtain ⟨b, off, rfl, hb, hc⟩ := HE.out (by omega)
      have c1 := hc k hkl
      have HBAD := Lib.hid (@fewS_bad S k hkl)
      have HGO := Lib.hid (@fwTo_succ S k HC.out)
      have d : decide (k < n) = true := by simpa using hlt
      clear hc
      have hgd : S.getD k ByteArray.empty = S.getD k ⟨#[]⟩ := rfl
      rw [hgd] at c1
      clear hgd
      generalize S.getD k ⟨#[]⟩ = x at *
      by_cases h4 : 400 < x.size
      · obtain rfl : false = r := by rw [← HR.out]; exact (HBAD.out h4).symm
        have d4 : decide (400 < x.size) = true := by simpa using h4
        go_wp2
        go_ret
        exact ⟨rfl, rfl⟩
      · have HS := Lib.hid (HGO.out (by omega))
        have d4 : decide (400 < x.size) = false := by simpa using h4
        go_wp2
        go_round
        case rel => exact ⟨k + 1, by omega, by go_num, HS⟩
        case measure => simp [intOf]; omega
    · have d : decide (k < n) = false := by simpa using hlt
      obtain rfl : decide (n ≤ 20) = r := by rw [← HR.out, fewS_good (by rw [HN.out, show n = k by omega]; exact HC.out), HN.out]
      go_wp2
      go_ret
      exact ⟨by simp; omega, rfl⟩
end Go.Proofs.YtencpjhpedenbaaGreatDoor

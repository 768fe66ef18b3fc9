import Derived.Test.YtmnhoafhoaklcaaW2
namespace Go.Proofs.Ytmnhoafhoaklcaa
open Go.RowKit Pk
set_option linter.unusedVariables false

theorem near_quiet (t : Int) (w : World) (r : Bool) (h : nearB t = r) : Calls Try.prog 17 #[.int .i64 t] w fun e w' => e = .returned (.bool r) ∧ w' = w := by
  subst h
  exact (near_any t w).mono fun _ _ ⟨he, hw⟩ => ⟨he, hw.symm⟩
theorem near_left (t : Int) (w : World) (r : Bool) (h : nearB t = r) : Calls Try.prog 17 #[.int .i64 t] w fun e w' => e = .returned (.bool r) ∧ w = w' := by
  subst h
  exact near_any t w

theorem near_yes {t : Int} (h1 : -2305843009213693952 ≤ t) (h2 : t ≤ 2305843009213693952) : nearB t = true := by simp [nearB, far, h1, h2]
theorem near_no {t : Int} (h : t < -2305843009213693952 ∨ 2305843009213693952 < t) : nearB t = false := by
  unfold nearB
  rw [far_eq]
  rcases h with h | h
  · rw [decide_eq_false (by omega)]; rfl
  · rw [decide_eq_false (p := t ≤ _) (by omega), Bool.and_false]

theorem bel_box {B : Nat} {w wr : World} (h : Below B w wr) (hB : B ≤ wr.heap.size) (o : Obj) (n : Nat) : Below B w ((wr.alloc o).drewN n) :=
  let k := h.alloc hB o
  ⟨k.os, k.tape, k.output, k.size, k.block⟩

theorem may_off (l : List Pt) (t b : Int) (h : t < -2305843009213693952 ∨ 2305843009213693952 < t ∨ b < 1 ∨ 2305843009213693952 < b) : mayB l t b = false := by
  cases hm : mayB l t b with
  | false => rfl
  | true =>
    obtain ⟨_, h1, h2⟩ := (mayB_iff l t b).1 hm
    simp only [far_eq] at h1 h2
    omega

theorem may_on (l : List Pt) (t b : Int) (hg : Rise l l.length) (h1 : -2305843009213693952 ≤ t ∧ t ≤ 2305843009213693952) (h2 : ¬ b < 1) (h3 : ¬ 2305843009213693952 < b) : mayB l t b = true := by
  rw [mayB_iff]
  simp only [far_eq]
  exact ⟨hg, h1, by omega, by omega⟩

set_option maxHeartbeats 3200000 in
theorem usable_any (A : Option Addr) (cap : Nat) (l : List Pt) (t b : Int) (w : World) (hp : Pts w A l) (hl : l.length ≤ 65536) :
    Calls Try.prog 13 #[.slice A l.length cap, .int .i64 t, .int .i64 b] w fun e w' => e = .returned (.bool (mayB l t b)) ∧ Below w.heap.size w w' := by
  generalize hr : mayB l t b = r
  have HR := Lib.hid hr
  generalize hn : l.length = n
  have HN := Lib.hid hn
  have HP := Lib.hid hp
  have hl' : n ≤ 65536 := by omega
  clear hn hp hl hr
  by_cases e1 : -2305843009213693952 ≤ t ∧ t ≤ 2305843009213693952
  · by_cases e2 : b < 1
    · have hf : r = false := by rw [← HR.out]; exact may_off l t b (by omega)
      subst hf
      go_enter Try.func13, Try.ntmps13
      go_wp2_with (go_at_call 17; refine (near_left _ _ true (near_yes e1.1 e1.2)).mono ?_; rintro e w' ⟨rfl, rfl⟩)
      go_ret
      exact ⟨rfl, Below.refl _ _⟩
    · have d1 : decide (b < 1) = false := by simpa using e2
      by_cases e3 : 2305843009213693952 < b
      · have hf : r = false := by rw [← HR.out]; exact may_off l t b (by omega)
        subst hf
        go_enter Try.func13, Try.ntmps13
        go_wp2_with (go_at_call 17; refine (near_left _ _ true (near_yes e1.1 e1.2)).mono ?_; rintro e w' ⟨rfl, rfl⟩)
        go_ret
        exact ⟨rfl, Below.refl _ _⟩
      · have d2 : decide (2305843009213693952 < b) = false := by simpa using e3
        go_enter Try.func13, Try.ntmps13
        go_wp2_with (go_at_call 17; refine (near_left _ _ true (near_yes e1.1 e1.2)).mono ?_; rintro e w' ⟨rfl, rfl⟩)
        go_loopw [22] (fun i wr => ∃ k : Nat, k ≤ n ∧ i = .int .i64 k ∧ Below w.heap.size w wr ∧ Hid (Rise l k)) (fun i _ => n - (intOf i).toNat)
        case atStart => exact ⟨0, Nat.zero_le _, rfl, Below.refl _ _, rise_zero l⟩
        case round =>
          obtain ⟨k, hk, rfl, hbel, hg⟩ := hrel
          by_cases hlt : k < n
          · have hkl : k < l.length := by rw [HN.out]; exact hlt
            obtain ⟨b0, off, rfl, hb0, hc⟩ := HP.out (by omega)
            have hx : wr.cell? ⟨b0, off + k * 2, none⟩ = some (.int .i64 (l.getD k d0).1) := (hbel.cell (p := ⟨b0, off + k * 2, none⟩) hb0).trans (hc k hkl).1
            have hv : wr.cell? ⟨b0, off + k * 2 + 1, none⟩ = some (.int .u64 (l.getD k d0).2) := (hbel.cell (p := ⟨b0, off + k * 2 + 1, none⟩) hb0).trans (hc k hkl).2
            have hy : 0 < k → wr.cell? ⟨b0, off + (k - 1) * 2, none⟩ = some (.int .i64 (l.getD (k - 1) d0).1) := fun h => (hbel.cell (p := ⟨b0, off + (k - 1) * 2, none⟩) hb0).trans (hc (k - 1) (by omega)).1
            have hsz := hbel.size
            have hb1 : b0 < wr.heap.size := by omega
            have hbad := may_bad l t b k hkl
            have hgood := @rise_next l k hg.out
            have HB := Lib.hid hbad
            have HG := Lib.hid hgood
            have HBel := Lib.hid hbel
            clear hc hbad hgood hbel
            generalize (l.getD k d0).1 = x at *
            generalize (l.getD k d0).2 = v at *
            generalize (l.getD (k - 1) d0).1 = y at *
            by_cases c1 : -2305843009213693952 ≤ x ∧ x ≤ 2305843009213693952
            · by_cases c3 : k = 0
              · have hg' : Hid (Rise l (k + 1)) := HG.out (by omega) (by omega) (.inl c3)
                have d3 : decide (0 < k) = false := by simp; omega
                have HC := Lib.hid c3
                clear hy c3
                go_wp2_with fail
                go_quiet ((go_at_call 17; exact Calls.quiet_of_same (near_quiet _ _ true (near_yes c1.1 c1.2))))
                go_wp2
                go_roundw
                case rel => exact ⟨k + 1, by omega, by go_num, bel_box HBel.out hsz _ _, hg'⟩
                case measure => simp [intOf]; omega
              · have hg0 : (0 : Int) < (k : Int) := by omega
                have d3 : decide (0 < k) = true := by simp; omega
                have hy' := hy (by omega)
                clear hy
                by_cases c4 : x ≤ y
                · have hf : r = false := by rw [← HR.out]; exact HB.out (.inr (.inr ⟨by omega, c4⟩))
                  subst hf
                  go_wp2_with fail
                  go_quiet ((go_at_call 17; exact Calls.quiet_of_same (near_quiet _ _ true (near_yes c1.1 c1.2))))
                  go_wp2
                  go_ret
                  exact ⟨rfl, bel_box HBel.out hsz _ _⟩
                · have hg' : Hid (Rise l (k + 1)) := HG.out (by omega) (by omega) (.inr (by omega))
                  have d4 : decide (x ≤ y) = false := by simpa using c4
                  go_wp2_with fail
                  go_quiet ((go_at_call 17; exact Calls.quiet_of_same (near_quiet _ _ true (near_yes c1.1 c1.2))))
                  go_wp2
                  go_roundw
                  case rel => exact ⟨k + 1, by omega, by go_num, bel_box HBel.out hsz _ _, hg'⟩
                  case measure => simp [intOf]; omega
            · have c2 : x < -2305843009213693952 ∨ 2305843009213693952 < x := by omega
              have hf : r = false := by
                rw [← HR.out]
                rcases c2 with c2 | c2
                · exact HB.out (.inl c2)
                · exact HB.out (.inr (.inl c2))
              subst hf
              clear hy
              go_wp2_with fail
              go_quiet ((go_at_call 17; exact Calls.quiet_of_same (near_quiet _ _ false (near_no c2))))
              go_wp2
              go_ret
              exact ⟨rfl, bel_box HBel.out hsz _ _⟩
          · have hgl : Rise l l.length := by have := HN.out; rw [this, show n = k by omega]; exact hg.out
            have hf : r = true := by rw [← HR.out]; exact may_on l t b hgl e1 (by omega) (by omega)
            subst hf
            go_wp2
            go_ret
            exact ⟨rfl, hbel⟩
  · have c2 : t < -2305843009213693952 ∨ 2305843009213693952 < t := by omega
    have hf : r = false := by rw [← HR.out]; exact may_off l t b (by omega)
    subst hf
    go_enter Try.func13, Try.ntmps13
    go_wp2_with (go_at_call 17; refine (near_left _ _ false (near_no c2)).mono ?_; rintro e w' ⟨rfl, rfl⟩)
    go_ret
    exact ⟨rfl, Below.refl _ _⟩
end Go.Proofs.Ytmnhoafhoaklcaa

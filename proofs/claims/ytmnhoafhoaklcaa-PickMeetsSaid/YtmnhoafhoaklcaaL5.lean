import Derived.Test.YtmnhoafhoaklcaaL4
namespace Go.Proofs.Ytmnhoafhoaklcaa
open Go.RowKit Pk
set_option linter.unusedVariables false

set_option maxHeartbeats 1000000 in
theorem meets_off0 (A : Option Addr) (cap n : Nat) (t a b : Int) (w : World) (hn : (400 : Int) < (n : Int)) :
    Calls Try.prog 4 #[.slice A n cap, .int .i64 t, .int .i64 a, .int .i64 b] w fun e w' => e = .returned (.bool true) ∧ Below w.heap.size w w' := by
  go_enter Try.func4, Try.ntmps4
  go_wp2_with fail
  refine (awake_any _).mono ?_
  rintro e w1 ⟨rfl, hb1⟩
  go_wp2
  go_ret
  exact ⟨rfl, hb1⟩
set_option maxHeartbeats 1000000 in
theorem meets_off1 (A : Option Addr) (cap n : Nat) (t a b : Int) (w : World) (hn : ¬ (400 : Int) < (n : Int))  (ha : a < 1) :
    Calls Try.prog 4 #[.slice A n cap, .int .i64 t, .int .i64 a, .int .i64 b] w fun e w' => e = .returned (.bool true) ∧ Below w.heap.size w w' := by
  go_enter Try.func4, Try.ntmps4
  go_wp2_with fail
  refine (awake_any _).mono ?_
  rintro e w1 ⟨rfl, hb1⟩
  go_wp2
  go_ret
  exact ⟨rfl, hb1⟩
set_option maxHeartbeats 1000000 in
theorem meets_off2 (A : Option Addr) (cap n : Nat) (t a b : Int) (w : World) (hn : ¬ (400 : Int) < (n : Int)) (ha : ¬ a < 1) (hb : b < 1) :
    Calls Try.prog 4 #[.slice A n cap, .int .i64 t, .int .i64 a, .int .i64 b] w fun e w' => e = .returned (.bool true) ∧ Below w.heap.size w w' := by
  have da : decide (a < 1) = false := by simpa using ha
  go_enter Try.func4, Try.ntmps4
  go_wp2_with fail
  refine (awake_any _).mono ?_
  rintro e w1 ⟨rfl, hb1⟩
  go_wp2
  go_ret
  exact ⟨rfl, hb1⟩
set_option maxHeartbeats 1000000 in
theorem meets_off3 (A : Option Addr) (cap n : Nat) (t a b : Int) (w : World) (hn : ¬ (400 : Int) < (n : Int)) (ha : ¬ a < 1) (hb : ¬ b < 1) (ha2 : 1152921504606846976 < a) :
    Calls Try.prog 4 #[.slice A n cap, .int .i64 t, .int .i64 a, .int .i64 b] w fun e w' => e = .returned (.bool true) ∧ Below w.heap.size w w' := by
  have da : decide (a < 1) = false := by simpa using ha
  have db : decide (b < 1) = false := by simpa using hb
  go_enter Try.func4, Try.ntmps4
  go_wp2_with fail
  refine (awake_any _).mono ?_
  rintro e w1 ⟨rfl, hb1⟩
  go_wp2
  go_ret
  exact ⟨rfl, hb1⟩
set_option maxHeartbeats 1000000 in
theorem meets_off4 (A : Option Addr) (cap n : Nat) (t a b : Int) (w : World) (hn : ¬ (400 : Int) < (n : Int)) (ha : ¬ a < 1) (hb : ¬ b < 1) (ha2 : ¬ 1152921504606846976 < a) (hb2 : 1152921504606846976 < b) :
    Calls Try.prog 4 #[.slice A n cap, .int .i64 t, .int .i64 a, .int .i64 b] w fun e w' => e = .returned (.bool true) ∧ Below w.heap.size w w' := by
  have da : decide (a < 1) = false := by simpa using ha
  have db : decide (b < 1) = false := by simpa using hb
  have da2 : decide (1152921504606846976 < a) = false := by simpa using ha2
  go_enter Try.func4, Try.ntmps4
  go_wp2_with fail
  refine (awake_any _).mono ?_
  rintro e w1 ⟨rfl, hb1⟩
  go_wp2
  go_ret
  exact ⟨rfl, hb1⟩
set_option maxHeartbeats 1000000 in
theorem meets_off5 (A : Option Addr) (cap n : Nat) (t a b : Int) (w : World) (hn : ¬ (400 : Int) < (n : Int)) (ha : ¬ a < 1) (hb : ¬ b < 1) (ha2 : ¬ 1152921504606846976 < a) (hb2 : ¬ 1152921504606846976 < b) (ht : t < -1152921504606846976) :
    Calls Try.prog 4 #[.slice A n cap, .int .i64 t, .int .i64 a, .int .i64 b] w fun e w' => e = .returned (.bool true) ∧ Below w.heap.size w w' := by
  have da : decide (a < 1) = false := by simpa using ha
  have db : decide (b < 1) = false := by simpa using hb
  have da2 : decide (1152921504606846976 < a) = false := by simpa using ha2
  have db2 : decide (1152921504606846976 < b) = false := by simpa using hb2
  go_enter Try.func4, Try.ntmps4
  go_wp2_with fail
  refine (awake_any _).mono ?_
  rintro e w1 ⟨rfl, hb1⟩
  go_wp2
  go_ret
  exact ⟨rfl, hb1⟩
set_option maxHeartbeats 1000000 in
theorem meets_off6 (A : Option Addr) (cap n : Nat) (t a b : Int) (w : World) (hn : ¬ (400 : Int) < (n : Int)) (ha : ¬ a < 1) (hb : ¬ b < 1) (ha2 : ¬ 1152921504606846976 < a) (hb2 : ¬ 1152921504606846976 < b) (ht : ¬ t < -1152921504606846976)
    (H0 : Hid (∀ w1, Below w.heap.size w w1 → Calls Try.prog 12 #[.slice A n cap, .int .i64 t, .int .i64 a] w1 fun e w' => e = .returned (.bool false) ∧ ∃ n, w' = w1.drewN n)) :
    Calls Try.prog 4 #[.slice A n cap, .int .i64 t, .int .i64 a, .int .i64 b] w fun e w' => e = .returned (.bool true) ∧ Below w.heap.size w w' := by
  have da : decide (a < 1) = false := by simpa using ha
  have db : decide (b < 1) = false := by simpa using hb
  have da2 : decide (1152921504606846976 < a) = false := by simpa using ha2
  have db2 : decide (1152921504606846976 < b) = false := by simpa using hb2
  have dt : decide (t < -1152921504606846976) = false := by simpa using ht
  go_enter Try.func4, Try.ntmps4
  go_wp2_with fail
  refine (awake_any _).mono ?_
  rintro e w1 ⟨rfl, hb1⟩
  go_wp2_with fail
  refine (H0.out _ hb1).mono ?_
  rintro e w2 ⟨rfl, q2, rfl⟩
  go_wp2
  go_ret
  exact ⟨rfl, bel_drawn hb1 _⟩

theorem meets_walk (A : Option Addr) (cap : Nat) (l : List Pt) (t a b : Int) (w : World) (hp : Pts w A l) (hcap : l.length ≤ cap) :
    Calls Try.prog 4 #[.slice A l.length cap, .int .i64 t, .int .i64 a, .int .i64 b] w fun e w' => e = .returned (.bool true) ∧ Below w.heap.size w w' := by
  by_cases hn : (400 : Int) < (l.length : Int)
  · exact meets_off0 A cap _ t a b w hn
  by_cases ha : a < 1
  · exact meets_off1 A cap _ t a b w hn ha
  by_cases hb : b < 1
  · exact meets_off2 A cap _ t a b w hn ha hb
  by_cases ha2 : 1152921504606846976 < a
  · exact meets_off3 A cap _ t a b w hn ha hb ha2
  by_cases hb2 : 1152921504606846976 < b
  · exact meets_off4 A cap _ t a b w hn ha hb ha2 hb2
  by_cases ht : t < -1152921504606846976
  · exact meets_off5 A cap _ t a b w hn ha hb ha2 hb2 ht
  have hl' : l.length ≤ 65536 := by omega
  cases hm : mayB l t a with
  | false => exact meets_off6 A cap _ t a b w hn ha hb ha2 hb2 ht (Lib.hid fun w1 hb => may_is A cap l t a false hm w1 (hp.below hb) hl')
  | true =>
    obtain ⟨hg, ht1, ha1⟩ := (mayB_iff l t a).1 hm
    have hm2 : mayB l t (a + b) = true := (mayB_iff l t (a + b)).2 ⟨hg, ht1, by simp only [far_eq]; omega⟩
    have hm3 : mayB l (t - a) b = true := (mayB_iff l (t - a) b).2 ⟨hg, by simp only [far_eq] at ht1 ⊢; omega, by simp only [far_eq]; omega⟩
    have hmeet := win_meet hm2 hm hm3
    have hlen := win_len l t (a + b)
    have hlast := @at_last l t (a + b)
    rw [hmeet] at hlen hlast
    have h1 : ∀ w1, Below w.heap.size w w1 → Calls Try.prog 10 #[.slice A l.length cap, .int .i64 t, .int .i64 (a + b)] w1 fun e w' => ∃ A' c, e = .returned (.slice A' (win l (t - a) b ++ win l t a).length c) ∧ Own w' A' c (win l (t - a) b ++ win l t a) ∧ Below w1.heap.size w1 w' := fun w1 hb => by
      rw [← hmeet]; exact window_any A cap l t (a + b) w1 (hp.below hb) hl' hcap
    simp only [far_eq] at ht1
    exact meets_tail A cap l.length t a b w (win l (t - a) b) (win l t a) (at_ l t (a + b)).1 (at_ l t (a + b)).2 hn ha hb ha2 hb2 ht ht1.2 (by omega)
      (Lib.hid fun w1 hb => may_is A cap l t a true hm w1 (hp.below hb) hl')
      (Lib.hid h1)
      (Lib.hid fun w1 hb => window_any A cap l (t - a) b w1 (hp.below hb) hl' hcap)
      (Lib.hid fun w1 hb => window_any A cap l t a w1 (hp.below hb) hl' hcap)
      (Lib.hid fun w1 hb => at_any A cap l t (a + b) w1 (hp.below hb) hl')
      (Lib.hid hlast)
end Go.Proofs.Ytmnhoafhoaklcaa

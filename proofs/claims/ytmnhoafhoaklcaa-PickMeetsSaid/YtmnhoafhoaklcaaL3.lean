import Derived.Test.YtmnhoafhoaklcaaL2
namespace Go.Proofs.Ytmnhoafhoaklcaa
open Go.RowKit Pk
set_option linter.unusedVariables false

set_option maxHeartbeats 2000000 in
theorem wider_walk (A : Option Addr) (cap : Nat) (l : List Pt) (t a b : Int) (w : World) (hp : Pts w A l) (hcap : l.length ≤ cap) :
    Calls Try.prog 5 #[.slice A l.length cap, .int .i64 t, .int .i64 a, .int .i64 b] w fun e w' => e = .returned (.bool true) ∧ Below w.heap.size w w' := by
  by_cases hl : 400 < l.length
  · generalize l.length = n at *
    clear hp
    have hi : (400 : Int) < (n : Int) := by omega
    go_enter Try.func5, Try.ntmps5
    go_wp2_with fail
    refine (awake_any _).mono ?_
    rintro e w1 ⟨rfl, hb1⟩
    go_wp2
    go_ret
    exact ⟨rfl, hb1⟩
  · have hn : ¬ (400 : Int) < (l.length : Int) := by omega
    have hl' : l.length ≤ 65536 := by omega
    by_cases ha : a < 1
    · generalize l.length = n at *
      clear hp
      go_enter Try.func5, Try.ntmps5
      go_wp2_with fail
      refine (awake_any _).mono ?_
      rintro e w1 ⟨rfl, hb1⟩
      go_wp2
      go_ret
      exact ⟨rfl, hb1⟩
    · by_cases hba : b < a
      · generalize l.length = n at *
        clear hp
        have da : decide (a < 1) = false := by simpa using ha
        go_enter Try.func5, Try.ntmps5
        go_wp2_with fail
        refine (awake_any _).mono ?_
        rintro e w1 ⟨rfl, hb1⟩
        go_wp2
        go_ret
        exact ⟨rfl, hb1⟩
      · cases hm : mayB l t b with
        | false =>
          have h0 : ∀ w1, Below w.heap.size w w1 → Calls Try.prog 12 #[.slice A l.length cap, .int .i64 t, .int .i64 b] w1 fun e w' => e = .returned (.bool false) ∧ ∃ n, w' = w1.drewN n := fun w1 hb => may_is A cap l t b false hm w1 (hp.below hb) hl'
          have H0 := Lib.hid h0
          clear h0 hp hm hcap
          generalize l.length = n at *
          have da : decide (a < 1) = false := by simpa using ha
          have db : decide (b < a) = false := by simpa using hba
          go_enter Try.func5, Try.ntmps5
          go_wp2_with fail
          refine (awake_any _).mono ?_
          rintro e w1 ⟨rfl, hb1⟩
          go_wp2_with fail
          refine (H0.out _ hb1).mono ?_
          rintro e w2 ⟨rfl, q2, rfl⟩
          go_wp2
          go_ret
          exact ⟨rfl, bel_drawn hb1 _⟩
        | true =>
          obtain ⟨hg, ht, hb⟩ := (mayB_iff l t b).1 hm
          simp only [far_eq] at ht hb
          obtain ⟨pre, hpre⟩ := win_wide hm (a := a) (by omega) (by omega)
          have hlen := win_len l t b
          rw [hpre] at hlen
          have h2 : ∀ w1, Below w.heap.size w w1 → Calls Try.prog 10 #[.slice A l.length cap, .int .i64 t, .int .i64 b] w1 fun e w' => ∃ A' c, e = .returned (.slice A' (pre ++ win l t a).length c) ∧ Own w' A' c (pre ++ win l t a) ∧ Below w1.heap.size w1 w' := fun w1 hb => by
            rw [← hpre]; exact window_any A cap l t b w1 (hp.below hb) hl' hcap
          exact wider_tail A cap l.length t a b w pre (win l t a) (at_ l t a).1 (at_ l t b).1 (at_ l t a).2 (at_ l t b).2 hn ha hba ht hb.2 (by omega)
            (Lib.hid fun w1 hb => may_is A cap l t b true hm w1 (hp.below hb) hl')
            (Lib.hid fun w1 hb => window_any A cap l t a w1 (hp.below hb) hl' hcap)
            (Lib.hid h2)
            (Lib.hid fun w1 hb => at_any A cap l t a w1 (hp.below hb) hl')
            (Lib.hid fun w1 hb => at_any A cap l t b w1 (hp.below hb) hl')
            (Lib.hid fun ho => by rw [at_wide hm (by omega) ho]; exact ⟨rfl, ho⟩)
            (Lib.hid fun i hi => win_each i hi)
end Go.Proofs.Ytmnhoafhoaklcaa

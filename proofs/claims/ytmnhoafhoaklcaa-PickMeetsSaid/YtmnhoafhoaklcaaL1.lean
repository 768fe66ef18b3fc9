import Derived.Test.YtmnhoafhoaklcaaW9
namespace Go.Proofs.Ytmnhoafhoaklcaa
open Go.RowKit Pk
set_option linter.unusedVariables false

def two : List Pt := [(1, 7), (5, 8)]
theorem two_at1 : at_ two 9 5 = (8, true) := by decide +kernel
theorem two_at2 : at_ two 9 4 = (0, false) := by decide +kernel
theorem two_win : (win two 5 4).length = 1 := by decide +kernel
theorem two_pts (w : World) : Pts (w.alloc (.cells #[.int .i64 1, .int .u64 7, .int .i64 5, .int .u64 8] 31)) (some ⟨w.heap.size, 0, none⟩) two := by
  intro _
  refine ⟨w.heap.size, 0, rfl, by simp, fun i hi => ?_⟩
  match i, hi with
  | 0, _ => exact ⟨by rw [World.cell?_alloc_at _ _ _ _ rfl]; rfl, by rw [World.cell?_alloc_at _ _ _ _ rfl]; rfl⟩
  | 1, _ => exact ⟨by rw [World.cell?_alloc_at _ _ _ _ rfl]; rfl, by rw [World.cell?_alloc_at _ _ _ _ rfl]; rfl⟩

set_option maxHeartbeats 1000000 in
theorem awake_any (w : World) : Calls Try.prog 6 #[] w fun e w' => e = .returned (.bool true) ∧ Below w.heap.size w w' := by
  have hp := two_pts w
  have h1 := at_any _ 2 two 9 5 _ hp (by decide)
  rw [two_at1] at h1
  have h2 : ∀ w1, Below (w.alloc (.cells #[.int .i64 1, .int .u64 7, .int .i64 5, .int .u64 8] 31)).heap.size (w.alloc (.cells #[.int .i64 1, .int .u64 7, .int .i64 5, .int .u64 8] 31)) w1 → Calls Try.prog 7 #[.slice (some ⟨w.heap.size, 0, none⟩) 2 2, .int .i64 9, .int .i64 4] w1 fun e w' => e = .returned (.tuple #[.int .u64 0, .bool false]) ∧ Below w1.heap.size w1 w' := by
    intro w1 hb
    have := at_any _ 2 two 9 4 w1 (hp.below hb) (by decide)
    rw [two_at2] at this
    exact this
  have h3 : ∀ w1, Below (w.alloc (.cells #[.int .i64 1, .int .u64 7, .int .i64 5, .int .u64 8] 31)).heap.size (w.alloc (.cells #[.int .i64 1, .int .u64 7, .int .i64 5, .int .u64 8] 31)) w1 → Calls Try.prog 10 #[.slice (some ⟨w.heap.size, 0, none⟩) 2 2, .int .i64 5, .int .i64 4] w1 fun e w' => ∃ A' c, e = .returned (.slice A' 1 c) ∧ Below w1.heap.size w1 w' := by
    intro w1 hb
    have := window_any _ 2 two 5 4 w1 (hp.below hb) (by decide) (by decide)
    rw [two_win] at this
    exact this.mono fun e w' ⟨A', c, he, _, hw⟩ => ⟨A', c, he, hw⟩
  have h1' : Calls Try.prog 7 #[.slice (some ⟨w.heap.size, 0, none⟩) 2 2, .int .i64 9, .int .i64 5] (w.alloc (.cells #[.int .i64 1, .int .u64 7, .int .i64 5, .int .u64 8] 31)) fun e w' => e = .returned (.tuple #[.int .u64 8, .bool true]) ∧ Below (w.alloc (.cells #[.int .i64 1, .int .u64 7, .int .i64 5, .int .u64 8] 31)).heap.size (w.alloc (.cells #[.int .i64 1, .int .u64 7, .int .i64 5, .int .u64 8] 31)) w' := h1
  have H1 := Lib.hid h1'
  have H2 := Lib.hid h2
  have H3 := Lib.hid h3
  clear h1 h1' h2 h3 hp
  have hb0 : Below w.heap.size w (w.alloc (.cells #[.int .i64 1, .int .u64 7, .int .i64 5, .int .u64 8] 31)) := (Below.refl _ _).alloc (Nat.le_refl _) _
  go_enter Try.func6, Try.ntmps6
  go_wp2_with fail
  refine (H1.out).mono ?_
  rintro e w1 ⟨rfl, hb1⟩
  go_wp2_with fail
  refine (H2.out _ hb1).mono ?_
  rintro e w2 ⟨rfl, hb2⟩
  have hb2' := hb1.trans (hb2.mono hb1.size)
  go_wp2_with fail
  refine (H3.out _ hb2').mono ?_
  rintro e w3 ⟨A', c, rfl, hb3⟩
  have hb3' := hb2'.trans (hb3.mono hb2'.size)
  go_wp2
  go_ret
  exact ⟨rfl, hb0.trans (hb3'.mono (by simp))⟩

/-- two contracts of one call, one for each way of a law's first test -/
theorem many_int {n : Nat} (h : 400 < n) : (400 : Int) < (n : Int) := by omega

set_option maxHeartbeats 2000000 in
theorem samples_walk (A : Option Addr) (cap : Nat) (l : List Pt) (t b : Int) (w : World) (hp : Pts w A l) (hcap : l.length ≤ cap) :
    Calls Try.prog 3 #[.slice A l.length cap, .int .i64 t, .int .i64 b] w fun e w' => e = .returned (.bool true) ∧ Below w.heap.size w w' := by
  by_cases hl : 400 < l.length
  · generalize l.length = n at *
    clear hp
    have hi : (400 : Int) < (n : Int) := by omega
    go_enter Try.func3, Try.ntmps3
    go_wp2_with fail
    refine (awake_any _).mono ?_
    rintro e w1 ⟨rfl, hb1⟩
    go_wp2
    go_ret
    exact ⟨rfl, hb1⟩
  · have hl' : l.length ≤ 65536 := by omega
    have h1 : ∀ w1, Below w.heap.size w w1 → Calls Try.prog 7 #[.slice A l.length cap, .int .i64 t, .int .i64 b] w1 fun e w' => e = .returned (.tuple #[.int .u64 (at_ l t b).1, .bool (at_ l t b).2]) ∧ Below w1.heap.size w1 w' := fun w1 hb => at_any A cap l t b w1 (hp.below hb) hl'
    have h2 : ∀ w1, Below w.heap.size w w1 → Calls Try.prog 8 #[.slice A l.length cap, .int .i64 t, .int .i64 b] w1 fun e w' => e = .returned (.tuple #[.int .u64 (at_ l t b).1, .bool (at_ l t b).2]) ∧ ∃ n, w' = w1.drewN n := fun w1 hb => refAt_any A cap l t b w1 (hp.below hb) hl'
    have h3 : ∀ w1, Below w.heap.size w w1 → Calls Try.prog 10 #[.slice A l.length cap, .int .i64 t, .int .i64 b] w1 fun e w' => ∃ A' c, e = .returned (.slice A' (win l t b).length c) ∧ Own w' A' c (win l t b) ∧ Below w1.heap.size w1 w' := fun w1 hb => window_any A cap l t b w1 (hp.below hb) hl' hcap
    have h4 : ∀ w1, Below w.heap.size w w1 → Calls Try.prog 11 #[.slice A l.length cap, .int .i64 t, .int .i64 b] w1 fun e w' => ∃ A' c, e = .returned (.slice A' (win l t b).length c) ∧ Own w' A' c (win l t b) ∧ Below w1.heap.size w1 w' := fun w1 hb => refWindow_any A cap l t b w1 (hp.below hb) hl'
    have hwl : (win l t b).length ≤ 65536 := by
      unfold win
      split
      · have := List.length_filter_le (inW t b) l; omega
      · simp
    have h5 : ∀ w1 A1 c1 A2 c2, Pts w1 A1 (win l t b) → Pts w1 A2 (win l t b) → Calls Try.prog 9 #[.slice A1 (win l t b).length c1, .slice A2 (win l t b).length c2] w1 fun e w' => e = .returned (.bool true) ∧ ∃ n, w' = w1.drewN n := fun w1 A1 c1 A2 c2 p1 p2 => points_same A1 A2 c1 c2 _ w1 p1 p2 hwl
    have H1 := Lib.hid h1
    have H2 := Lib.hid h2
    have H3 := Lib.hid h3
    have H4 := Lib.hid h4
    have H5 := Lib.hid h5
    clear h1 h2 h3 h4 h5 hp hl' hcap hwl
    have hi : ¬ (400 : Int) < (l.length : Int) := by omega
    clear hl
    generalize l.length = n at *
    generalize (at_ l t b).1 = r1 at *
    generalize (at_ l t b).2 = r2 at *
    generalize win l t b = lw at *
    generalize hlw : lw.length = m at *
    clear hlw
    have q1 : (r1 == r1) = true := by simp
    have q2 : (r2 == r2) = true := by simp
    go_enter Try.func3, Try.ntmps3
    go_wp2_with fail
    refine (awake_any _).mono ?_
    rintro e w1 ⟨rfl, hb1⟩
    go_wp2_with fail
    refine (H1.out _ hb1).mono ?_
    rintro e w2 ⟨rfl, hb2⟩
    have hb2' := hb1.trans (hb2.mono hb1.size)
    go_wp2_with fail
    refine (H2.out _ hb2').mono ?_
    rintro e w3 ⟨rfl, q, rfl⟩
    have hb3' := bel_drawn hb2' q
    go_wp2_with fail
    refine (H3.out _ hb3').mono ?_
    rintro e w4 ⟨A1, c1, rfl, p1, hb4⟩
    have hb4' := hb3'.trans (hb4.mono hb3'.size)
    have P1 := Lib.hid p1.1
    clear p1
    go_wp2_with fail
    refine (H4.out _ hb4').mono ?_
    rintro e w5 ⟨A2, c2, rfl, p2, hb5⟩
    have hb5' := hb4'.trans (hb5.mono hb4'.size)
    have P2 := Lib.hid p2.1
    have P3 := Lib.hid (P1.out.below hb5)
    clear p2
    go_wp2_with fail
    refine (H5.out _ _ _ _ _ P3.out P2.out).mono ?_
    rintro e w6 ⟨rfl, q6, rfl⟩
    go_wp2
    go_ret
    exact ⟨rfl, bel_drawn hb5' _⟩
end Go.Proofs.Ytmnhoafhoaklcaa

import Derived.Test.YtmnhoafhoaklcaaL1
import Derived.Test.YtmnhoafhoaklcaaMath2
namespace Go.Proofs.Ytmnhoafhoaklcaa
open Go.RowKit Pk
set_option linter.unusedVariables false

theorem Own.below {w w' : World} {A : Option Addr} {c : Nat} {l : List Pt} (h : Own w A c l) (hb : Below w.heap.size w w') : Own w' A c l := ⟨h.1.below hb, h.2⟩

set_option maxHeartbeats 3000000 in
theorem wider_tail (A : Option Addr) (cap n : Nat) (t a b : Int) (w : World) (pre x : List Pt) (r1 s1 : Int) (r2 s2 : Bool)
    (hn : ¬ (400 : Int) < (n : Int)) (ha : ¬ a < 1) (hba : ¬ b < a) (ht : -2305843009213693952 ≤ t ∧ t ≤ 2305843009213693952) (hb : b ≤ 2305843009213693952)
    (hlen : (pre ++ x).length ≤ 400)
    (H0 : Hid (∀ w1, Below w.heap.size w w1 → Calls Try.prog 12 #[.slice A n cap, .int .i64 t, .int .i64 b] w1 fun e w' => e = .returned (.bool true) ∧ ∃ n, w' = w1.drewN n))
    (H1 : Hid (∀ w1, Below w.heap.size w w1 → Calls Try.prog 10 #[.slice A n cap, .int .i64 t, .int .i64 a] w1 fun e w' => ∃ A' c, e = .returned (.slice A' x.length c) ∧ Own w' A' c x ∧ Below w1.heap.size w1 w'))
    (H2 : Hid (∀ w1, Below w.heap.size w w1 → Calls Try.prog 10 #[.slice A n cap, .int .i64 t, .int .i64 b] w1 fun e w' => ∃ A' c, e = .returned (.slice A' (pre ++ x).length c) ∧ Own w' A' c (pre ++ x) ∧ Below w1.heap.size w1 w'))
    (H3 : Hid (∀ w1, Below w.heap.size w w1 → Calls Try.prog 7 #[.slice A n cap, .int .i64 t, .int .i64 a] w1 fun e w' => e = .returned (.tuple #[.int .u64 r1, .bool r2]) ∧ Below w1.heap.size w1 w'))
    (H4 : Hid (∀ w1, Below w.heap.size w w1 → Calls Try.prog 7 #[.slice A n cap, .int .i64 t, .int .i64 b] w1 fun e w' => e = .returned (.tuple #[.int .u64 s1, .bool s2]) ∧ Below w1.heap.size w1 w'))
    (HO : Hid (r2 = true → s1 = r1 ∧ s2 = true))
    (HE : Hid (∀ i, i < x.length → (x.getD i d0).1 ≤ t ∧ t - a < (x.getD i d0).1 ∧ ((x.getD i d0).2 == stale) = false)) :
    Calls Try.prog 5 #[.slice A n cap, .int .i64 t, .int .i64 a, .int .i64 b] w fun e w' => e = .returned (.bool true) ∧ Below w.heap.size w w' := by
  generalize hx : x.length = nx at *
  generalize hy : (pre ++ x).length = ny at *
  have hxy : nx ≤ ny := by rw [← hx, ← hy]; simp
  have hpre : pre.length = ny - nx := by rw [← hx, ← hy]; simp
  have HX := Lib.hid hx
  have HY := Lib.hid hy
  have HPR := Lib.hid hpre
  clear hx hy hpre
  have dn : decide ((400 : Int) < (n : Int)) = false := by simpa using hn
  have da : decide (a < 1) = false := by simpa using ha
  have db : decide (b < a) = false := by simpa using hba
  have dl : decide (ny < nx) = false := by simp; omega
  have hor : r2 = false ∨ (r2 = true ∧ s1 = r1 ∧ s2 = true) := by
    cases hr : r2 with
    | false => exact .inl rfl
    | true => exact .inr ⟨rfl, HO.out hr⟩
  clear HO
  have q1 : (r1 != r1) = false := by simp
  have q2 : (s1 != s1) = false := by simp
  rcases hor with rfl | ⟨rfl, rfl, rfl⟩
  all_goals
    go_enter Try.func5, Try.ntmps5
    go_wp2_with fail
    refine (awake_any _).mono ?_
    rintro e w1 ⟨rfl, hb1⟩
    go_wp2_with fail
    refine (H0.out _ hb1).mono ?_
    rintro e w2 ⟨rfl, q2, rfl⟩
    have hb2 := bel_drawn hb1 q2
    go_wp2_with fail
    refine (H1.out _ hb2).mono ?_
    rintro e w3 ⟨A1, c1, rfl, o1, hb3⟩
    have hb3' := hb2.trans (hb3.mono hb2.size)
    have O1 := Lib.hid o1
    clear o1
    go_wp2_with fail
    refine (H2.out _ hb3').mono ?_
    rintro e w4 ⟨A2, c2, rfl, o2, hb4⟩
    have hb4' := hb3'.trans (hb4.mono hb3'.size)
    have O2 := Lib.hid o2
    have O1' := Lib.hid (O1.out.below hb4)
    clear o2 O1
    go_wp2_with fail
    refine (H3.out _ hb4').mono ?_
    rintro e w5 ⟨rfl, hb5⟩
    have hb5' := hb4'.trans (hb5.mono hb4'.size)
    have O2' := Lib.hid (O2.out.below hb5)
    have O1 := Lib.hid (O1'.out.below hb5)
    clear O2 O1'
    go_wp2_with fail
    refine (H4.out _ hb5').mono ?_
    rintro e w6 ⟨rfl, hb6⟩
    have hb6' := hb5'.trans (hb6.mono hb5'.size)
    have O2 := Lib.hid (O2'.out.below hb6)
    have O1' := Lib.hid (O1.out.below hb6)
    clear O2' O1
    go_wp2_with fail
    go_loopw [15] (fun i wr => ∃ k m : Nat, k ≤ nx ∧ i = .int .i64 k ∧ wr = w6.drewN m) (fun i _ => nx - (intOf i).toNat)
    case atStart => exact ⟨0, 0, Nat.zero_le _, rfl, rfl⟩
    case round =>
      obtain ⟨k, m, hk, rfl, rfl⟩ := hrel
      by_cases hlt : k < nx
      · have hkx : k < x.length := by rw [HX.out]; exact hlt
        obtain ⟨b1, off1, rfl, hl1, g1⟩ := O1'.out.1 (by omega)
        obtain ⟨b2, off2, rfl, hl2, g2⟩ := O2.out.1 (by rw [HY.out]; omega)
        have hx1 := (g1 k hkx).1
        have hx2 := (g1 k hkx).2
        have hy0 := g2 (ny - nx + k) (by rw [HY.out]; omega)
        rw [show ny - nx + k = pre.length + k by rw [HPR.out], getD_append_right, HPR.out] at hy0
        have hy1 := hy0.1
        have hy2 := hy0.2
        have he := HE.out k (by first | exact hkx | exact hlt)
        clear hy0 g1 g2
        generalize (x.getD k d0).1 = xt at *
        generalize (x.getD k d0).2 = xv at *
        have e1 : decide (t < xt) = false := by simp; omega
        have e2 : decide (xt ≤ t - a) = false := by simp; omega
        have e3 : (xv == 9218868437227405314) = false := he.2.2
        clear he
        go_wp2
        go_quiet (fail)
        go_wp2
        go_roundw
        case rel => exact ⟨k + 1, _, by omega, by go_num, rfl⟩
        case measure => simp [intOf]; omega
      · go_wp2
        go_ret
        exact ⟨rfl, bel_drawn hb6' _⟩
end Go.Proofs.Ytmnhoafhoaklcaa

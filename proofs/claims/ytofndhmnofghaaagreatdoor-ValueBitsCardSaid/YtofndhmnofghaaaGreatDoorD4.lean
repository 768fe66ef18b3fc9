import Derived.Test.YtofndhmnofghaaaGreatDoorD3
namespace Go.Proofs.YtofndhmnofghaaaGreatDoor
open Go.RowKit Ieee
set_option linter.unusedVariables false

/-! the law ValueOrder -/
theorem same_any (a b : Int) (ha : Bits a) (hb : Bits b) (r : Bool) (hr : (normI a == normI b) = r) (w : World) : Calls Tryz.prog 9 #[.int .u64 a, .int .u64 b] w fun e w' => e = .returned (.bool r) ∧ w = w' := by
  have H1 := Lib.hid (fun W => norm_any a ha W)
  have H2 := Lib.hid (fun W => norm_any b hb W)
  generalize normI a = x at *
  generalize normI b = y at *
  clear ha hb
  go_enter Tryz.func9, Tryz.ntmps9
  go_wp2_with fail
  refine (H1.out _).mono ?_
  rintro e w1 ⟨rfl, rfl⟩
  go_wp2_with fail
  refine (H2.out _).mono ?_
  rintro e w1 ⟨rfl, rfl⟩
  go_wp2_with fail
  go_ret
  exact ⟨rfl, rfl⟩
/-- how three stand to one another -/
theorem cmp_three (a b c : Int) : (cmpI a b = -1 ∧ cmpI b a = 1 ∨ cmpI a b = 0 ∧ cmpI b a = 0 ∨ cmpI a b = 1 ∧ cmpI b a = -1) ∧ (cmpI b c = -1 ∨ cmpI b c = 0 ∨ cmpI b c = 1) ∧ (cmpI a c = -1 ∨ cmpI a c = 0 ∨ cmpI a c = 1) ∧
    (cmpI a b < 0 ∨ cmpI b c < 0 ∨ 0 ≤ cmpI a c) ∧ (0 < cmpI a b ∨ 0 < cmpI b c ∨ cmpI a c ≤ 0) ∧ (normI a = normI b → cmpI a b = 0) := by
  have hn : normI a = normI b → key a = key b := fun h => by rw [← key_norm a, ← key_norm b, h]
  unfold cmpI
  generalize key a = x at *
  generalize key b = y at *
  generalize key c = z at *
  refine ⟨?_, ?_, ?_, ?_, ?_, fun h => ?_⟩
  · repeat' split
    all_goals omega
  · repeat' split
    all_goals omega
  · repeat' split
    all_goals omega
  · repeat' split
    all_goals omega
  · repeat' split
    all_goals omega
  · have := hn h
    repeat' split
    all_goals omega
set_option maxRecDepth 100000 in
set_option maxHeartbeats 4000000 in
theorem order_case (a b c x x' y z : Int) (na nb : Int) (s : Bool) (w : World) (HA : Hid (Calls Tryz.prog 6 #[] w fun e w' => e = .returned (.bool true) ∧ Below w.heap.size w w'))
    (H1 : Hid (∀ W, Calls Tryz.prog 10 #[.int .u64 a, .int .u64 b] W fun e w' => e = .returned (.int .i64 x) ∧ W = w')) (H2 : Hid (∀ W, Calls Tryz.prog 10 #[.int .u64 b, .int .u64 c] W fun e w' => e = .returned (.int .i64 y) ∧ W = w'))
    (H3 : Hid (∀ W, Calls Tryz.prog 10 #[.int .u64 a, .int .u64 c] W fun e w' => e = .returned (.int .i64 z) ∧ W = w')) (H4 : Hid (∀ W, Calls Tryz.prog 10 #[.int .u64 b, .int .u64 a] W fun e w' => e = .returned (.int .i64 x') ∧ W = w'))
    (H5 : Hid (∀ W, Calls Tryz.prog 9 #[.int .u64 a, .int .u64 b] W fun e w' => e = .returned (.bool s) ∧ W = w')) (H6 : Hid (∀ W, Calls Tryz.prog 7 #[.int .u64 a] W fun e w' => e = .returned (.int .u64 na) ∧ W = w'))
    (H7 : Hid (∀ W, Calls Tryz.prog 7 #[.int .u64 na] W fun e w' => e = .returned (.int .u64 na) ∧ W = w')) (H8 : Hid (∀ W, Calls Tryz.prog 9 #[.int .u64 a, .int .u64 na] W fun e w' => e = .returned (.bool true) ∧ W = w'))
    (hs : s = true → x = 0) (hx : x = -1 ∧ x' = 1 ∨ x = 0 ∧ x' = 0 ∨ x = 1 ∧ x' = -1) (hy : y = -1 ∨ y = 0 ∨ y = 1) (hz : z = -1 ∨ z = 0 ∨ z = 1) (t1 : x < 0 ∨ y < 0 ∨ 0 ≤ z) (t2 : 0 < x ∨ 0 < y ∨ z ≤ 0) :
    Calls Tryz.prog 5 #[.int .u64 a, .int .u64 b, .int .u64 c] w fun e w' => e = .returned (.bool true) ∧ Below w.heap.size w w' := by
  have hn : (na != na) = false := by simp
  rcases hx with ⟨rfl, rfl⟩ | ⟨rfl, rfl⟩ | ⟨rfl, rfl⟩ <;> rcases hy with rfl | rfl | rfl <;> rcases hz with rfl | rfl | rfl
  all_goals first | omega | skip
  all_goals
    cases s with
    | true =>
      first
      | exact absurd (hs rfl) (by decide)
      | (clear hs t1 t2
         go_enter Tryz.func5, Tryz.ntmps5
         go_wp2_with fail
         refine (HA.out).mono ?_
         rintro e w1 ⟨rfl, hb1⟩
         go_wp2_with ((first | (with_reducible refine (H1.out _).mono ?_) | (with_reducible refine (H2.out _).mono ?_) | (with_reducible refine (H3.out _).mono ?_) | (with_reducible refine (H4.out _).mono ?_) | (with_reducible refine (H5.out _).mono ?_) | (with_reducible refine (H6.out _).mono ?_) | (with_reducible refine (H7.out _).mono ?_) | (with_reducible refine (H8.out _).mono ?_)); rintro e w2 ⟨rfl, rfl⟩)
         go_ret
         exact ⟨rfl, hb1⟩)
    | false =>
      clear hs t1 t2
      go_enter Tryz.func5, Tryz.ntmps5
      go_wp2_with fail
      refine (HA.out).mono ?_
      rintro e w1 ⟨rfl, hb1⟩
      go_wp2_with ((first | (with_reducible refine (H1.out _).mono ?_) | (with_reducible refine (H2.out _).mono ?_) | (with_reducible refine (H3.out _).mono ?_) | (with_reducible refine (H4.out _).mono ?_) | (with_reducible refine (H5.out _).mono ?_) | (with_reducible refine (H6.out _).mono ?_) | (with_reducible refine (H7.out _).mono ?_) | (with_reducible refine (H8.out _).mono ?_)); rintro e w2 ⟨rfl, rfl⟩)
      go_ret
      exact ⟨rfl, hb1⟩
theorem order_walk (a b c : Int) (ha : Bits a) (hb : Bits b) (hc : Bits c) (w : World) (hL : Laid w) :
    Calls Tryz.prog 5 #[.int .u64 a, .int .u64 b, .int .u64 c] w fun e w' => e = .returned (.bool true) ∧ Below w.heap.size w w' := by
  obtain ⟨h1, h2, h3, h4, h5, h6⟩ := cmp_three a b c
  have n1 : Bits (normI a) := norm_bits ha
  have e1 : ∀ W, Calls Tryz.prog 7 #[.int .u64 (normI a)] W fun e w' => e = .returned (.int .u64 (normI a)) ∧ W = w' := fun W => by have := norm_any (normI a) n1 W; rwa [norm_norm] at this
  exact order_case a b c (cmpI a b) (cmpI b a) (cmpI b c) (cmpI a c) (normI a) (normI b) (normI a == normI b) w (awake_any w hL) (fun W => cmp_any a b ha hb W) (fun W => cmp_any b c hb hc W) (fun W => cmp_any a c ha hc W) (fun W => cmp_any b a hb ha W)
    (fun W => same_any a b ha hb _ rfl W) (fun W => norm_any a ha W) e1 (fun W => same_any a (normI a) ha n1 true (by rw [norm_norm]; simp) W) (fun h => h6 (by simpa using h)) h1 h2 h3 h4 h5
end Go.Proofs.YtofndhmnofghaaaGreatDoor

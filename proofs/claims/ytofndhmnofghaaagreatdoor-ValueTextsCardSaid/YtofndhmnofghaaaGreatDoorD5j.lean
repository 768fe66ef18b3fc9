/- Lemmas. No condition. -/
import Derived.Test.YtofndhmnofghaaaGreatDoorD3j
import Derived.IntWalk
namespace Go.Proofs.YtofndhmnofghaaaGreatDoor
open Go.RowKit Ieee
set_option linter.unusedVariables false

/-! the law ValueOrder -/
theorem same_any (a b : Int) (ha : Bits a) (hb : Bits b) (r : Bool) (hr : (normI a == normI b) = r) (w : World) : Calls Tryz.prog 9 #[.int .u64 a, .int .u64 b] w fun e w' => e = .returned (.bool r) ∧ w = w' := by
  have H1 := Lib.hid (fun W => norm_any a ha W)
  have H2 := Lib.hid (fun W => norm_any b hb W)
  generalize normI a = x at *
  generalize normI b = y at *
  clear ha hb
  go_enter Tryz.func9, Tryz.ntmps9
  go_wp2_with fail
  refine (H1.out _).mono ?_
  rintro e w1 ⟨rfl, rfl⟩
  go_wp2_with fail
  refine (H2.out _).mono ?_
  rintro e w1 ⟨rfl, rfl⟩
  go_wp2_with fail
  go_ret
  exact ⟨rfl, rfl⟩
/-- how three stand to one another -/
theorem cmp_three (a b c : Int) : (cmpI a b = -1 ∧ cmpI b a = 1 ∨ cmpI a b = 0 ∧ cmpI b a = 0 ∨ cmpI a b = 1 ∧ cmpI b a = -1) ∧ (cmpI b c = -1 ∨ cmpI b c = 0 ∨ cmpI b c = 1) ∧ (cmpI a c = -1 ∨ cmpI a c = 0 ∨ cmpI a c = 1) ∧
    (cmpI a b < 0 ∨ cmpI b c < 0 ∨ 0 ≤ cmpI a c) ∧ (0 < cmpI a b ∨ 0 < cmpI b c ∨ cmpI a c ≤ 0) ∧ (normI a = normI b → cmpI a b = 0) := by
  have hn : normI a = normI b → key a = key b := fun h => by rw [← key_norm a, ← key_norm b, h]
  unfold cmpI
  generalize key a = x at *
  generalize key b = y at *
  generalize key c = z at *
  refine ⟨?_, ?_, ?_, ?_, ?_, fun h => ?_⟩
  · repeat' split
    all_goals omega
  · repeat' split
    all_goals omega
  · repeat' split
    all_goals omega
  · repeat' split
    all_goals omega
  · repeat' split
    all_goals omega
  · have := hn h
    repeat' split
    all_goals omega
set_option maxRecDepth 100000 in
set_option maxHeartbeats 4000000 in
theorem order_case (a b c x x' y z : Int) (na nb : Int) (s : Bool) (w : World) (HA : Hid (Calls Tryz.prog 6 #[] w fun e w' => e = .returned (.bool true) ∧ Below w.heap.size w w'))
    (H1 : Hid (∀ W, Calls Tryz.prog 10 #[.int .u64 a, .int .u64 b] W fun e w' => e = .returned (.int .i64 x) ∧ W = w')) (H2 : Hid (∀ W, Calls Tryz.prog 10 #[.int .u64 b, .int .u64 c] W fun e w' => e = .returned (.int .i64 y) ∧ W = w'))
    (H3 : Hid (∀ W, Calls Tryz.prog 10 #[.int .u64 a, .int .u64 c] W fun e w' => e = .returned (.int .i64 z) ∧ W = w')) (H4 : Hid (∀ W, Calls Tryz.prog 10 #[.int .u64 b, .int .u64 a] W fun e w' => e = .returned (.int .i64 x') ∧ W = w'))
    (H5 : Hid (∀ W, Calls Tryz.prog 9 #[.int .u64 a, .int .u64 b] W fun e w' => e = .returned (.bool s) ∧ W = w')) (H6 : Hid (∀ W, Calls Tryz.prog 7 #[.int .u64 a] W fun e w' => e = .returned (.int .u64 na) ∧ W = w'))
    (H7 : Hid (∀ W, Calls Tryz.prog 7 #[.int .u64 na] W fun e w' => e = .returned (.int .u64 na) ∧ W = w')) (H8 : Hid (∀ W, Calls Tryz.prog 9 #[.int .u64 a, .int .u64 na] W fun e w' => e = .returned (.bool true) ∧ W = w'))
    (hs : s = true → x = 0) (hx : x = -1 ∧ x' = 1 ∨ x = 0 ∧ x' = 0 ∨ x = 1 ∧ x' = -1) (hy : y = -1 ∨ y = 0 ∨ y = 1) (hz : z = -1 ∨ z = 0 ∨ z = 1) (t1 : x < 0 ∨ y < 0 ∨ 0 ≤ z) (t2 : 0 < x ∨ 0 < y ∨ z ≤ 0) :
    Calls Tryz.prog 5 #[.int .u64 a, .int .u64 b, .int .u64 c] w fun e w' => e = .returned (.bool true) ∧ Below w.heap.size w w' := by
  have hn : (na != na) = false := by simp
  rcases hx with ⟨rfl, rfl⟩ | ⟨rfl, rfl⟩ | ⟨rfl, rfl⟩ <;> rcases hy with rfl | rfl | rfl <;> rcases hz with rfl | rfl | rfl
  all_goals first | omega | skip
  all_goals
    cases s with
    | true =>
      first
      | exact absurd (hs rfl) (by decide)
      | (clear hs t1 t2
         go_enter Tryz.func5, Tryz.ntmps5
         go_wp2_with fail
         refine (HA.out).mono ?_
         rintro e w1 ⟨rfl, hb1⟩
         go_wp2_with ((first | (with_reducible refine (H1.out _).mono ?_) | (with_reducible refine (H2.out _).mono ?_) | (with_reducible refine (H3.out _).mono ?_) | (with_reducible refine (H4.out _).mono ?_) | (with_reducible refine (H5.out _).mono ?_) | (with_reducible refine (H6.out _).mono ?_) | (with_reducible refine (H7.out _).mono ?_) | (with_reducible refine (H8.out _).mono ?_)); rintro e w2 ⟨rfl, rfl⟩)
         go_ret
         exact ⟨rfl, hb1⟩)
    | false =>
      clear hs t1 t2
      go_enter Tryz.func5, Tryz.ntmps5
      go_wp2_with fail
      refine (HA.out).mono ?_
      rintro e w1 ⟨rfl, hb1⟩
      go_wp2_with ((first | (with_reducible refine (H1.out _).mono ?_) | (with_reducible refine (H2.out _).mono ?_) | (with_reducible refine (H3.out _).mono ?_) | (with_reducible refine (H4.out _).mono ?_) | (with_reducible refine (H5.out _).mono ?_) | (with_reducible refine (H6.out _).mono ?_) | (with_reducible refine (H7.out _).mono ?_) | (with_reducible refine (H8.out _).mono ?_)); rintro e w2 ⟨rfl, rfl⟩)
      go_ret
      exact ⟨rfl, hb1⟩
theorem order_walk (a b c : Int) (ha : Bits a) (hb : Bits b) (hc : Bits c) (w : World) (hL : Laid w) :
    Calls Tryz.prog 5 #[.int .u64 a, .int .u64 b, .int .u64 c] w fun e w' => e = .returned (.bool true) ∧ Below w.heap.size w w' := by
  obtain ⟨h1, h2, h3, h4, h5, h6⟩ := cmp_three a b c
  have n1 : Bits (normI a) := norm_bits ha
  have e1 : ∀ W, Calls Tryz.prog 7 #[.int .u64 (normI a)] W fun e w' => e = .returned (.int .u64 (normI a)) ∧ W = w' := fun W => by have := norm_any (normI a) n1 W; rwa [norm_norm] at this
  exact order_case a b c (cmpI a b) (cmpI b a) (cmpI b c) (cmpI a c) (normI a) (normI b) (normI a == normI b) w (awake_any w hL) (fun W => cmp_any a b ha hb W) (fun W => cmp_any b c hb hc W) (fun W => cmp_any a c ha hc W) (fun W => cmp_any b a hb ha W)
    (fun W => same_any a b ha hb _ rfl W) (fun W => norm_any a ha W) e1 (fun W => same_any a (normI a) ha n1 true (by rw [norm_norm]; simp) W) (fun h => h6 (by simpa using h)) h1 h2 h3 h4 h5
end Go.Proofs.YtofndhmnofghaaaGreatDoor

namespace Go.Proofs.YtofndhmnofghaaaGreatDoor
open Go.RowKit Ieee
set_option linter.unusedVariables false

/-! the document's Norm, Cmp, Text; the law ValueBits -/
theorem isnone_any (v : Int) (hv : Bits v) (w : World) : Calls Tryz.prog 17 #[.int .u64 v] w fun e w' => e = .returned (.bool (noneB v)) ∧ w = w' := by
  have h0 := hv.1
  have h1 := hv.2
  clear hv
  unfold noneB
  have f1 : IntKind.u64.wrap (v / 4503599627370496) = v / 4503599627370496 := IntWalk.u64_in _ (by omega)
  cases hq : (v / 4503599627370496 % 2048 == 2047) with
  | false =>
    go_enter Tryz.func17, Tryz.ntmps17
    go_wp2
    go_ret
    exact ⟨by simp, rfl⟩
  | true =>
    go_enter Tryz.func17, Tryz.ntmps17
    go_wp2
    go_ret
    exact ⟨by simp, rfl⟩
theorem refnorm_any (v : Int) (hv : Bits v) (w : World) : Calls Tryz.prog 8 #[.int .u64 v] w fun e w' => e = .returned (.int .u64 (normI v)) ∧ w = w' := by
  have H := Lib.hid (fun w => isnone_any v hv w)
  unfold normI
  clear hv
  cases hn : noneB v with
  | false =>
    rw [hn] at H
    clear hn
    go_enter Tryz.func8, Tryz.ntmps8
    go_wp2_with fail
    refine (H.out _).mono ?_
    rintro e w1 ⟨rfl, rfl⟩
    go_wp2
    go_ret
    exact ⟨rfl, rfl⟩
  | true =>
    rw [hn] at H
    clear hn
    cases hm : (v != 9218868437227405314) with
    | false =>
      go_enter Tryz.func8, Tryz.ntmps8
      go_wp2_with fail
      refine (H.out _).mono ?_
      rintro e w1 ⟨rfl, rfl⟩
      go_wp2
      go_ret
      exact ⟨rfl, rfl⟩
    | true =>
      go_enter Tryz.func8, Tryz.ntmps8
      go_wp2_with fail
      refine (H.out _).mono ?_
      rintro e w1 ⟨rfl, rfl⟩
      go_wp2
      go_ret
      exact ⟨rfl, rfl⟩
theorem float_any (n : Nat) (w : World) : Calls Tryz.prog 20 #[.int .u64 (n : Int)] w fun e w' => e = .returned (.float .f64 n) ∧ w = w' := by
  have hb := fun w => frombits n w
  go_enter Tryz.func20, Tryz.ntmps20
  go_wp2
  go_ret
  exact ⟨rfl, rfl⟩
def refB : Bool → Bool → Bool → Bool → Int
  | true, true, _, _ => 0
  | true, false, _, _ => -1
  | false, true, _, _ => 1
  | false, false, true, _ => -1
  | false, false, false, true => 1
  | false, false, false, false => 0
set_option maxRecDepth 100000 in
set_option maxHeartbeats 4000000 in
theorem refcmp_walk (x y : Nat) (na nb lt gt : Bool) (HA : Hid (∀ W, Calls Tryz.prog 17 #[.int .u64 (x : Int)] W fun e w' => e = .returned (.bool na) ∧ W = w')) (HB : Hid (∀ W, Calls Tryz.prog 17 #[.int .u64 (y : Int)] W fun e w' => e = .returned (.bool nb) ∧ W = w'))
    (h1 : (double.order x y == some .lt) = lt) (h2 : (double.order x y == some .gt) = gt) (w : World) :
    Calls Tryz.prog 11 #[.int .u64 (x : Int), .int .u64 (y : Int)] w fun e w' => e = .returned (.int .i64 (refB na nb lt gt)) ∧ w = w' := by
  have h1' : (FloatKind.f64.format.order x y == some .lt) = lt := h1
  have h2' : (FloatKind.f64.format.order x y == some .gt) = gt := h2
  have HX := Lib.hid (fun W => float_any x W)
  have HY := Lib.hid (fun W => float_any y W)
  clear h1 h2
  cases na <;> cases nb <;> cases lt <;> cases gt
  all_goals
    go_enter Tryz.func11, Tryz.ntmps11
    go_wp2_with ((first | (with_reducible refine (HA.out _).mono ?_) | (with_reducible refine (HB.out _).mono ?_) | (with_reducible refine (HX.out _).mono ?_) | (with_reducible refine (HY.out _).mono ?_)); rintro e w1 ⟨rfl, rfl⟩)
    go_ret
    exact ⟨rfl, rfl⟩
theorem refB_is (na nb lt gt : Bool) (h : na = true ∨ nb = true → lt = false ∧ gt = false) : refB na nb lt gt = cmpB lt gt (!na) (!nb) := by
  cases na <;> cases nb <;> cases lt <;> cases gt <;> first | rfl | (exfalso; revert h; simp)
theorem cmpB_is (x y : Nat) (hx : x < 18446744073709551616) (hy : y < 18446744073709551616) : cmpB (double.order x y == some .lt) (double.order x y == some .gt) (!Fl.nanB x) (!Fl.nanB y) = cmpI (x : Int) (y : Int) := by
  rw [Fl.order_vi x y hx hy]
  unfold cmpI key
  rw [none_nan x hx, none_nan y hy, Int.toNat_natCast, Int.toNat_natCast]
  exact cmp_math _ _ _ _ _ (vi_lo x) (vi_lo y)
theorem refcmp_any (a b : Int) (ha : Bits a) (hb : Bits b) (w : World) : Calls Tryz.prog 11 #[.int .u64 a, .int .u64 b] w fun e w' => e = .returned (.int .i64 (cmpI a b)) ∧ w = w' := by
  obtain ⟨x, rfl⟩ : ∃ n : Nat, a = (n : Int) := ⟨a.toNat, by have := ha.1; omega⟩
  obtain ⟨y, rfl⟩ : ∃ n : Nat, b = (n : Int) := ⟨b.toNat, by have := hb.1; omega⟩
  have hx : x < 18446744073709551616 := by have := ha.2; omega
  have hy : y < 18446744073709551616 := by have := hb.2; omega
  have := refcmp_walk x y (noneB (x : Int)) (noneB (y : Int)) _ _ (fun W => isnone_any _ ha W) (fun W => isnone_any _ hb W) rfl rfl w
  rw [none_nan x hx, none_nan y hy] at this
  rw [refB_is _ _ _ _ (fun h => by
    rw [Fl.order_vi x y hx hy, if_pos (by rcases h with h | h <;> simp [h])]
    exact ⟨by simp, by simp⟩), cmpB_is x y hx hy] at this
  exact this
theorem fmt_none (n : Nat) (hn : n < 18446744073709551616) (h : noneB (n : Int) = true) : strF n = ⟨#[78, 97, 78]⟩ := by
  unfold noneB at h
  simp only [Bool.and_eq_true, beq_iff_eq, bne_iff_ne] at h
  have : fmtF n = [78, 97, 78] := by
    unfold fmtF
    rw [if_pos (by omega)]
    unfold specT
    rw [if_pos (by omega)]
  unfold strF
  rw [this]
theorem fmt_pinf : strF 9218868437227405312 = ⟨#[43, 73, 110, 102]⟩ := by
  have : fmtF 9218868437227405312 = [43, 73, 110, 102] := by decide +kernel
  unfold strF
  rw [this]
theorem fmt_ninf : strF 18442240474082181120 = ⟨#[45, 73, 110, 102]⟩ := by
  have : fmtF 18442240474082181120 = [45, 73, 110, 102] := by decide +kernel
  unfold strF
  rw [this]
set_option maxRecDepth 100000 in
set_option maxHeartbeats 1000000 in
theorem reftext_any (n : Nat) (hn : n < 18446744073709551616) (w : World) (hT : Tabs w) :
    Calls Tryz.prog 13 #[.int .u64 (n : Int)] w fun e w' => e = .returned (.string (strF n)) ∧ Below w.heap.size w w' := by
  have HN := Lib.hid (fun W => isnone_any (n : Int) ⟨by omega, by omega⟩ W)
  have HX := Lib.hid (fun W => float_any n W)
  have HF := Lib.hid (format_f n hn w hT)
  obtain ⟨t, ht⟩ : ∃ t, strF n = t := ⟨_, rfl⟩
  rw [ht] at HF ⊢
  cases hq : noneB (n : Int) with
  | true =>
    have e : t = ⟨#[78, 97, 78]⟩ := by rw [← ht]; exact fmt_none n hn hq
    rw [hq] at HN
    subst e
    clear ht hq hT
    go_enter Tryz.func13, Tryz.ntmps13
    go_wp2_with fail
    refine (HN.out _).mono ?_
    rintro e w1 ⟨rfl, rfl⟩
    go_wp2_with fail
    go_ret
    exact ⟨rfl, Below.refl _ _⟩
  | false =>
    rw [hq] at HN
    clear hq hT
    by_cases hp : n = 9218868437227405312
    · subst hp
      have e : t = ⟨#[43, 73, 110, 102]⟩ := by rw [← ht]; exact fmt_pinf
      subst e
      clear ht
      go_enter Tryz.func13, Tryz.ntmps13
      go_wp2_with fail
      refine (HN.out _).mono ?_
      rintro e w1 ⟨rfl, rfl⟩
      go_wp2_with fail
      go_ret
      exact ⟨rfl, Below.refl _ _⟩
    · by_cases hm : n = 18442240474082181120
      · subst hm
        have e : t = ⟨#[45, 73, 110, 102]⟩ := by rw [← ht]; exact fmt_ninf
        subst e
        clear ht
        go_enter Tryz.func13, Tryz.ntmps13
        go_wp2_with fail
        refine (HN.out _).mono ?_
        rintro e w1 ⟨rfl, rfl⟩
        go_wp2_with fail
        go_ret
        exact ⟨rfl, Below.refl _ _⟩
      · have e1 : ((n : Int) == 9218868437227405312) = false := beq_eq_false_iff_ne.2 (by omega)
        have e2 : ((n : Int) == 18442240474082181120) = false := beq_eq_false_iff_ne.2 (by omega)
        clear ht hp hm
        go_enter Tryz.func13, Tryz.ntmps13
        go_wp2_with fail
        refine (HN.out _).mono ?_
        rintro e w1 ⟨rfl, rfl⟩
        go_wp2_with fail
        refine (HX.out _).mono ?_
        rintro e w1 ⟨rfl, rfl⟩
        go_wp2_with fail
        refine (HF.out).mono ?_
        rintro e w1 ⟨rfl, hb⟩
        go_wp2_with fail
        go_ret
        exact ⟨rfl, hb⟩
set_option maxRecDepth 100000 in
set_option maxHeartbeats 2000000 in
theorem bits_walk (a b : Int) (ha : Bits a) (hb : Bits b) (w : World) (hL : Laid w) :
    Calls Tryz.prog 3 #[.int .u64 a, .int .u64 b] w fun e w' => e = .returned (.bool true) ∧ Below w.heap.size w w' := by
  have HA := Lib.hid (awake_any w hL)
  have H1 := Lib.hid (fun W => norm_any a ha W)
  have H2 := Lib.hid (fun W => refnorm_any a ha W)
  have H3 := Lib.hid (fun W => refnorm_any b hb W)
  obtain ⟨s, hs⟩ : ∃ s, (normI a == normI b) = s := ⟨_, rfl⟩
  have H4 := Lib.hid (fun W => same_any a b ha hb s hs W)
  have H5 := Lib.hid (fun W => cmp_any a b ha hb W)
  have H6 := Lib.hid (fun W => refcmp_any a b ha hb W)
  have H7 := Lib.hid (fun W (hW : Below w.heap.size w W) => by
    have := text_any a.toNat (by have := ha.1; have := ha.2; omega) W (hL.below hW).tabs
    rw [show ((a.toNat : Nat) : Int) = a by have := ha.1; omega] at this
    exact this)
  have H8 := Lib.hid (fun W (hW : Below w.heap.size w W) => by
    have := reftext_any a.toNat (by have := ha.1; have := ha.2; omega) W (hL.below hW).tabs
    rw [show ((a.toNat : Nat) : Int) = a by have := ha.1; omega] at this
    exact this)
  clear ha hb hL
  generalize normI a = na at *
  generalize normI b = nb at *
  generalize cmpI a b = c at *
  generalize strF a.toNat = t at *
  have hrs : (s == s) = true := by cases s <;> rfl
  go_enter Tryz.func3, Tryz.ntmps3
  go_wp2_with fail
  refine (HA.out).mono ?_
  rintro e w1 ⟨rfl, hb1⟩
  have K1 := Lib.hid hb1
  clear hb1
  go_wp2_with fail
  refine (H1.out _).mono ?_
  rintro e w2 ⟨rfl, rfl⟩
  go_wp2_with fail
  refine (H2.out _).mono ?_
  rintro e w2 ⟨rfl, rfl⟩
  go_wp2_with fail
  refine (H4.out _).mono ?_
  rintro e w2 ⟨rfl, rfl⟩
  go_wp2_with fail
  refine (H2.out _).mono ?_
  rintro e w2 ⟨rfl, rfl⟩
  go_wp2_with fail
  refine (H3.out _).mono ?_
  rintro e w2 ⟨rfl, rfl⟩
  go_wp2_with fail
  refine (H5.out _).mono ?_
  rintro e w2 ⟨rfl, rfl⟩
  go_wp2_with fail
  refine (H6.out _).mono ?_
  rintro e w2 ⟨rfl, rfl⟩
  go_wp2_with fail
  refine (H7.out _ K1.out).mono ?_
  rintro e w2 ⟨rfl, hb2⟩
  have K2 := Lib.hid (K1.out.trans (hb2.mono K1.out.size))
  clear hb2
  go_wp2_with fail
  refine (H8.out _ K2.out).mono ?_
  rintro e w3 ⟨rfl, hb3⟩
  have K3 := Lib.hid (K2.out.trans (hb3.mono K2.out.size))
  clear hb3
  go_wp2_with fail
  go_ret
  exact ⟨rfl, K3.out⟩
end Go.Proofs.YtofndhmnofghaaaGreatDoor

import Derived.Test.YtencpjhpedenbaaGreatDoorC1
import Derived.IntWalk
namespace Go.Proofs.YtencpjhpedenbaaGreatDoor.Vl
open Go.RowKit Ieee
set_option linter.unusedVariables false

/-! the document's Norm, Cmp, Text; the law ValueBits -/
theorem isnone_any (v : Int) (hv : Bits v) (w : World) : Calls Tryz.prog 11 #[.int .u64 v] w fun e w' => e = .returned (.bool (noneB v)) ∧ w = w' := by
  have h0 := hv.1
  have h1 := hv.2
  clear hv
  unfold noneB
  have f1 : IntKind.u64.wrap (v / 4503599627370496) = v / 4503599627370496 := IntWalk.u64_in _ (by omega)
  cases hq : (v / 4503599627370496 % 2048 == 2047) with
  | false =>
    go_enter Tryz.func11, Tryz.ntmps11
    go_wp2
    go_ret
    exact ⟨by simp, rfl⟩
  | true =>
    go_enter Tryz.func11, Tryz.ntmps11
    go_wp2
    go_ret
    exact ⟨by simp, rfl⟩
theorem refnorm_any (v : Int) (hv : Bits v) (w : World) : Calls Tryz.prog 17 #[.int .u64 v] w fun e w' => e = .returned (.int .u64 (normI v)) ∧ w = w' := by
  have H := Lib.hid (fun w => isnone_any v hv w)
  unfold normI
  clear hv
  cases hn : noneB v with
  | false =>
    rw [hn] at H
    clear hn
    go_enter Tryz.func17, Tryz.ntmps17
    go_wp2_with fail
    refine (H.out _).mono ?_
    rintro e w1 ⟨rfl, rfl⟩
    go_wp2
    go_ret
    exact ⟨rfl, rfl⟩
  | true =>
    rw [hn] at H
    clear hn
    cases hm : (v != 9218868437227405314) with
    | false =>
      go_enter Tryz.func17, Tryz.ntmps17
      go_wp2_with fail
      refine (H.out _).mono ?_
      rintro e w1 ⟨rfl, rfl⟩
      go_wp2
      go_ret
      exact ⟨rfl, rfl⟩
    | true =>
      go_enter Tryz.func17, Tryz.ntmps17
      go_wp2_with fail
      refine (H.out _).mono ?_
      rintro e w1 ⟨rfl, rfl⟩
      go_wp2
      go_ret
      exact ⟨rfl, rfl⟩
theorem float_any (n : Nat) (w : World) : Calls Tryz.prog 9 #[.int .u64 (n : Int)] w fun e w' => e = .returned (.float .f64 n) ∧ w = w' := by
  have hb := fun w => frombits n w
  go_enter Tryz.func9, Tryz.ntmps9
  go_wp2
  go_ret
  exact ⟨rfl, rfl⟩
def refB : Bool → Bool → Bool → Bool → Int
  | true, true, _, _ => 0
  | true, false, _, _ => -1
  | false, true, _, _ => 1
  | false, false, true, _ => -1
  | false, false, false, true => 1
  | false, false, false, false => 0
set_option maxRecDepth 100000 in
set_option maxHeartbeats 4000000 in
theorem refcmp_walk (x y : Nat) (na nb lt gt : Bool) (HA : Hid (∀ W, Calls Tryz.prog 11 #[.int .u64 (x : Int)] W fun e w' => e = .returned (.bool na) ∧ W = w')) (HB : Hid (∀ W, Calls Tryz.prog 11 #[.int .u64 (y : Int)] W fun e w' => e = .returned (.bool nb) ∧ W = w'))
    (h1 : (double.order x y == some .lt) = lt) (h2 : (double.order x y == some .gt) = gt) (w : World) :
    Calls Tryz.prog 12 #[.int .u64 (x : Int), .int .u64 (y : Int)] w fun e w' => e = .returned (.int .i64 (refB na nb lt gt)) ∧ w = w' := by
  have h1' : (FloatKind.f64.format.order x y == some .lt) = lt := h1
  have h2' : (FloatKind.f64.format.order x y == some .gt) = gt := h2
  have HX := Lib.hid (fun W => float_any x W)
  have HY := Lib.hid (fun W => float_any y W)
  clear h1 h2
  cases na <;> cases nb <;> cases lt <;> cases gt
  all_goals
    go_enter Tryz.func12, Tryz.ntmps12
    go_wp2_with ((first | (with_reducible refine (HA.out _).mono ?_) | (with_reducible refine (HB.out _).mono ?_) | (with_reducible refine (HX.out _).mono ?_) | (with_reducible refine (HY.out _).mono ?_)); rintro e w1 ⟨rfl, rfl⟩)
    go_ret
    exact ⟨rfl, rfl⟩
theorem refB_is (na nb lt gt : Bool) (h : na = true ∨ nb = true → lt = false ∧ gt = false) : refB na nb lt gt = cmpB lt gt (!na) (!nb) := by
  cases na <;> cases nb <;> cases lt <;> cases gt <;> first | rfl | (exfalso; revert h; simp)
theorem cmpB_is (x y : Nat) (hx : x < 18446744073709551616) (hy : y < 18446744073709551616) : cmpB (double.order x y == some .lt) (double.order x y == some .gt) (!Fl.nanB x) (!Fl.nanB y) = cmpI (x : Int) (y : Int) := by
  rw [Fl.order_vi x y hx hy]
  unfold cmpI key
  rw [none_nan x hx, none_nan y hy, Int.toNat_natCast, Int.toNat_natCast]
  exact cmp_math _ _ _ _ _ (vi_lo x) (vi_lo y)
theorem refcmp_any (a b : Int) (ha : Bits a) (hb : Bits b) (w : World) : Calls Tryz.prog 12 #[.int .u64 a, .int .u64 b] w fun e w' => e = .returned (.int .i64 (cmpI a b)) ∧ w = w' := by
  obtain ⟨x, rfl⟩ : ∃ n : Nat, a = (n : Int) := ⟨a.toNat, by have := ha.1; omega⟩
  obtain ⟨y, rfl⟩ : ∃ n : Nat, b = (n : Int) := ⟨b.toNat, by have := hb.1; omega⟩
  have hx : x < 18446744073709551616 := by have := ha.2; omega
  have hy : y < 18446744073709551616 := by have := hb.2; omega
  have := refcmp_walk x y (noneB (x : Int)) (noneB (y : Int)) _ _ (fun W => isnone_any _ ha W) (fun W => isnone_any _ hb W) rfl rfl w
  rw [none_nan x hx, none_nan y hy] at this
  rw [refB_is _ _ _ _ (fun h => by
    rw [Fl.order_vi x y hx hy, if_pos (by rcases h with h | h <;> simp [h])]
    exact ⟨by simp, by simp⟩), cmpB_is x y hx hy] at this
  exact this
end Go.Proofs.YtencpjhpedenbaaGreatDoor.Vl

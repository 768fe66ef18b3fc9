/- A pile's numbers: number, count, the four small functions. No condition. -/
import Derived.Test.YtencpjhpedenbaaGreatDoorG1
namespace Go.Proofs.YtencpjhpedenbaaGreatDoor
open Go.RowKit Lb
set_option linter.unusedVariables false
set_option maxRecDepth 100000
set_option maxHeartbeats 2000000

theorem frombits_any (v : Int) (hv : 0 ≤ v) (w : World) : (callFunc 30 #[.int .u64 v]).run Tryz.prog w = .ok (.value (.float .f64 v.toNat)) w := by
  obtain ⟨n, rfl⟩ : ∃ n : Nat, v = (n : Int) := ⟨v.toNat, by omega⟩
  rw [Int.toNat_natCast]
  exact Vl.frombits n w

theorem number_any (LA EA : Option Addr) (nl lc ec k : Nat) (S : List El) (w : World) (hE : Els w EA S) (hk : k < S.length) (hs : S.length ≤ 65536) :
    Calls Tryz.prog 33 #[.agg #[.slice LA nl lc, .slice EA S.length ec], .int .i64 k] w fun e w' => e = .returned (.float .f64 (S.getD k z0).2.toNat) ∧ Below w.heap.size w w' := by
  obtain ⟨b, off, LB, cb, rfl, hb, c1, c2, _, _, hbt⟩ := hE.at_ hk
  have hf := fun w => frombits_any (S.getD k z0).2 hbt.1 w
  generalize S.length = n at *
  generalize (S.getD k z0).2 = v at *
  go_enter Tryz.func33, Tryz.ntmps33
  go_wp2
  go_ret
  exact ⟨rfl, (Below.refl _ _).alloc (Nat.le_refl _) _⟩

theorem count_any (LA EA : Option Addr) (nl lc ec n : Nat) (w : World) :
    Calls Tryz.prog 23 #[.agg #[.slice LA nl lc, .slice EA n ec]] w fun e w' => e = .returned (.float .f64 (Ieee.double.write (.number false n 0))) ∧ Below w.heap.size w w' := by
  go_enter Tryz.func23, Tryz.ntmps23
  go_wp2
  go_ret
  exact ⟨rfl, (Below.refl _ _).alloc (Nat.le_refl _) _⟩

theorem more_any (x y : Nat) (r : Bool) (h : (Ieee.double.order x y == some .gt) = r) (w : World) : Calls Tryz.prog 36 #[.float .f64 x, .float .f64 y] w fun e w' => e = .returned (.bool r) ∧ w = w' := by
  have h' : (FloatKind.f64.format.order x y == some .gt) = r := h
  clear h
  go_enter Tryz.func36, Tryz.ntmps36
  go_wp2
  go_ret
  exact ⟨rfl, rfl⟩
theorem fewer_any (x y : Nat) (r : Bool) (h : (Ieee.double.order x y == some .lt) = r) (w : World) : Calls Tryz.prog 35 #[.float .f64 x, .float .f64 y] w fun e w' => e = .returned (.bool r) ∧ w = w' := by
  have h' : (FloatKind.f64.format.order x y == some .lt) = r := h
  clear h
  go_enter Tryz.func35, Tryz.ntmps35
  go_wp2
  go_ret
  exact ⟨rfl, rfl⟩
theorem high_any (a b : Int) (ha : Vl.Bits a) (hb : Vl.Bits b) (w : World) : Calls Tryz.prog 38 #[.int .u64 a, .int .u64 b] w fun e w' => e = .returned (.bool (decide (0 < Vl.cmpI a b))) ∧ w = w' := by
  have H := Lib.hid (fun W => Vl.cmp_any a b ha hb W)
  generalize Vl.cmpI a b = c at *
  go_enter Tryz.func38, Tryz.ntmps38
  go_wp2_with fail
  refine (H.out _).mono ?_
  rintro e w1 ⟨rfl, rfl⟩
  go_wp2
  go_ret
  exact ⟨rfl, rfl⟩
theorem low_any (a b : Int) (ha : Vl.Bits a) (hb : Vl.Bits b) (w : World) : Calls Tryz.prog 40 #[.int .u64 a, .int .u64 b] w fun e w' => e = .returned (.bool (decide (Vl.cmpI a b < 0))) ∧ w = w' := by
  have H := Lib.hid (fun W => Vl.cmp_any a b ha hb W)
  generalize Vl.cmpI a b = c at *
  go_enter Tryz.func40, Tryz.ntmps40
  go_wp2_with fail
  refine (H.out _).mono ?_
  rintro e w1 ⟨rfl, rfl⟩
  go_wp2
  go_ret
  exact ⟨rfl, rfl⟩
end Go.Proofs.YtencpjhpedenbaaGreatDoor

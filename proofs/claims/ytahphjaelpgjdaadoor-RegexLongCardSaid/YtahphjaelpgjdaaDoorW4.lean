import Derived.Test.YtahphjaelpgjdaaDoorW3
namespace Go.Proofs.YtahphjaelpgjdaaDoor
open Go.RowKit Rx
set_option linter.unusedVariables false

/-! the lowest bit of a word -/
def idx (t : Nat) : Nat := 2 ^ t * 285870213051353865 % 18446744073709551616 / 288230376151711744
/-- the table of the library, as it is laid -/
def TzT (w : World) : Prop := ∀ t, t < 64 → w.cell? ⟨1, idx t, none⟩ = some (.int .u8 t)
theorem TzT.below {w w' : World} (h : TzT w) (hb : Below w.heap.size w w') : TzT w' := fun t ht => below_cell hb (h t ht)
theorem neg_word (t q x : Nat) (hx : x = 2 ^ t * (2 * q + 1)) (h : x < 18446744073709551616) : bits .and .u64 (x : Int) (IntKind.u64.wrap (-(x : Int))) = ((2 ^ t : Nat) : Int) := by
  have hp : 0 < x := by rw [hx]; exact Nat.mul_pos (two_pos t) (by omega)
  have e : IntKind.u64.wrap (-(x : Int)) = ((18446744073709551616 - x : Nat) : Int) := by rw [IntKind.wrap_u64]; omega
  rw [e, u64_and_nat _ _ h (by omega), hx, and_neg t q (by rw [← hx]; exact h)]
theorem idx_lt (t : Nat) : idx t < 64 := by unfold idx; omega
theorem mul_word (t : Nat) : IntKind.u64.wrap (((2 ^ t : Nat) : Int) * 285870213051353865) = ((2 ^ t * 285870213051353865 % 18446744073709551616 : Nat) : Int) := by
  rw [IntKind.wrap_u64]
  omega
theorem tz_walk (x p m i : Nat) (t : Int) (w : World) (h0 : ((x : Int) == 0) = false) (hA : bits .and .u64 (x : Int) (IntKind.u64.wrap (-(x : Int))) = (p : Int))
    (hm : IntKind.u64.wrap ((p : Int) * 285870213051353865) = (m : Int)) (hi : (m : Int) / 288230376151711744 = (i : Int)) (hi4 : i < 64) (hc : w.cell? ⟨1, i, none⟩ = some (.int .u8 t)) (ht0 : 0 ≤ t) (ht : t < 64) :
    Calls Tryd.prog 53 #[.int .u64 (x : Int)] w fun e w' => e = .returned (.int .i64 t) ∧ w = w' := by
  go_enter Tryd.func53, Tryd.ntmps53
  go_wp2
  go_ret
  exact ⟨rfl, rfl⟩
theorem tz_any (t q x : Nat) (hx : x = 2 ^ t * (2 * q + 1)) (h : x < 18446744073709551616) (w : World) (hT : TzT w) :
    Calls Tryd.prog 53 #[.int .u64 (x : Int)] w fun e w' => e = .returned (.int .i64 (t : Int)) ∧ w = w' := by
  have ht : t < 64 := low_lt t q (by rw [← hx]; exact h)
  have hp : 0 < x := by rw [hx]; exact Nat.mul_pos (two_pos t) (by omega)
  refine tz_walk x (2 ^ t) (2 ^ t * 285870213051353865 % 18446744073709551616) (idx t) t w (beq_eq_false_iff_ne.2 (by omega)) (neg_word t q x hx h) (mul_word t) ?_ (idx_lt t) (hT t ht) (Int.natCast_nonneg _) (by omega)
  unfold idx
  rw [Int.natCast_ediv]
  rfl
end Go.Proofs.YtahphjaelpgjdaaDoor

import Derived.Test.YtahphjaelpgjdaaDoorRows
import Derived.WalkKit
import Derived.WalkLawsBesides
import Derived.WalkSpells
import Derived.RegionTactic
import Derived.Deep.QuietTactic
import Derived.BigQuiet
import Derived.Deep.LoopGhost
import Derived.Lib.Hide
import Derived.Handy
import Derived.Laws.BitsAllLaws
import Derived.Test.YtahphjaelpgjdaaDoorX3
namespace Go.Proofs.YtahphjaelpgjdaaDoor
open Go.RowKit Rx
set_option linter.unusedVariables false

/-! sets of up to 256 numbers -/
def uw (n i : Nat) : Int := ((wd n i : Nat) : Int)
abbrev wv (n i : Nat) : Value := .int .u64 (uw n i)
abbrev setV (n : Nat) : Value := .agg #[wv n 0, wv n 1, wv n 2, wv n 3]

theorem and_one_is (a j : Nat) (ha : a < 18446744073709551616) : (bits .and .u64 ((a : Int) / 2 ^ j) 1 == 1) = decide (a / 2 ^ j % 2 = 1) := by
  have e : ((a : Int) / 2 ^ j) = ((a / 2 ^ j : Nat) : Int) := by rw [Int.natCast_ediv]; simp
  have hl : a / 2 ^ j < 18446744073709551616 := Nat.lt_of_le_of_lt (Nat.div_le_self _ _) ha
  have e2 : bits .and .u64 (((a / 2 ^ j : Nat)) : Int) ((1 : Nat) : Int) = ((a / 2 ^ j % 2 : Nat) : Int) := by rw [u64_and_nat _ _ hl (by omega), Nat.and_one_is_mod]
  rw [e]
  have e3 : bits .and .u64 (((a / 2 ^ j : Nat)) : Int) 1 = ((a / 2 ^ j % 2 : Nat) : Int) := e2
  rw [e3]
  generalize a / 2 ^ j % 2 = z
  rw [Bool.eq_iff_iff, beq_iff_eq, decide_eq_true_eq]
  omega
theorem has_bit (n k i : Nat) (hi : k / 64 = i) : (bits .and .u64 (((wd n i : Nat) : Int) / 2 ^ (k % 64)) 1 == 1) = n.testBit k := by
  rw [and_one_is _ _ (wd_lt _ _), Bool.eq_iff_iff, decide_eq_true_eq]
  subst hi
  exact wd_has n k

set_option maxRecDepth 100000 in
set_option maxHeartbeats 1000000 in
theorem has_any (n k : Nat) (hk : k < 256) (w : World) :
    Calls Tryd.prog 39 #[setV n, .int .i64 k] w fun e w' => e = .returned (.bool (n.testBit k)) ∧ Below w.heap.size w w' := by
  obtain ⟨j, hj⟩ : ∃ j, j = k % 64 := ⟨_, rfl⟩
  have h2 : (k : Int) % 64 = (j : Int) := by omega
  have hj4 : j < 64 := by omega
  rcases (by omega : k / 64 = 0 ∨ k / 64 = 1 ∨ k / 64 = 2 ∨ k / 64 = 3) with hq | hq | hq | hq
  all_goals
    have hb := has_bit n k _ hq
    rw [← hj] at hb
    have b1 := wd_lt n 0
    have b2 := wd_lt n 1
    have b3 := wd_lt n 2
    have b4 := wd_lt n 3
    unfold setV wv uw
    generalize wd n 0 = x0 at *
    generalize wd n 1 = x1 at *
    generalize wd n 2 = x2 at *
    generalize wd n 3 = x3 at *
    generalize n.testBit k = r at *
    have HB := Lib.hid hb
    clear hb
    first
      | have h1 : (k : Int) / 64 = 0 := by omega
      | have h1 : (k : Int) / 64 = 1 := by omega
      | have h1 : (k : Int) / 64 = 2 := by omega
      | have h1 : (k : Int) / 64 = 3 := by omega
    clear hq hj
    go_enter Tryd.func39, Tryd.ntmps39
    go_wp2
    go_ret
    exact ⟨by rw [← HB.out]; rfl, by go_grown⟩

/-! with: one set and another one -/
theorem or_word (n m i : Nat) : bits .or .u64 ((wd n i : Nat) : Int) ((wd m i : Nat) : Int) = ((wd (n ||| m) i : Nat) : Int) := by
  rw [u64_or_nat _ _ (wd_lt _ _) (wd_lt _ _), wd_or]
set_option maxRecDepth 100000 in
set_option maxHeartbeats 1000000 in
theorem with_any (n m : Nat) (w : World) :
    Calls Tryd.prog 40 #[setV n, setV m] w fun e w' => e = .returned (setV (n ||| m)) ∧ Below w.heap.size w w' := by
  have e0 := or_word n m 0
  have e1 := or_word n m 1
  have e2 := or_word n m 2
  have e3 := or_word n m 3
  unfold setV wv uw
  generalize wd n 0 = x0 at *
  generalize wd n 1 = x1 at *
  generalize wd n 2 = x2 at *
  generalize wd n 3 = x3 at *
  generalize wd m 0 = y0 at *
  generalize wd m 1 = y1 at *
  generalize wd m 2 = y2 at *
  generalize wd m 3 = y3 at *
  go_enter Tryd.func40, Tryd.ntmps40
  go_wp2
  refine wp_loop_rounds 5 ?_
  rw [rounds_succ]
  go_wp2
  go_region
  go_wp2
  rw [rounds_succ]
  go_wp2
  go_region
  go_wp2
  rw [rounds_succ]
  go_wp2
  go_region
  go_wp2
  rw [rounds_succ]
  go_wp2
  go_region
  go_wp2
  rw [rounds_succ]
  go_wp2
  exact bodyPost_ret (v := .agg #[.int .u64 (wd (n ||| m) 0 : Nat), .int .u64 (wd (n ||| m) 1 : Nat), .int .u64 (wd (n ||| m) 2 : Nat), .int .u64 (wd (n ||| m) 3 : Nat)]) (by simp [results, Tryd.results40, go_sem]) rfl ⟨rfl, by go_grown⟩
end Go.Proofs.YtahphjaelpgjdaaDoor

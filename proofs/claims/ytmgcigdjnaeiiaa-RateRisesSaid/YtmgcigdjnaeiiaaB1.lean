import Derived.Test.YtmgcigdjnaeiiaaA9
namespace Go.Proofs.Ytmgcigdjnaeiiaa
open Go.RowKit Fl Ieee
set_option linter.unusedVariables false

set_option maxRecDepth 100000 in
set_option maxHeartbeats 2000000 in
theorem awake_any (w : World) : Calls Try.prog 6 #[] w fun e w' => e = .returned (.bool true) ∧ Below w.heap.size w w' := by
  have t1 := fun w => tobits 4621819117588971520 w
  have t2 := fun w => tobits 4626322717216342016 w
  change ∀ w, (callFunc 13 #[.float .f64 4621819117588971520]).run Try.prog w = .ok (.value (.int .u64 4621819117588971520)) w at t1
  change ∀ w, (callFunc 13 #[.float .f64 4626322717216342016]).run Try.prog w = .ok (.value (.int .u64 4626322717216342016)) w at t2
  have H1 := Lib.hid (grow_delta w.heap.size 0 (w.alloc (.cells #[.int .i64 10000, .int .u64 0, .int .i64 20000, .int .u64 4621819117588971520] 31)) (two_pts w))
  have H2 := Lib.hid (fun W (hW : Below (w.alloc (.cells #[.int .i64 10000, .int .u64 0, .int .i64 20000, .int .u64 4621819117588971520] 31)).heap.size (w.alloc (.cells #[.int .i64 10000, .int .u64 0, .int .i64 20000, .int .u64 4621819117588971520] 31)) W) =>
    grow_no ⟨#[100, 101, 108, 116, 97]⟩ (some ⟨w.heap.size, 0, none⟩) 2 onep 0 20000 W ((one_pts w).below hW) (by decide) (fun h => absurd h.1 (by decide)))
  have HB := Lib.hid ((Below.refl w.heap.size w).alloc (Nat.le_refl _) (.cells #[.int .i64 10000, .int .u64 0, .int .i64 20000, .int .u64 4621819117588971520] 31))
  change Hid (∀ W, _ → Calls Try.prog 7 #[.string ⟨#[100, 101, 108, 116, 97]⟩, .slice (some ⟨w.heap.size, 0, none⟩) 1 2, .int .i64 0, .int .i64 20000] W _) at H2
  go_enter Try.func6, Try.ntmps6
  go_wp2_with fail
  refine (H1.out).mono ?_
  rintro x w1 ⟨rfl, b1⟩
  go_wp2_with fail
  refine (H2.out _ b1).mono ?_
  rintro x w2 ⟨rfl, b2⟩
  go_wp2
  go_ret
  exact ⟨rfl, (HB.out.trans (b1.mono HB.out.size)).trans (b2.mono (Nat.le_trans HB.out.size b1.size))⟩
end Go.Proofs.Ytmgcigdjnaeiiaa

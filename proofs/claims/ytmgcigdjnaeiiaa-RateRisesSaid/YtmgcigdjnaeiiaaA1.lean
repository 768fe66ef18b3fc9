import Derived.Test.YtmgcigdjnaeiiaaRows
import Derived.Test.YtmgcigdjnaeiiaaFc
import Derived.WalkKit
import Derived.WalkLawsBesides
import Derived.WalkSpells
import Derived.RegionTactic
import Derived.Deep.QuietTactic
import Derived.BigQuiet
import Derived.Deep.LoopGhost
import Derived.Deep.RegionHeld3
import Derived.Lib.Hide
import Derived.Handy
namespace Go.Proofs.Ytmgcigdjnaeiiaa
open Go.RowKit Fl Ieee
set_option linter.unusedVariables false

theorem frombits (n : Nat) (w : World) : (callFunc 20 #[.int .u64 (n : Int)]).run Try.prog w = .ok (.value (.float .f64 n)) w := by kernel_rfl
theorem tobits (n : Nat) (w : World) : (callFunc 13 #[.float .f64 n]).run Try.prog w = .ok (.value (.int .u64 (n : Int))) w := by kernel_rfl
theorem bel_drawn {B : Nat} {w w' : World} (h : Below B w w') (n : Nat) : Below B w (w'.drewN n) := ⟨h.os, h.tape, h.output, h.size, h.block⟩

theorem times_is (a b c : Nat) (h : double.mul a b = some c) (w : World) : Calls Try.prog 23 #[.float .f64 a, .float .f64 b] w fun e w' => e = .returned (.float .f64 c) ∧ w = w' := by
  have hr := fun (w : World) => run_float_arith (P := Try.prog) (w := w) .mul 28 .f64 a b c h
  have HR := Lib.hid h
  clear h
  go_enter Try.func23, Try.ntmps23
  go_wp2
  go_ret
  exact ⟨rfl, rfl⟩
theorem over_is (a b c : Nat) (h : double.div a b = some c) (w : World) : Calls Try.prog 24 #[.float .f64 a, .float .f64 b] w fun e w' => e = .returned (.float .f64 c) ∧ w = w' := by
  have hr := fun (w : World) => run_float_arith (P := Try.prog) (w := w) .quo 28 .f64 a b c h
  have HR := Lib.hid h
  clear h
  go_enter Try.func24, Try.ntmps24
  go_wp2
  go_ret
  exact ⟨rfl, rfl⟩
end Go.Proofs.Ytmgcigdjnaeiiaa

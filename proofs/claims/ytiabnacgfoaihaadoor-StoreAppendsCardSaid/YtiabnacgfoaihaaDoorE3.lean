import Derived.Test.YtiabnacgfoaihaaDoorE2
namespace Go.Proofs.YtiabnacgfoaihaaDoor
open Go.RowKit
set_option linter.unusedVariables false

/-- the variable errors.errorType, as it is laid -/
def ErrT (w : World) : Prop := w.cell? ⟨0, 0, none⟩ = some (.iface 100 (.agg #[.pointer (some ⟨4, 32, none⟩)]))

theorem code_nil (w : World) : Calls Tryd.prog 14 #[.nilIface] w fun e w' => e = .returned (.int .i64 0) ∧ w = w' := by
  go_enter Tryd.func14, Tryd.ntmps14
  go_wp2
  go_ret
  exact ⟨rfl, rfl⟩

set_option maxRecDepth 100000 in
set_option maxHeartbeats 1000000 in
theorem code_is (c : Int) (hc : 0 < c) (w : World) (he : ErrT w) : Calls Tryd.prog 14 #[.iface 53 (.int .i64 c)] w fun e w' => e = .returned (.int .i64 c) ∧ Below w.heap.size w w' := by
  have H := Lib.hid (as_any c w.heap.size (w.alloc (.cells #[.int .i64 0] 53)) (cell_kept _ he) (cell_made w _ 53) (World.frozen?_alloc_at _ _ _ _ rfl))
  clear he
  go_enter Tryd.func14, Tryd.ntmps14
  go_wp2_with fail
  refine (H.out).mono ?_
  rintro e w1 ⟨rfl, o1, o2, o3, o4, rfl⟩
  go_wp2
  go_ret
  exact ⟨rfl, by go_grown⟩
end Go.Proofs.YtiabnacgfoaihaaDoor

import Derived.Test.YtofndhmnofghaaaGreatDoorE2
namespace Go.Proofs.YtofndhmnofghaaaGreatDoor
open Go.RowKit
set_option linter.unusedVariables false

/-- the variable errors.errorType, as it is laid -/
def ErrT (w : World) : Prop := w.cell? ⟨1, 0, none⟩ = some (.iface 78 (.agg #[.pointer (some ⟨16, 29, none⟩)]))

theorem code_nil (w : World) : Calls Tryz.prog 16 #[.nilIface] w fun e w' => e = .returned (.int .i64 0) ∧ w = w' := by
  go_enter Tryz.func16, Tryz.ntmps16
  go_wp2
  go_ret
  exact ⟨rfl, rfl⟩

set_option maxRecDepth 100000 in
set_option maxHeartbeats 1000000 in
theorem code_is (c : Int) (hc : 0 < c) (w : World) (he : ErrT w) : Calls Tryz.prog 16 #[.iface 45 (.int .i64 c)] w fun e w' => e = .returned (.int .i64 c) ∧ Below w.heap.size w w' := by
  have H := Lib.hid (as_any c w.heap.size (w.alloc (.cells #[.int .i64 0] 45)) (cell_kept _ he) (cell_made w _ 45) (World.frozen?_alloc_at _ _ _ _ rfl))
  clear he
  go_enter Tryz.func16, Tryz.ntmps16
  go_wp2_with fail
  refine (H.out).mono ?_
  rintro e w1 ⟨rfl, o1, o2, o3, o4, rfl⟩
  go_wp2
  go_ret
  exact ⟨rfl, by go_grown⟩
end Go.Proofs.YtofndhmnofghaaaGreatDoor

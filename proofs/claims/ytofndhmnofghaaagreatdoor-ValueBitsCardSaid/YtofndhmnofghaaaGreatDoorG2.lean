import Derived.Test.YtofndhmnofghaaaGreatDoorG1
namespace Go.Proofs.YtofndhmnofghaaaGreatDoor
open Go.ChangeShapes Go.WideShapes Go.ChangeAt Go.RowKit
set_option linter.unusedVariables false

/-- a world that meets the condition -/
noncomputable def errW (os : Os) : World :=
  let w0 := World.holding Tryz.prog os ⟨#[], #[], []⟩
  { w0 with heap := w0.heap.modify 1 fun
      | .cells _ t frozen => .cells #[.iface 78 (.agg #[.pointer (some ⟨16, 29, none⟩)])] t frozen
      | o => o }
noncomputable def laidW (os : Os) : World := (errW os).layVars Tryz.prog laid13
theorem laidW_os (os : Os) : (laidW os).os = os := World.layVars_os _ _ _
theorem laidW_fits (os : Os) : (errW os).layFits Tryz.prog laid13 [] = true := by kernel_rfl
theorem laidW_faces (os : Os) : (errW os).layIfaces Tryz.prog laid13 (laidW os) = true := by kernel_rfl
theorem laidW_met2 (os : Os) : laidMet Tryz.prog laid13 (laidW os) := by
  have e1 : (laid13.filter fun x => (laid13.map (·.1)).contains x.1) = laid13 := List.filter_eq_self.2 fun x hx => List.contains_iff_mem.2 (List.mem_map.2 ⟨x, hx, rfl⟩)
  have e2 : (laid13.filter fun x => !(laid13.map (·.1)).contains x.1) = [] := List.filter_eq_nil_iff.2 fun x hx => by rw [List.contains_iff_mem.2 (List.mem_map.2 ⟨x, hx, rfl⟩)]; simp
  exact laidMet_layVars (w0 := errW os) (laid13.map (·.1)) [] (by rw [e1]; rfl) (by rw [e1]; exact laidW_fits os) (by rw [e1]; exact laidW_faces os) (by rw [e2]; exact LaidIn.none)
theorem laidW_met (os : Os) (args : Array Value) : laidMetH Tryz.prog laid14 ((laidW os).forCall (fun _ _ => 0) ⟨#[], args, []⟩).memory :=
  laidMetH_of_parts ((laidW_met2 os).of_heap (by simp [World.memory, World.forCall, Input.heap])) (by kernel_rfl)
theorem bits_of {z : Int} (h : (Lit.int .u64 z).wf = true) : Bits z := by
  simp only [Lit.wf, IntKind.min, IntKind.max, IntKind.signed, IntKind.bits] at h
  simp at h
  exact ⟨by omega, by omega⟩
end Go.Proofs.YtofndhmnofghaaaGreatDoor

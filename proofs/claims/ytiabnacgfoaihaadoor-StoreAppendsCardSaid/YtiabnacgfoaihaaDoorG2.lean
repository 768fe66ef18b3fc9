import Derived.Test.YtiabnacgfoaihaaDoorG1
namespace Go.Proofs.YtiabnacgfoaihaaDoor
open Go.ChangeShapes Go.WideShapes Go.ChangeAt Go.RowKit Lb
set_option linter.unusedVariables false

/-- a world that meets the condition -/
noncomputable def errW (os : Os) : World :=
  let w0 := World.holding Tryd.prog os ⟨#[], #[], []⟩
  { w0 with heap := w0.heap.modify 0 fun
      | .cells _ t frozen => .cells #[.iface 100 (.agg #[.pointer (some ⟨4, 32, none⟩)])] t frozen
      | o => o }
noncomputable def laid2 : List (String × DataW Unit) := laid3.filter fun x => x.2.handleName?.isNone
noncomputable def laidW (os : Os) : World := (errW os).layVars Tryd.prog laid2
theorem laidW_os (os : Os) : (laidW os).os = os := World.layVars_os _ _ _
theorem laidW_fits (os : Os) : (errW os).layFits Tryd.prog laid2 [] = true := by kernel_rfl
theorem laidW_faces (os : Os) : (errW os).layIfaces Tryd.prog laid2 (laidW os) = true := by kernel_rfl
theorem laidW_met2 (os : Os) : laidMet Tryd.prog laid2 (laidW os) := by
  have e1 : (laid2.filter fun x => (laid2.map (·.1)).contains x.1) = laid2 := List.filter_eq_self.2 fun x hx => List.contains_iff_mem.2 (List.mem_map.2 ⟨x, hx, rfl⟩)
  have e2 : (laid2.filter fun x => !(laid2.map (·.1)).contains x.1) = [] := List.filter_eq_nil_iff.2 fun x hx => by rw [List.contains_iff_mem.2 (List.mem_map.2 ⟨x, hx, rfl⟩)]; simp
  exact laidMet_layVars (w0 := errW os) (laid2.map (·.1)) [] (by rw [e1]; rfl) (by rw [e1]; exact laidW_fits os) (by rw [e1]; exact laidW_faces os) (by rw [e2]; exact LaidIn.none)
theorem laidW_met (os : Os) (args : Array Value) : laidMetH Tryd.prog laid3 ((laidW os).forCall (fun _ _ => 0) ⟨#[], args, []⟩).memory :=
  laidMetH_of_parts ((laidW_met2 os).of_heap (by simp [World.memory, World.forCall, Input.heap])) (by kernel_rfl)

theorem cells41 : Tryd.prog.cellsOf 52 = 2 := by kernel_rfl
theorem cells9 : Tryd.prog.cellsOf 9 = 1 := by kernel_rfl
theorem add_none (b off k : Nat) : (⟨b, off, none⟩ : Addr).add k = ⟨b, off + k, none⟩ := by unfold Addr.add; split <;> simp_all

theorem open_lbs {H : Type} {enc : TypeId × Value → H} {w : World} {base : Nat} {spare : Nat → Bool} {held : Bool} {fuel : Nat} {a : Option Addr} {len cap : Nat} {x : DataW H × List MemPlace}
    (h : DataW.trod enc Tryd.prog w base spare held fuel 23 [.slice a len cap] = some x) : ∃ l : List Lab, l.length = len ∧ len ≤ cap ∧ cap ≤ 9223372036854775807 ∧ Lbs w a l := by
  rcases Go.Deep.open_slice_pairs Tryd.underlying23 Tryd.underlying52 cells41 rfl rfl cells9 cells9 h with ⟨hcs, _⟩ | ⟨ad, n, c, m, k, V0, V1, D0, D1, P0, P1, hcs, _, hl, hm, hmm, _, hc⟩
  · simp at hcs
    obtain ⟨rfl, rfl, rfl⟩ := hcs
    exact ⟨[], rfl, Nat.le_refl _, by omega, fun h => by simp at h⟩
  · simp only [List.cons.injEq, and_true, Value.slice.injEq] at hcs
    obtain ⟨rfl, rfl, rfl⟩ := hcs
    have hlm : len ≤ m := by rw [hmm]; split <;> omega
    have each : ∀ i, i < len → ∃ p : Lab, V0 i = .string p.1 ∧ V1 i = .string p.2 := by
      intro i hi
      obtain ⟨_, _, h0, h1⟩ := hc i (by omega)
      obtain ⟨z0, e0, _⟩ := DataW.trod_string Tryd.underlying9 h0
      obtain ⟨z1, e1, _⟩ := DataW.trod_string Tryd.underlying9 h1
      simp at e0 e1
      exact ⟨(z0, z1), e0, e1⟩
    obtain ⟨f, hf⟩ := Go.Deep.choose_lt each
    unfold maxLen at hm
    refine ⟨(List.range len).map f, by simp, hl, by omega, fun h0 => ?_⟩
    simp at h0
    have c0 := (hc 0 (by omega)).1
    obtain ⟨b, off, spot⟩ := ad
    have hspot : spot = none := by simpa [Addr.add] using World.cell?_spot c0
    subst hspot
    refine ⟨b, off, rfl, ?_, fun i hi => ?_⟩
    · have := World.block_lt_of_cell? _ _ c0
      simpa [Addr.add] using this
    · simp at hi
      obtain ⟨g0, g1, _⟩ := hc i (by omega)
      rw [add_none] at g0 g1
      rw [(hf i hi).1] at g0
      rw [(hf i hi).2] at g1
      have e : ((List.range len).map f).getD i e0 = f i := by simp [hi]
      rw [e]
      exact ⟨g0, g1⟩
end Go.Proofs.YtiabnacgfoaihaaDoor

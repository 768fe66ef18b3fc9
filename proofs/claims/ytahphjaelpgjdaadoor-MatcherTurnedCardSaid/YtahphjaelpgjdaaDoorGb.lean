/- What is laid when a matcher's law begins, and how its arguments lie. No condition. -/
import Derived.Test.YtahphjaelpgjdaaDoorLa2
import Derived.Test.YtahphjaelpgjdaaDoorGa
import Derived.Deep.SlicePairs
import Derived.Lib.LaidU8T
import Derived.Lib.SmallJoins
namespace Go.Proofs.YtahphjaelpgjdaaDoor
open Go.ChangeShapes Go.WideShapes Go.ChangeAt Go.RowKit Lb
set_option linter.unusedVariables false

noncomputable def laid3 : List (String × DataW Unit) := Rows.matcherTurnedRow.laid
theorem u8x : U8Extra Tryd.prog Tryd.laysValid_ren := { n3 := by kernel_rfl, n4 := by kernel_rfl, y3 := by kernel_rfl, y4 := by kernel_rfl, c5 := by kernel_rfl, c119 := by kernel_rfl, c138 := by kernel_rfl }
theorem first_is : Rows.laid_unicode_utf8_first = Lib.firstData := by kernel_rfl
theorem accept_is : Rows.laid_unicode_utf8_acceptRanges = Lib.acceptData := by kernel_rfl
theorem laid_of3 {W : World} (h : laidMetH Tryd.prog laid3 W) : TzT W ∧ Tabs W := by
  have h' : laidMet Tryd.prog [(_, Rows.laid_math_bits_deBruijn64tab), (_, Rows.laid_unicode_utf8_acceptRanges), (_, Rows.laid_unicode_utf8_first)] W := h
  refine ⟨tz_of (Lib.laidMet.reads h' (.head _)), ?_⟩
  have r1 := Lib.laidMet.reads h' (.tail _ (.tail _ (.head _)))
  have r2 := Lib.laidMet.reads h' (.tail _ (.head _))
  rw [first_is] at r1
  rw [accept_is] at r2
  exact utf8Tabs_of_readsT (U8Types.of196 Tryd.laysValid) u8x r1 r2
/-- a world that meets the condition -/
noncomputable def zeroW (os : Os) : World := World.holding Tryd.prog os ⟨#[], #[], []⟩
noncomputable def laidW3 (os : Os) : World := (zeroW os).layVars Tryd.prog laid3
theorem laidW3_os (os : Os) : (laidW3 os).os = os := World.layVars_os _ _ _
theorem laidW3_fits (os : Os) : (zeroW os).layFits Tryd.prog laid3 [] = true := by kernel_rfl
theorem laidW3_faces (os : Os) : (zeroW os).layIfaces Tryd.prog laid3 (laidW3 os) = true := by kernel_rfl
theorem laidW3_met2 (os : Os) : laidMet Tryd.prog laid3 (laidW3 os) := by
  have e1 : (laid3.filter fun x => (laid3.map (·.1)).contains x.1) = laid3 := List.filter_eq_self.2 fun x hx => List.contains_iff_mem.2 (List.mem_map.2 ⟨x, hx, rfl⟩)
  have e2 : (laid3.filter fun x => !(laid3.map (·.1)).contains x.1) = [] := List.filter_eq_nil_iff.2 fun x hx => by rw [List.contains_iff_mem.2 (List.mem_map.2 ⟨x, hx, rfl⟩)]; simp
  exact laidMet_layVars (w0 := zeroW os) (laid3.map (·.1)) [] (by rw [e1]; rfl) (by rw [e1]; exact laidW3_fits os) (by rw [e1]; exact laidW3_faces os) (by rw [e2]; exact LaidIn.none)
theorem laidW3_met (os : Os) (args : Array Value) : laidMetH Tryd.prog laid3 ((laidW3 os).forCall (fun _ _ => 0) ⟨#[], args, []⟩).memory :=
  laidMetH_of_parts ((laidW3_met2 os).of_heap (by simp [World.memory, World.forCall, Input.heap])) (by kernel_rfl)

theorem cellsq37 : Tryd.prog.cellsOf 37 = 3 := by kernel_rfl
theorem cellsq48 : Tryd.prog.cellsOf 48 = 2 := by kernel_rfl
theorem cellsq9 : Tryd.prog.cellsOf 9 = 1 := by kernel_rfl
theorem add_none (b off k : Nat) : (⟨b, off, none⟩ : Addr).add k = ⟨b, off + k, none⟩ := by unfold Addr.add; split <;> simp_all

theorem open_lbs {H : Type} {enc : TypeId × Value → H} {w : World} {base : Nat} {spare : Nat → Bool} {held : Bool} {fuel : Nat} {a : Option Addr} {len cap : Nat} {x : DataW H × List MemPlace}
    (h : DataW.trod enc Tryd.prog w base spare held fuel 38 [.slice a len cap] = some x) : ∃ l : List Lab, l.length = len ∧ len ≤ cap ∧ cap ≤ 9223372036854775807 ∧ Lbs w a l := by
  rcases Go.Deep.open_slice_pairs Tryd.underlying38 Tryd.underlying48 cellsq48 rfl rfl cellsq9 cellsq9 h with ⟨hcs, _⟩ | ⟨ad, n, c, m, k, V0, V1, D0, D1, P0, P1, hcs, _, hl, hm, hmm, _, hc⟩
  · simp at hcs
    obtain ⟨rfl, rfl, rfl⟩ := hcs
    exact ⟨[], rfl, Nat.le_refl _, by omega, fun h => by simp at h⟩
  · simp only [List.cons.injEq, and_true, Value.slice.injEq] at hcs
    obtain ⟨rfl, rfl, rfl⟩ := hcs
    have hlm : len ≤ m := by rw [hmm]; split <;> omega
    have each : ∀ i, i < len → ∃ p : Lab, V0 i = .string p.1 ∧ V1 i = .string p.2 := by
      intro i hi
      obtain ⟨_, _, h0, h1⟩ := hc i (by omega)
      obtain ⟨z0, e0, _⟩ := DataW.trod_string Tryd.underlying9 h0
      obtain ⟨z1, e1, _⟩ := DataW.trod_string Tryd.underlying9 h1
      simp at e0 e1
      exact ⟨(z0, z1), e0, e1⟩
    obtain ⟨f, hf⟩ := Go.Deep.choose_lt each
    unfold maxLen at hm
    refine ⟨(List.range len).map f, by simp, hl, by omega, fun h0 => ?_⟩
    simp at h0
    have c0 := (hc 0 (by omega)).1
    obtain ⟨b, off, spot⟩ := ad
    have hspot : spot = none := by simpa [Addr.add] using World.cell?_spot c0
    subst hspot
    refine ⟨b, off, rfl, ?_, fun i hi => ?_⟩
    · have := World.block_lt_of_cell? _ _ c0
      simpa [Addr.add] using this
    · simp at hi
      obtain ⟨g0, g1, _⟩ := hc i (by omega)
      rw [add_none] at g0 g1
      rw [(hf i hi).1] at g0
      rw [(hf i hi).2] at g1
      have e : ((List.range len).map f).getD i e0 = f i := by simp [hi]
      rw [e]
      exact ⟨g0, g1⟩
end Go.Proofs.YtahphjaelpgjdaaDoor

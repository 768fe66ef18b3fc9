import Derived.Test.YtiabnacgfoaihaaDoorP12
import Derived.Test.YtiabnacgfoaihaaDoorTie
import Derived.Test.YtiabnacgfoaihaaDoorCards
import Derived.ProofKit
import Derived.OpenShut
import Derived.ChangeOld
import Derived.Below
import Derived.Deep.SlicePairs
import Derived.LaidMore
import Derived.LaidHandle
import Derived.Lay
import Derived.SevenTiedAt
import Derived.Stop.Joined
import Derived.Lib.LaidU8T
namespace Go.Proofs.YtiabnacgfoaihaaDoor
open Go.ChangeShapes Go.WideShapes Go.ChangeAt Go.RowKit Lb
set_option linter.unusedVariables false

theorem own : ownKnob Tryd.prog.godebug = none := by kernel_rfl
theorem laidOut : laidOutB Tryd.prog = true := by kernel_rfl
noncomputable def laid3 : List (String × DataW Unit) := Rows.storeAppendsRow.laid
theorem u8x : U8Extra Tryd.prog Tryd.laysValid_ren := { n3 := by kernel_rfl, n4 := by kernel_rfl, y3 := by kernel_rfl, y4 := by kernel_rfl, c5 := by kernel_rfl, c119 := by kernel_rfl, c138 := by kernel_rfl }
theorem first_is : Rows.laid_unicode_utf8_first = Lib.firstData := by kernel_rfl
theorem accept_is : Rows.laid_unicode_utf8_acceptRanges = Lib.acceptData := by kernel_rfl
theorem oneRow : ((List.range 167).filter fun t => Tryd.prog.rowNamed t [101, 114, 114, 111, 114]) = [32] := by kernel_rfl
theorem nTypes : Tryd.prog.types.size = 167 := by kernel_rfl
theorem hand26 : typeHandle Tryd.prog 32 = .pointer (some ⟨4, 32, none⟩) := by kernel_rfl

theorem laid_of {W : World} (h : laidMetH Tryd.prog laid3 W) : Laid W := by
  have h' : laidMet Tryd.prog [(_, Rows.laid_unicode_utf8_acceptRanges), (_, Rows.laid_unicode_utf8_first)] W ∧ handlesMet Tryd.prog [(_, Rows.laid_errors_errorType)] W := h
  refine ⟨?_, ?_⟩
  · have r1 := Lib.laidMet.reads h'.1 (.tail _ (.head _))
    have r2 := Lib.laidMet.reads h'.1 (.head _)
    rw [first_is] at r1
    rw [accept_is] at r2
    exact utf8Tabs_of_readsT (U8Types.of196 Tryd.laysValid) u8x r1 r2
  · obtain ⟨name, u, ty, e1, e2, e3, e4, e5⟩ := h'.2 _ (List.mem_singleton.2 rfl)
    have en : name = [101, 114, 114, 111, 114] := (Option.some.inj e1).symm
    subst en
    obtain rfl : 100 = u := Option.some.inj ((by kernel_rfl : some 100 = _).trans e2)
    have hm : ty ∈ (List.range 167).filter fun t => Tryd.prog.rowNamed t [101, 114, 114, 111, 114] := List.mem_filter.2 ⟨List.mem_range.2 (by rw [← nTypes]; exact e3), e4⟩
    rw [oneRow] at hm
    obtain rfl := List.mem_singleton.1 hm
    rw [hand26] at e5
    have := World.var?_cell (g := 0) (by kernel_rfl) e5 0
    simpa [ErrT] using this
end Go.Proofs.YtiabnacgfoaihaaDoor

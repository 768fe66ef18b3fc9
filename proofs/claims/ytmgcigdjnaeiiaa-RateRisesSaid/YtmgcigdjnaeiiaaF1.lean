import Derived.Test.YtmgcigdjnaeiiaaB2
import Derived.ProofKit
import Derived.OpenShut
import Derived.ShutString
import Derived.ChangeOld
import Derived.Below
import Derived.Deep.SlicePairs
namespace Go.Proofs.Ytmgcigdjnaeiiaa
open Go.ChangeShapes Go.WideShapes Go.ChangeAt Go.RowKit Fl
set_option linter.unusedVariables false

theorem own : ownKnob Try.prog.godebug = none := by kernel_rfl
theorem laidOut : laidOutB Try.prog = true := by kernel_rfl
theorem cells31 : Try.prog.cellsOf 31 = 2 := by kernel_rfl
theorem cells2 : Try.prog.cellsOf 2 = 1 := by kernel_rfl
theorem cells24 : Try.prog.cellsOf 24 = 1 := by kernel_rfl

theorem add_none (b off k : Nat) : (⟨b, off, none⟩ : Addr).add k = ⟨b, off + k, none⟩ := by unfold Addr.add; split <;> simp_all

theorem open_pts {H : Type} {enc : TypeId × Value → H} {w : World} {base : Nat} {spare : Nat → Bool} {held : Bool} {fuel : Nat} {a : Option Addr} {len cap : Nat} {x : DataW H × List MemPlace}
    (h : DataW.trod enc Try.prog w base spare held fuel 22 [.slice a len cap] = some x) : ∃ l : List Pt, l.length = len ∧ len ≤ cap ∧ cap ≤ 9223372036854775807 ∧ Pts w a l ∧ ∀ i, i < l.length → (l.getD i e0).2 < 18446744073709551616 := by
  rcases Go.Deep.open_slice_pairs Try.underlying22 Try.underlying31 cells31 rfl rfl cells2 cells24 h with ⟨hcs, _⟩ | ⟨ad, n, c, m, k, V0, V1, D0, D1, P0, P1, hcs, _, hl, hm, hmm, _, hc⟩
  · simp at hcs
    obtain ⟨rfl, rfl, rfl⟩ := hcs
    exact ⟨[], rfl, Nat.le_refl _, by omega, fun h => by simp at h, fun i h => by simp at h⟩
  · simp only [List.cons.injEq, and_true, Value.slice.injEq] at hcs
    obtain ⟨rfl, rfl, rfl⟩ := hcs
    have hlm : len ≤ m := by rw [hmm]; split <;> omega
    have each : ∀ i, i < len → ∃ p : Pt, V0 i = .int .i64 p.1 ∧ V1 i = .int .u64 (p.2 : Int) ∧ p.2 < 18446744073709551616 := by
      intro i hi
      obtain ⟨_, _, h0, h1⟩ := hc i (by omega)
      obtain ⟨z0, e0, _⟩ := DataW.trod_int Try.underlying2 h0
      obtain ⟨z1, e1, _, e3⟩ := DataW.trod_int Try.underlying24 h1
      simp at e0 e1
      simp only [Lit.wf, IntKind.min, IntKind.max, IntKind.signed, IntKind.bits] at e3
      simp at e3
      exact ⟨(z0, z1.toNat), e0, by rw [e1, Int.toNat_of_nonneg (by omega)], by show z1.toNat < _; omega⟩
    obtain ⟨f, hf⟩ := Go.Deep.choose_lt each
    unfold maxLen at hm
    refine ⟨(List.range len).map f, by simp, hl, by omega, fun h0 => ?_, fun i hi => by
      simp at hi
      have e : ((List.range len).map f).getD i e0 = f i := by simp [hi]
      rw [e]; exact (hf i hi).2.2⟩
    simp at h0
    have c0 := (hc 0 (by omega)).1
    obtain ⟨b, off, spot⟩ := ad
    have hspot : spot = none := by simpa [Addr.add] using World.cell?_spot c0
    subst hspot
    refine ⟨b, off, rfl, ?_, fun i hi => ?_⟩
    · have := World.block_lt_of_cell? _ _ c0
      simpa [Addr.add] using this
    · simp at hi
      obtain ⟨g0, g1, _⟩ := hc i (by omega)
      rw [add_none] at g0 g1
      rw [(hf i hi).1] at g0
      rw [(hf i hi).2.1] at g1
      have e : ((List.range len).map f).getD i e0 = f i := by simp [hi]
      rw [e]
      exact ⟨g0, g1⟩
end Go.Proofs.Ytmgcigdjnaeiiaa

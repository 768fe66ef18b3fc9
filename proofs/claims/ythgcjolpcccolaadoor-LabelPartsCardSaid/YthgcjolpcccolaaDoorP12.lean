import Derived.Test.YthgcjolpcccolaaDoorP11
import Derived.Deep.Slices
namespace Go.Proofs.YthgcjolpcccolaaDoor
open Go.RowKit Lb
set_option linter.unusedVariables false

theorem nil_cap {H : Type} {enc : TypeId × Value → H} {w : World} {base : Nat} {spare : Nat → Bool} {held : Bool} {fuel : Nat} {a : Option Addr} {len cap : Nat} {x : DataW H × List MemPlace}
    (h : DataW.trod enc Tryd.prog w base spare held fuel 22 [.slice a len cap] = some x) : a = none → cap = 0 := by
  rintro rfl
  rcases Go.Deep.open_slice Tryd.underlying22 h with ⟨hcs, _⟩ | ⟨ad, n, c, m, k, D, Pl, hcs, _⟩
  · simp at hcs; exact hcs.2
  · simp at hcs
theorem open_sts {H : Type} {enc : TypeId × Value → H} {w : World} {base : Nat} {spare : Nat → Bool} {held : Bool} {fuel : Nat} {a : Option Addr} {len cap : Nat} {x : DataW H × List MemPlace}
    (h : DataW.trod enc Tryd.prog w base spare held fuel 35 [.slice a len cap] = some x) : ∃ l : List ByteArray, l.length = len ∧ len ≤ cap ∧ cap ≤ 9223372036854775807 ∧ Sts w a l := by
  rcases Go.Deep.open_slice1 Tryd.underlying35 cells9 h with ⟨hcs, _⟩ | ⟨ad, n, c, m, k, V, D, Pl, hcs, _, hl, hm, hmm, _, hc⟩
  · simp at hcs
    obtain ⟨rfl, rfl, rfl⟩ := hcs
    exact ⟨[], rfl, Nat.le_refl _, by omega, fun h => by simp at h⟩
  · simp only [List.cons.injEq, and_true, Value.slice.injEq] at hcs
    obtain ⟨rfl, rfl, rfl⟩ := hcs
    have hlm : len ≤ m := by rw [hmm]; split <;> omega
    have each : ∀ i, i < len → ∃ p : ByteArray, V i = .string p := by
      intro i hi
      obtain ⟨_, h0⟩ := hc i (by omega)
      obtain ⟨z0, e0, _⟩ := DataW.trod_string Tryd.underlying9 h0
      simp at e0
      exact ⟨z0, e0⟩
    obtain ⟨f, hf⟩ := Go.Deep.choose_lt each
    unfold maxLen at hm
    refine ⟨(List.range len).map f, by simp, hl, by omega, fun h0 => ?_⟩
    simp at h0
    have c0 := (hc 0 (by omega)).1
    obtain ⟨b, off, spot⟩ := ad
    have hspot : spot = none := by simpa [Addr.add] using World.cell?_spot c0
    subst hspot
    refine ⟨b, off, rfl, ?_, fun i hi => ?_⟩
    · have := World.block_lt_of_cell? _ _ c0
      simpa [Addr.add] using this
    · simp at hi
      obtain ⟨g0, _⟩ := hc i (by omega)
      rw [add_none] at g0
      rw [hf i hi] at g0
      have e : ((List.range len).map f).getD i ByteArray.empty = f i := by simp [hi]
      rw [e]
      exact g0
end Go.Proofs.YthgcjolpcccolaaDoor

import Derived.Test.YtiabnacgfoaihaaDoorG2
import Derived.Test.YtiabnacgfoaihaaDoorT2
import Derived.ShutString
import Derived.Lib.SmallJoins
namespace Go.Proofs.YtiabnacgfoaihaaDoor
open Go.ChangeShapes Go.WideShapes Go.ChangeAt Go.RowKit Lb
set_option linter.unusedVariables false

/-! a store that came in -/
theorem cells26 : Tryd.prog.cellsOf 26 = 2 := by kernel_rfl
theorem cells49 : Tryd.prog.cellsOf 49 = 2 := by kernel_rfl
theorem cells2 : Tryd.prog.cellsOf 2 = 1 := by kernel_rfl
theorem cells24 : Tryd.prog.cellsOf 24 = 1 := by kernel_rfl
theorem cells23 : Tryd.prog.cellsOf 23 = 1 := by kernel_rfl
theorem cells47 : Tryd.prog.cellsOf 47 = 1 := by kernel_rfl
theorem bytes26 : Tryd.prog.bytesOf 26 = 16 := by kernel_rfl
theorem bytes49 : Tryd.prog.bytesOf 49 = 48 := by kernel_rfl

theorem bits_of {z : Int} (h : (Lit.int .u64 z).wf = true) : Bits z := by
  simp only [Lit.wf, IntKind.min, IntKind.max, IntKind.signed, IntKind.bits] at h
  simp at h
  exact ⟨by omega, by omega⟩
theorem open_pts {H : Type} {enc : TypeId × Value → H} {w : World} {base : Nat} {spare : Nat → Bool} {held : Bool} {fuel : Nat} {a : Option Addr} {len cap : Nat} {x : DataW H × List MemPlace}
    (h : DataW.trod enc Tryd.prog w base spare held fuel 47 [.slice a len cap] = some x) (hw : ∀ y ∈ x.1.weights Tryd.prog 47, y ≤ reachBytes) : ∃ l : List Pt, l.length = len ∧ len ≤ cap ∧ cap ≤ 9223372036854775807 ∧ Pts w a l ∧ (a = none → cap = 0) ∧ len ≤ 140737488355328 := by
  rcases Go.Deep.open_slice_pairs Tryd.underlying47 Tryd.underlying26 cells26 rfl rfl cells2 cells24 h with ⟨hcs, _⟩ | ⟨ad, n, c, m, k, V0, V1, D0, D1, P0, P1, hcs, _, hl, hm, hmm, hx, hc⟩
  · simp at hcs
    obtain ⟨rfl, rfl, rfl⟩ := hcs
    exact ⟨[], rfl, Nat.le_refl _, by omega, fun h => by simp at h, fun _ => rfl, by omega⟩
  · simp only [List.cons.injEq, and_true, Value.slice.injEq] at hcs
    obtain ⟨rfl, rfl, rfl⟩ := hcs
    have hlm : len ≤ m := by rw [hmm]; split <;> omega
    have hwt : (len + (m - len)) * 16 ≤ reachBytes := by
      refine hw _ ?_
      rw [hx]
      simp only [DataW.weights, Tryd.underlying47, List.length_map, List.length_range, bytes26]
      exact List.mem_cons_self
    have hr : reachBytes = 140737488351232 := by decide
    have each : ∀ i, i < len → ∃ p : Pt, V0 i = .int .i64 p.1 ∧ V1 i = .int .u64 p.2 ∧ Bits p.2 := by
      intro i hi
      obtain ⟨_, _, h0, h1⟩ := hc i (by omega)
      obtain ⟨z0, e0, _⟩ := DataW.trod_int Tryd.underlying2 h0
      obtain ⟨z1, e1, _, e3⟩ := DataW.trod_int Tryd.underlying24 h1
      simp at e0 e1
      exact ⟨(z0, z1), e0, e1, bits_of e3⟩
    obtain ⟨f, hf⟩ := Go.Deep.choose_lt each
    unfold maxLen at hm
    refine ⟨(List.range len).map f, by simp, hl, by omega, fun h0 => ?_, (fun h => by cases h), by omega⟩
    simp at h0
    have c0 := (hc 0 (by omega)).1
    obtain ⟨b, off, spot⟩ := ad
    have hspot : spot = none := by simpa [Addr.add] using World.cell?_spot c0
    subst hspot
    refine ⟨b, off, rfl, ?_, fun i hi => ?_⟩
    · have := World.block_lt_of_cell? _ _ c0
      simpa [Addr.add] using this
    · simp at hi
      obtain ⟨g0, g1, _⟩ := hc i (by omega)
      rw [add_none] at g0 g1
      rw [(hf i hi).1] at g0
      rw [(hf i hi).2.1] at g1
      have e : ((List.range len).map f).getD i p0 = f i := by simp [hi]
      rw [e]
      exact ⟨g0, g1, (hf i hi).2.2⟩
theorem weights_mem {H : Type} {e : TypeId} : ∀ {l : List (DataW H)} {d : DataW H}, d ∈ l → ∀ y ∈ d.weights Tryd.prog e, y ∈ DataW.weightsAll Tryd.prog e l
  | [], _, h, _, _ => by cases h
  | x :: l, d, h, y, hy => by
    rw [DataW.weightsAll]
    rcases List.mem_cons.1 h with rfl | h
    · exact List.mem_append.2 (.inl hy)
    · exact List.mem_append.2 (.inr (weights_mem h y hy))
theorem slice_shape {H : Type} {enc : TypeId × Value → H} {w : World} {base : Nat} {spare : Nat → Bool} {held : Bool} {fuel : Nat} {t e : TypeId} {v : Value} {x : DataW H × List MemPlace} (ht : Tryd.prog.underlying t = some (.slice e))
    (h : DataW.trod enc Tryd.prog w base spare held fuel t [v] = some x) : ∃ a n c, v = .slice a n c := by
  rcases Go.Deep.open_slice ht h with ⟨hcs, _⟩ | ⟨ad, n, c, m, k, D, Pl, hcs, _⟩
  · simp at hcs; exact ⟨_, _, _, hcs⟩
  · simp at hcs; exact ⟨_, _, _, hcs⟩
/-- sizes of what came in -/
def Reached (S : List Ser) : Prop := ∀ i, i < S.length → (S.getD i s0).1.length ≤ 9223372036854775807 ∧ (S.getD i s0).2.length ≤ 140737488355328
theorem open_srs {H : Type} {enc : TypeId × Value → H} {w : World} {base : Nat} {spare : Nat → Bool} {held : Bool} {fuel : Nat} {a : Option Addr} {len cap : Nat} {x : DataW H × List MemPlace}
    (h : DataW.trod enc Tryd.prog w base spare held fuel 22 [.slice a len cap] = some x) (hw : ∀ y ∈ x.1.weights Tryd.prog 22, y ≤ reachBytes) : ∃ S : List Ser, S.length = len ∧ Own w a cap S ∧ Reached S := by
  rcases Go.Deep.open_slice_pairs Tryd.underlying22 Tryd.underlying49 cells49 rfl rfl cells23 cells47 h with ⟨hcs, _⟩ | ⟨ad, n, c, m, k, V0, V1, D0, D1, P0, P1, hcs, _, hl, hm, hmm, hx, hc⟩
  · simp at hcs
    obtain ⟨rfl, rfl, rfl⟩ := hcs
    exact ⟨[], rfl, own_nil w, fun i hi => absurd hi (Nat.not_lt_zero _)⟩
  · simp only [List.cons.injEq, and_true, Value.slice.injEq] at hcs
    obtain ⟨rfl, rfl, rfl⟩ := hcs
    have hlm : len ≤ m := by rw [hmm]; split <;> omega
    have hwD : ∀ i, i < len → ∀ y ∈ (D1 i).weights Tryd.prog 47, y ≤ reachBytes := by
      intro i hi y hy
      refine hw y ?_
      rw [hx]
      simp only [DataW.weights, Tryd.underlying22]
      refine List.mem_cons_of_mem _ (List.mem_append.2 (.inl (weights_mem (d := .agg [D0 i, D1 i]) (List.mem_map.2 ⟨i, List.mem_range.2 hi, rfl⟩) y ?_)))
      simp only [DataW.weights, Tryd.underlying49, List.map_cons, List.map_nil, DataW.weightsEach, List.append_nil]
      exact List.mem_append.2 (.inr hy)
    have each : ∀ i, i < len → ∃ p : VV × Ser, V0 i = p.1.1 ∧ V1 i = p.1.2 ∧ SerV w p.1 p.2 ∧ p.2.1.length ≤ 9223372036854775807 ∧ p.2.2.length ≤ 140737488355328 := by
      intro i hi
      obtain ⟨_, _, h0, h1⟩ := hc i (by omega)
      obtain ⟨a0, n0, c0, e0⟩ := slice_shape Tryd.underlying23 h0
      obtain ⟨a1, n1, c1, e1⟩ := slice_shape Tryd.underlying47 h1
      rw [e0] at h0
      rw [e1] at h1
      obtain ⟨l0, q0, q1, q2, q3⟩ := open_lbs h0
      obtain ⟨l1, r0, r1, r2, r3, r4, r5⟩ := open_pts h1 (hwD i hi)
      have q4 := nil_cap h0
      subst q0
      subst r0
      exact ⟨((V0 i, V1 i), (l0, l1)), rfl, rfl, ⟨a0, c0, a1, c1, by rw [e0, e1], q3, q4, r3, r4, r1, r2⟩, by show l0.length ≤ _; omega, r5⟩
    obtain ⟨f, hf⟩ := Go.Deep.choose_lt each
    unfold maxLen at hm
    have eS : ∀ i, i < len → ((List.range len).map fun i => (f i).2).getD i s0 = (f i).2 := fun i hi => by simp [hi]
    have eV : ∀ i, i < len → ((List.range len).map fun i => (f i).1).getD i v0 = (f i).1 := fun i hi => by simp [hi]
    refine ⟨(List.range len).map fun i => (f i).2, by simp, ⟨⟨(List.range len).map fun i => (f i).1, fun h0 => ?_, by simp, fun i hi => ?_⟩, (fun h => by cases h), by simpa using hl, by omega⟩, fun i hi => ?_⟩
    · simp at h0
      have c0 := (hc 0 (by omega)).1
      obtain ⟨b, off, spot⟩ := ad
      have hspot : spot = none := by simpa [Addr.add] using World.cell?_spot c0
      subst hspot
      refine ⟨b, off, rfl, ?_, fun i hi => ?_⟩
      · have := World.block_lt_of_cell? _ _ c0
        simpa [Addr.add] using this
      · simp at hi
        obtain ⟨g0, g1, _⟩ := hc i (by omega)
        rw [add_none] at g0 g1
        rw [(hf i hi).1] at g0
        rw [(hf i hi).2.1] at g1
        rw [eV i hi]
        exact ⟨g0, g1⟩
    · simp at hi
      rw [eV i hi, eS i hi]
      exact (hf i hi).2.2.1
    · simp at hi
      rw [eS i hi]
      exact (hf i hi).2.2.2
end Go.Proofs.YtiabnacgfoaihaaDoor

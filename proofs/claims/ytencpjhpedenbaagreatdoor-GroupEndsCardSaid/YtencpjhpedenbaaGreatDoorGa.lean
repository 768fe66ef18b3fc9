/- What is laid when the law is called, and what came in: a vector, and names. Condition: the five listed variables hold what the text of the program lays. -/
import Derived.Test.YtencpjhpedenbaaGreatDoorG7
import Derived.Test.YtencpjhpedenbaaGreatDoorTie
import Derived.Test.YtencpjhpedenbaaGreatDoorCards
import Derived.ProofKit
import Derived.OpenShut
import Derived.ChangeOld
import Derived.Below
import Derived.LaidMore
import Derived.LaidHandle
import Derived.Lay
import Derived.SevenTiedAt
import Derived.Stop.Joined
import Derived.Lib.LaidU8T
import Derived.Lib.SmallJoins
import Derived.Deep.SlicePairs
namespace Go.Proofs.YtencpjhpedenbaaGreatDoor
open Go.ChangeShapes Go.WideShapes Go.ChangeAt Go.RowKit Lb
set_option linter.unusedVariables false

theorem own : ownKnob Tryz.prog.godebug = none := by kernel_rfl
theorem laidOut : laidOutB Tryz.prog = true := by kernel_rfl
noncomputable def laid5 : List (String × DataW Unit) := Rows.groupEndsRow.laid
theorem u8x : U8Extra Tryz.prog Tryz.laysValid_ren := { n3 := by kernel_rfl, n4 := by kernel_rfl, y3 := by kernel_rfl, y4 := by kernel_rfl, c5 := by kernel_rfl, c119 := by kernel_rfl, c138 := by kernel_rfl }
theorem first_is : Rows.laid_unicode_utf8_first = Lib.firstData := by kernel_rfl
theorem accept_is : Rows.laid_unicode_utf8_acceptRanges = Lib.acceptData := by kernel_rfl
theorem pow_is : Lib.tabData .u64 Lib.pow10Tab = (Rows.laid_internal_strconv_uint64pow10 : DataW Unit) := by kernel_rfl
theorem cells31 : Tryz.prog.cellsOf 31 = 1 := by kernel_rfl
theorem pt_of {W : World} (h : Lib.VarReads Tryz.prog W "internal/strconv.uint64pow10" Rows.laid_internal_strconv_uint64pow10) : PT W ∧ 4 ≤ W.heap.size := by
  obtain ⟨g, t, cs, fuel, p, hg, hty, hvar, hd⟩ := h
  obtain rfl : 3 = g := Option.some.inj ((by kernel_rfl : some 3 = Tryz.prog.globalNamed "internal/strconv.uint64pow10").trans hg)
  obtain rfl : 157 = t := Option.some.inj ((by kernel_rfl : some 157 = _).trans hty)
  rw [← pow_is] at hd
  have hcs := Lib.cells_of_tab (n := 20) (e := 31) Tryz.underlying157 Tryz.underlying31 cells31 (by kernel_rfl) hd
  constructor
  · unfold PT Lib.TabIs
    rw [hvar]
    congr 1
    apply Array.toList_inj.1
    simpa using hcs
  · have h0 := World.var?_cell hg hvar 0
    rw [← Array.getElem?_toList, hcs] at h0
    have h1 : W.cell? ⟨3, 0, none⟩ = some (.int .u64 1) := by rw [h0]; rfl
    have := World.block_lt_of_cell? _ _ h1
    exact this

theorem laid_of {W : World} (h : laidMetH Tryz.prog laid5 W) : Tabs W ∧ PT W ∧ 4 ≤ W.heap.size := by
  have h' : laidMet Tryz.prog [(_, Rows.laid_math_bits_deBruijn32tab), (_, Rows.laid_math_bits_deBruijn64tab), (_, Rows.laid_internal_strconv_uint64pow10), (_, Rows.laid_unicode_utf8_acceptRanges), (_, Rows.laid_unicode_utf8_first)] W := h
  have rp := Lib.laidMet.reads h' (.tail _ (.tail _ (.head _)))
  have ra := Lib.laidMet.reads h' (.tail _ (.tail _ (.tail _ (.head _))))
  have rf := Lib.laidMet.reads h' (.tail _ (.tail _ (.tail _ (.tail _ (.head _)))))
  rw [first_is] at rf
  rw [accept_is] at ra
  exact ⟨utf8Tabs_of_readsT (U8Types.of196 Tryz.laysValid) u8x rf ra, pt_of rp⟩

/-- a world that meets the condition -/
noncomputable def errW (os : Os) : World := World.holding Tryz.prog os ⟨#[], #[], []⟩
noncomputable def laidW (os : Os) : World := (errW os).layVars Tryz.prog laid5
theorem laidW_os (os : Os) : (laidW os).os = os := World.layVars_os _ _ _
theorem laidW_fits (os : Os) : (errW os).layFits Tryz.prog laid5 [] = true := by kernel_rfl
theorem laidW_faces (os : Os) : (errW os).layIfaces Tryz.prog laid5 (laidW os) = true := by kernel_rfl
theorem laidW_met2 (os : Os) : laidMet Tryz.prog laid5 (laidW os) := by
  have e1 : (laid5.filter fun x => (laid5.map (·.1)).contains x.1) = laid5 := List.filter_eq_self.2 fun x hx => List.contains_iff_mem.2 (List.mem_map.2 ⟨x, hx, rfl⟩)
  have e2 : (laid5.filter fun x => !(laid5.map (·.1)).contains x.1) = [] := List.filter_eq_nil_iff.2 fun x hx => by rw [List.contains_iff_mem.2 (List.mem_map.2 ⟨x, hx, rfl⟩)]; simp
  exact laidMet_layVars (w0 := errW os) (laid5.map (·.1)) [] (by rw [e1]; rfl) (by rw [e1]; exact laidW_fits os) (by rw [e1]; exact laidW_faces os) (by rw [e2]; exact LaidIn.none)
theorem laidW_met (os : Os) (args : Array Value) : laidMetH Tryz.prog laid5 ((laidW os).forCall (fun _ _ => 0) ⟨#[], args, []⟩).memory :=
  (show laidMet Tryz.prog laid5 _ from (laidW_met2 os).of_heap (by simp [World.memory, World.forCall, Input.heap]))

theorem cells61 : Tryz.prog.cellsOf 61 = 2 := by kernel_rfl
theorem cells36 : Tryz.prog.cellsOf 36 = 2 := by kernel_rfl
theorem cells9 : Tryz.prog.cellsOf 9 = 1 := by kernel_rfl
theorem cells34 : Tryz.prog.cellsOf 34 = 1 := by kernel_rfl
theorem bits_of {z : Int} (h : (Lit.int .u64 z).wf = true) : Vl.Bits z := by
  simp only [Lit.wf, IntKind.min, IntKind.max, IntKind.signed, IntKind.bits] at h
  simp at h
  exact ⟨by omega, by omega⟩
section
variable {H : Type} {enc : TypeId × Value → H} {w : World} {base : Nat} {spare : Nat → Bool} {held : Bool} {fuel : Nat} {a : Option Addr} {len cap : Nat} {x : DataW H × List MemPlace}
theorem nil_cap (h : DataW.trod enc Tryz.prog w base spare held fuel 34 [.slice a len cap] = some x) : a = none → cap = 0 := by
  rintro rfl
  rcases Go.Deep.open_slice Tryz.underlying34 h with ⟨hcs, _⟩ | ⟨ad, n, c, m, k, D, Pl, hcs, _⟩
  · simp at hcs; exact hcs.2
  · simp at hcs
theorem open_lbs
    (h : DataW.trod enc Tryz.prog w base spare held fuel 34 [.slice a len cap] = some x) : ∃ l : List Lab, l.length = len ∧ len ≤ cap ∧ cap ≤ 9223372036854775807 ∧ Lbs w a l := by
  rcases Go.Deep.open_slice_pairs Tryz.underlying34 Tryz.underlying61 cells61 rfl rfl cells9 cells9 h with ⟨hcs, _⟩ | ⟨ad, n, c, m, k, V0, V1, D0, D1, P0, P1, hcs, _, hl, hm, hmm, _, hc⟩
  · simp at hcs
    obtain ⟨rfl, rfl, rfl⟩ := hcs
    exact ⟨[], rfl, Nat.le_refl _, by omega, fun h => by simp at h⟩
  · simp only [List.cons.injEq, and_true, Value.slice.injEq] at hcs
    obtain ⟨rfl, rfl, rfl⟩ := hcs
    have hlm : len ≤ m := by rw [hmm]; split <;> omega
    have each : ∀ i, i < len → ∃ p : Lab, V0 i = .string p.1 ∧ V1 i = .string p.2 := by
      intro i hi
      obtain ⟨_, _, h0, h1⟩ := hc i (by omega)
      obtain ⟨z0, e0, _⟩ := DataW.trod_string Tryz.underlying9 h0
      obtain ⟨z1, e1, _⟩ := DataW.trod_string Tryz.underlying9 h1
      simp at e0 e1
      exact ⟨(z0, z1), e0, e1⟩
    obtain ⟨f, hf⟩ := Go.Deep.choose_lt each
    unfold maxLen at hm
    refine ⟨(List.range len).map f, by simp, hl, by omega, fun h0 => ?_⟩
    simp at h0
    have c0 := (hc 0 (by omega)).1
    obtain ⟨b, off, spot⟩ := ad
    have hspot : spot = none := by simpa [Addr.add] using World.cell?_spot c0
    subst hspot
    refine ⟨b, off, rfl, ?_, fun i hi => ?_⟩
    · have := World.block_lt_of_cell? _ _ c0
      simpa [Addr.add] using this
    · simp at hi
      obtain ⟨g0, g1, _⟩ := hc i (by omega)
      rw [add_plain] at g0 g1
      rw [(hf i hi).1] at g0
      rw [(hf i hi).2] at g1
      have e : ((List.range len).map f).getD i e0 = f i := by simp [hi]
      rw [e]
      exact ⟨g0, g1⟩
theorem open_sts
    (h : DataW.trod enc Tryz.prog w base spare held fuel 22 [.slice a len cap] = some x) : ∃ l : List ByteArray, l.length = len ∧ len ≤ cap ∧ cap ≤ 9223372036854775807 ∧ Sts w a l := by
  rcases Go.Deep.open_slice1 Tryz.underlying22 cells9 h with ⟨hcs, _⟩ | ⟨ad, n, c, m, k, V, D, Pl, hcs, _, hl, hm, hmm, _, hc⟩
  · simp at hcs
    obtain ⟨rfl, rfl, rfl⟩ := hcs
    exact ⟨[], rfl, Nat.le_refl _, by omega, fun h => by simp at h⟩
  · simp only [List.cons.injEq, and_true, Value.slice.injEq] at hcs
    obtain ⟨rfl, rfl, rfl⟩ := hcs
    have hlm : len ≤ m := by rw [hmm]; split <;> omega
    have each : ∀ i, i < len → ∃ p : ByteArray, V i = .string p := by
      intro i hi
      obtain ⟨_, h0⟩ := hc i (by omega)
      obtain ⟨z0, e0, _⟩ := DataW.trod_string Tryz.underlying9 h0
      simp at e0
      exact ⟨z0, e0⟩
    obtain ⟨f, hf⟩ := Go.Deep.choose_lt each
    unfold maxLen at hm
    refine ⟨(List.range len).map f, by simp, hl, by omega, fun h0 => ?_⟩
    simp at h0
    have c0 := (hc 0 (by omega)).1
    obtain ⟨b, off, spot⟩ := ad
    have hspot : spot = none := by simpa [Addr.add] using World.cell?_spot c0
    subst hspot
    refine ⟨b, off, rfl, ?_, fun i hi => ?_⟩
    · have := World.block_lt_of_cell? _ _ c0
      simpa [Addr.add] using this
    · simp at hi
      obtain ⟨g0, _⟩ := hc i (by omega)
      rw [add_plain] at g0
      rw [hf i hi] at g0
      have e : ((List.range len).map f).getD i ByteArray.empty = f i := by simp [hi]
      rw [e]
      exact g0
theorem slice_shape {t e : TypeId} {v : Value} (ht : Tryz.prog.underlying t = some (.slice e))
    (h : DataW.trod enc Tryz.prog w base spare held fuel t [v] = some x) : ∃ a n c, v = .slice a n c := by
  rcases Go.Deep.open_slice ht h with ⟨hcs, _⟩ | ⟨ad, n, c, m, k, D, Pl, hcs, _⟩
  · simp at hcs; exact ⟨_, _, _, hcs⟩
  · simp at hcs; exact ⟨_, _, _, hcs⟩
theorem open_els
    (h : DataW.trod enc Tryz.prog w base spare held fuel 23 [.slice a len cap] = some x) : ∃ S : List El, S.length = len ∧ len ≤ cap ∧ cap ≤ 9223372036854775807 ∧ Els w a S ∧ ∀ i, i < S.length → (S.getD i z0).1.length ≤ 9223372036854775807 := by
  rcases Go.Deep.open_slice_pairs Tryz.underlying23 Tryz.underlying36 cells36 rfl rfl cells34 cells31 h with ⟨hcs, _⟩ | ⟨ad, n, c, m, k, V0, V1, D0, D1, P0, P1, hcs, _, hl, hm, hmm, hx, hc⟩
  · simp at hcs
    obtain ⟨rfl, rfl, rfl⟩ := hcs
    exact ⟨[], rfl, Nat.le_refl _, by omega, Els.nil w none, fun i hi => absurd hi (Nat.not_lt_zero _)⟩
  · simp only [List.cons.injEq, and_true, Value.slice.injEq] at hcs
    obtain ⟨rfl, rfl, rfl⟩ := hcs
    have hlm : len ≤ m := by rw [hmm]; split <;> omega
    have each : ∀ i, i < len → ∃ p : VV × El, V0 i = p.1.1 ∧ V1 i = p.1.2 ∧ ElV w p.1 p.2 ∧ p.2.1.length ≤ 9223372036854775807 := by
      intro i hi
      obtain ⟨_, _, h0, h1⟩ := hc i (by omega)
      obtain ⟨a0, n0, c0, e0⟩ := slice_shape Tryz.underlying34 h0
      obtain ⟨z1, e1, _, w1⟩ := DataW.trod_int Tryz.underlying31 h1
      simp at e1
      rw [e0] at h0
      obtain ⟨l0, q0, q1, q2, q3⟩ := open_lbs h0
      have q4 := nil_cap h0
      subst q0
      exact ⟨((V0 i, V1 i), (l0, z1)), rfl, rfl, ⟨a0, c0, by rw [e0, e1], q3, q4, bits_of w1⟩, by show l0.length ≤ _; omega⟩
    obtain ⟨f, hf⟩ := Go.Deep.choose_lt each
    unfold maxLen at hm
    have eS : ∀ i, i < len → ((List.range len).map fun i => (f i).2).getD i z0 = (f i).2 := fun i hi => by simp [hi]
    have eV : ∀ i, i < len → ((List.range len).map fun i => (f i).1).getD i v0 = (f i).1 := fun i hi => by simp [hi]
    refine ⟨(List.range len).map fun i => (f i).2, by simp, hl, by omega, ⟨(List.range len).map fun i => (f i).1, fun h0 => ?_, by simp, fun i hi => ?_⟩, fun i hi => ?_⟩
    · simp at h0
      have c0 := (hc 0 (by omega)).1
      obtain ⟨b, off, spot⟩ := ad
      have hspot : spot = none := by simpa [Addr.add] using World.cell?_spot c0
      subst hspot
      refine ⟨b, off, rfl, ?_, fun i hi => ?_⟩
      · have := World.block_lt_of_cell? _ _ c0
        simpa [Addr.add] using this
      · simp at hi
        obtain ⟨g0, g1, _⟩ := hc i (by omega)
        rw [add_plain] at g0 g1
        rw [(hf i hi).1] at g0
        rw [(hf i hi).2.1] at g1
        rw [eV i hi]
        exact ⟨g0, g1⟩
    · simp at hi
      rw [eV i hi, eS i hi]
      exact (hf i hi).2.2.1
    · simp at hi
      rw [eS i hi]
      exact (hf i hi).2.2.2
end
end Go.Proofs.YtencpjhpedenbaaGreatDoor

/- The size of the memory when a law's call begins; the table of bits as it is laid. No condition. -/
import Derived.Test.YtahphjaelpgjdaaDoorWb
import Derived.Test.YtahphjaelpgjdaaDoorTie
import Derived.Test.YtahphjaelpgjdaaDoorCards
import Derived.ProofKit
import Derived.OpenShut
import Derived.ChangeOld
import Derived.Below
import Derived.LaidMore
import Derived.LaidHandle
import Derived.Lay
import Derived.SevenTiedAt
import Derived.Stop.Joined
import Derived.Lib.LaidU8
namespace Go.Proofs.YtahphjaelpgjdaaDoor
open Go.ChangeShapes Go.WideShapes Go.ChangeAt Go.RowKit Rx
set_option linter.unusedVariables false

theorem own : ownKnob Tryd.prog.godebug = none := by kernel_rfl
theorem row4 : (((begin Tryd.checked.prog (fun _ _ => 0) default).world.heap[4]?).bind Obj.row?).isSome = true := by kernel_rfl
theorem size_shaped {w : World} (h : w.ShapedOpen Tryd.checked.prog) : 5 ≤ w.heap.size := by
  obtain ⟨⟨z, t⟩, hz⟩ := Option.isSome_iff_exists.1 row4
  obtain ⟨cs, hc, _⟩ := h.1 4 z t (by decide +kernel) hz
  exact (Array.getElem?_eq_some_iff.1 hc).1
/-- what holds of a world in which a call may begin: room for the program's variables -/
theorem handed5 {C : Checked} (own : ownKnob C.prog.godebug = none) (low : ∀ w : World, w.ShapedOpen C.prog → 5 ≤ w.heap.size) {H : Type} {enc : TypeId × Value → H} {os : Os} {f : FuncId} {fn : Func} {s : ChangeSpec} {X : World → Array Value → Prop}
    (hX : ∀ (w w' : World) (args : Array Value), w.heap = w'.heap → X w args → X w' args)
    (started : os.Started) (noInit : C.prog.inits.idxOf? f = none) (hfn : C.prog.funcs[f]? = some fn)
    (witness : ∃ (w : World) (tape : Tape) (i : Input), w.os = os ∧ (w.forCall tape i).Shaped C.prog ∧ i.vars = [] ∧ Input.okWide C.prog (w.forCall tape i) .any w.heap.size f i ∧
      ((s.pre enc C.prog fn [] false (w.forCall tape i).memory i.args ∧ X (w.forCall tape i).memory i.args) ∧ sizedMet enc C.prog fn (OpenSpec.ofChange s) false (w.forCall tape i).memory i.args) ∧ ({} : Assume).holds C.prog (lone (Frame.enter C.prog f i.args .normal) [] (w.forCall tape i)))
    (contract : ∀ (W : World) (base : Nat) (args : Array Value) (ds gs : List (DataW H)) (before : List MemPlace), 5 ≤ W.heap.size →
      (∀ (j : Nat) t v, fn.params[j]? = some t → args[j]? = some v → Value.okWide C.prog W .any base t v) →
      DataW.Whole enc C.prog fn.params.toList s.vars false W args.toList ds gs before → X W args →
      Calls C.prog f args W fun e W' => ∃ v, e = .returned v ∧ s.post enc C.prog fn false true false false W args v W') :
    ReturnsInHanded {} C os f .any (fun w args => (s.pre enc C.prog fn [] false w args ∧ X w args) ∧ sizedMet enc C.prog fn (OpenSpec.ofChange s) false w args) (s.post enc C.prog fn false true false false) := by
  refine returnsInHanded_of_calls own started noInit witness ?_
  intro w tape i _ hsh _ hok hpre _
  obtain ⟨_, _, _, g, hg, _, _, _, _, hval⟩ := hok
  obtain rfl : g = fn := Option.some.inj (hg.symm.trans hfn)
  obtain ⟨⟨⟨ds, gs, before, hw, _⟩, hx⟩, _⟩ := hpre
  refine (contract (w.forCall tape i) w.heap.size i.args ds gs before (low _ hsh) hval (DataW.Whole.of_heap (w' := w.forCall tape i) (by rfl) hw) (hX _ _ _ (by rfl) hx)).mono fun e W' ⟨v, he, hp⟩ => ?_
  subst he
  exact ChangeSpec.post_blind hp

def tab64 : List Int := [0, 1, 56, 2, 57, 49, 28, 3, 61, 58, 42, 50, 38, 29, 17, 4, 62, 47, 59, 36, 45, 43, 51, 22, 53, 39, 33, 30, 24, 18, 12, 5, 63, 55, 48, 27, 60, 41, 37, 16, 46, 35, 44, 21, 52, 32, 23, 11, 54, 26, 40, 15, 34, 20, 31, 10, 25, 14, 19, 9, 13, 8, 7, 6]
theorem tab_is : Lib.tabData .u8 tab64 = (Rows.laid_math_bits_deBruijn64tab : DataW Unit) := by kernel_rfl
set_option maxRecDepth 100000 in
theorem tab_at : ∀ t : Fin 64, tab64[idx t.val]? = some (t.val : Int) := by decide +kernel
theorem deB (t : Nat) (ht : (Tryd.prog.globals[1]?).map (·.type) = some t) : ∃ u, Tryd.prog.underlying t = some (.array 64 u) ∧ Tryd.prog.underlying u = some (.int .u8) ∧ Tryd.prog.cellsOf u = 1 ∧ Tryd.prog.cellsOf t = 64 := by
  obtain rfl : 130 = t := Option.some.inj ((by kernel_rfl : some 130 = _).trans ht)
  exact ⟨5, Tryd.underlying130, Tryd.underlying5, by kernel_rfl, by kernel_rfl⟩
theorem tz_of {W : World} (h : Lib.VarReads Tryd.prog W "math/bits.deBruijn64tab" Rows.laid_math_bits_deBruijn64tab) : TzT W := by
  rw [← tab_is] at h
  obtain ⟨g, t, cs, fuel, p, hg, hty, hvar, hd⟩ := h
  obtain rfl : 1 = g := Option.some.inj ((by kernel_rfl : some 1 = Tryd.prog.globalNamed "math/bits.deBruijn64tab").trans hg)
  obtain ⟨u, hu, hu5, hc1, hc2⟩ := deB t hty
  have hcs := Lib.cells_of_tab hu hu5 hc1 hc2 hd
  intro i hi
  rw [World.var?_cell hg hvar (idx i), ← Array.getElem?_toList, hcs, List.getElem?_map, tab_at ⟨i, hi⟩]
  rfl
end Go.Proofs.YtahphjaelpgjdaaDoor

/- Lemmas. No condition. -/
import Derived.Test.YtofndhmnofghaaaGreatDoorD5j
import Derived.Test.YtofndhmnofghaaaGreatDoorTie
import Derived.Test.YtofndhmnofghaaaGreatDoorCards
import Derived.ProofKit
import Derived.OpenShut
import Derived.ChangeOld
import Derived.Below
import Derived.LaidMore
import Derived.LaidHandle
import Derived.Lay
import Derived.SevenTiedAt
import Derived.Stop.Joined
import Derived.Lib.LaidU8
namespace Go.Proofs.YtofndhmnofghaaaGreatDoor
open Go.ChangeShapes Go.WideShapes Go.ChangeAt Go.RowKit
set_option linter.unusedVariables false

theorem own : ownKnob Tryz.prog.godebug = none := by kernel_rfl
theorem laidOut : laidOutB Tryz.prog = true := by kernel_rfl
noncomputable def laid14 : List (String × DataW Unit) := Rows.valueOrderRow.laid
noncomputable def laid13 : List (String × DataW Unit) := laid14.filter fun x => x.2.handleName?.isNone
theorem oneRow : ((List.range Tryz.prog.types.size).filter fun t => Tryz.prog.rowNamed t [101, 114, 114, 111, 114]) = [29] := by kernel_rfl
theorem hand29 : typeHandle Tryz.prog 29 = .pointer (some ⟨16, 29, none⟩) := by kernel_rfl
theorem pow_is : Lib.tabData .u64 Lib.pow10Tab = (Rows.laid_internal_strconv_uint64pow10 : DataW Unit) := by kernel_rfl

theorem deB64 (t : Nat) (ht : (Tryz.prog.globals[15]?).map (·.type) = some t) : ∃ u, Tryz.prog.underlying t = some (.array 64 u) ∧ Tryz.prog.underlying u = some (.int .u8) ∧ Tryz.prog.cellsOf u = 1 := by
  obtain rfl : 185 = t := Option.some.inj ((by kernel_rfl : some 185 = _).trans ht)
  exact ⟨5, Tryz.underlying185, Tryz.underlying5, by kernel_rfl⟩
section
variable {W : World}
theorem p10_of (h : Lib.VarReads Tryz.prog W "internal/strconv.pow10Tab" Rows.laid_internal_strconv_pow10Tab) : P10 W := by
  obtain ⟨g, t, cs, fuel, p, hg, hty, hvar, hd⟩ := h
  obtain rfl : 9 = g := Option.some.inj ((by kernel_rfl : some 9 = Tryz.prog.globalNamed "internal/strconv.pow10Tab").trans hg)
  obtain rfl : 165 = t := Option.some.inj ((by kernel_rfl : some 165 = _).trans hty)
  intro i hi
  have hlen : Go.Pinned.pow10Rows.length = 696 := by decide +kernel
  obtain ⟨fuel', d, q, hdi, he⟩ := Lib.array_elem (n := 696) (e := 164) Tryz.underlying165 hd i hi
  have hrow : Go.Pinned.pow10Rows[i]? = some (rowOf i) := by
    unfold rowOf
    rw [List.getD_eq_getElem?_getD, List.getElem?_eq_getElem (by rw [hlen]; exact hi)]
    rfl
  rw [List.getElem?_map, hrow] at hdi
  simp only [Option.map_some, Option.some.injEq] at hdi
  subst hdi
  have hc2 : Tryz.prog.cellsOf 164 = 2 := by kernel_rfl
  have hc1 : Tryz.prog.cellsOf 22 = 1 := by kernel_rfl
  rw [hc2] at he
  have hcs := Lib.ints_of_struct (zs := [((rowOf i).1 : Int), ((rowOf i).2 : Int)]) Tryz.underlying164 (fun j f hj => by
    match j, hj with
    | 0, hj => simp at hj; subst hj; exact ⟨Tryz.underlying22, rfl, hc1⟩
    | 1, hj => simp at hj; subst hj; exact ⟨Tryz.underlying22, rfl, hc1⟩
    | j + 2, hj => simp at hj) (by rw [hc2]; rfl) he
  have e0 := congrArg (·[0]?) hcs
  have e1 := congrArg (·[1]?) hcs
  simp only [List.getElem?_take, List.getElem?_drop] at e0 e1
  constructor
  · rw [World.var?_cell hg hvar (i * 2), ← Array.getElem?_toList]
    simpa using e0
  · rw [World.var?_cell hg hvar (i * 2 + 1), ← Array.getElem?_toList]
    simpa using e1
theorem pt_of (h : Lib.VarReads Tryz.prog W "internal/strconv.uint64pow10" Rows.laid_internal_strconv_uint64pow10) : PT W := by
  obtain ⟨g, t, cs, fuel, p, hg, hty, hvar, hd⟩ := h
  obtain rfl : 5 = g := Option.some.inj ((by kernel_rfl : some 5 = Tryz.prog.globalNamed "internal/strconv.uint64pow10").trans hg)
  obtain rfl : 133 = t := Option.some.inj ((by kernel_rfl : some 133 = _).trans hty)
  rw [← pow_is] at hd
  have hcs := Lib.cells_of_tab (n := 20) (e := 22) Tryz.underlying133 Tryz.underlying22 (by kernel_rfl) (by kernel_rfl) hd
  unfold PT Lib.TabIs
  rw [hvar]
  congr 1
  apply Array.toList_inj.1
  simpa using hcs
theorem opt_of (h : Lib.VarReads Tryz.prog W "internal/strconv.optimize" Rows.laid_internal_strconv_optimize) : W.cell? ⟨2, 0, none⟩ = some (.bool true) := by
  obtain ⟨g, t, cs, fuel, p, hg, hty, hvar, hd⟩ := h
  obtain rfl : 2 = g := Option.some.inj ((by kernel_rfl : some 2 = Tryz.prog.globalNamed "internal/strconv.optimize").trans hg)
  obtain rfl : 4 = t := Option.some.inj ((by kernel_rfl : some 4 = _).trans hty)
  obtain ⟨b, hb, hx⟩ := DataW.trod_bool Tryz.underlying4 hd
  have : b = true := by
    have h1 : (Rows.laid_internal_strconv_optimize : DataW Unit) = .lit (.bool b) := congrArg Prod.fst hx
    have h2 : (DataW.lit (.bool true) : DataW Unit) = .lit (.bool b) := h1
    injection h2 with h2
    injection h2 with h2
    exact h2.symm
  subst this
  rw [World.var?_cell hg hvar 0, ← Array.getElem?_toList, hb]
  rfl
set_option maxRecDepth 100000 in
theorem info_of (h : Lib.VarReads Tryz.prog W "internal/strconv.float64info" Rows.laid_internal_strconv_float64info) : W.cell? ⟨8, 0, none⟩ = some (.int .u64 52) := by
  obtain ⟨g, t, cs, fuel, p, hg, hty, hvar, hd⟩ := h
  obtain rfl : 8 = g := Option.some.inj ((by kernel_rfl : some 8 = Tryz.prog.globalNamed "internal/strconv.float64info").trans hg)
  obtain rfl : 145 = t := Option.some.inj ((by kernel_rfl : some 145 = _).trans hty)
  obtain ⟨xs, n, rfl, hx, hl, hxl, hall⟩ := DataW.trod_struct Tryz.underlying145 hd
  have h1 := hall 0 _ rfl
  have hx0 : xs[0]?.map (·.1) = some (.lit (.int .u64 52)) := by
    have h2 : (DataW.agg [.lit (.int .u64 52), .lit (.int .u64 11), .lit (.int .i64 (-1023))] : DataW Unit) = .agg (xs.map (·.1)) := congrArg Prod.fst hx
    injection h2 with h2
    rw [← List.getElem?_map, ← h2]
    rfl
  have hc : Tryz.prog.cellsOf 121 = 1 := by kernel_rfl
  cases hq : xs[0]? with
  | none => rw [hq] at hx0; cases hx0
  | some b =>
    rw [hq] at h1 hx0
    have h1' : DataW.trod (fun _ => ()) Tryz.prog W 0 (fun _ => true) false n 121 ((cs.toList.drop 0).take (Tryz.prog.cellsOf 121)) = some b := h1
    rw [hc] at h1'
    obtain ⟨z, hz, hb, _⟩ := DataW.trod_int Tryz.underlying121 h1'
    rw [hb] at hx0
    have hz52 : (DataW.lit (.int .u64 z) : DataW Unit) = .lit (.int .u64 52) := Option.some.inj hx0
    injection hz52 with hz52
    injection hz52 with _ hz52
    subst hz52
    rw [World.var?_cell hg hvar 0, ← Array.getElem?_toList]
    have := congrArg (·[0]?) hz
    simpa using this
set_option maxRecDepth 100000 in
theorem float_cell {fuel : Nat} {v : Value} {x : Nat} {q : List MemPlace} (h : DataW.trod (fun _ => ()) Tryz.prog W 0 (fun _ => true) false fuel 39 [v] = some (.lit (.float .f64 x), q)) : v = .float .f64 x := by
  cases fuel with
  | zero => simp [DataW.trod] at h
  | succ n =>
    unfold DataW.trod at h
    rw [Tryz.underlying39] at h
    split at h <;> simp_all
theorem pow_of (h : Lib.VarReads Tryz.prog W "internal/strconv.float64pow10" Rows.laid_internal_strconv_float64pow10) : ∃ P off c, W.cell? ⟨13, 0, none⟩ = some (.slice (some ⟨P, off, none⟩) 23 c) ∧ W.cell? ⟨P, off + 3, none⟩ = some (.float .f64 4652007308841189376) := by
  obtain ⟨g, t, cs, fuel, p, hg, hty, hvar, hd⟩ := h
  obtain rfl : 13 = g := Option.some.inj ((by kernel_rfl : some 13 = Tryz.prog.globalNamed "internal/strconv.float64pow10").trans hg)
  obtain rfl : 178 = t := Option.some.inj ((by kernel_rfl : some 178 = _).trans hty)
  obtain ⟨a, cap, hcs, hle, hall⟩ := open_row Tryz.underlying178 (by kernel_rfl) hd
  obtain ⟨v, n, q, hv, ht⟩ := hall 3 _ rfl
  have hf := float_cell ht
  subst hf
  obtain ⟨P, off, sp⟩ := a
  obtain ⟨v0, n0, q0, hv0, _⟩ := hall 0 _ rfl
  have hsp : sp = none := by simpa [Addr.add] using World.cell?_spot hv0
  subst hsp
  rw [add_plain] at hv
  refine ⟨P, off, cap, ?_, hv⟩
  rw [World.var?_cell hg hvar 0, ← Array.getElem?_toList, hcs]
  rfl
theorem size_of (h : Lib.VarReads Tryz.prog W "math/bits.deBruijn64tab" Rows.laid_math_bits_deBruijn64tab) : 16 ≤ W.heap.size := by
  obtain ⟨g, t, cs, fuel, p, hg, hty, hvar, hd⟩ := h
  obtain rfl : 15 = g := Option.some.inj ((by kernel_rfl : some 15 = Tryz.prog.globalNamed "math/bits.deBruijn64tab").trans hg)
  obtain ⟨u, hu⟩ : ∃ u, Tryz.prog.underlying t = some (.array 64 u) ∧ Tryz.prog.underlying u = some (.int .u8) ∧ Tryz.prog.cellsOf u = 1 := by
    have ht := hty
    exact deB64 t ht
  obtain ⟨fuel', d, q, hdi, he⟩ := Lib.array_elem (n := 64) (e := u) hu.1 hd 0 (by omega)
  rw [hu.2.2] at he
  obtain ⟨z, hz, _⟩ := DataW.trod_int (k := .u8) hu.2.1 (x := (d, q)) he
  have h0 : cs.toList[0]? = some (.int .u8 z) := by
    have := congrArg (·[0]?) hz
    simpa using this
  have hc := World.var?_cell hg hvar 0
  rw [← Array.getElem?_toList, h0] at hc
  have := World.block_lt_of_cell? _ _ hc
  exact this
end
theorem laid_of {W : World} (h : laidMetH Tryz.prog laid14 W) : Laid W := by
  have h' : laidMet Tryz.prog laid13 W ∧ handlesMet Tryz.prog [(_, Rows.laid_errors_errorType)] W := h
  have m : ∀ n d, (n, d) ∈ laid14 → d.handleName?.isNone = true → Lib.VarReads Tryz.prog W n d := fun n d h1 h2 => Lib.laidMet.reads h'.1 (List.mem_filter.2 ⟨h1, h2⟩)
  refine ⟨⟨p10_of (m _ _ (by simp [laid14, Rows.valueOrderRow]) rfl), pt_of (m _ _ (by simp [laid14, Rows.valueOrderRow]) rfl), size_of (m _ _ (by simp [laid14, Rows.valueOrderRow]) rfl)⟩,
    ⟨info_of (m _ _ (by simp [laid14, Rows.valueOrderRow]) rfl), opt_of (m _ _ (by simp [laid14, Rows.valueOrderRow]) rfl), pow_of (m _ _ (by simp [laid14, Rows.valueOrderRow]) rfl)⟩, ?_⟩
  obtain ⟨name, u, ty, e1, e2, e3, e4, e5⟩ := h'.2 _ (List.mem_singleton.2 rfl)
  have en : name = [101, 114, 114, 111, 114] := (Option.some.inj e1).symm
  subst en
  obtain rfl : 78 = u := Option.some.inj ((by kernel_rfl : some 78 = _).trans e2)
  have hm : ty ∈ (List.range Tryz.prog.types.size).filter fun t => Tryz.prog.rowNamed t [101, 114, 114, 111, 114] := List.mem_filter.2 ⟨List.mem_range.2 e3, e4⟩
  rw [oneRow] at hm
  obtain rfl := List.mem_singleton.1 hm
  rw [hand29] at e5
  have := World.var?_cell (g := 1) (by kernel_rfl) e5 0
  simpa [ErrT] using this
end Go.Proofs.YtofndhmnofghaaaGreatDoor

namespace Go.Proofs.YtofndhmnofghaaaGreatDoor
open Go.ChangeShapes Go.WideShapes Go.ChangeAt Go.RowKit
set_option linter.unusedVariables false

/-- a world that meets the condition -/
noncomputable def errW (os : Os) : World :=
  let w0 := World.holding Tryz.prog os ⟨#[], #[], []⟩
  { w0 with heap := w0.heap.modify 1 fun
      | .cells _ t frozen => .cells #[.iface 78 (.agg #[.pointer (some ⟨16, 29, none⟩)])] t frozen
      | o => o }
noncomputable def laidW (os : Os) : World := (errW os).layVars Tryz.prog laid13
theorem laidW_os (os : Os) : (laidW os).os = os := World.layVars_os _ _ _
theorem laidW_fits (os : Os) : (errW os).layFits Tryz.prog laid13 [] = true := by kernel_rfl
theorem laidW_faces (os : Os) : (errW os).layIfaces Tryz.prog laid13 (laidW os) = true := by kernel_rfl
theorem laidW_met2 (os : Os) : laidMet Tryz.prog laid13 (laidW os) := by
  have e1 : (laid13.filter fun x => (laid13.map (·.1)).contains x.1) = laid13 := List.filter_eq_self.2 fun x hx => List.contains_iff_mem.2 (List.mem_map.2 ⟨x, hx, rfl⟩)
  have e2 : (laid13.filter fun x => !(laid13.map (·.1)).contains x.1) = [] := List.filter_eq_nil_iff.2 fun x hx => by rw [List.contains_iff_mem.2 (List.mem_map.2 ⟨x, hx, rfl⟩)]; simp
  exact laidMet_layVars (w0 := errW os) (laid13.map (·.1)) [] (by rw [e1]; rfl) (by rw [e1]; exact laidW_fits os) (by rw [e1]; exact laidW_faces os) (by rw [e2]; exact LaidIn.none)
theorem laidW_met (os : Os) (args : Array Value) : laidMetH Tryz.prog laid14 ((laidW os).forCall (fun _ _ => 0) ⟨#[], args, []⟩).memory :=
  laidMetH_of_parts ((laidW_met2 os).of_heap (by simp [World.memory, World.forCall, Input.heap])) (by kernel_rfl)
theorem bits_of {z : Int} (h : (Lit.int .u64 z).wf = true) : Bits z := by
  simp only [Lit.wf, IntKind.min, IntKind.max, IntKind.signed, IntKind.bits] at h
  simp at h
  exact ⟨by omega, by omega⟩
end Go.Proofs.YtofndhmnofghaaaGreatDoor

/- What is laid when a law is called: the tables of powers, of spans, of characters, of bits; what holds of a world in which a call begins. Condition: the listed variables hold what the text of the program lays. -/
import Derived.Test.YticmkabafmmlhaaGreatDoorPtj
import Derived.Test.YticmkabafmmlhaaGreatDoorEaj
import Derived.Test.YticmkabafmmlhaaGreatDoorTie
import Derived.Test.YticmkabafmmlhaaGreatDoorCards
import Derived.ProofKit
import Derived.OpenShut
import Derived.ChangeOld
import Derived.Below
import Derived.LaidMore
import Derived.LaidHandle
import Derived.Lay
import Derived.SevenTiedAt
import Derived.Stop.Joined
import Derived.Lib.LaidU8
import Derived.Lib.LaidU8T
import Derived.Lib.SmallJoins
import Derived.Deep.SlicePairs
set_option linter.unusedVariables false
set_option maxRecDepth 100000
namespace Go.Proofs.YticmkabafmmlhaaGreatDoor
open Go.ChangeShapes Go.WideShapes Go.ChangeAt Go.RowKit
theorem own : ownKnob Tryz.prog.godebug = none := by kernel_rfl
theorem laidOut : laidOutB Tryz.prog = true := by kernel_rfl
noncomputable def laid17 : List (String × DataW Unit) := Rows.treeKidsRow.laid
noncomputable def laid16 : List (String × DataW Unit) := laid17.filter fun x => x.2.handleName?.isNone
theorem oneRow : ((List.range Tryz.prog.types.size).filter fun t => Tryz.prog.rowNamed t [101, 114, 114, 111, 114]) = [31] := by kernel_rfl
theorem hand31 : typeHandle Tryz.prog 31 = .pointer (some ⟨19, 31, none⟩) := by kernel_rfl
section
variable {W : World}
theorem pow_is : Lib.tabData .u64 Lib.pow10Tab = (Rows.laid_internal_strconv_uint64pow10 : DataW Unit) := by kernel_rfl
theorem p10_of (h : Lib.VarReads Tryz.prog W "internal/strconv.pow10Tab" Rows.laid_internal_strconv_pow10Tab) : Vt.P10 W := by
 obtain ⟨g, t, cs, fuel, p, hg, hty, hvar, hd⟩ := h
 obtain rfl : 10 = g := Option.some.inj ((by kernel_rfl : some 10 = Tryz.prog.globalNamed "internal/strconv.pow10Tab").trans hg)
 obtain rfl : 246 = t := Option.some.inj ((by kernel_rfl : some 246 = _).trans hty)
 intro i hi
 have hlen : Go.Pinned.pow10Rows.length = 696 := by decide +kernel
 obtain ⟨fuel', d, q, hdi, he⟩ := Lib.array_elem (n := 696) (e := 245) Tryz.underlying246 hd i hi
 have hrow : Go.Pinned.pow10Rows[i]? = some (Vt.rowOf i) := by
  unfold Vt.rowOf
  rw [List.getD_eq_getElem?_getD, List.getElem?_eq_getElem (by rw [hlen]; exact hi)]
  rfl
 rw [List.getElem?_map, hrow] at hdi
 simp only [Option.map_some, Option.some.injEq] at hdi
 subst hdi
 have hc2 : Tryz.prog.cellsOf 245 = 2 := by kernel_rfl
 have hc1 : Tryz.prog.cellsOf 22 = 1 := by kernel_rfl
 rw [hc2] at he
 have hcs := Lib.ints_of_struct (zs := [((Vt.rowOf i).1 : Int), ((Vt.rowOf i).2 : Int)]) Tryz.underlying245 (fun j f hj => by
  match j, hj with
  | 0, hj => simp at hj; subst hj; exact ⟨Tryz.underlying22, rfl, hc1⟩
  | 1, hj => simp at hj; subst hj; exact ⟨Tryz.underlying22, rfl, hc1⟩
  | j + 2, hj => simp at hj) (by rw [hc2]; rfl) he
 have e0 := congrArg (·[0]?) hcs
 have e1 := congrArg (·[1]?) hcs
 simp only [List.getElem?_take, List.getElem?_drop] at e0 e1
 constructor
 · rw [World.var?_cell hg hvar (i * 2), ← Array.getElem?_toList]
   simpa using e0
 · rw [World.var?_cell hg hvar (i * 2 + 1), ← Array.getElem?_toList]
   simpa using e1
theorem pt_of (h : Lib.VarReads Tryz.prog W "internal/strconv.uint64pow10" Rows.laid_internal_strconv_uint64pow10) : Vt.PT W := by
 obtain ⟨g, t, cs, fuel, p, hg, hty, hvar, hd⟩ := h
 obtain rfl : 3 = g := Option.some.inj ((by kernel_rfl : some 3 = Tryz.prog.globalNamed "internal/strconv.uint64pow10").trans hg)
 obtain rfl : 160 = t := Option.some.inj ((by kernel_rfl : some 160 = _).trans hty)
 rw [← pow_is] at hd
 have hcs := Lib.cells_of_tab (n := 20) (e := 22) Tryz.underlying160 Tryz.underlying22 (by kernel_rfl) (by kernel_rfl) hd
 unfold Vt.PT Lib.TabIs
 rw [hvar]
 congr 1
 apply Array.toList_inj.1
 simpa using hcs
end
section
def tab64 : List Int := [0, 1, 56, 2, 57, 49, 28, 3, 61, 58, 42, 50, 38, 29, 17, 4, 62, 47, 59, 36, 45, 43, 51, 22, 53, 39, 33, 30, 24, 18, 12, 5, 63, 55, 48, 27, 60, 41, 37, 16, 46, 35, 44, 21, 52, 32, 23, 11, 54, 26, 40, 15, 34, 20, 31, 10, 25, 14, 19, 9, 13, 8, 7, 6]
theorem tab_is : Lib.tabData .u8 tab64 = (Rows.laid_math_bits_deBruijn64tab : DataW Unit) := by kernel_rfl
theorem tab_at : ∀ t : Fin 64, tab64[Rg.idx t.val]? = some (t.val : Int) := by decide +kernel
theorem deB (t : Nat) (ht : (Tryz.prog.globals[9]?).map (·.type) = some t) : ∃ u, Tryz.prog.underlying t = some (.array 64 u) ∧ Tryz.prog.underlying u = some (.int .u8) ∧ Tryz.prog.cellsOf u = 1 ∧ Tryz.prog.cellsOf t = 64 := by
 obtain rfl : 236 = t := Option.some.inj ((by kernel_rfl : some 236 = _).trans ht)
 exact ⟨5, Tryz.underlying236, Tryz.underlying5, by kernel_rfl, by kernel_rfl⟩
theorem tz_of {W : World} (h : Lib.VarReads Tryz.prog W "math/bits.deBruijn64tab" Rows.laid_math_bits_deBruijn64tab) : Rg.TzT W := by
 rw [← tab_is] at h
 obtain ⟨g, t, cs, fuel, p, hg, hty, hvar, hd⟩ := h
 obtain rfl : 9 = g := Option.some.inj ((by kernel_rfl : some 9 = Tryz.prog.globalNamed "math/bits.deBruijn64tab").trans hg)
 obtain ⟨u, hu, hu5, hc1, hc2⟩ := deB t hty
 have hcs := Lib.cells_of_tab hu hu5 hc1 hc2 hd
 intro i hi
 rw [World.var?_cell hg hvar (Rg.idx i), ← Array.getElem?_toList, hcs, List.getElem?_map, tab_at ⟨i, hi⟩]
 rfl
end
section
theorem cells9 : Tryz.prog.cellsOf 9 = 1 := by kernel_rfl
theorem cells2 : Tryz.prog.cellsOf 2 = 1 := by kernel_rfl
theorem cells136 : Tryz.prog.cellsOf 136 = 2 := by kernel_rfl
theorem pair_of {w : World} {fuel : Nat} {cs : List Value} {s : List UInt8} {z : Int} {p : List MemPlace}
 (h : DataW.trod (fun _ => ()) Tryz.prog w 0 (fun _ => true) false fuel 136 cs = some (.agg [.lit (.string s), .lit (.int .i64 z)], p)) : cs = [.string ⟨s.toArray⟩, .int .i64 z] := by
 obtain ⟨xs, n, rfl, hx, hl, hxl, hall⟩ := DataW.trod_struct Tryz.underlying136 h
 rw [cells136] at hl
 have hxs : xs.map (·.1) = [.lit (.string s), .lit (.int .i64 z)] := by
  have := congrArg Prod.fst hx
  simpa using this.symm
 clear h hx
 obtain ⟨a, b, rfl⟩ : ∃ a b, cs = [a, b] := by
  cases cs with
  | nil => simp at hl
  | cons a r =>
    cases r with
    | nil => simp at hl
    | cons b r =>
      cases r with
      | nil => exact ⟨a, b, rfl⟩
      | cons c r => simp at hl
 obtain ⟨x0, x1, rfl⟩ : ∃ x0 x1, xs = [x0, x1] := by
  cases xs with
  | nil => simp at hxs
  | cons a r =>
    cases r with
    | nil => simp at hxs
    | cons b r =>
      cases r with
      | nil => exact ⟨a, b, rfl⟩
      | cons c r => simp at hxs
 simp only [List.map_cons, List.map_nil, List.cons.injEq, and_true] at hxs
 have h0 : DataW.trod (fun _ => ()) Tryz.prog w 0 (fun _ => true) false n 9 (([a, b].drop 0).take (Tryz.prog.cellsOf 9)) = some x0 := hall 0 _ rfl
 have h1 : DataW.trod (fun _ => ()) Tryz.prog w 0 (fun _ => true) false n 2 (([a, b].drop 1).take (Tryz.prog.cellsOf 2)) = some x1 := hall 1 _ rfl
 rw [cells9] at h0
 rw [cells2] at h1
 obtain ⟨t0, e0, f0, _⟩ := DataW.trod_string Tryz.underlying9 h0
 obtain ⟨t1, e1, f1, _⟩ := DataW.trod_int Tryz.underlying2 h1
 simp at e0 e1
 rw [f0, f1] at hxs
 simp only [DataW.lit.injEq, Lit.string.injEq, Lit.int.injEq, true_and] at hxs
 obtain ⟨g0, g1⟩ := hxs
 subst g0 g1 e0 e1
 rfl
theorem take_two {cs : List Value} {i : Nat} {x y : Value} (h : (cs.drop (i * 2)).take 2 = [x, y]) : cs[i * 2]? = some x ∧ cs[i * 2 + 1]? = some y := by
 have e0 := congrArg (·[0]?) h
 have e1 := congrArg (·[1]?) h
 simp only [List.getElem?_take, List.getElem?_drop] at e0 e1
 simpa using ⟨e0, e1⟩
theorem array_len {fuel : Nat} {w : World} {cs : List Value} {ds : List (DataW Unit)} {p : List MemPlace}
 (h : DataW.trod (fun _ => ()) Tryz.prog w 0 (fun _ => true) false fuel 137 cs = some (.agg ds, p)) : cs.length = 14 := by
 cases fuel with
 | zero => simp [DataW.trod] at h
 | succ fuel =>
   simp only [DataW.trod, Tryz.underlying137] at h
   split at h
   · rename_i hl
     have c45 : Tryz.prog.cellsOf 137 = 14 := by kernel_rfl
     simpa [c45, cells136] using hl
   · cases h
theorem units_of {W : World} (h : Lib.VarReads Tryz.prog W "soundings/span.units" Rows.laid_soundings_span_units) : Sp.UnitsB W := by
 obtain ⟨g, t, cs, fuel, p, hg, hty, hvar, hd⟩ := h
 obtain rfl : 2 = g := Option.some.inj ((by kernel_rfl : some 2 = _).trans hg)
 obtain rfl : 137 = t := Option.some.inj ((by kernel_rfl : some 137 = _).trans hty)
 have hlen := array_len hd
 have key : ∀ i, i < 7 → ∀ (s : List UInt8) (z : Int), [([121], 31536000000), ([119], 604800000), ([100], 86400000), ([104], 3600000), ([109], 60000), ([115], 1000), ([109, 115], (1 : Int))][i]? = some (s, z) → cs.toList[i * 2]? = some (.string ⟨s.toArray⟩) ∧ cs.toList[i * 2 + 1]? = some (.int .i64 z) := by
  intro i hi s z hsz
  obtain ⟨fuel', d, q, hdi, he⟩ := Lib.array_elem Tryz.underlying137 hd i hi
  rw [cells136] at he
  refine take_two (pair_of (w := W) (fuel := fuel') (p := q) (s := s) (z := z) ?_)
  · rw [he]
    congr 2
    match i, hi with
    | 0, _ => simp at hsz; obtain ⟨rfl, rfl⟩ := hsz; injection hdi with hdi; subst hdi; rfl
    | 1, _ => simp at hsz; obtain ⟨rfl, rfl⟩ := hsz; injection hdi with hdi; subst hdi; rfl
    | 2, _ => simp at hsz; obtain ⟨rfl, rfl⟩ := hsz; injection hdi with hdi; subst hdi; rfl
    | 3, _ => simp at hsz; obtain ⟨rfl, rfl⟩ := hsz; injection hdi with hdi; subst hdi; rfl
    | 4, _ => simp at hsz; obtain ⟨rfl, rfl⟩ := hsz; injection hdi with hdi; subst hdi; rfl
    | 5, _ => simp at hsz; obtain ⟨rfl, rfl⟩ := hsz; injection hdi with hdi; subst hdi; rfl
    | 6, _ => simp at hsz; obtain ⟨rfl, rfl⟩ := hsz; injection hdi with hdi; subst hdi; rfl
 have hcs : cs = Sp.unitCells := by
  apply Array.ext'
  apply List.ext_getElem?
  intro i
  by_cases hi : i < 14
  · have k0 := key 0 (by omega) _ _ rfl
    have k1 := key 1 (by omega) _ _ rfl
    have k2 := key 2 (by omega) _ _ rfl
    have k3 := key 3 (by omega) _ _ rfl
    have k4 := key 4 (by omega) _ _ rfl
    have k5 := key 5 (by omega) _ _ rfl
    have k6 := key 6 (by omega) _ _ rfl
    match i, hi with
    | 0, _ => exact k0.1
    | 1, _ => exact k0.2
    | 2, _ => exact k1.1
    | 3, _ => exact k1.2
    | 4, _ => exact k2.1
    | 5, _ => exact k2.2
    | 6, _ => exact k3.1
    | 7, _ => exact k3.2
    | 8, _ => exact k4.1
    | 9, _ => exact k4.2
    | 10, _ => exact k5.1
    | 11, _ => exact k5.2
    | 12, _ => exact k6.1
    | 13, _ => exact k6.2
  · rw [List.getElem?_eq_none (by omega), List.getElem?_eq_none (by show Sp.unitCells.toList.length ≤ i; have : Sp.unitCells.toList.length = 14 := rfl; omega)]
 subst hcs
 unfold World.var? at hvar
 rw [hg, Option.bind_some] at hvar
 split at hvar
 · rename_i c t f hh
   injection hvar with hvar
   subst hvar
   exact ⟨t, f, hh⟩
 · cases hvar
end
theorem u8x : U8Extra Tryz.prog Tryz.laysValid_ren := { n3 := by kernel_rfl, n4 := by kernel_rfl, y3 := by kernel_rfl, y4 := by kernel_rfl, c5 := by kernel_rfl, c119 := by kernel_rfl, c138 := by kernel_rfl }
theorem first_is : Rows.laid_unicode_utf8_first = Lib.firstData := by kernel_rfl
theorem accept_is : Rows.laid_unicode_utf8_acceptRanges = Lib.acceptData := by kernel_rfl
theorem heap_of {W : World} (h : Lib.VarReads Tryz.prog W "internal/strconv.powtab" Rows.laid_internal_strconv_powtab) : 17 < W.heap.size := by
 obtain ⟨g, t, cs, fuel, p, hg, hty, hvar, hd⟩ := h
 obtain rfl : 17 = g := Option.some.inj ((by kernel_rfl : some 17 = Tryz.prog.globalNamed "internal/strconv.powtab").trans hg)
 unfold World.var? at hvar
 rw [hg, Option.bind_some] at hvar
 split at hvar
 · rename_i hh
   exact (Array.getElem?_eq_some_iff.1 hh).1
 · cases hvar
theorem laid_of {W : World} (h : laidMetH Tryz.prog laid17 W) (hM : Ck.MaxL W) : Ck.Tabl W ∧ Ck.Env W ∧ Er.ErrT W := by
 have h' : laidMet Tryz.prog laid16 W ∧ handlesMet Tryz.prog [(_, Rows.laid_errors_errorType)] W := h
 have m : ∀ n d, (n, d) ∈ laid17 → d.handleName?.isNone = true → Lib.VarReads Tryz.prog W n d := fun n d h1 h2 => Lib.laidMet.reads h'.1 (List.mem_filter.2 ⟨h1, h2⟩)
 have hsz := heap_of (m _ _ (by simp [laid17, Rows.treeKidsRow]) rfl)
 have htz := tz_of (m _ _ (by simp [laid17, Rows.treeKidsRow]) rfl)
 have hpt := pt_of (m _ _ (by simp [laid17, Rows.treeKidsRow]) rfl)
 have hp10 := p10_of (m _ _ (by simp [laid17, Rows.treeKidsRow]) rfl)
 have hun := units_of (m _ _ (by simp [laid17, Rows.treeKidsRow]) rfl)
 have r1 := m "unicode/utf8.first" Rows.laid_unicode_utf8_first (by simp [laid17, Rows.treeKidsRow]) rfl
 have r2 := m "unicode/utf8.acceptRanges" Rows.laid_unicode_utf8_acceptRanges (by simp [laid17, Rows.treeKidsRow]) rfl
 rw [first_is] at r1
 rw [accept_is] at r2
 refine ⟨⟨by omega, htz, utf8Tabs_of_readsT (U8Types.of196 Tryz.laysValid) u8x r1 r2⟩, ⟨hM, hun, hpt, ⟨hp10, hpt, by omega⟩⟩, ?_⟩
 obtain ⟨name, u, ty, e1, e2, e3, e4, e5⟩ := h'.2 _ (List.mem_singleton.2 rfl)
 have en : name = [101, 114, 114, 111, 114] := (Option.some.inj e1).symm
 subst en
 obtain rfl : 103 = u := Option.some.inj ((by kernel_rfl : some 103 = _).trans e2)
 have hm : ty ∈ (List.range Tryz.prog.types.size).filter fun t => Tryz.prog.rowNamed t [101, 114, 114, 111, 114] := List.mem_filter.2 ⟨List.mem_range.2 e3, e4⟩
 rw [oneRow] at hm
 obtain rfl := List.mem_singleton.1 hm
 rw [hand31] at e5
 have := World.var?_cell (g := 0) (by kernel_rfl) e5 0
 simpa [Er.ErrT] using this
noncomputable def errW (os : Os) : World :=
 let w0 := World.holding Tryz.prog os ⟨#[], #[], []⟩
 { w0 with heap := w0.heap.modify 0 fun
  | .cells _ t frozen => .cells #[.iface 103 (.agg #[.pointer (some ⟨19, 31, none⟩)])] t frozen
  | o => o }
noncomputable def laidW (os : Os) : World := (errW os).layVars Tryz.prog laid16
theorem laidW_os (os : Os) : (laidW os).os = os := World.layVars_os _ _ _
theorem laidW_fits (os : Os) : (errW os).layFits Tryz.prog laid16 [] = true := by kernel_rfl
theorem laidW_faces (os : Os) : (errW os).layIfaces Tryz.prog laid16 (laidW os) = true := by kernel_rfl
theorem laidW_met2 (os : Os) : laidMet Tryz.prog laid16 (laidW os) := by
 have e1 : (laid16.filter fun x => (laid16.map (·.1)).contains x.1) = laid16 := List.filter_eq_self.2 fun x hx => List.contains_iff_mem.2 (List.mem_map.2 ⟨x, hx, rfl⟩)
 have e2 : (laid16.filter fun x => !(laid16.map (·.1)).contains x.1) = [] := List.filter_eq_nil_iff.2 fun x hx => by rw [List.contains_iff_mem.2 (List.mem_map.2 ⟨x, hx, rfl⟩)]; simp
 exact laidMet_layVars (w0 := errW os) (laid16.map (·.1)) [] (by rw [e1]; rfl) (by rw [e1]; exact laidW_fits os) (by rw [e1]; exact laidW_faces os) (by rw [e2]; exact LaidIn.none)
theorem laidW_met (os : Os) (args : Array Value) : laidMetH Tryz.prog laid17 ((laidW os).forCall (fun _ _ => 0) ⟨#[], args, []⟩).memory :=
 laidMetH_of_parts ((laidW_met2 os).of_heap (by simp [World.memory, World.forCall, Input.heap])) (by kernel_rfl)
theorem row5 : ((begin Tryz.checked.prog (fun _ _ => 0) default).world.heap[5]?).bind Obj.row? = some (#[.int .i64 0], 3) := by kernel_rfl
theorem max_shaped {w : World} (h : w.ShapedOpen Tryz.checked.prog) : Ck.MaxL w := by
 obtain ⟨cs, hc, hs, hb⟩ := h.1 5 _ _ (by decide +kernel) row5
 obtain ⟨ts, hts, _, hcell⟩ := hb (by kernel_rfl)
 have hts2 : ts = [3] := Option.some.inj (hts.symm.trans (by kernel_rfl))
 subst hts2
 have hs1 : cs.size = 1 := hs
 have h0 : cs[0]? = some cs[0] := Array.getElem?_eq_getElem (by omega)
 obtain ⟨u, hu, hok⟩ := hcell 0 _ h0
 have hu3 : u = 3 := (Option.some.inj hu).symm
 subst hu3
 have hint : Tryz.checked.prog.underlying 3 = some (.int .i64) := Tryz.underlying3
 unfold Cell.ok at hok
 rw [hint] at hok
 generalize cs[0] = v at *
 match v, hok with
 | .int k z, hok =>
   obtain ⟨rfl, _⟩ := hok
   exact ⟨z, by simp [World.cell?, hc, h0]⟩
theorem handedG {C : Checked} (own : ownKnob C.prog.godebug = none) (G : World → Prop) (low : ∀ w : World, w.ShapedOpen C.prog → G w) {H : Type} {enc : TypeId × Value → H} {os : Os} {f : FuncId} {fn : Func} {s : ChangeSpec} {X : World → Array Value → Prop}
 (hX : ∀ (w w' : World) (args : Array Value), w.heap = w'.heap → X w args → X w' args)
 (started : os.Started) (noInit : C.prog.inits.idxOf? f = none) (hfn : C.prog.funcs[f]? = some fn)
 (witness : ∃ (w : World) (tape : Tape) (i : Input), w.os = os ∧ (w.forCall tape i).Shaped C.prog ∧ i.vars = [] ∧ Input.okWide C.prog (w.forCall tape i) .any w.heap.size f i ∧
   ((s.pre enc C.prog fn [] false (w.forCall tape i).memory i.args ∧ X (w.forCall tape i).memory i.args) ∧ sizedMet enc C.prog fn (OpenSpec.ofChange s) false (w.forCall tape i).memory i.args) ∧ ({} : Assume).holds C.prog (lone (Frame.enter C.prog f i.args .normal) [] (w.forCall tape i)))
 (contract : ∀ (W : World) (base : Nat) (args : Array Value) (ds gs : List (DataW H)) (before : List MemPlace), G W →
   (∀ (j : Nat) t v, fn.params[j]? = some t → args[j]? = some v → Value.okWide C.prog W .any base t v) →
   DataW.Whole enc C.prog fn.params.toList s.vars false W args.toList ds gs before →
   (DataW.weightsEach C.prog (fn.params.toList ++ s.plain.varTypes C.prog) (ds ++ gs)).all (· ≤ reachBytes) = true → X W args →
   Calls C.prog f args W fun e W' => ∃ v, e = .returned v ∧ s.post enc C.prog fn false true false false W args v W') :
 ReturnsInHanded {} C os f .any (fun w args => (s.pre enc C.prog fn [] false w args ∧ X w args) ∧ sizedMet enc C.prog fn (OpenSpec.ofChange s) false w args) (s.post enc C.prog fn false true false false) := by
 refine returnsInHanded_of_calls own started noInit witness ?_
 intro w tape i _ hsh _ hok hpre _
 obtain ⟨_, _, _, g, hg, _, _, _, _, hval⟩ := hok
 obtain rfl : g = fn := Option.some.inj (hg.symm.trans hfn)
 obtain ⟨⟨⟨ds, gs, before, hw, _⟩, hx⟩, hz⟩ := hpre
 refine (contract (w.forCall tape i) w.heap.size i.args ds gs before (low _ hsh) hval (DataW.Whole.of_heap (w' := w.forCall tape i) (by rfl) hw) (hz.weights hw) (hX _ _ _ (by rfl) hx)).mono fun e W' ⟨v, he, hp⟩ => ?_
 subst he
 exact ChangeSpec.post_blind hp
end Go.Proofs.YticmkabafmmlhaaGreatDoor

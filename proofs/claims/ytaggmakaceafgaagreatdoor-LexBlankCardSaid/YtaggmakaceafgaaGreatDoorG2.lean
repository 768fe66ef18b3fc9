import Derived.Test.YtaggmakaceafgaaGreatDoorG1
import Derived.Test.YtaggmakaceafgaaGreatDoorL1
namespace Go.Proofs.YtaggmakaceafgaaGreatDoor
open Go.ChangeShapes Go.WideShapes Go.ChangeAt Go.RowKit
set_option linter.unusedVariables false

section
variable {W : World}
theorem int_field {ls : List Value} {xs : List (DataW Unit × List MemPlace)} {n i o u : Nat} {k : IntKind} {z : Int} (hu : Tryz.prog.underlying u = some (.int k)) (hc : Tryz.prog.cellsOf u = 1)
    (h : ∀ b, xs[i]? = some b → DataW.trod (fun _ => ()) Tryz.prog W 0 (fun _ => true) false n u ((ls.drop o).take (Tryz.prog.cellsOf u)) = some b) (hx : xs[i]?.map (·.1) = some (.lit (.int k z))) : ls[o]? = some (.int k z) := by
  cases hq : xs[i]? with
  | none => rw [hq] at hx; cases hx
  | some b =>
    rw [hq] at hx
    have h1 := h b hq
    rw [hc] at h1
    obtain ⟨y, hy, hb, _⟩ := DataW.trod_int hu h1
    simp only [Option.map_some] at hx
    rw [hb] at hx
    have hyz : (DataW.lit (.int k y) : DataW Unit) = .lit (.int k z) := Option.some.inj hx
    obtain ⟨_, rfl⟩ := Lit.int.inj (DataW.lit.inj hyz)
    have := congrArg (·[0]?) hy
    simpa [List.getElem?_take, List.getElem?_drop] using this
theorem str_field {ls : List Value} {xs : List (DataW Unit × List MemPlace)} {n i o u : Nat} {z : List UInt8} (hu : Tryz.prog.underlying u = some .string) (hc : Tryz.prog.cellsOf u = 1)
    (h : ∀ b, xs[i]? = some b → DataW.trod (fun _ => ()) Tryz.prog W 0 (fun _ => true) false n u ((ls.drop o).take (Tryz.prog.cellsOf u)) = some b) (hx : xs[i]?.map (·.1) = some (.lit (.string z))) : ls[o]? = some (.string ⟨z.toArray⟩) := by
  cases hq : xs[i]? with
  | none => rw [hq] at hx; cases hx
  | some b =>
    rw [hq] at hx
    have h1 := h b hq
    rw [hc] at h1
    obtain ⟨y, hy, hb⟩ := DataW.trod_string hu h1
    have hb : b.1 = .lit (.string y.data.toList) := congrArg Prod.fst hb.1
    simp only [Option.map_some] at hx
    rw [hb] at hx
    have hyz : (DataW.lit (.string y.data.toList) : DataW Unit) = .lit (.string z) := Option.some.inj hx
    have hyz2 := Lit.string.inj (DataW.lit.inj hyz)
    subst hyz2
    have := congrArg (·[0]?) hy
    simpa [List.getElem?_take, List.getElem?_drop] using this
def unitD (k : Nat) : DataW Unit := .agg [.lit (.string (Sp.nameAt k)), .lit (.int .i64 (Sp.sizeAt k : Int))]
theorem units_is : (Rows.laid_soundings_span_units : DataW Unit) = .agg ((List.range 7).map unitD) := by kernel_rfl
set_option maxRecDepth 100000 in
theorem units_of (h : Lib.VarReads Tryz.prog W "soundings/span.units" Rows.laid_soundings_span_units) : Sp.Units W := by
  obtain ⟨g, t, cs, fuel, p, hg, hty, hvar, hd⟩ := h
  obtain rfl : 1 = g := Option.some.inj ((by kernel_rfl : some 1 = Tryz.prog.globalNamed "soundings/span.units").trans hg)
  obtain rfl : 116 = t := Option.some.inj ((by kernel_rfl : some 116 = _).trans hty)
  rw [units_is] at hd
  intro k hk
  obtain ⟨fuel', d, q, hdi, he⟩ := Lib.array_elem (n := 7) (e := 115) Tryz.underlying116 hd k hk
  have hd2 : d = unitD k := by
    rw [List.getElem?_map, List.getElem?_range hk] at hdi
    exact (Option.some.inj hdi).symm
  subst hd2
  have hc2 : Tryz.prog.cellsOf 115 = 2 := by kernel_rfl
  obtain ⟨xs, n, _, hx, hl, hxl, hall⟩ := DataW.trod_struct Tryz.underlying115 he
  have h2 : unitD k = .agg (xs.map (·.1)) := congrArg Prod.fst hx
  unfold unitD at h2
  have h2 := DataW.agg.inj h2
  have k0 := str_field (i := 0) (o := 0) (z := Sp.nameAt k) Tryz.underlying9 (by kernel_rfl) (fun b hb => by have h1 := hall 0 _ rfl; rw [hb] at h1; exact h1) (by rw [← List.getElem?_map, ← h2]; rfl)
  have k1 := int_field (i := 1) (o := 1) (z := (Sp.sizeAt k : Int)) Tryz.underlying2 (by kernel_rfl) (fun b hb => by have h1 := hall 1 _ rfl; rw [hb] at h1; exact h1) (by rw [← List.getElem?_map, ← h2]; rfl)
  rw [hc2] at k0 k1
  simp only [List.getElem?_take, List.getElem?_drop] at k0 k1
  constructor
  · rw [World.var?_cell hg hvar (k * 2), ← Array.getElem?_toList]
    simpa using k0
  · rw [World.var?_cell hg hvar (k * 2 + 1), ← Array.getElem?_toList]
    simpa using k1
theorem deB64 (t : Nat) (ht : (Tryz.prog.globals[18]?).map (·.type) = some t) : ∃ u, Tryz.prog.underlying t = some (.array 64 u) ∧ Tryz.prog.underlying u = some (.int .u8) ∧ Tryz.prog.cellsOf u = 1 := by
  obtain rfl : 219 = t := Option.some.inj ((by kernel_rfl : some 219 = _).trans ht)
  exact ⟨5, Tryz.underlying219, Tryz.underlying5, by kernel_rfl⟩
theorem size_of (h : Lib.VarReads Tryz.prog W "math/bits.deBruijn64tab" Rows.laid_math_bits_deBruijn64tab) : 19 ≤ W.heap.size := by
  obtain ⟨g, t, cs, fuel, p, hg, hty, hvar, hd⟩ := h
  obtain rfl : 18 = g := Option.some.inj ((by kernel_rfl : some 18 = Tryz.prog.globalNamed "math/bits.deBruijn64tab").trans hg)
  obtain ⟨u, hu⟩ : ∃ u, Tryz.prog.underlying t = some (.array 64 u) ∧ Tryz.prog.underlying u = some (.int .u8) ∧ Tryz.prog.cellsOf u = 1 := by
    have ht := hty
    exact deB64 t ht
  obtain ⟨fuel', d, q, hdi, he⟩ := Lib.array_elem (n := 64) (e := u) hu.1 hd 0 (by omega)
  rw [hu.2.2] at he
  obtain ⟨z, hz, _⟩ := DataW.trod_int (k := .u8) hu.2.1 (x := (d, q)) he
  have h0 : cs.toList[0]? = some (.int .u8 z) := by
    have := congrArg (·[0]?) hz
    simpa using this
  have hc := World.var?_cell hg hvar 0
  rw [← Array.getElem?_toList, h0] at hc
  have := World.block_lt_of_cell? _ _ hc
  exact this
end
theorem u8x : U8Extra Tryz.prog Tryz.laysValid_ren := { n3 := by kernel_rfl, n4 := by kernel_rfl, y3 := by kernel_rfl, y4 := by kernel_rfl, c5 := by kernel_rfl, c119 := by kernel_rfl, c138 := by kernel_rfl }
theorem first_is : Rows.laid_unicode_utf8_first = Lib.firstData := by kernel_rfl
theorem accept_is : Rows.laid_unicode_utf8_acceptRanges = Lib.acceptData := by kernel_rfl
theorem laid_of {W : World} (h : laidMetH Tryz.prog laid17 W) : ∃ Q qo qc P off c F fo fc, Laid Q qo qc P off c F fo fc W := by
  have h' : laidMet Tryz.prog laid16 W ∧ handlesMet Tryz.prog [(_, Rows.laid_errors_errorType)] W := h
  have m : ∀ n d, (n, d) ∈ laid17 → d.handleName?.isNone = true → Lib.VarReads Tryz.prog W n d := fun n d h1 h2 => Lib.laidMet.reads h'.1 (List.mem_filter.2 ⟨h1, h2⟩)
  obtain ⟨Q, qo, qc, hq1, hq2⟩ := powtab_of (m _ _ (by simp [laid17, Rows.lexPartsRow]) rfl)
  obtain ⟨P, off, c, hch⟩ := cheat_of (m _ _ (by simp [laid17, Rows.lexPartsRow]) rfl)
  obtain ⟨F, fo, fc, hfl⟩ := pow_of (m _ _ (by simp [laid17, Rows.lexPartsRow]) rfl)
  obtain ⟨i0, i1, i2⟩ := info_of (m _ _ (by simp [laid17, Rows.lexPartsRow]) rfl)
  have hsz := size_of (m _ _ (by simp [laid17, Rows.lexPartsRow]) rfl)
  have r1 := m "unicode/utf8.first" Rows.laid_unicode_utf8_first (by simp [laid17, Rows.lexPartsRow]) rfl
  have r2 := m "unicode/utf8.acceptRanges" Rows.laid_unicode_utf8_acceptRanges (by simp [laid17, Rows.lexPartsRow]) rfl
  rw [first_is] at r1
  rw [accept_is] at r2
  refine ⟨Q, qo, qc, P, off, c, F, fo, fc, ⟨⟨⟨i0, i1, i2, hq1, hq2, hch, hfl, p10_of (m _ _ (by simp [laid17, Rows.lexPartsRow]) rfl), opt_of (m _ _ (by simp [laid17, Rows.lexPartsRow]) rfl),
    iface_of (g := 6) (name := "strconv.ErrSyntax") (d := Rows.laid_strconv_ErrSyntax) (nm := []) (x := .nil) (by kernel_rfl) (by kernel_rfl) (m _ _ (by simp [laid17, Rows.lexPartsRow]) rfl) (fun h => by cases h),
    iface_of (g := 7) (name := "strconv.ErrRange") (d := Rows.laid_strconv_ErrRange) (nm := []) (x := .nil) (by kernel_rfl) (by kernel_rfl) (m _ _ (by simp [laid17, Rows.lexPartsRow]) rfl) (fun h => by cases h), by omega⟩,
    units_of (m _ _ (by simp [laid17, Rows.lexPartsRow]) rfl), utf8Tabs_of_readsT (U8Types.of196 Tryz.laysValid) u8x r1 r2⟩, ?_⟩⟩
  obtain ⟨name, u, ty, e1, e2, e3, e4, e5⟩ := h'.2 _ (List.mem_singleton.2 rfl)
  have en : name = [101, 114, 114, 111, 114] := (Option.some.inj e1).symm
  subst en
  obtain rfl : 97 = u := Option.some.inj ((by kernel_rfl : some 97 = _).trans e2)
  have hm : ty ∈ (List.range Tryz.prog.types.size).filter fun t => Tryz.prog.rowNamed t [101, 114, 114, 111, 114] := List.mem_filter.2 ⟨List.mem_range.2 e3, e4⟩
  rw [oneRow] at hm
  obtain rfl := List.mem_singleton.1 hm
  rw [hand25] at e5
  have := World.var?_cell (g := 0) (by kernel_rfl) e5 0
  simpa [Er.ErrT] using this
/-- a world that meets the condition -/
noncomputable def errW (os : Os) : World :=
  let w0 := World.holding Tryz.prog os ⟨#[], #[], []⟩
  { w0 with heap := w0.heap.modify 0 fun
      | .cells _ t frozen => .cells #[.iface 97 (.agg #[.pointer (some ⟨19, 25, none⟩)])] t frozen
      | o => o }
noncomputable def laidW (os : Os) : World := (errW os).layVars Tryz.prog laid16
theorem laidW_os (os : Os) : (laidW os).os = os := World.layVars_os _ _ _
theorem laidW_fits (os : Os) : (errW os).layFits Tryz.prog laid16 [] = true := by kernel_rfl
theorem laidW_faces (os : Os) : (errW os).layIfaces Tryz.prog laid16 (laidW os) = true := by kernel_rfl
theorem laidW_met2 (os : Os) : laidMet Tryz.prog laid16 (laidW os) := by
  have e1 : (laid16.filter fun x => (laid16.map (·.1)).contains x.1) = laid16 := List.filter_eq_self.2 fun x hx => List.contains_iff_mem.2 (List.mem_map.2 ⟨x, hx, rfl⟩)
  have e2 : (laid16.filter fun x => !(laid16.map (·.1)).contains x.1) = [] := List.filter_eq_nil_iff.2 fun x hx => by rw [List.contains_iff_mem.2 (List.mem_map.2 ⟨x, hx, rfl⟩)]; simp
  exact laidMet_layVars (w0 := errW os) (laid16.map (·.1)) [] (by rw [e1]; rfl) (by rw [e1]; exact laidW_fits os) (by rw [e1]; exact laidW_faces os) (by rw [e2]; exact LaidIn.none)
theorem laidW_met (os : Os) (args : Array Value) : laidMetH Tryz.prog laid17 ((laidW os).forCall (fun _ _ => 0) ⟨#[], args, []⟩).memory :=
  laidMetH_of_parts ((laidW_met2 os).of_heap (by simp [World.memory, World.forCall, Input.heap])) (by kernel_rfl)
end Go.Proofs.YtaggmakaceafgaaGreatDoor

import Derived.Test.YtmpodmfbieiadaaDoorW9
import Derived.Test.YtmpodmfbieiadaaDoorTie
import Derived.Test.YtmpodmfbieiadaaDoorCards
import Derived.ProofKit
import Derived.OpenShut
import Derived.ChangeOld
import Derived.Below
import Derived.LaidMore
import Derived.LaidHandle
import Derived.Lay
import Derived.SevenTiedAt
import Derived.Stop.Joined
import Derived.Lib.LaidU8
namespace Go.Proofs.YtmpodmfbieiadaaDoor
open Go.ChangeShapes Go.WideShapes Go.ChangeAt Go.RowKit Sp
set_option linter.unusedVariables false

theorem own : ownKnob Tryd.prog.godebug = none := by kernel_rfl
theorem laidOut : laidOutB Tryd.prog = true := by kernel_rfl
noncomputable def laid5 : List (String × DataW Unit) := Rows.spanSumsRow.laid
theorem oneRow : ((List.range Tryd.prog.types.size).filter fun t => Tryd.prog.rowNamed t [101, 114, 114, 111, 114]) = [24] := by kernel_rfl
theorem hand24 : typeHandle Tryd.prog 24 = .pointer (some ⟨6, 24, none⟩) := by kernel_rfl
theorem pow_is : Rows.laid_internal_strconv_uint64pow10 = Lib.tabData (H := Unit) .u64 Lib.pow10Tab := by kernel_rfl
theorem cells9 : Tryd.prog.cellsOf 9 = 1 := by kernel_rfl
theorem cells2 : Tryd.prog.cellsOf 2 = 1 := by kernel_rfl
theorem cells44 : Tryd.prog.cellsOf 44 = 2 := by kernel_rfl

theorem pair_of {w : World} {fuel : Nat} {cs : List Value} {s : List UInt8} {z : Int} {p : List MemPlace}
    (h : DataW.trod (fun _ => ()) Tryd.prog w 0 (fun _ => true) false fuel 44 cs = some (.agg [.lit (.string s), .lit (.int .i64 z)], p)) : cs = [.string ⟨s.toArray⟩, .int .i64 z] := by
  obtain ⟨xs, n, rfl, hx, hl, hxl, hall⟩ := DataW.trod_struct Tryd.underlying44 h
  rw [cells44] at hl
  have hxs : xs.map (·.1) = [.lit (.string s), .lit (.int .i64 z)] := by
    have := congrArg Prod.fst hx
    simpa using this.symm
  clear h hx
  obtain ⟨a, b, rfl⟩ : ∃ a b, cs = [a, b] := by
    cases cs with
    | nil => simp at hl
    | cons a r =>
      cases r with
      | nil => simp at hl
      | cons b r =>
        cases r with
        | nil => exact ⟨a, b, rfl⟩
        | cons c r => simp at hl
  obtain ⟨x0, x1, rfl⟩ : ∃ x0 x1, xs = [x0, x1] := by
    cases xs with
    | nil => simp at hxs
    | cons a r =>
      cases r with
      | nil => simp at hxs
      | cons b r =>
        cases r with
        | nil => exact ⟨a, b, rfl⟩
        | cons c r => simp at hxs
  simp only [List.map_cons, List.map_nil, List.cons.injEq, and_true] at hxs
  have h0 : DataW.trod (fun _ => ()) Tryd.prog w 0 (fun _ => true) false n 9 (([a, b].drop 0).take (Tryd.prog.cellsOf 9)) = some x0 := hall 0 _ rfl
  have h1 : DataW.trod (fun _ => ()) Tryd.prog w 0 (fun _ => true) false n 2 (([a, b].drop 1).take (Tryd.prog.cellsOf 2)) = some x1 := hall 1 _ rfl
  rw [cells9] at h0
  rw [cells2] at h1
  obtain ⟨t0, e0, f0, _⟩ := DataW.trod_string Tryd.underlying9 h0
  obtain ⟨t1, e1, f1, _⟩ := DataW.trod_int Tryd.underlying2 h1
  simp at e0 e1
  rw [f0, f1] at hxs
  simp only [DataW.lit.injEq, Lit.string.injEq, Lit.int.injEq, true_and] at hxs
  obtain ⟨g0, g1⟩ := hxs
  subst g0 g1 e0 e1
  rfl
theorem take_two {cs : List Value} {i : Nat} {x y : Value} (h : (cs.drop (i * 2)).take 2 = [x, y]) : cs[i * 2]? = some x ∧ cs[i * 2 + 1]? = some y := by
  have e0 := congrArg (·[0]?) h
  have e1 := congrArg (·[1]?) h
  simp only [List.getElem?_take, List.getElem?_drop] at e0 e1
  simpa using ⟨e0, e1⟩
theorem array_len {fuel : Nat} {w : World} {cs : List Value} {ds : List (DataW Unit)} {p : List MemPlace}
    (h : DataW.trod (fun _ => ()) Tryd.prog w 0 (fun _ => true) false fuel 45 cs = some (.agg ds, p)) : cs.length = 14 := by
  cases fuel with
  | zero => simp [DataW.trod] at h
  | succ fuel =>
    simp only [DataW.trod, Tryd.underlying45] at h
    split at h
    · rename_i hl
      have c45 : Tryd.prog.cellsOf 45 = 14 := by kernel_rfl
      simpa [c45, cells44] using hl
    · cases h
theorem units_of {W : World} (h : Lib.VarReads Tryd.prog W "soundings/span.units" Rows.laid_soundings_span_units) : UnitsB W := by
  obtain ⟨g, t, cs, fuel, p, hg, hty, hvar, hd⟩ := h
  obtain rfl : 0 = g := Option.some.inj ((by kernel_rfl : some 0 = _).trans hg)
  obtain rfl : 45 = t := Option.some.inj ((by kernel_rfl : some 45 = _).trans hty)
  have hlen := array_len hd
  have key : ∀ i, i < 7 → ∀ (s : List UInt8) (z : Int), [([121], 31536000000), ([119], 604800000), ([100], 86400000), ([104], 3600000), ([109], 60000), ([115], 1000), ([109, 115], (1 : Int))][i]? = some (s, z) → cs.toList[i * 2]? = some (.string ⟨s.toArray⟩) ∧ cs.toList[i * 2 + 1]? = some (.int .i64 z) := by
    intro i hi s z hsz
    obtain ⟨fuel', d, q, hdi, he⟩ := Lib.array_elem Tryd.underlying45 hd i hi
    rw [cells44] at he
    refine take_two (pair_of (w := W) (fuel := fuel') (p := q) (s := s) (z := z) ?_)
    · rw [he]
      congr 2
      match i, hi with
      | 0, _ => simp at hsz; obtain ⟨rfl, rfl⟩ := hsz; injection hdi with hdi; subst hdi; rfl
      | 1, _ => simp at hsz; obtain ⟨rfl, rfl⟩ := hsz; injection hdi with hdi; subst hdi; rfl
      | 2, _ => simp at hsz; obtain ⟨rfl, rfl⟩ := hsz; injection hdi with hdi; subst hdi; rfl
      | 3, _ => simp at hsz; obtain ⟨rfl, rfl⟩ := hsz; injection hdi with hdi; subst hdi; rfl
      | 4, _ => simp at hsz; obtain ⟨rfl, rfl⟩ := hsz; injection hdi with hdi; subst hdi; rfl
      | 5, _ => simp at hsz; obtain ⟨rfl, rfl⟩ := hsz; injection hdi with hdi; subst hdi; rfl
      | 6, _ => simp at hsz; obtain ⟨rfl, rfl⟩ := hsz; injection hdi with hdi; subst hdi; rfl
  have hcs : cs = unitCells := by
    apply Array.ext'
    apply List.ext_getElem?
    intro i
    by_cases hi : i < 14
    · have k0 := key 0 (by omega) _ _ rfl
      have k1 := key 1 (by omega) _ _ rfl
      have k2 := key 2 (by omega) _ _ rfl
      have k3 := key 3 (by omega) _ _ rfl
      have k4 := key 4 (by omega) _ _ rfl
      have k5 := key 5 (by omega) _ _ rfl
      have k6 := key 6 (by omega) _ _ rfl
      match i, hi with
      | 0, _ => exact k0.1
      | 1, _ => exact k0.2
      | 2, _ => exact k1.1
      | 3, _ => exact k1.2
      | 4, _ => exact k2.1
      | 5, _ => exact k2.2
      | 6, _ => exact k3.1
      | 7, _ => exact k3.2
      | 8, _ => exact k4.1
      | 9, _ => exact k4.2
      | 10, _ => exact k5.1
      | 11, _ => exact k5.2
      | 12, _ => exact k6.1
      | 13, _ => exact k6.2
    · rw [List.getElem?_eq_none (by omega), List.getElem?_eq_none (by show unitCells.toList.length ≤ i; have : unitCells.toList.length = 14 := rfl; omega)]
  subst hcs
  unfold World.var? at hvar
  rw [hg, Option.bind_some] at hvar
  split at hvar
  · rename_i c t f hh
    injection hvar with hvar
    subst hvar
    exact ⟨t, f, hh⟩
  · cases hvar

theorem laid_of {W : World} (h : laidMetH Tryd.prog laid5 W) : Laid W := by
  have h' : laidMet Tryd.prog [(_, Rows.laid_math_bits_deBruijn32tab), (_, Rows.laid_math_bits_deBruijn64tab), (_, Rows.laid_internal_strconv_uint64pow10), (_, Rows.laid_soundings_span_units)] W ∧ handlesMet Tryd.prog [(_, Rows.laid_errors_errorType)] W := h
  refine ⟨?_, ?_, ?_⟩
  · exact units_of (Lib.laidMet.reads h'.1 (.tail _ (.tail _ (.tail _ (.head _)))))
  · have r1 := Lib.laidMet.reads h'.1 (.tail _ (.tail _ (.head _)))
    rw [pow_is] at r1
    obtain ⟨g, t, cs, fuel, p, hg, hty, hvar, hd⟩ := r1
    obtain rfl : 2 = g := Option.some.inj ((by kernel_rfl : some 2 = _).trans hg)
    obtain rfl : 104 = t := Option.some.inj ((by kernel_rfl : some 104 = _).trans hty)
    have := Lib.cells_of_tab Tryd.underlying104 Tryd.underlying92 (by kernel_rfl) (by kernel_rfl) hd
    show World.var? Tryd.prog W _ = _
    rw [hvar, ← this]
  · obtain ⟨name, u, ty, e1, e2, e3, e4, e5⟩ := h'.2 _ (List.mem_singleton.2 rfl)
    have en : name = [101, 114, 114, 111, 114] := (Option.some.inj e1).symm
    subst en
    obtain rfl : 77 = u := Option.some.inj ((by kernel_rfl : some 77 = _).trans e2)
    have hm : ty ∈ (List.range Tryd.prog.types.size).filter fun t => Tryd.prog.rowNamed t [101, 114, 114, 111, 114] := List.mem_filter.2 ⟨List.mem_range.2 e3, e4⟩
    rw [oneRow] at hm
    obtain rfl := List.mem_singleton.1 hm
    rw [hand24] at e5
    have := World.var?_cell (g := 1) (by kernel_rfl) e5 0
    simpa [ErrT] using this

/-- a world that meets the condition -/
noncomputable def errW (os : Os) : World :=
  let w0 := World.holding Tryd.prog os ⟨#[], #[], []⟩
  { w0 with heap := w0.heap.modify 1 fun
      | .cells _ t frozen => .cells #[.iface 77 (.agg #[.pointer (some ⟨6, 24, none⟩)])] t frozen
      | o => o }
noncomputable def laid4 : List (String × DataW Unit) := laid5.filter fun x => x.2.handleName?.isNone
noncomputable def laidW (os : Os) : World := (errW os).layVars Tryd.prog laid4
theorem laidW_os (os : Os) : (laidW os).os = os := World.layVars_os _ _ _
theorem laidW_fits (os : Os) : (errW os).layFits Tryd.prog laid4 [] = true := by kernel_rfl
theorem laidW_faces (os : Os) : (errW os).layIfaces Tryd.prog laid4 (laidW os) = true := by kernel_rfl
theorem laidW_met2 (os : Os) : laidMet Tryd.prog laid4 (laidW os) := by
  have e1 : (laid4.filter fun x => (laid4.map (·.1)).contains x.1) = laid4 := List.filter_eq_self.2 fun x hx => List.contains_iff_mem.2 (List.mem_map.2 ⟨x, hx, rfl⟩)
  have e2 : (laid4.filter fun x => !(laid4.map (·.1)).contains x.1) = [] := List.filter_eq_nil_iff.2 fun x hx => by rw [List.contains_iff_mem.2 (List.mem_map.2 ⟨x, hx, rfl⟩)]; simp
  exact laidMet_layVars (w0 := errW os) (laid4.map (·.1)) [] (by rw [e1]; rfl) (by rw [e1]; exact laidW_fits os) (by rw [e1]; exact laidW_faces os) (by rw [e2]; exact LaidIn.none)
theorem laidW_met (os : Os) (args : Array Value) : laidMetH Tryd.prog laid5 ((laidW os).forCall (fun _ _ => 0) ⟨#[], args, []⟩).memory :=
  laidMetH_of_parts ((laidW_met2 os).of_heap (by simp [World.memory, World.forCall, Input.heap])) (by kernel_rfl)
end Go.Proofs.YtmpodmfbieiadaaDoor

/- The tables that the law takes of the world, as they are laid. No condition. -/
import Derived.Test.YtofndhmnofghaaaGreatDoorSuj
import Derived.Test.YtofndhmnofghaaaGreatDoorG2j
import Derived.Deep.SlicePairs
namespace Go.Proofs.YtofndhmnofghaaaGreatDoor.Sl
open Go.ChangeShapes Go.WideShapes Go.ChangeAt Go.RowKit
set_option linter.unusedVariables false

theorem addr_plain (b off k : Nat) : (⟨b, off, none⟩ : Addr).add k = ⟨b, off + k, none⟩ := by unfold Addr.add; split <;> simp_all
section
variable {W : World}
/-- a field of one cell that holds a number -/
theorem info_field {t : TypeId} {cs : Array Value} {fuel : Nat} {xs : List (DataW Unit × List MemPlace)} {n i o u : Nat} {k : IntKind} {z : Int} (hu : Tryz.prog.underlying u = some (.int k)) (hc : Tryz.prog.cellsOf u = 1)
    (h : ∀ b, xs[i]? = some b → DataW.trod (fun _ => ()) Tryz.prog W 0 (fun _ => true) false n u ((cs.toList.drop o).take (Tryz.prog.cellsOf u)) = some b) (hx : xs[i]?.map (·.1) = some (.lit (.int k z))) : cs.toList[o]? = some (.int k z) := by
  cases hq : xs[i]? with
  | none => rw [hq] at hx; cases hx
  | some b =>
    rw [hq] at hx
    have h1 := h b hq
    rw [hc] at h1
    obtain ⟨y, hy, hb, _⟩ := DataW.trod_int hu h1
    simp only [Option.map_some] at hx
    rw [hb] at hx
    have hyz : (DataW.lit (.int k y) : DataW Unit) = .lit (.int k z) := Option.some.inj hx
    have hyz2 := Lit.int.inj (DataW.lit.inj hyz)
    obtain ⟨_, rfl⟩ := hyz2
    have := congrArg (·[0]?) hy
    simpa [List.getElem?_take, List.getElem?_drop] using this
set_option maxRecDepth 100000 in
theorem info_of (h : Lib.VarReads Tryz.prog W "internal/strconv.float64info" Rows.laid_internal_strconv_float64info) : W.cell? ⟨8, 0, none⟩ = some (.int .u64 52) ∧ W.cell? ⟨8, 1, none⟩ = some (.int .u64 11) ∧ W.cell? ⟨8, 2, none⟩ = some (.int .i64 (-1023)) := by
  obtain ⟨g, t, cs, fuel, p, hg, hty, hvar, hd⟩ := h
  obtain rfl : 8 = g := Option.some.inj ((by kernel_rfl : some 8 = Tryz.prog.globalNamed "internal/strconv.float64info").trans hg)
  obtain rfl : 145 = t := Option.some.inj ((by kernel_rfl : some 145 = _).trans hty)
  obtain ⟨xs, n, rfl, hx, hl, hxl, hall⟩ := DataW.trod_struct Tryz.underlying145 hd
  have h2 : (DataW.agg [.lit (.int .u64 52), .lit (.int .u64 11), .lit (.int .i64 (-1023))] : DataW Unit) = .agg (xs.map (·.1)) := congrArg Prod.fst hx
  injection h2 with h2
  have k0 := info_field (t := 145) (fuel := 0) (i := 0) (o := 0) (z := 52) Tryz.underlying121 (by kernel_rfl) (fun b hb => by have h1 := hall 0 _ rfl; rw [hb] at h1; exact h1) (by rw [← List.getElem?_map, ← h2]; rfl)
  have k1 := info_field (t := 145) (fuel := 0) (i := 1) (o := 1) (z := 11) Tryz.underlying121 (by kernel_rfl) (fun b hb => by have h1 := hall 1 _ rfl; rw [hb] at h1; exact h1) (by rw [← List.getElem?_map, ← h2]; rfl)
  have k2 := info_field (t := 145) (fuel := 0) (i := 2) (o := 2) (z := -1023) Tryz.underlying3 (by kernel_rfl) (fun b hb => by have h1 := hall 2 _ rfl; rw [hb] at h1; exact h1) (by rw [← List.getElem?_map, ← h2]; rfl)
  refine ⟨?_, ?_, ?_⟩
  · rw [World.var?_cell hg hvar 0, ← Array.getElem?_toList]; exact k0
  · rw [World.var?_cell hg hvar 1, ← Array.getElem?_toList]; exact k1
  · rw [World.var?_cell hg hvar 2, ← Array.getElem?_toList]; exact k2
set_option maxRecDepth 100000 in
theorem float_cell {fuel : Nat} {v : Value} {x : Nat} {q : List MemPlace} (h : DataW.trod (fun _ => ()) Tryz.prog W 0 (fun _ => true) false fuel 39 [v] = some (.lit (.float .f64 x), q)) : v = .float .f64 x := by
  cases fuel with
  | zero => simp [DataW.trod] at h
  | succ n =>
    unfold DataW.trod at h
    rw [Tryz.underlying39] at h
    split at h <;> simp_all
def flN : List Nat := [4607182418800017408, 4621819117588971520, 4636737291354636288, 4652007308841189376, 4666723172467343360, 4681608360884174848, 4696837146684686336, 4711630319722168320, 4726483295884279808, 4741671816366391296, 4756540486875873280, 4771362005757984768, 4786511204640096256, 4801453603149578240, 4816244402031689728, 4831355200913801216, 4846369599423283200, 4861130398305394688, 4876203697187506176, 4891288408196988160, 4906019910204099648, 4921056587992461136, 4936209963552724370]
theorem fl_is : (Rows.laid_internal_strconv_float64pow10 : DataW Unit) = .slice (flN.map fun x => .lit (.float .f64 x)) [] := by kernel_rfl
theorem fl_at (i : Nat) (hi : i < 23) : ((flN.map fun x => (.lit (.float .f64 x) : DataW Unit)))[i]? = some (.lit (.float .f64 (flN.getD i 0))) := by
  have hl : flN.length = 23 := rfl
  rw [List.getElem?_map, List.getD_eq_getElem?_getD, List.getElem?_eq_getElem (by rw [hl]; exact hi)]
  rfl
theorem pow_of (h : Lib.VarReads Tryz.prog W "internal/strconv.float64pow10" Rows.laid_internal_strconv_float64pow10) : ∃ F fo fc, FlP W F fo fc := by
  obtain ⟨g, t, cs, fuel, p, hg, hty, hvar, hd⟩ := h
  obtain rfl : 13 = g := Option.some.inj ((by kernel_rfl : some 13 = Tryz.prog.globalNamed "internal/strconv.float64pow10").trans hg)
  obtain rfl : 178 = t := Option.some.inj ((by kernel_rfl : some 178 = _).trans hty)
  rw [fl_is] at hd
  obtain ⟨a, cap, hcs, hle, hall⟩ := open_row Tryz.underlying178 (by kernel_rfl) hd
  obtain ⟨F, off, sp⟩ := a
  obtain ⟨v0, n0, q0, hv0, _⟩ := hall 0 _ rfl
  have hsp : sp = none := by simpa [Addr.add] using World.cell?_spot hv0
  subst hsp
  refine ⟨F, off, cap, ?_, fun i hi => ?_⟩
  · rw [World.var?_cell hg hvar 0, ← Array.getElem?_toList, hcs]
    rfl
  · have key : ∀ (x : Nat) (d : DataW Unit), d = .lit (.float .f64 x) → (∃ v n q, W.cell? ((⟨F, off, none⟩ : Addr).add i) = some v ∧ DataW.trod (fun _ => ()) Tryz.prog W 0 (fun _ => true) false n 39 [v] = some (d, q)) → W.cell? ⟨F, off + i, none⟩ = some (.float .f64 x) := by
      intro x d hd ⟨v, n, q, hv, ht⟩
      subst hd
      have := float_cell ht
      subst this
      rw [addr_plain] at hv
      exact hv
    have e : pwF i = flN.getD i 0 := by
      have : ∀ i : Fin 23, pwF i.val = flN.getD i.val 0 := by decide
      exact this ⟨i, hi⟩
    rw [e]
    exact key (flN.getD i 0) _ rfl (hall i _ (fl_at i hi))
theorem powtab_of (h : Lib.VarReads Tryz.prog W "internal/strconv.powtab" Rows.laid_internal_strconv_powtab) : ∃ Q qo qc, W.cell? ⟨12, 0, none⟩ = some (.slice (some ⟨Q, qo, none⟩) 9 qc) ∧ ∀ i, i < 9 → W.cell? ⟨Q, qo + i, none⟩ = some (.int .i64 (powN i : Int)) := by
  obtain ⟨g, t, cs, fuel, p, hg, hty, hvar, hd⟩ := h
  obtain rfl : 12 = g := Option.some.inj ((by kernel_rfl : some 12 = Tryz.prog.globalNamed "internal/strconv.powtab").trans hg)
  obtain rfl : 177 = t := Option.some.inj ((by kernel_rfl : some 177 = _).trans hty)
  obtain ⟨a, cap, hcs, hle, hall⟩ := open_row Tryz.underlying177 (by kernel_rfl) hd
  obtain ⟨F, off, sp⟩ := a
  obtain ⟨v0, n0, q0, hv0, _⟩ := hall 0 _ rfl
  have hsp : sp = none := by simpa [Addr.add] using World.cell?_spot hv0
  subst hsp
  refine ⟨F, off, cap, ?_, fun i hi => ?_⟩
  · rw [World.var?_cell hg hvar 0, ← Array.getElem?_toList, hcs]
    rfl
  · have key : ∀ (x : Int) (d : DataW Unit), d = .lit (.int .i64 x) → (∃ v n q, W.cell? ((⟨F, off, none⟩ : Addr).add i) = some v ∧ DataW.trod (fun _ => ()) Tryz.prog W 0 (fun _ => true) false n 3 [v] = some (d, q)) → W.cell? ⟨F, off + i, none⟩ = some (.int .i64 x) := by
      intro x d hd ⟨v, n, q, hv, ht⟩
      subst hd
      obtain ⟨y, hy, hb, _⟩ := DataW.trod_int Tryz.underlying3 ht
      have hb2 : (DataW.lit (.int .i64 x) : DataW Unit) = .lit (.int .i64 y) := congrArg Prod.fst hb
      obtain ⟨_, rfl⟩ := Lit.int.inj (DataW.lit.inj hb2)
      rw [addr_plain] at hv
      rw [hv]
      exact congrArg some (List.head_eq_of_cons_eq hy)
    match i, hi with
    | 0, _ => exact key _ _ rfl (hall 0 _ rfl)
    | 1, _ => exact key _ _ rfl (hall 1 _ rfl)
    | 2, _ => exact key _ _ rfl (hall 2 _ rfl)
    | 3, _ => exact key _ _ rfl (hall 3 _ rfl)
    | 4, _ => exact key _ _ rfl (hall 4 _ rfl)
    | 5, _ => exact key _ _ rfl (hall 5 _ rfl)
    | 6, _ => exact key _ _ rfl (hall 6 _ rfl)
    | 7, _ => exact key _ _ rfl (hall 7 _ rfl)
    | 8, _ => exact key _ _ rfl (hall 8 _ rfl)
theorem cheat_of (h : Lib.VarReads Tryz.prog W "internal/strconv.leftcheats" Rows.laid_internal_strconv_leftcheats) : ∃ P off c, Cheat W P off c := by
  obtain ⟨g, t, cs, fuel, p, hg, hty, hvar, hd⟩ := h
  obtain rfl : 10 = g := Option.some.inj ((by kernel_rfl : some 10 = Tryz.prog.globalNamed "internal/strconv.leftcheats").trans hg)
  obtain rfl : 171 = t := Option.some.inj ((by kernel_rfl : some 171 = _).trans hty)
  have hlen : Go.Pinned.cheatRows.length = 61 := by decide +kernel
  rcases Go.Deep.open_slice_pairs Tryz.underlying171 Tryz.underlying170 (by kernel_rfl) rfl rfl (by kernel_rfl) (by kernel_rfl) hd with ⟨_, hx⟩ | ⟨ad, len, cap, m, n, V0, V1, D0, D1, P0, P1, hcs, _, hl, hm, hmm, hx, hc⟩
  · cases congrArg Prod.fst hx
  · have hx1 : (DataW.slice (Go.Pinned.cheatRows.map fun x => .agg [.lit (.int .i64 x.1), .lit (.string x.2)]) [] : DataW Unit) = _ := congrArg Prod.fst hx
    simp only [DataW.slice.injEq] at hx1
    obtain ⟨hx1, hx2⟩ := hx1
    have hl61 : len = 61 := by
      have := congrArg List.length hx1
      simp only [List.length_map, List.length_range, hlen] at this
      exact this.symm
    subst hl61
    have hm61 : 61 ≤ m := by rw [hmm]; split <;> omega
    have c0 := (hc 0 (by omega)).1
    obtain ⟨b, off, spot⟩ := ad
    have hspot : spot = none := by simpa [Addr.add] using World.cell?_spot c0
    subst hspot
    refine ⟨b, off, cap, ?_, fun k hk => ?_⟩
    · rw [World.var?_cell hg hvar 0, ← Array.getElem?_toList, hcs]
      rfl
    · obtain ⟨g0, g1, d0, d1⟩ := hc k (by omega)
      have hrow : Go.Pinned.cheatRows[k]? = some (cheatRow k) := by
        unfold cheatRow
        rw [List.getD_eq_getElem?_getD, List.getElem?_eq_getElem (by rw [hlen]; exact hk)]
        rfl
      have e := congrArg (·[k]?) hx1
      simp only [List.getElem?_map, hrow, Option.map_some, List.getElem?_range hk, Option.some.injEq, DataW.agg.injEq, List.cons.injEq, and_true] at e
      rw [addr_plain] at g0 g1
      obtain ⟨y, hy, hb, _⟩ := DataW.trod_int Tryz.underlying3 d0
      obtain ⟨z, hz, hb2, _⟩ := DataW.trod_string Tryz.underlying9 d1
      have hb : D0 k = .lit (.int .i64 y) := congrArg Prod.fst hb
      have hb2 : D1 k = .lit (.string z.data.toList) := congrArg Prod.fst hb2
      rw [← e.1] at hb
      rw [← e.2] at hb2
      obtain ⟨_, hb⟩ := Lit.int.inj (DataW.lit.inj hb)
      simp only [List.cons.injEq, and_true] at hy hz
      subst hb
      rw [← Nat.add_assoc] at g1
      rw [g0, g1, hy, hz]
      refine ⟨rfl, congrArg some (congrArg Value.string ?_)⟩
      unfold cheatS
      have hb3 : (cheatRow k).2 = z.data.toList := Lit.string.inj (DataW.lit.inj hb2)
      rw [hb3]
set_option maxRecDepth 100000 in
theorem iface_of {name : String} {g : Nat} {d : DataW Unit} {nm : List UInt8} {x : DataW Unit} (hgn : Tryz.prog.globalNamed name = some g) (hgt : (Tryz.prog.globals[g]?).map (·.type) = some 29) (h : Lib.VarReads Tryz.prog W name d) (hd : d ≠ .nil) : ∃ te pe, W.cell? ⟨g, 0, none⟩ = some (.iface te pe) := by
  obtain ⟨g', t, cs, fuel, p, hg, hty, hvar, hr⟩ := h
  obtain rfl : g = g' := Option.some.inj (hgn.symm.trans hg)
  obtain rfl : 29 = t := Option.some.inj (hgt.symm.trans hty)
  have key : ∃ te pe, cs.toList = [.iface te pe] := by
    clear hvar hty hgt hgn hg
    generalize cs.toList = l at *
    cases fuel with
    | zero => simp [DataW.trod] at hr
    | succ n =>
      unfold DataW.trod at hr
      rw [Tryz.underlying29] at hr
      match l, hr with
      | [.nilIface], hr => exact absurd (congrArg Prod.fst (Option.some.inj hr)).symm hd
      | [.iface u v], _ => exact ⟨u, v, rfl⟩
  obtain ⟨te, pe, hk⟩ := key
  exact ⟨te, pe, by rw [World.var?_cell hg hvar 0, ← Array.getElem?_toList, hk]; rfl⟩
end
theorem laid2_of {W : World} (h : laidMetH Tryz.prog laid14 W) : ∃ Q qo qc P off c F fo fc, Laid2 Q qo qc P off c F fo fc W := by
  have hL := laid_of h
  have h' : laidMet Tryz.prog laid13 W ∧ handlesMet Tryz.prog [(_, Rows.laid_errors_errorType)] W := h
  have m : ∀ n d, (n, d) ∈ laid14 → d.handleName?.isNone = true → Lib.VarReads Tryz.prog W n d := fun n d h1 h2 => Lib.laidMet.reads h'.1 (List.mem_filter.2 ⟨h1, h2⟩)
  obtain ⟨i0, i1, i2⟩ := info_of (m _ _ (by simp [laid14, Rows.valueOrderRow]) rfl)
  obtain ⟨Q, qo, qc, t1, t2⟩ := powtab_of (m _ _ (by simp [laid14, Rows.valueOrderRow]) rfl)
  obtain ⟨P, off, c, hc⟩ := cheat_of (m _ _ (by simp [laid14, Rows.valueOrderRow]) rfl)
  obtain ⟨F, fo, fc, hf⟩ := pow_of (m _ _ (by simp [laid14, Rows.valueOrderRow]) rfl)
  have e3 := iface_of (g := 3) (name := "strconv.ErrSyntax") (d := Rows.laid_strconv_ErrSyntax) (nm := []) (x := .nil) (by kernel_rfl) (by kernel_rfl) (m _ _ (by simp [laid14, Rows.valueOrderRow]) rfl) (fun e => by cases e)
  have e4 := iface_of (g := 4) (name := "strconv.ErrRange") (d := Rows.laid_strconv_ErrRange) (nm := []) (x := .nil) (by kernel_rfl) (by kernel_rfl) (m _ _ (by simp [laid14, Rows.valueOrderRow]) rfl) (fun e => by cases e)
  exact ⟨Q, qo, qc, P, off, c, F, fo, fc, hL, ⟨i0, i1, i2, t1, t2, hc, hf, hL.tabs.p10, hL.num.opt, e3, e4, hL.tabs.size⟩⟩
end Go.Proofs.YtofndhmnofghaaaGreatDoor.Sl

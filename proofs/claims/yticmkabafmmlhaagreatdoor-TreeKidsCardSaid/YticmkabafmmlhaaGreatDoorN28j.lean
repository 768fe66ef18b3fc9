/- A tree that came in lies in memory. Condition: it is read as data, and no part of it is greater than what a machine holds. -/
import Derived.Test.YticmkabafmmlhaaGreatDoorQ3j
import Derived.ProofKit
import Derived.OpenShut
import Derived.ChangeOld
import Derived.ChangeArms
import Derived.Deep.Slices
import Derived.Deep.SlicePairs
import Derived.Lib.SmallJoins
set_option linter.unusedVariables false
set_option linter.unusedSimpArgs false
set_option maxRecDepth 100000
namespace Go.Proofs.YticmkabafmmlhaaGreatDoor.Ck
open Go.ChangeShapes Go.WideShapes Go.ChangeAt Go.RowKit
theorem ce2 : Tryz.prog.cellsOf 2 = 1 := by kernel_rfl
theorem ce3 : Tryz.prog.cellsOf 3 = 1 := by kernel_rfl
theorem ce4 : Tryz.prog.cellsOf 4 = 1 := by kernel_rfl
theorem ce9 : Tryz.prog.cellsOf 9 = 1 := by kernel_rfl
theorem ce22 : Tryz.prog.cellsOf 22 = 1 := by kernel_rfl
theorem ce23 : Tryz.prog.cellsOf 23 = 1 := by kernel_rfl
theorem ce24 : Tryz.prog.cellsOf 24 = 1 := by kernel_rfl
theorem ce25 : Tryz.prog.cellsOf 25 = 1 := by kernel_rfl
theorem ce27 : Tryz.prog.cellsOf 27 = 13 := by kernel_rfl
theorem ce40 : Tryz.prog.cellsOf 39 = 3 := by kernel_rfl
theorem by9 : Tryz.prog.bytesOf 9 = 16 := by kernel_rfl
theorem by27 : Tryz.prog.bytesOf 27 = 160 := by kernel_rfl
theorem by40 : Tryz.prog.bytesOf 39 = 40 := by kernel_rfl
theorem reach_is : reachBytes = 140737488351232 := by decide
theorem plus_at (b off k : Nat) : (⟨b, off, none⟩ : Addr).add k = ⟨b, off + k, none⟩ := by unfold Addr.add; split <;> simp_all
theorem plus_plus (b off k j : Nat) : ((⟨b, off, none⟩ : Addr).add k).add j = ⟨b, off + k + j, none⟩ := by rw [plus_at, plus_at]
theorem weights_in {H : Type} {e : TypeId} : ∀ {l : List (DataW H)} {d : DataW H}, d ∈ l → ∀ y ∈ d.weights Tryz.prog e, y ∈ DataW.weightsAll Tryz.prog e l
 | [], _, h, _, _ => by cases h
 | x :: l, d, h, y, hy => by
   rw [DataW.weightsAll]
   rcases List.mem_cons.1 h with rfl | h
   · exact List.mem_append.2 (.inl hy)
   · exact List.mem_append.2 (.inr (weights_in h y hy))
theorem weights_each {H : Type} : ∀ {ts : List TypeId} {ds : List (DataW H)} (i : Nat) {t : TypeId} {d : DataW H}, ts[i]? = some t → ds[i]? = some d → ∀ y ∈ d.weights Tryz.prog t, y ∈ DataW.weightsEach Tryz.prog ts ds
 | [], _, _, _, _, h, _, _, _ => by simp at h
 | _ :: _, [], _, _, _, _, h, _, _ => by simp at h
 | t :: ts, d :: ds, 0, _, _, h, h2, y, hy => by
   rw [DataW.weightsEach]
   simp at h h2
   subst h h2
   exact List.mem_append.2 (.inl hy)
 | t :: ts, d :: ds, i + 1, _, _, h, h2, y, hy => by
   rw [DataW.weightsEach]
   exact List.mem_append.2 (.inr (weights_each i (by simpa using h) (by simpa using h2) y hy))
section
variable {H : Type} {enc : TypeId × Value → H} {w : World} {base : Nat} {spare : Nat → Bool} {held : Bool}
theorem open_nms {fuel : Nat} {cs : List Value} {x : DataW H × List MemPlace} (h : DataW.trod enc Tryz.prog w base spare held fuel 24 cs = some x) (hw : ∀ y ∈ x.1.weights Tryz.prog 24, y ≤ reachBytes) :
 ∃ (a : Option Addr) (l : List ByteArray) (c : Nat), cs = [.slice a l.length c] ∧ Nms w a l ∧ l.length ≤ 140737488355328 ∧ l.length ≤ c := by
 rcases Go.Deep.open_slice1 Tryz.underlying24 ce9 h with ⟨rfl, _⟩ | ⟨ad, len, cap, m, n, V, D, Pl, rfl, _, hl, hm, hmm, hx, hc⟩
 · exact ⟨none, [], 0, rfl, fun h => by simp at h, by simp, by simp⟩
 · have hlm : len ≤ m := by rw [hmm]; split <;> omega
   have hwt : (len + (m - len)) * 16 ≤ reachBytes := by
    refine hw _ ?_
    rw [hx]
    simp only [DataW.weights, Tryz.underlying24, List.length_map, List.length_range, by9]
    exact List.mem_cons_self
   rw [reach_is] at hwt
   have each : ∀ i, i < len → ∃ s : ByteArray, V i = .string s := by
    intro i hi
    obtain ⟨_, h0⟩ := hc i (by omega)
    obtain ⟨y, hy, _⟩ := DataW.trod_string Tryz.underlying9 h0
    simp at hy
    exact ⟨y, hy⟩
   obtain ⟨f, hf⟩ := Go.Deep.choose_lt each
   refine ⟨some ad, (List.range len).map f, cap, by simp, fun h0 => ?_, by simp; omega, by simp; omega⟩
   simp at h0
   have c0 := (hc 0 (by omega)).1
   obtain ⟨b, off, spot⟩ := ad
   have hspot : spot = none := by simpa [Addr.add] using World.cell?_spot c0
   subst hspot
   refine ⟨b, off, rfl, ?_, fun i hi => ?_⟩
   · have := World.block_lt_of_cell? _ _ c0
     simpa [Addr.add] using this
   · simp at hi
     obtain ⟨g0, _⟩ := hc i (by omega)
     rw [plus_at, hf i hi] at g0
     have e : ((List.range len).map f).getD i n0 = f i := by simp [hi]
     rw [e]
     exact g0
theorem open_mts {fuel : Nat} {cs : List Value} {x : DataW H × List MemPlace} (h : DataW.trod enc Tryz.prog w base spare held fuel 23 cs = some x) (hw : ∀ y ∈ x.1.weights Tryz.prog 23, y ≤ reachBytes) :
 ∃ (a : Option Addr) (l : List Mt) (c : Nat), cs = [.slice a l.length c] ∧ Mts w a l ∧ l.length ≤ 140737488355328 := by
 rcases Go.Deep.open_slice Tryz.underlying23 h with ⟨rfl, _⟩ | ⟨ad, len, cap, m, n, D, Pl, rfl, _, hl, hm, hmm, hx, hc⟩
 · exact ⟨none, [], 0, rfl, fun h => by simp at h, by simp⟩
 · have hlm : len ≤ m := by rw [hmm]; split <;> omega
   have hwt : (len + (m - len)) * 40 ≤ reachBytes := by
    refine hw _ ?_
    rw [hx]
    simp only [DataW.weights, Tryz.underlying23, List.length_map, List.length_range, by40]
    exact List.mem_cons_self
   rw [reach_is] at hwt
   rw [ce40] at hc
   have each : ∀ i, i < len → ∃ p : Mt, w.cell? ((ad.add (i * 3)).add 0) = some (.int .i64 p.1) ∧ w.cell? ((ad.add (i * 3)).add 1) = some (.string p.2.1) ∧ w.cell? ((ad.add (i * 3)).add 2) = some (.string p.2.2) := by
    intro i hi
    obtain ⟨cs', h1, h2⟩ := hc i (by omega)
    obtain ⟨_, hlen, hcell⟩ := World.cells?_some h1
    obtain ⟨xs, k, _, _, _, hxl, hall⟩ := DataW.trod_struct Tryz.underlying39 h2
    have hxl : xs.length = 3 := hxl
    match xs, hxl, cs', hlen with
    | [y0, y1, y2], _, [v0, v1, v2], _ =>
      have g0 := hall 0 _ rfl
      have g1 := hall 1 _ rfl
      have g2 := hall 2 _ rfl
      simp [ce3, ce9] at g0 g1 g2
      obtain ⟨z0, e0, _⟩ := DataW.trod_int Tryz.underlying3 g0
      obtain ⟨z1, e1, _⟩ := DataW.trod_string Tryz.underlying9 g1
      obtain ⟨z2, e2, _⟩ := DataW.trod_string Tryz.underlying9 g2
      simp at e0 e1 e2
      subst e0 e1 e2
      exact ⟨(z0, z1, z2), by simpa using hcell 0 (by omega), by simpa using hcell 1 (by omega), by simpa using hcell 2 (by omega)⟩
   obtain ⟨f, hf⟩ := Go.Deep.choose_lt each
   refine ⟨some ad, (List.range len).map f, cap, by simp, fun h0 => ?_, by simp; omega⟩
   simp at h0
   obtain ⟨c0, _⟩ := hf 0 (by omega)
   obtain ⟨b, off, spot⟩ := ad
   have hspot : spot = none := by simpa [Addr.add] using World.cell?_spot c0
   subst hspot
   refine ⟨b, off, rfl, ?_, fun i hi => ?_⟩
   · have := World.block_lt_of_cell? _ _ c0
     simpa [Addr.add] using this
   · simp at hi
     obtain ⟨g0, g1, g2⟩ := hf i hi
     rw [plus_plus] at g0 g1 g2
     have e : ((List.range len).map f).getD i m0 = f i := by simp [hi]
     rw [e]
     exact ⟨g0, g1, g2⟩
theorem lies_list {w : World} : ∀ {l : List Tr}, (∀ t, t ∈ l → Lies w t) → LiesL w l
 | [], _ => by rw [LiesL]; trivial
 | x :: l, h => by
   rw [LiesL]
   exact ⟨h x List.mem_cons_self, lies_list fun t ht => h t (List.mem_cons_of_mem _ ht)⟩
theorem wf_u64 {z : Int} (h : (Lit.int .u64 z).wf = true) : 0 ≤ z ∧ z < 18446744073709551616 := by
 simp only [Lit.wf, IntKind.min, IntKind.max, IntKind.signed, IntKind.bits] at h
 simp at h
 omega
instance : Inhabited Tr := ⟨t0⟩
theorem open_trs {fuel : Nat} {cs : List Value} {x : DataW H × List MemPlace} (ih : ∀ (m : Nat) (cs : List Value) (x : DataW H × List MemPlace), m < fuel → DataW.trod enc Tryz.prog w base spare held m 27 cs = some x → (∀ y ∈ x.1.weights Tryz.prog 27, y ≤ reachBytes) → ∃ t : Tr, cs = cellsT t ∧ Lies w t)
 (h : DataW.trod enc Tryz.prog w base spare held fuel 25 cs = some x) (hw : ∀ y ∈ x.1.weights Tryz.prog 25, y ≤ reachBytes) :
 ∃ (a : Option Addr) (l : List Tr) (c : Nat), cs = [.slice a l.length c] ∧ Trs w a l ∧ LiesL w l ∧ l.length ≤ 140737488355328 ∧ (a = none → c = 0) := by
 rcases DataW.trod_slice Tryz.underlying25 h with ⟨rfl, _⟩ | ⟨ad, len, cap, elems, rest, n, hfu, rfl, hx, _, hl, hm, hlen, hel, _⟩
 · exact ⟨none, [], 0, rfl, fun h => by simp at h, by rw [LiesL]; trivial, by simp, fun _ => rfl⟩
 · have hwt : (len + rest.length) * 160 ≤ reachBytes := by
    refine hw _ ?_
    rw [hx]
    simp only [DataW.weights, Tryz.underlying25, List.length_map, by27, hlen]
    exact List.mem_cons_self
   rw [reach_is] at hwt
   rw [ce27] at hel
   have each : ∀ i, i < len → ∃ t : Tr, w.cells? base (ad.add (i * 13)) 13 = some (cellsT t) ∧ Lies w t := by
    intro i hi
    have hb := hel i hi
    rw [List.getElem?_eq_getElem (by omega)] at hb
    obtain ⟨cs', h1, h2⟩ := Option.bind_eq_some_iff.1 hb
    obtain ⟨t, rfl, ht⟩ := ih n cs' _ (by omega) h2 (fun y hy => by
     refine hw y ?_
     rw [hx]
     simp only [DataW.weights, Tryz.underlying25]
     refine List.mem_cons_of_mem _ (List.mem_append.2 (.inl (weights_in (List.mem_map.2 ⟨_, List.getElem_mem _, rfl⟩) y hy))))
    exact ⟨t, h1, ht⟩
   obtain ⟨f, hf⟩ := Go.Deep.choose_lt (α := Tr) (h := each) (n := len)
   refine ⟨some ad, (List.range len).map f, cap, by simp, fun h0 => ?_, lies_list fun t ht => ?_, by simp; omega, fun h => by cases h⟩
   · simp at h0
     obtain ⟨_, hl0, hcell0⟩ := World.cells?_some (hf 0 (by omega)).1
     have c0 := hcell0 0 (by omega)
     rw [List.getElem?_eq_getElem (by rw [cellsT_length]; omega)] at c0
     obtain ⟨b, off, spot⟩ := ad
     have hspot : spot = none := by simpa [Addr.add] using World.cell?_spot c0
     subst hspot
     refine ⟨b, off, rfl, ?_, fun i hi j v hv => ?_⟩
     · have := World.block_lt_of_cell? _ _ c0
       simpa [Addr.add] using this
     · simp at hi
       obtain ⟨_, _, hcell⟩ := World.cells?_some (hf i hi).1
       have e : ((List.range len).map f).getD i t0 = f i := by simp [hi]
       rw [e] at hv
       have hj : j < 13 := by
        have := (List.getElem?_eq_some_iff.1 hv).1
        rwa [cellsT_length] at this
       have := hcell j hj
       rw [plus_plus, hv] at this
       exact this
   · obtain ⟨i, hi, rfl⟩ := List.mem_map.1 ht
     exact (hf i (List.mem_range.1 hi)).2
theorem open_tr : ∀ (fuel : Nat) (cs : List Value) (x : DataW H × List MemPlace), DataW.trod enc Tryz.prog w base spare held fuel 27 cs = some x → (∀ y ∈ x.1.weights Tryz.prog 27, y ≤ reachBytes) → ∃ t : Tr, cs = cellsT t ∧ Lies w t := by
 intro fuel
 induction fuel using Nat.strongRecOn with
 | ind fuel ih =>
   intro cs x h hw
   obtain ⟨xs, n, hfu, hx, hcl, hxl, hall⟩ := DataW.trod_struct Tryz.underlying27 h
   rw [ce27] at hcl
   have hxl : xs.length = 13 := hxl
   match xs, hxl, cs, hcl with
   | [y0, y1, y2, y3, y4, y5, y6, y7, y8, y9, y10, y11, y12], _, [v0, v1, v2, v3, v4, v5, v6, v7, v8, v9, v10, v11, v12], _ =>
     have g0 := hall 0 _ rfl
     have g1 := hall 1 _ rfl
     have g2 := hall 2 _ rfl
     have g3 := hall 3 _ rfl
     have g4 := hall 4 _ rfl
     have g5 := hall 5 _ rfl
     have g6 := hall 6 _ rfl
     have g7 := hall 7 _ rfl
     have g8 := hall 8 _ rfl
     have g9 := hall 9 _ rfl
     have g10 := hall 10 _ rfl
     have g11 := hall 11 _ rfl
     have g12 := hall 12 _ rfl
     clear hall
     simp [ce2, ce3, ce4, ce9, ce22, ce23, ce24, ce25] at g0 g1 g2 g3 g4 g5 g6 g7 g8 g9 g10 g11 g12
     have hwe : ∀ (i : Nat) (t : TypeId) (d : DataW H), [3, 3, 22, 9, 23, 2, 2, 4, 2, 3, 24, 4, 25][i]? = some t → [y0.1, y1.1, y2.1, y3.1, y4.1, y5.1, y6.1, y7.1, y8.1, y9.1, y10.1, y11.1, y12.1][i]? = some d → ∀ y ∈ d.weights Tryz.prog t, y ≤ reachBytes := by
      intro i t d h1 h2 y hy
      refine hw y ?_
      rw [hx]
      simp only [DataW.weights, Tryz.underlying27, List.map_cons, List.map_nil]
      exact weights_each i h1 h2 y hy
     obtain ⟨z0, e0, _⟩ := DataW.trod_int Tryz.underlying3 g0
     obtain ⟨z1, e1, _⟩ := DataW.trod_int Tryz.underlying3 g1
     obtain ⟨z2, e2, _, wf2⟩ := DataW.trod_int Tryz.underlying22 g2
     obtain ⟨z3, e3, _⟩ := DataW.trod_string Tryz.underlying9 g3
     obtain ⟨a4, l4, k4, e4, m4, b4⟩ := open_mts g4 (hwe 4 _ _ rfl rfl)
     obtain ⟨z5, e5, _⟩ := DataW.trod_int Tryz.underlying2 g5
     obtain ⟨z6, e6, _⟩ := DataW.trod_int Tryz.underlying2 g6
     obtain ⟨z7, e7, _⟩ := DataW.trod_bool Tryz.underlying4 g7
     obtain ⟨z8, e8, _⟩ := DataW.trod_int Tryz.underlying2 g8
     obtain ⟨z9, e9, _⟩ := DataW.trod_int Tryz.underlying3 g9
     obtain ⟨a10, l10, k10, e10, m10, b10, c10⟩ := open_nms g10 (hwe 10 _ _ rfl rfl)
     obtain ⟨z11, e11, _⟩ := DataW.trod_bool Tryz.underlying4 g11
     obtain ⟨a12, l12, k12, e12, m12, n12, b12, o12⟩ := open_trs (fun m cs x hm => ih m (by omega) cs x) g12 (hwe 12 _ _ rfl rfl)
     obtain ⟨p2, q2⟩ := wf_u64 wf2
     obtain ⟨u2, rfl⟩ : ∃ u : Nat, z2 = (u : Int) := ⟨z2.toNat, by omega⟩
     simp at e0 e1 e2 e3 e4 e5 e6 e7 e8 e9 e10 e11 e12
     subst e0 e1 e2 e3 e4 e5 e6 e7 e8 e9 e10 e11 e12
     refine ⟨.mk ⟨z0, z1, u2, z3, a4, k4, l4, z5, z6, z7, z8, z9, a10, k10, l10, z11, a12, k12⟩ l12, rfl, ?_⟩
     rw [Lies]
     exact ⟨⟨by show u2 < _; omega, b4, b10, o12, c10⟩, b12, m4, m10, m12, n12⟩
theorem open_arg {r : Reach} {b0 : Nat} {v : Value} {d : DataW H} {p : List MemPlace} (hv : Value.okWide Tryz.prog w r b0 27 v) (h : DataW.Trod enc Tryz.prog w base spare held 27 v d p) (hw : ∀ y ∈ d.weights Tryz.prog 27, y ≤ reachBytes) : ∃ t : Tr, v = valT t ∧ Lies w t := by
 obtain ⟨cs, rfl, hsz⟩ := okWide_struct Tryz.underlying27 hv
 obtain ⟨fuel, hf⟩ := h
 obtain ⟨t, ht, hL⟩ := open_tr fuel _ (d, p) (by simpa [Value.cells] using hf) hw
 refine ⟨t, ?_, hL⟩
 have : cs.toList = cellsT t := by simpa [Value.cells] using ht
 unfold valT
 rw [← this]
end
end Go.Proofs.YticmkabafmmlhaaGreatDoor.Ck

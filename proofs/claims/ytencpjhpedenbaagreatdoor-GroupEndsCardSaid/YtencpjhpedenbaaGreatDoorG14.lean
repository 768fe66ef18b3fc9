/- slices.Clone and slices.SortFunc of elements, vector.Make. Conditions: few elements, few labels each, no two with the same labels. -/
import Derived.Test.YtencpjhpedenbaaGreatDoorG13
import Derived.Deep.RegionHeld3
namespace Go.Proofs.YtencpjhpedenbaaGreatDoor
open Go.RowKit Lb
set_option linter.unusedVariables false
set_option linter.unusedSimpArgs false

theorem cmpR_zero : ∀ a b : List Lab, cmpR a b = 0 → a = b
  | [], [], _ => rfl
  | [], _ :: _, h => by cases h
  | _ :: _, [], h => by cases h
  | a :: x, b :: y, h => by
    rw [cmpR] at h
    by_cases hc : cmpT a b = 0
    · rw [if_pos hc] at h
      rw [cmpT_zero.1 hc, cmpR_zero x y h]
    · rw [if_neg hc] at h
      exact absurd h hc
theorem cmpL_zero {a b : List Lab} (h : cmpL a b = 0) : a = b := cmpR_zero a b (by rw [← cmpL_eq]; exact h)
theorem cmpL_self (a : List Lab) : cmpL a a = 0 := by rw [cmpL_eq, cmpR_self]
theorem cmpL_trans {a b c : List Lab} (h1 : cmpL a b < 0) (h2 : cmpL b c < 0) : cmpL a c < 0 := by
  have e1 := cmpL_anti a b
  have e2 := cmpL_anti b c
  have e3 := cmpL_anti a c
  have i3 := cmpL_in a c
  by_cases h : cmpL a c < 0
  · exact h
  · have := cmpR_ge b a c (by rw [← cmpL_eq]; omega) (by rw [← cmpL_eq]; omega)
    rw [← cmpL_eq] at this
    omega
section
variable {n : Nat} (s : Fin (n + 1) → El)
def cfI (i j : Fin (n + 1)) : Int := cmpL (s i).1 (s j).1
theorem swoI : Sort.SWO (ltOf (cfI s)) where
  irrefl x := by unfold ltOf cfI; rw [cmpL_self]; rfl
  trans x y z h1 h2 := by
    unfold ltOf cfI at *
    exact decide_eq_true (cmpL_trans (of_decide_eq_true h1) (of_decide_eq_true h2))
  ntrans x y z h1 h2 := by
    unfold ltOf cfI at *
    have h1 := of_decide_eq_false h1
    have h2 := of_decide_eq_false h2
    refine decide_eq_false ?_
    have := cmpR_ge (s x).1 (s y).1 (s z).1 (by rw [← cmpL_eq]; omega) (by rw [← cmpL_eq]; omega)
    rw [← cmpL_eq] at this
    omega
end
theorem below_sortedI {n : Nat} (enc : Fin (n + 1) → List Value) (w : World) (g off m : Nat) (d : Array (Fin (n + 1))) (os : Array Obj) (hg : g < w.heap.size) : Below g w (sortWorldK enc 2 w g off m d os) := by
  refine ⟨rfl, rfl, rfl, by simp [sortWorldK, Sort.putRowK, Sort.putRow, Sort.mapBlock, Sort.ahead, Sort.grow], fun i hi => ?_⟩
  show (w.heap.modify g _ ++ os)[i]? = w.heap[i]?
  rw [Array.getElem?_append_left (by simp; omega), Array.getElem?_modify, if_neg (by omega)]
def SortP (w0 : World) (g : Nat) (S : List El) (w : World) (e : Ending) (w' : World) : Prop :=
  ∃ r' S', S'.Perm S ∧ ElVs w0 r' S' ∧ e = .returned (.tuple #[]) ∧ Raw w' (some ⟨g, 0, none⟩) r' ∧ Below g w w'
set_option maxRecDepth 100000 in
set_option maxHeartbeats 2000000 in
theorem sorts_any (w0 w : World) (base g cap : Nat) (r : List VV) (S : List El) (hE : ElVs w0 r S) (hbw : Below w0.heap.size w0 w) (hg0 : w0.heap.size ≤ g) (hown : w.ownsRow base 36 2 (.slice (some ⟨g, 0, none⟩) S.length cap) S.length (flatV r)) (h0 : 0 < S.length) (hl : S.length ≤ 65536) (hll : ∀ i, i < S.length → (S.getD i z0).1.length ≤ 65536) :
    Calls Tryz.prog 47 #[.slice (some ⟨g, 0, none⟩) S.length cap, .func (.func 48) #[] #[]] w (SortP w0 g S w) := by
  obtain ⟨n, hn⟩ : ∃ n, S.length = n + 1 := ⟨S.length - 1, by omega⟩
  have hg := (hown.lt g rfl).2
  let s : Fin (n + 1) → El := fun i => S.getD i.1 z0
  let rr : Fin (n + 1) → VV := fun i => r.getD i.1 v0
  let enc : Fin (n + 1) → List Value := fun i => [(rr i).1, (rr i).2]
  let d : Array (Fin (n + 1)) := Array.ofFn id
  have hd : d.size = S.length := by simp [d, hn]
  have hev : ∀ i : Fin (n + 1), ElV w0 (rr i) (s i) := fun i => hE.2 i.1 (by rw [hn]; exact i.2)
  have eg : ∀ args w, (callFunc 48 args).run Tryz.prog w = .ok (.enter 48 args) w := enters_of Tryz.func48 (by kernel_rfl) rfl
  have hH : Sort.HoldsK enc 2 w g 0 d := by
    intro j hj
    rw [Sort.size_flatK, hd] at hj
    rw [Nat.zero_add, Sort.get_flatK _ _ _ _ (by rw [hd]; exact hj)]
    refine ⟨?_, hown.frozenAt j⟩
    rw [hown.cellAt j hj]
    have hi : j / 2 < S.length := by omega
    have e : (d[j / 2]!) = ⟨j / 2, by omega⟩ := by
      simp [d, show j / 2 < n + 1 by omega]
    have f := flatV_at r (j / 2) (by rw [hE.1]; exact hi)
    rw [e]
    by_cases hp : j % 2 = 0
    · have ej : j / 2 * 2 = j := by omega
      rw [ej] at f
      rw [f.1, hp]; rfl
    · have ej : j / 2 * 2 + 1 = j := by omega
      have hp1 : j % 2 = 1 := by omega
      rw [ej] at f
      rw [f.2, hp1]; rfl
  have hcmp : CmpLays Tryz.prog 48 #[] enc 2 (cfI s) g 0 d.size w := fun m os dk hdk x y => by
    obtain ⟨LA, lc, e1, q1, _, _⟩ := hev x
    obtain ⟨LB, lc2, e2, p1, _, _⟩ := hev y
    have hb : Below w0.heap.size w0 (sortWorldK enc 2 w g 0 m dk os) := hbw.trans ((below_sortedI enc w g 0 m dk os hg).mono hg0)
    have := cmpe_any LA LB lc lc2 _ _ (s x).1 (s y).1 (s x).2 (s y).2 (cfI s x y) rfl rfl rfl _ (q1.below hb) (p1.below hb) (hll x.1 (by omega)) (hll y.1 (by omega))
    have hx : enc x = [.slice LA (s x).1.length lc, .int .u64 (s x).2] := by show [(rr x).1, (rr x).2] = _; rw [e1]
    have hy : enc y = [.slice LB (s y).1.length lc2, .int .u64 (s y).2] := by show [(rr y).1, (rr y).2] = _; rw [e2]
    rw [hx, hy]
    exact this
  have h1 : ∀ x, ∀ v ∈ enc x, v.oneCell' = true := fun x v hv => by
    have := elV_one (hev x)
    simp [enc] at hv
    rcases hv with rfl | rfl
    · exact this.1
    · exact this.2
  have hc := AnyQ.slices_SortFunc Tryz.sortTag 2 Tryz.isAgg36 Tryz.sizeOf36 enc (fun _ => rfl) h1 (cfI s) (swoI s) 48 #[] g 0 cap d w eg hcmp hH hg (by rw [hd]; omega)
  rw [hd] at hc
  change Calls Tryz.prog 47 #[.slice (some ⟨g, 0, none⟩) S.length cap, .func (.func 48) #[] #[]] w _ at hc
  refine hc.mono ?_
  rintro e w' ⟨he, d', m, os, hp, _, rfl⟩
  have hds : d'.size = d.size := by rw [hp.1]
  have hperm : d'.toList.Perm d.toList := by
    have := hp.2.2
    have e1 : (d'.extract 0 S.length).toList = d'.toList := by rw [← hd]; simp [hds, List.take_of_length_le]
    have e2 : (d.extract 0 S.length).toList = d.toList := by rw [← hd]; simp
    rw [e1, e2] at this
    exact this
  have hh := holdsK_sortWorldK_c enc 2 w g 0 d d' m os hH hg hds
  have hs := size_sortWorldK_c enc 2 w g 0 m d' os
  refine ⟨d'.toList.map rr, d'.toList.map s, ?_, ⟨by simp, fun i hi => ?_⟩, he, fun _ => ⟨g, 0, rfl, Nat.lt_of_lt_of_le hg hs, fun i hi => ?_⟩, below_sortedI enc w g 0 m d' os hg⟩
  · have : d.toList.map s = S := by
      apply List.ext_getElem
      · simp [d, hn]
      · intro i h1 h2
        rw [List.getElem_map]
        have hdi : d.toList[i]'(by simpa using h1) = (⟨i, by omega⟩ : Fin (n + 1)) := by simp only [d, Array.getElem_toList, Array.getElem_ofFn, id]
        rw [hdi]
        show S.getD i z0 = S[i]
        simp [h2]
    rw [← this]
    exact hperm.map s
  · have hi' : i < d'.toList.length := by simpa using hi
    have e1 : (d'.toList.map rr).getD i v0 = rr d'.toList[i] := by simp [List.getD_eq_getElem?_getD, List.getElem?_eq_getElem hi']
    have e2 : (d'.toList.map s).getD i z0 = s d'.toList[i] := by simp [List.getD_eq_getElem?_getD, List.getElem?_eq_getElem hi']
    rw [e1, e2]
    exact hev _
  · have hi' : i < d'.toList.length := by simpa using hi
    have hi2 : i < d'.size := by simpa using hi'
    have e1 : (d'.toList.map rr).getD i v0 = rr d'.toList[i] := by simp [List.getD_eq_getElem?_getD, List.getElem?_eq_getElem hi']
    rw [e1]
    have e : d'[i]! = d'.toList[i] := by simp [hi2]
    have k1 := (hh (i * 2) (by rw [Sort.size_flatK]; omega)).1
    have k2 := (hh (i * 2 + 1) (by rw [Sort.size_flatK]; omega)).1
    rw [Sort.get_flatK _ _ _ _ (by omega)] at k1 k2
    rw [show i * 2 / 2 = i by omega, show i * 2 % 2 = 0 by omega, e] at k1
    rw [show (i * 2 + 1) / 2 = i by omega, show (i * 2 + 1) % 2 = 1 by omega, e] at k2
    exact ⟨k1, k2⟩
end Go.Proofs.YtencpjhpedenbaaGreatDoor

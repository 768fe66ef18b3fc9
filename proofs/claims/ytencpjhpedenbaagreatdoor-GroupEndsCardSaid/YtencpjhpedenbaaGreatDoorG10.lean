/- Groups in memory while they grow: each has a row of its own. No condition. -/
import Derived.Test.YtencpjhpedenbaaGreatDoorG9
import Derived.Deep.AppendLies
namespace Go.Proofs.YtencpjhpedenbaaGreatDoor
open Go.RowKit Lb
set_option linter.unusedVariables false

theorem row_set {w : World} {base e s n g i : Nat} {v : Value} {xs : List Value} (h : w.ownsRow base e s v n xs) (hv : v.ownBlock = some g) (u : Value) (hi : i < xs.length) : (w.setCell ⟨g, i, none⟩ u).ownsRow base e s v n (xs.set i u) := by
  refine ⟨by rw [List.length_set]; exact h.1, ?_⟩
  rcases h.2 with ⟨h1, _⟩ | ⟨q, cap, cur, h1, h2, h3, h4, h5, h6, h7⟩
  · rw [h1] at hv; cases hv
  · rw [h1] at hv
    injection hv with hv
    subst hv
    refine .inr ⟨q, cap, cur.setIfInBounds i u, h1, h2, by simp [World.setCell, Array.getElem?_modify, h3], h4, h5, by simpa using h6, ?_⟩
    · rw [Array.toList_setIfInBounds, List.take_set, h7]
theorem grown_set (w : World) (g i : Nat) (u : Value) : w.grownBy (w.setCell ⟨g, i, none⟩ u) (some g) :=
  ⟨rfl, rfl, rfl, by simp [World.setCell], fun k _ hk => Below.heap_setCell _ _ _ _ (fun e => hk (by simp [e]))⟩
/-- the row of a type in a block -/
theorem own_type {w : World} {base e s n g : Nat} {v : Value} {xs : List Value} (h : w.ownsRow base e s v n xs) (hg : v.ownBlock = some g) : ∃ cs fr, w.heap[g]? = some (.cells cs e fr) := by
  rcases h.2 with ⟨rfl, _⟩ | ⟨q, cap, cur, rfl, _, hq, _⟩
  · cases hg
  · injection hg with hg
    subst hg
    exact ⟨_, _, hq⟩
theorem own_apart {w : World} {base e s n g t : Nat} {v : Value} {xs : List Value} {cs : Array Value} {fr : Nat × Nat} (h : w.ownsRow base e s v n xs) (hg : w.heap[g]? = some (.cells cs t fr)) (hne : e ≠ t) : v.ownBlock ≠ some g := by
  intro hv
  obtain ⟨cs', fr', h2⟩ := own_type h hv
  rw [hg] at h2
  injection h2 with h2
  injection h2 with _ h3
  exact hne h3.symm
/-- labels in a block of labels -/
def LbT (w : World) (A : Option Addr) (l : List Lab) : Prop := Lbs w A l ∧ ∀ a, A = some a → ∃ cs fr, w.heap[a.block]? = some (.cells cs 61 fr)
theorem lbs_far {w w' : World} {A : Option Addr} {l : List Lab} {row : Option Nat} (h : LbT w A l) (hg : w.grownBy w' row) (hr : ∀ g, row = some g → ∀ cs fr, w.heap[g]? ≠ some (.cells cs 61 fr)) : LbT w' A l := by
  have hk : ∀ a, A = some a → w'.heap[a.block]? = w.heap[a.block]? := fun a ha => by
    obtain ⟨cs, fr, hc⟩ := h.2 a ha
    exact hg.block a.block (Array.getElem?_eq_some_iff.1 hc).1 (fun e => hr _ e.symm cs fr hc)
  refine ⟨fun hn => ?_, fun a ha => ?_⟩
  · obtain ⟨b, off, rfl, hlt, hc⟩ := h.1 hn
    have hb := hk _ rfl
    refine ⟨b, off, rfl, Nat.lt_of_lt_of_le hlt hg.size, fun i hi => ⟨?_, ?_⟩⟩
    · exact (World.cell?_of_block (a := ⟨b, off + i * 2, none⟩) hb).trans (hc i hi).1
    · exact (World.cell?_of_block (a := ⟨b, off + i * 2 + 1, none⟩) hb).trans (hc i hi).2
  · obtain ⟨cs, fr, hc⟩ := h.2 a ha
    exact ⟨cs, fr, (hk a ha).trans hc⟩
theorem LbT.below {w w' : World} {A : Option Addr} {l : List Lab} (h : LbT w A l) (hb : Below w.heap.size w w') : LbT w' A l :=
  lbs_far h (row := none) (grown_of_below hb) (fun g hg => by cases hg)

/-- a group: its labels stand, its elements are a row of its own, of elements that came in -/
def PRow (w0 w : World) (base : Nat) (x : VV) (p : Pl) : Prop :=
  ∃ LA lc re, x.1 = .slice LA p.1.length lc ∧ LbT w LA p.1 ∧ (LA = none → lc = 0) ∧ w.ownsRow base 36 2 x.2 p.2.length (flatV re) ∧ ElVs w0 re p.2
structure PRows (w0 w : World) (base : Nat) (r : List VV) (σ : List Pl) : Prop where
  len : r.length = σ.length
  row : ∀ i, i < σ.length → PRow w0 w base (r.getD i v0) (σ.getD i q0)
  apart : ∀ i j, i < σ.length → j < σ.length → i ≠ j → (r.getD i v0).2.ownBlock = (r.getD j v0).2.ownBlock → (r.getD i v0).2.ownBlock = none
theorem PRow.far {w0 w w' : World} {base : Nat} {x : VV} {p : Pl} {row : Option Nat} (h : PRow w0 w base x p) (hg : w.grownBy w' row) (hr : ∀ g, row = some g → ∀ cs fr, w.heap[g]? ≠ some (.cells cs 61 fr)) (hx : row = none ∨ row ≠ x.2.ownBlock) : PRow w0 w' base x p := by
  obtain ⟨LA, lc, re, h1, h2, h3, h4, h5⟩ := h
  refine ⟨LA, lc, re, h1, lbs_far h2 hg hr, h3, h4.kept hg ?_, h5⟩
  rcases hx with rfl | hx
  · cases hb : x.2.ownBlock with
    | none => exact .inl rfl
    | some g => exact .inr (by simp)
  · exact .inr (Ne.symm hx)
theorem PRows.far {w0 w w' : World} {base : Nat} {r : List VV} {σ : List Pl} {row : Option Nat} (h : PRows w0 w base r σ) (hg : w.grownBy w' row) (hr : ∀ g, row = some g → ∀ cs fr, w.heap[g]? ≠ some (.cells cs 61 fr)) (hx : ∀ i, i < σ.length → row = none ∨ row ≠ (r.getD i v0).2.ownBlock) : PRows w0 w' base r σ :=
  ⟨h.len, fun i hi => (h.row i hi).far hg hr (hx i hi), h.apart⟩
theorem PRows.below {w0 w w' : World} {base : Nat} {r : List VV} {σ : List Pl} (h : PRows w0 w base r σ) (hb : Below w.heap.size w w') : PRows w0 w' base r σ :=
  h.far (row := none) (grown_of_below hb) (fun g hg => by cases hg) (fun _ _ => .inl rfl)
/-- a change in a block that holds neither labels nor elements -/
theorem PRows.other {w0 w w' : World} {base : Nat} {r : List VV} {σ : List Pl} {g : Nat} (h : PRows w0 w base r σ) (hg : w.grownBy w' (some g)) (hr : ∀ t cs fr, w.heap[g]? = some (.cells cs t fr) → t ≠ 61 ∧ t ≠ 36) : PRows w0 w' base r σ := by
  refine h.far hg (fun q hq cs fr hc => ?_) (fun i hi => .inr fun e => ?_)
  · injection hq with hq; subst hq; exact (hr _ _ _ hc).1 rfl
  · obtain ⟨LA, lc, re, _, _, _, h4, _⟩ := h.row i hi
    obtain ⟨cs, fr, hc⟩ := own_type h4 e.symm
    exact (hr _ _ _ hc).2 rfl
theorem getD_append_left (r s : List VV) (i : Nat) (h : i < r.length) : (r ++ s).getD i v0 = r.getD i v0 := by simp [List.getD_eq_getElem?_getD, List.getElem?_append_left h]
theorem getP_append_left (r s : List Pl) (i : Nat) (h : i < r.length) : (r ++ s).getD i q0 = r.getD i q0 := by simp [List.getD_eq_getElem?_getD, List.getElem?_append_left h]
/-- a new group, without elements yet -/
theorem PRows.fresh {w0 w : World} {base : Nat} {r : List VV} {σ : List Pl} (h : PRows w0 w base r σ) {LA : Option Addr} {lc n : Nat} {l : List Lab} (hn : l.length = n) (hl : LbT w LA l) (hc : LA = none → lc = 0) :
    PRows w0 w base (r ++ [(.slice LA n lc, .slice none 0 0)]) (σ ++ [(l, [])]) := by
  subst hn
  have e1 : (r ++ [(Value.slice LA l.length lc, Value.slice none 0 0)]).getD σ.length v0 = (.slice LA l.length lc, .slice none 0 0) := by rw [← h.len]; simp
  have e2 : (σ ++ [(l, ([] : List El))]).getD σ.length q0 = (l, []) := by simp
  refine ⟨by simp [h.len], fun i hi => ?_, fun i j hi hj hne he => ?_⟩
  · by_cases hlt : i < σ.length
    · rw [getD_append_left _ _ _ (by rw [h.len]; exact hlt), getP_append_left _ _ _ hlt]
      exact h.row i hlt
    · have hi2 : i = σ.length := by simp at hi; omega
      subst hi2
      rw [e1, e2]
      exact ⟨LA, lc, [], rfl, hl, hc, World.ownsRow_nil _ _ _ _, rfl, fun i hi => absurd hi (by simp)⟩
  · by_cases hlt : i < σ.length
    · rw [getD_append_left _ _ _ (by rw [h.len]; exact hlt)] at he ⊢
      by_cases hlj : j < σ.length
      · rw [getD_append_left _ _ _ (by rw [h.len]; exact hlj)] at he
        exact h.apart i j hlt hlj hne he
      · have hj2 : j = σ.length := by simp at hj; omega
        subst hj2
        rw [e1] at he
        exact he
    · have hi2 : i = σ.length := by simp at hi; omega
      subst hi2
      rw [e1]; rfl
theorem getD_set_eq (r : List VV) (i : Nat) (x : VV) (h : i < r.length) : (r.set i x).getD i v0 = x := by simp [List.getD_eq_getElem?_getD, h]
theorem getD_set_ne (r : List VV) (i j : Nat) (x : VV) (h : i ≠ j) : (r.set i x).getD j v0 = r.getD j v0 := by simp [List.getD_eq_getElem?_getD, h]
theorem getP_set_eq (r : List Pl) (i : Nat) (x : Pl) (h : i < r.length) : (r.set i x).getD i q0 = x := by simp [List.getD_eq_getElem?_getD, h]
theorem getP_set_ne (r : List Pl) (i j : Nat) (x : Pl) (h : i ≠ j) : (r.set i x).getD j q0 = r.getD j q0 := by simp [List.getD_eq_getElem?_getD, h]
/-- one element more of a group: its row grew -/
theorem PRows.push {w0 w w' : World} {base : Nat} {r : List VV} {σ : List Pl} (h : PRows w0 w base r σ) {i : Nat} (hi : i < σ.length) {y : VV} {x : El} (hy : ElV w0 y x) {g cap : Nat} {vi : Value} {n : Nat} {re : List VV} (hv : vi = (r.getD i v0).2) (hn : n = (σ.getD i q0).2.length)
    (ho : w'.ownsRow base 36 2 (.slice (some ⟨g, 0, none⟩) (n + 1) cap) (n + 1) (flatV (re ++ [y]))) (hre : ∃ LA lc, (r.getD i v0).1 = .slice LA (σ.getD i q0).1.length lc ∧ LbT w LA (σ.getD i q0).1 ∧ (LA = none → lc = 0) ∧ w.ownsRow base 36 2 vi n (flatV re) ∧ ElVs w0 re (σ.getD i q0).2)
    (hg : w.grownBy w' vi.ownBlock) (hnew : vi.ownBlock = some g ∨ g = w.heap.size) :
    PRows w0 w' base (r.set i ((r.getD i v0).1, .slice (some ⟨g, 0, none⟩) (n + 1) cap)) (σ.set i ((σ.getD i q0).1, (σ.getD i q0).2 ++ [x])) := by
  obtain ⟨LA, lc, h1, h2, h3, h4, h5⟩ := hre
  have h61 : ∀ q, vi.ownBlock = some q → ∀ cs fr, w.heap[q]? ≠ some (.cells cs 61 fr) := fun q hq cs fr hc => own_apart h4 hc (by decide) hq
  have hri : i < r.length := by rw [h.len]; exact hi
  refine ⟨by simp [h.len], fun j hj => ?_, fun j k hj hk hne he => ?_⟩
  · rw [List.length_set] at hj
    by_cases hij : i = j
    · subst hij
      rw [getD_set_eq _ _ _ hri, getP_set_eq _ _ _ hi]
      refine ⟨LA, lc, re ++ [y], h1, lbs_far h2 hg h61, h3, ?_, ?_⟩
      · rw [List.length_append, List.length_singleton, ← hn]; exact ho
      · exact h5.append (ElVs.single hy)
    · rw [getD_set_ne _ _ _ _ hij, getP_set_ne _ _ _ _ hij]
      refine (h.row j hj).far hg h61 ?_
      cases hb : vi.ownBlock with
      | none => exact .inl rfl
      | some q =>
        refine .inr fun e => ?_
        have := h.apart i j hi hj hij (by rw [← hv, hb, e])
        rw [← hv, hb] at this
        cases this
  · rw [List.length_set] at hj hk
    have key : ∀ j, j < σ.length → i ≠ j → (r.getD j v0).2.ownBlock = some g → False := fun j hj hij e => by
      rcases hnew with hnew | hnew
      · have := h.apart i j hi hj hij (by rw [← hv, hnew, e])
        rw [← hv, hnew] at this
        cases this
      · obtain ⟨_, _, _, _, _, _, h9, _⟩ := h.row j hj
        have := (h9.lt g e).2
        omega
    by_cases hij : i = j
    · subst hij
      rw [getD_set_eq _ _ _ hri, getD_set_ne _ _ _ _ hne] at he
      exact (key k hk hne he.symm).elim
    · rw [getD_set_ne _ _ _ _ hij] at he ⊢
      by_cases hik : i = k
      · subst hik
        rw [getD_set_eq _ _ _ hri] at he
        exact (key j hj hij he).elim
      · rw [getD_set_ne _ _ _ _ hik] at he
        exact h.apart j k hj hk hne he
/-- behind the loop: groups that read as such -/
theorem PRows.read {w0 w : World} {base : Nat} {r : List VV} {σ : List Pl} (h : PRows w0 w base r σ) (hb : Below w0.heap.size w0 w) : PlVs w r σ := by
  refine ⟨h.len, fun i hi => ?_⟩
  obtain ⟨LA, lc, re, h1, h2, h3, h4, h5⟩ := h.row i hi
  obtain ⟨EA, ec, hv, hr, _⟩ := Raw.of_own (r := re) h5.1 h4
  exact ⟨LA, lc, EA, ec, Prod.ext h1 hv, h2.1, h3, re, hr, h5.below hb⟩
end Go.Proofs.YtencpjhpedenbaaGreatDoor

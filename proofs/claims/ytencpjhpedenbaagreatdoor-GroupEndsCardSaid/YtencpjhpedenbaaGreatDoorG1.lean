/- Elements and piles in memory. No condition. -/
import Derived.Test.YtencpjhpedenbaaGreatDoorH2
import Derived.Test.YtencpjhpedenbaaGreatDoorC1
import Derived.ArgAppend
import Derived.IntWalk
namespace Go.Proofs.YtencpjhpedenbaaGreatDoor
open Go.RowKit Lb
set_option linter.unusedVariables false

abbrev VV := Value × Value

def v0 : VV := (.nilIface, .nilIface)

/-- a slice of two cells each -/
def Raw (w : World) (A : Option Addr) (r : List VV) : Prop :=
  0 < r.length → ∃ b off, A = some ⟨b, off, none⟩ ∧ b < w.heap.size ∧ ∀ i, i < r.length → w.cell? ⟨b, off + i * 2, none⟩ = some (r.getD i v0).1 ∧ w.cell? ⟨b, off + i * 2 + 1, none⟩ = some (r.getD i v0).2

theorem Raw.below {w w' : World} {A : Option Addr} {r : List VV} (h : Raw w A r) (hb : Below w.heap.size w w') : Raw w' A r := by
  intro hn
  obtain ⟨b, off, rfl, hlt, hc⟩ := h hn
  exact ⟨b, off, rfl, by have := hb.size; omega, fun i hi => ⟨(hb.cell (p := ⟨b, off + i * 2, none⟩) hlt).trans (hc i hi).1, (hb.cell (p := ⟨b, off + i * 2 + 1, none⟩) hlt).trans (hc i hi).2⟩⟩

def flatV : List VV → List Value
  | [] => []
  | x :: r => x.1 :: x.2 :: flatV r

theorem flatV_append (a b : List VV) : flatV (a ++ b) = flatV a ++ flatV b := by
  induction a with
  | nil => rfl
  | cons p a ih => simp [flatV, ih]

theorem flatV_length (l : List VV) : (flatV l).length = l.length * 2 := by
  induction l with
  | nil => rfl
  | cons p a ih => simp [flatV, ih]; omega

theorem flatV_at (l : List VV) (i : Nat) (h : i < l.length) : (flatV l)[i * 2]? = some (l.getD i v0).1 ∧ (flatV l)[i * 2 + 1]? = some (l.getD i v0).2 := by
  induction l generalizing i with
  | nil => simp at h
  | cons p a ih =>
    cases i with
    | zero => simp [flatV]
    | succ i =>
      have := ih i (by simpa using h)
      simp only [flatV]
      rw [show (i + 1) * 2 = i * 2 + 1 + 1 by omega]
      simpa using this

theorem add_plain (b off k : Nat) : (⟨b, off, none⟩ : Addr).add k = ⟨b, off + k, none⟩ := by unfold Addr.add; split <;> simp_all

theorem Raw.cells {w : World} {ad : Addr} {r : List VV} (h : Raw w (some ad) r) : ∀ j u, (flatV r)[j]? = some u → w.cell? (ad.add j) = some u := by
  intro j u hu
  have hj : j < (flatV r).length := by
    rcases Nat.lt_or_ge j (flatV r).length with h1 | h1
    · exact h1
    · rw [List.getElem?_eq_none h1] at hu; cases hu
  rw [flatV_length] at hj
  obtain ⟨b, off, e, _, hc⟩ := h (by omega)
  injection e with e
  subst e
  rw [add_plain]
  have f := flatV_at r (j / 2) (by omega)
  have c := hc (j / 2) (by omega)
  by_cases hp : j % 2 = 0
  · have ej : j / 2 * 2 = j := by omega
    rw [ej] at f c
    rw [← hu, f.1]; exact c.1
  · have ej : j / 2 * 2 + 1 = j := by omega
    have eo : off + j / 2 * 2 + 1 = off + j := by omega
    rw [ej] at f
    rw [eo] at c
    rw [← hu, f.2]; exact c.2

theorem Raw.take {w : World} {A : Option Addr} {r : List VV} (h : Raw w A r) (a : Nat) : Raw w A (r.take a) := by
  intro h0
  have hl : 0 < r.length := by simp at h0; omega
  obtain ⟨b, off, e, hb, hc⟩ := h hl
  refine ⟨b, off, e, hb, fun i hi => ?_⟩
  have hi2 : i < a ∧ i < r.length := by simp at hi; omega
  have := hc i hi2.2
  rw [show (r.take a).getD i v0 = r.getD i v0 by simp [hi2.1]]
  exact this

theorem Raw.drop {w : World} {b off : Nat} {r : List VV} (h : Raw w (some ⟨b, off, none⟩) r) (a : Nat) : Raw w (some ⟨b, off + a * 2, none⟩) (r.drop a) := by
  intro h0
  have hl : 0 < r.length := by simp at h0; omega
  obtain ⟨b', off', e, hb, hc⟩ := h hl
  injection e with e
  injection e with e1 e2
  subst e1; subst e2
  refine ⟨b, off + a * 2, rfl, hb, fun i hi => ?_⟩
  have hi2 : a + i < r.length := by simp at hi; omega
  have := hc (a + i) hi2
  rw [show (r.drop a).getD i v0 = r.getD (a + i) v0 by simp [List.getD_eq_getElem?_getD, List.getElem?_drop]]
  rw [show off + a * 2 + i * 2 = off + (a + i) * 2 by omega]
  exact this

theorem Raw.of_own {w : World} {base n : Nat} {e : TypeId} {v : Value} {r : List VV} (hn : r.length = n) (h : w.ownsRow base e 2 v n (flatV r)) :
    ∃ A c, v = .slice A n c ∧ Raw w A r ∧ (A = none → c = 0) ∧ n ≤ c ∧ c ≤ 9223372036854775807 := by
  subst hn
  rcases h.2 with ⟨hv, hn⟩ | ⟨g, cap, cur, hv, _, _, h3, h4, _⟩
  · exact ⟨none, 0, by rw [hv, hn], fun h0 => by omega, fun _ => rfl, by omega, by omega⟩
  · subst hv
    unfold maxLen at h4
    refine ⟨_, cap, rfl, fun h0 => ⟨g, 0, rfl, (h.lt g rfl).2, fun i hi => ?_⟩, (fun h => by cases h), h3, by omega⟩
    have c := h.cells (g := g) rfl
    have f := flatV_at r i hi
    have e1 : (⟨g, 0, none⟩ : Addr).add (i * 2) = ⟨g, 0 + i * 2, none⟩ := by unfold Addr.add; split <;> simp_all
    have e2 : (⟨g, 0, none⟩ : Addr).add (i * 2 + 1) = ⟨g, 0 + i * 2 + 1, none⟩ := by unfold Addr.add; simp
    rw [← e1, ← e2]
    exact ⟨c _ _ f.1, c _ _ f.2⟩

theorem flatV_one {r : List VV} (h : ∀ x ∈ r, x.1.oneCell' = true ∧ x.2.oneCell' = true) : ∀ u ∈ flatV r, u.oneCell' = true := by
  induction r with
  | nil => intro u hu; simp [flatV] at hu
  | cons p l ih =>
    intro u hu
    simp only [flatV, List.mem_cons] at hu
    rcases hu with rfl | rfl | hu
    · exact (h p (by simp)).1
    · exact (h p (by simp)).2
    · exact ih (fun x hx => h x (by simp [hx])) u hu
/-! a block that is known whole -/
def Blk (w : World) (g : Nat) (t : TypeId) (cs : Array Value) : Prop := w.heap[g]? = some (.cells cs t (0, 0))
theorem Blk.lt {w : World} {g : Nat} {t : TypeId} {cs : Array Value} (h : Blk w g t cs) : g < w.heap.size := by
  rcases Nat.lt_or_ge g w.heap.size with hlt | hge
  · exact hlt
  · unfold Blk at h; rw [Array.getElem?_eq_none hge] at h; cases h
theorem Blk.cell {w : World} {g : Nat} {t : TypeId} {cs : Array Value} (h : Blk w g t cs) (i : Nat) : w.cell? ⟨g, i, none⟩ = cs[i]? := cell_of_row w g i cs t (0, 0) h
theorem Blk.frozen {w : World} {g : Nat} {t : TypeId} {cs : Array Value} (h : Blk w g t cs) (i : Nat) : w.frozen? ⟨g, i, none⟩ = false := by
  unfold Blk at h
  simp [World.frozen?, h]
theorem Blk.new (w : World) (t : TypeId) (cs : Array Value) : Blk (w.alloc (.cells cs t)) w.heap.size t cs := heap_alloc_new w _
theorem Blk.drewN {w : World} {g : Nat} {t : TypeId} {cs : Array Value} (h : Blk w g t cs) (n : Nat) : Blk (w.drewN n) g t cs := h
theorem Blk.set_ {w : World} {g : Nat} {t : TypeId} {cs : Array Value} (h : Blk w g t cs) (i : Nat) (u : Value) : Blk (w.setCell ⟨g, i, none⟩ u) g t (cs.setIfInBounds i u) := by
  unfold Blk at h ⊢
  simp [World.setCell, Array.getElem?_modify, h]
theorem Blk.alloc {w : World} {g : Nat} {t : TypeId} {cs : Array Value} (h : Blk w g t cs) (o : Obj) : Blk (w.alloc o) g t cs := (Below.heap_alloc w o g h.lt).trans h
theorem Blk.below {w w' : World} {g : Nat} {t : TypeId} {cs : Array Value} (h : Blk w g t cs) (hb : Below w.heap.size w w') : Blk w' g t cs := (hb.block g h.lt).trans h
structure Moved (B : Nat) (w w' : World) : Prop where
  os : w'.os = w.os
  tape : w'.tape = w.tape
  output : w'.output = w.output
  size : w'.heap.size = w.heap.size
  block : ∀ k, k ≠ B → w'.heap[k]? = w.heap[k]?
theorem Blk.other {w : World} {g k : Nat} {t : TypeId} {cs : Array Value} (h : Blk w g t cs) (hk : g ≠ k) (i : Nat) (u : Value) : Blk (w.setCell ⟨k, i, none⟩ u) g t cs := (Below.heap_setCell w ⟨k, i, none⟩ u g hk).trans h
theorem Blk.grown {w w' : World} {g : Nat} {t : TypeId} {cs : Array Value} {row : Option Nat} (h : Blk w g t cs) (hg : w.grownBy w' row) (hne : row ≠ some g) : Blk w' g t cs := (hg.block g h.lt (fun e => hne e.symm)).trans h

/-! elements, and piles, in memory -/
abbrev El := List Lab × Int
def z0 : El := ([], 0)
def ElV (w : World) (x : VV) (s : El) : Prop := ∃ LA lc, x = (.slice LA s.1.length lc, .int .u64 s.2) ∧ Lbs w LA s.1 ∧ (LA = none → lc = 0) ∧ Vl.Bits s.2
theorem ElV.below {w w' : World} {x : VV} {s : El} (h : ElV w x s) (hb : Below w.heap.size w w') : ElV w' x s := by
  obtain ⟨LA, lc, h1, h2, h3, h4⟩ := h
  exact ⟨LA, lc, h1, h2.below hb, h3, h4⟩
def ElVs (w : World) (r : List VV) (S : List El) : Prop := r.length = S.length ∧ ∀ i, i < S.length → ElV w (r.getD i v0) (S.getD i z0)
theorem ElVs.below {w w' : World} {r : List VV} {S : List El} (h : ElVs w r S) (hb : Below w.heap.size w w') : ElVs w' r S := ⟨h.1, fun i hi => (h.2 i hi).below hb⟩
def Els (w : World) (A : Option Addr) (S : List El) : Prop := ∃ r, Raw w A r ∧ ElVs w r S
theorem Els.below {w w' : World} {A : Option Addr} {S : List El} (h : Els w A S) (hb : Below w.heap.size w w') : Els w' A S := by
  obtain ⟨r, h1, h2⟩ := h
  exact ⟨r, h1.below hb, h2.below hb⟩
/-- one of them -/
theorem Els.at_ {w : World} {A : Option Addr} {S : List El} (h : Els w A S) {i : Nat} (hi : i < S.length) : ∃ b off LA lc, A = some ⟨b, off, none⟩ ∧ b < w.heap.size ∧
    w.cell? ⟨b, off + i * 2, none⟩ = some (.slice LA (S.getD i z0).1.length lc) ∧ w.cell? ⟨b, off + i * 2 + 1, none⟩ = some (.int .u64 (S.getD i z0).2) ∧
    Lbs w LA (S.getD i z0).1 ∧ (LA = none → lc = 0) ∧ Vl.Bits (S.getD i z0).2 := by
  obtain ⟨r, h1, hl, h2⟩ := h
  obtain ⟨b, off, rfl, hlt, hc⟩ := h1 (by omega)
  obtain ⟨LA, lc, e, h3⟩ := h2 i hi
  have := hc i (by omega)
  rw [e] at this
  exact ⟨b, off, LA, lc, rfl, hlt, this.1, this.2, h3⟩
theorem Els.addr {w : World} {A : Option Addr} {S : List El} (h : Els w A S) (hn : 0 < S.length) : ∃ b off, A = some ⟨b, off, none⟩ ∧ b < w.heap.size := by
  obtain ⟨b, off, _, _, h1, h2, _⟩ := h.at_ hn
  exact ⟨b, off, h1, h2⟩
theorem Els.nil (w : World) (A : Option Addr) : Els w A [] := ⟨[], fun h => absurd h (by simp), rfl, fun i hi => absurd hi (by simp)⟩
theorem ElVs.append {w : World} {r r' : List VV} {S S' : List El} (h : ElVs w r S) (h' : ElVs w r' S') : ElVs w (r ++ r') (S ++ S') := by
  refine ⟨by rw [List.length_append, List.length_append, h.1, h'.1], fun i hi => ?_⟩
  by_cases hlt : i < S.length
  · rw [show (r ++ r').getD i v0 = r.getD i v0 by simp [List.getD_eq_getElem?_getD, List.getElem?_append_left (show i < r.length by rw [h.1]; exact hlt)],
      show (S ++ S').getD i z0 = S.getD i z0 by simp [List.getD_eq_getElem?_getD, List.getElem?_append_left hlt]]
    exact h.2 i hlt
  · rw [show (r ++ r').getD i v0 = r'.getD (i - S.length) v0 by simp [List.getD_eq_getElem?_getD, List.getElem?_append_right (show r.length ≤ i by rw [h.1]; omega), h.1],
      show (S ++ S').getD i z0 = S'.getD (i - S.length) z0 by simp [List.getD_eq_getElem?_getD, List.getElem?_append_right (show S.length ≤ i by omega)]]
    exact h'.2 (i - S.length) (by simp at hi; omega)
theorem ElVs.single {w : World} {x : VV} {s : El} (h : ElV w x s) : ElVs w [x] [s] := ⟨rfl, fun i hi => by
  have : i = 0 := by simp at hi; omega
  subst this; exact h⟩
theorem elV_one {w : World} {x : VV} {s : El} (h : ElV w x s) : x.1.oneCell' = true ∧ x.2.oneCell' = true := by
  obtain ⟨LA, lc, rfl, _⟩ := h
  exact ⟨rfl, rfl⟩
theorem ElVs.one {w : World} {r : List VV} {S : List El} (h : ElVs w r S) : ∀ x ∈ r, x.1.oneCell' = true ∧ x.2.oneCell' = true := by
  intro x hx
  obtain ⟨i, hi, rfl⟩ := List.getElem_of_mem hx
  have := elV_one (h.2 i (by rw [← h.1]; exact hi))
  rw [show r.getD i v0 = r[i] by simp [hi]] at this
  exact this

abbrev Pl := List Lab × List El
def q0 : Pl := ([], [])
def PlV (w : World) (x : VV) (p : Pl) : Prop := ∃ LA lc EA ec, x = (.slice LA p.1.length lc, .slice EA p.2.length ec) ∧ Lbs w LA p.1 ∧ (LA = none → lc = 0) ∧ Els w EA p.2
theorem PlV.below {w w' : World} {x : VV} {p : Pl} (h : PlV w x p) (hb : Below w.heap.size w w') : PlV w' x p := by
  obtain ⟨LA, lc, EA, ec, h1, h2, h3, h4⟩ := h
  exact ⟨LA, lc, EA, ec, h1, h2.below hb, h3, h4.below hb⟩
def PlVs (w : World) (r : List VV) (S : List Pl) : Prop := r.length = S.length ∧ ∀ i, i < S.length → PlV w (r.getD i v0) (S.getD i q0)
theorem PlVs.below {w w' : World} {r : List VV} {S : List Pl} (h : PlVs w r S) (hb : Below w.heap.size w w') : PlVs w' r S := ⟨h.1, fun i hi => (h.2 i hi).below hb⟩
def Pls (w : World) (A : Option Addr) (S : List Pl) : Prop := ∃ r, Raw w A r ∧ PlVs w r S
theorem Pls.below {w w' : World} {A : Option Addr} {S : List Pl} (h : Pls w A S) (hb : Below w.heap.size w w') : Pls w' A S := by
  obtain ⟨r, h1, h2⟩ := h
  exact ⟨r, h1.below hb, h2.below hb⟩
theorem Pls.at_ {w : World} {A : Option Addr} {S : List Pl} (h : Pls w A S) {i : Nat} (hi : i < S.length) : ∃ b off LA lc EA ec, A = some ⟨b, off, none⟩ ∧ b < w.heap.size ∧
    w.cell? ⟨b, off + i * 2, none⟩ = some (.slice LA (S.getD i q0).1.length lc) ∧ w.cell? ⟨b, off + i * 2 + 1, none⟩ = some (.slice EA (S.getD i q0).2.length ec) ∧
    Lbs w LA (S.getD i q0).1 ∧ (LA = none → lc = 0) ∧ Els w EA (S.getD i q0).2 := by
  obtain ⟨r, h1, hl, h2⟩ := h
  obtain ⟨b, off, rfl, hlt, hc⟩ := h1 (by omega)
  obtain ⟨LA, lc, EA, ec, e, h3⟩ := h2 i hi
  have := hc i (by omega)
  rw [e] at this
  exact ⟨b, off, LA, lc, EA, ec, rfl, hlt, this.1, this.2, h3⟩
end Go.Proofs.YtencpjhpedenbaaGreatDoor

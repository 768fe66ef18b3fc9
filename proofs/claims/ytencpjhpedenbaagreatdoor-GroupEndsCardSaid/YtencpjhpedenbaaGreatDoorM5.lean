import Derived.Test.YtencpjhpedenbaaGreatDoorN4
import Derived.Laws.OwnMore
namespace Go.Proofs.YtencpjhpedenbaaGreatDoor
open Go.RowKit Lb
set_option linter.unusedVariables false

/-- a list of labels as cells -/
def flatL : List Lab → List Value
  | [] => []
  | p :: l => .string p.1 :: .string p.2 :: flatL l

theorem flatL_append (a b : List Lab) : flatL (a ++ b) = flatL a ++ flatL b := by
  induction a with
  | nil => rfl
  | cons p a ih => simp [flatL, ih]

theorem flatL_length (l : List Lab) : (flatL l).length = l.length * 2 := by
  induction l with
  | nil => rfl
  | cons p a ih => simp [flatL, ih]; omega

theorem flatL_at (l : List Lab) (i : Nat) (h : i < l.length) : (flatL l)[i * 2]? = some (.string (l.getD i e0).1) ∧ (flatL l)[i * 2 + 1]? = some (.string (l.getD i e0).2) := by
  induction l generalizing i with
  | nil => simp at h
  | cons p a ih =>
    cases i with
    | zero => simp [flatL]
    | succ i =>
      have := ih i (by simpa using h)
      simp only [flatL]
      rw [show (i + 1) * 2 = i * 2 + 1 + 1 by omega]
      simpa using this

def sortL (l : List Lab) : List Lab := l.mergeSort fun x y => !ltOf cmpT y x

/-- a slice of its own: it reads as a list; nil has no room -/
def OwnL (w : World) (A : Option Addr) (c : Nat) (l : List Lab) : Prop := Lbs w A l ∧ (A = none → c = 0) ∧ (∀ a, A = some a → ∃ cs fr, w.heap[a.block]? = some (.cells cs 61 fr))

theorem lab_info : (Tryz.prog.info? 61).map (fun i => (i.zero, i.size, i.bytes)) = some (some (.agg #[.string ⟨#[]⟩, .string ⟨#[]⟩]), 2, 32) := by kernel_rfl

theorem take_next (l : List Lab) (k : Nat) (h : k < l.length) : l.take (k + 1) = l.take k ++ [((l.getD k e0).1, (l.getD k e0).2)] := by
  have e : l.getD k e0 = l[k] := by simp [h]
  rw [List.take_succ_eq_append_getElem h, e]

theorem pair_atL (W : World) (x y : ByteArray) (g : Nat) (h : g = W.heap.size) (t : TypeId) : ∀ j u, ([.string x, .string y] : List Value)[j]? = some u → (W.alloc (.cells #[.string x, .string y] t)).cell? ((⟨g, 0, none⟩ : Addr).add j) = some u := by
  subst h
  intro j u hu
  match j, hu with
  | 0, hu => simp at hu; subst hu; simp [Addr.add, World.cell?_alloc_at]
  | 1, hu => simp at hu; subst hu; simp [Addr.add, World.cell?_alloc_at]
  | j + 2, hu => simp at hu

theorem not_nil (a : Addr) (n c : Nat) : Hid (Value.slice (some a) n c ≠ .slice none 0 0) := fun h => by cases h

theorem grown_of_below {a w : World} (h : Below a.heap.size a w) : a.grownBy w none := ⟨h.os, h.tape, h.output, h.size, fun i hi _ => h.block i hi⟩

theorem own_below {w w' : World} {base : Nat} {e : TypeId} {size : Nat} {v : Value} {n : Nat} {xs : List Value} (h : w.ownsRow base e size v n xs) (hb : Below w.heap.size w w') : w'.ownsRow base e size v n xs :=
  h.kept (grown_of_below hb) (by
    cases hv : v.ownBlock with
    | none => exact .inl rfl
    | some g => exact .inr (by simp))

theorem own_lbs {w : World} {base n : Nat} {v : Value} {l : List Lab} (hn : l.length = n) (h : w.ownsRow base 61 2 v n (flatL l)) : ∃ A c, v = .slice A n c ∧ OwnL w A c l := by
  subst hn
  rcases h.2 with ⟨hv, hn⟩ | ⟨g, cap, cur, hv, _, hg, _⟩
  · exact ⟨none, 0, by rw [hv, hn], fun h0 => by omega, fun _ => rfl, nofun⟩
  · subst hv
    refine ⟨_, cap, rfl, fun h0 => ⟨g, 0, rfl, (h.lt g rfl).2, fun i hi => ?_⟩, (fun h => by cases h), fun a ha => by injection ha with ha; subst ha; exact ⟨cur, _, hg⟩⟩
    have c := h.cells (g := g) rfl
    have f := flatL_at l i hi
    have e1 : (⟨g, 0, none⟩ : Addr).add (i * 2) = ⟨g, 0 + i * 2, none⟩ := by unfold Addr.add; split <;> simp_all
    have e2 : (⟨g, 0, none⟩ : Addr).add (i * 2 + 1) = ⟨g, 0 + i * 2 + 1, none⟩ := by unfold Addr.add; simp
    rw [← e1, ← e2]
    exact ⟨c _ _ f.1, c _ _ f.2⟩

def slN (a b : Lab) : Prop := sl a.1 b.1 = true

theorem slN_trans {a b c : Lab} (h1 : slN a b) (h2 : slN b c) : slN a c := sl_trans h1 h2
end Go.Proofs.YtencpjhpedenbaaGreatDoor

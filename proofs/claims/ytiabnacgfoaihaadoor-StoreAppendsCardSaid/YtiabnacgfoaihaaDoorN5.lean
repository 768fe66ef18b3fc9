import Derived.Test.YtiabnacgfoaihaaDoorN4
import Derived.Laws.OwnMore
namespace Go.Proofs.YtiabnacgfoaihaaDoor
open Go.RowKit Lb
set_option linter.unusedVariables false

/-- a list of labels as cells -/
def flatL : List Lab → List Value
  | [] => []
  | p :: l => .string p.1 :: .string p.2 :: flatL l
theorem flatL_append (a b : List Lab) : flatL (a ++ b) = flatL a ++ flatL b := by
  induction a with
  | nil => rfl
  | cons p a ih => simp [flatL, ih]
theorem flatL_length (l : List Lab) : (flatL l).length = l.length * 2 := by
  induction l with
  | nil => rfl
  | cons p a ih => simp [flatL, ih]; omega
theorem flatL_at (l : List Lab) (i : Nat) (h : i < l.length) : (flatL l)[i * 2]? = some (.string (l.getD i e0).1) ∧ (flatL l)[i * 2 + 1]? = some (.string (l.getD i e0).2) := by
  induction l generalizing i with
  | nil => simp at h
  | cons p a ih =>
    cases i with
    | zero => simp [flatL]
    | succ i =>
      have := ih i (by simpa using h)
      simp only [flatL]
      rw [show (i + 1) * 2 = i * 2 + 1 + 1 by omega]
      simpa using this

def sortL (l : List Lab) : List Lab := l.mergeSort fun x y => !ltOf cmpT y x

theorem holds_of_own {w : World} {base g cap : Nat} {l : List Lab} (h : w.ownsRow base 71 2 (.slice (some ⟨g, 0, none⟩) l.length cap) l.length (flatL l)) : Sort.HoldsK encT 2 w g 0 l.toArray := by
  intro j hj
  rw [Sort.size_flatK] at hj
  have hj' : j < l.length * 2 := by simpa using hj
  rw [Nat.zero_add, Sort.get_flatK _ _ _ _ hj]
  refine ⟨?_, h.frozenAt j⟩
  rw [h.cellAt j hj']
  have hi : j / 2 < l.length := by omega
  have e : (l.toArray)[j / 2]! = l.getD (j / 2) e0 := by simp [hi]
  have f := flatL_at l (j / 2) hi
  rw [e]
  by_cases hp : j % 2 = 0
  · have ej : j / 2 * 2 = j := by omega
    rw [ej] at f
    rw [f.1, hp]; rfl
  · have ej : j / 2 * 2 + 1 = j := by omega
    have hp1 : j % 2 = 1 := by omega
    rw [ej] at f
    rw [f.2, hp1]; rfl

theorem lbs_of_holds {w : World} {g : Nat} {l : List Lab} (hg : g < w.heap.size) (h : Sort.HoldsK encT 2 w g 0 l.toArray) : Lbs w (some ⟨g, 0, none⟩) l := by
  intro _
  refine ⟨g, 0, rfl, hg, fun i hi => ?_⟩
  have e : (l.toArray)[i]! = l.getD i e0 := by simp [hi]
  have k1 := (h (i * 2) (by rw [Sort.size_flatK]; simp; omega)).1
  have k2 := (h (i * 2 + 1) (by rw [Sort.size_flatK]; simp; omega)).1
  rw [Sort.get_flatK _ _ _ _ (by simp; omega)] at k1 k2
  rw [show i * 2 / 2 = i by omega, show i * 2 % 2 = 0 by omega, e] at k1
  rw [show (i * 2 + 1) / 2 = i by omega, show (i * 2 + 1) % 2 = 1 by omega, e] at k2
  exact ⟨k1, k2⟩

theorem below_sorted (w : World) (g off n : Nat) (d : Array Lab) (os : Array Obj) (hg : g < w.heap.size) : Below g w (sortWorldK encT 2 w g off n d os) := by
  refine ⟨rfl, rfl, rfl, by simp [sortWorldK, Sort.putRowK, Sort.putRow, Sort.mapBlock, Sort.ahead, Sort.grow], fun i hi => ?_⟩
  show (w.heap.modify g _ ++ os)[i]? = w.heap[i]?
  rw [Array.getElem?_append_left (by simp; omega), Array.getElem?_modify, if_neg (by omega)]

theorem sort_any (base g cap : Nat) (l : List Lab) (w : World) (hown : w.ownsRow base 71 2 (.slice (some ⟨g, 0, none⟩) l.length cap) l.length (flatL l)) (hl : l.length ≤ 65536) :
    Calls Tryd.prog 40 #[.slice (some ⟨g, 0, none⟩) l.length cap, .func (.func 41) #[] #[]] w fun e w' => e = .returned (.tuple #[]) ∧ Lbs w' (some ⟨g, 0, none⟩) (sortL l) ∧ Below g w w' := by
  have eg : ∀ args w, (callFunc 41 args).run Tryd.prog w = .ok (.enter 41 args) w := enters_of Tryd.func41 (by kernel_rfl) rfl
  have hg := (hown.lt g rfl).2
  have hH := holds_of_own hown
  have hcmp : CmpLays Tryd.prog 41 #[] encT 2 cmpT g 0 l.toArray.size w := fun m os dk hdk x y =>
    (tag_any x.1 x.2 y.1 y.2 _).mono fun e w' ⟨he, o, o', hw⟩ => ⟨he, 0, #[o, o'], by subst hw; rw [Sort.alloc_eq_grow, Sort.alloc_eq_grow, Sort.grow_grow]; rfl⟩
  have hc := AnyQ.slices_SortFunc_total Tryd.sortTag 2 Tryd.isAgg71 Tryd.sizeOf71 encT (fun _ => rfl) (fun x v hv => by simp [encT] at hv; rcases hv with rfl | rfl <;> rfl) cmpT swoT 41 #[] g 0 cap l.toArray w eg hcmp hH hg (by simp; omega) totT
  rw [List.size_toArray] at hc
  change Calls Tryd.prog 40 #[.slice (some ⟨g, 0, none⟩) l.length cap, .func (.func 41) #[] #[]] w _ at hc
  refine hc.mono ?_
  rintro e w' ⟨he, n, os, rfl⟩
  have hsz : (sortL l).toArray.size = l.toArray.size := by simp [sortL]
  have hh := holdsK_sortWorldK_c encT 2 w g 0 l.toArray (sortL l).toArray n os hH hg hsz
  have hs := size_sortWorldK_c encT 2 w g 0 n (sortL l).toArray os
  exact ⟨he, lbs_of_holds (Nat.lt_of_lt_of_le hg hs) hh, below_sorted w g 0 n (sortL l).toArray os hg⟩
end Go.Proofs.YtiabnacgfoaihaaDoor

/- Plain facts: what is made of labels. No condition. -/
import Derived.Test.YtencpjhpedenbaaGreatDoorM5
namespace Go.Proofs.YtencpjhpedenbaaGreatDoor
open Go.RowKit Lb

/-- a label that may be -/
def okB (x : Lab) : Bool := nameB x.1 && valB x.2
def Ok (l : List Lab) (k : Nat) : Prop := ∀ i, i < k → okB (l.getD i e0) = true
instance (l : List Lab) (k : Nat) : Decidable (Ok l k) := by unfold Ok; infer_instance
/-- no two neighbours among the first k bear one name -/
def Apart (l : List Lab) (k : Nat) : Prop := ∀ i, i < k → 0 < i → ((l.getD (i - 1) e0).1.toList == (l.getD i e0).1.toList) = false
instance (l : List Lab) (k : Nat) : Decidable (Apart l k) := by unfold Apart; infer_instance
def full (x : Lab) : Bool := !x.2.toList.isEmpty
/-- the labels that stay, of the first k -/
def stay (l : List Lab) (k : Nat) : List Lab := (l.take k).filter full

/-- what is made; none: they may not be -/
def makeF (l : List Lab) : Option (List Lab) :=
  if Ok l l.length ∧ Apart (sortL l) (sortL l).length ∧ ((sortL l).filter full).length ≤ 16 then some ((sortL l).filter full) else none

theorem sortL_length (l : List Lab) : (sortL l).length = l.length := by simp [sortL]
theorem stay_le (l : List Lab) (k : Nat) : (stay l k).length ≤ k := Nat.le_trans (List.length_filter_le _ _) (List.length_take_le _ _)
theorem stay_next (l : List Lab) (k : Nat) (h : k < l.length) : stay l (k + 1) = stay l k ++ (if full (l.getD k e0) = true then [l.getD k e0] else []) := by
  unfold stay
  rw [List.take_succ_eq_append_getElem h, List.filter_append]
  have e : l.getD k e0 = l[k] := by simp [h]
  rw [e]
  congr 1
  by_cases hf : full l[k] = true <;> simp [hf]
theorem stay_out {l : List Lab} {k : Nat} (h : k < l.length) (hs : (l.getD k e0).2.toList.isEmpty = true) : stay l (k + 1) = stay l k := by
  rw [stay_next l k h, if_neg (by simp only [full, hs]; decide), List.append_nil]
theorem stay_in {l : List Lab} {k : Nat} (h : k < l.length) (hs : (l.getD k e0).2.toList.isEmpty = false) : stay l (k + 1) = stay l k ++ [((l.getD k e0).1, (l.getD k e0).2)] := by
  rw [stay_next l k h, if_pos (by simp only [full, hs]; rfl)]
theorem stay_all (l : List Lab) : stay l l.length = l.filter full := by unfold stay; rw [List.take_length]

theorem ok_zero (l : List Lab) : Ok l 0 := fun _ h => absurd h (Nat.not_lt_zero _)
theorem ok_succ {l : List Lab} {k : Nat} (h : Ok l k) (h1 : okB (l.getD k e0) = true) : Ok l (k + 1) := by
  intro i hi
  by_cases e : i = k
  · subst e; exact h1
  · exact h i (by omega)
theorem apart_zero (l : List Lab) : Apart l 0 := fun _ h => absurd h (Nat.not_lt_zero _)
theorem apart_succ {l : List Lab} {k : Nat} (h : Apart l k) (h1 : 0 < k → ((l.getD (k - 1) e0).1.toList == (l.getD k e0).1.toList) = false) : Apart l (k + 1) := by
  intro i hi h0
  by_cases e : i = k
  · subst e; exact h1 h0
  · exact h i (by omega) h0
theorem make_bad {l : List Lab} {k : Nat} (h : k < l.length) (h1 : okB (l.getD k e0) = false) : makeF l = none := by
  unfold makeF
  rw [if_neg]
  rintro ⟨h2, _⟩
  rw [h2 k h] at h1; cases h1
theorem make_twice {l : List Lab} {k : Nat} (h0 : 0 < k) (h : k < (sortL l).length) (h1 : (((sortL l).getD (k - 1) e0).1.toList == ((sortL l).getD k e0).1.toList) = true) : makeF l = none := by
  unfold makeF
  rw [if_neg]
  rintro ⟨_, h2, _⟩
  rw [h2 k h h0] at h1; cases h1
theorem make_many {l : List Lab} (h : 16 < ((sortL l).filter full).length) : makeF l = none := by
  unfold makeF
  rw [if_neg]
  rintro ⟨_, _, h2⟩
  omega
theorem make_some {l : List Lab} (h1 : Ok l l.length) (h2 : Apart (sortL l) (sortL l).length) (h3 : ¬ 16 < ((sortL l).filter full).length) : makeF l = some ((sortL l).filter full) := by
  unfold makeF
  rw [if_pos ⟨h1, h2, by omega⟩]
end Go.Proofs.YtencpjhpedenbaaGreatDoor

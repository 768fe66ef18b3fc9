/- Plain facts: what is made does not hang on the order; lists of labels are in one order. No condition. -/
import Derived.Test.YtencpjhpedenbaaGreatDoorM2
namespace Go.Proofs.YtencpjhpedenbaaGreatDoor
open Go.RowKit Lb

def leT (x y : Lab) : Bool := !ltOf cmpT y x
theorem leT_iff (x y : Lab) : leT x y = true ↔ ¬ ltT y x := by
  unfold leT
  rw [← ltOf_iff]
  cases ltOf cmpT y x <;> simp
theorem leT_trans (x y z : Lab) (h1 : leT x y = true) (h2 : leT y z = true) : leT x z = true := by
  rw [leT_iff] at *
  intro h
  rcases ltT_tri x y with k | rfl | k
  · rcases ltT_tri y z with j | rfl | j
    · exact ltT_irrefl _ (ltT_trans (ltT_trans k j) h)
    · exact ltT_irrefl _ (ltT_trans k h)
    · exact h2 j
  · exact h2 h
  · exact h1 k
theorem leT_total (x y : Lab) : (leT x y || leT y x) = true := by
  rcases ltT_tri x y with k | rfl | k
  · have : leT x y = true := (leT_iff x y).2 fun h => ltT_irrefl _ (ltT_trans k h)
    simp [this]
  · have : leT x x = true := (leT_iff x x).2 (ltT_irrefl _)
    simp [this]
  · have : leT y x = true := (leT_iff y x).2 fun h => ltT_irrefl _ (ltT_trans k h)
    simp [this]
theorem leT_anti (x y : Lab) (h1 : leT x y = true) (h2 : leT y x = true) : x = y := by
  rw [leT_iff] at *
  rcases ltT_tri x y with k | k | k
  · exact absurd k h2
  · exact k
  · exact absurd k h1
theorem sortL_eq (l : List Lab) : sortL l = l.mergeSort leT := rfl
theorem sortL_perm (l : List Lab) : (sortL l).Perm l := List.mergeSort_perm l leT
theorem sortL_sorted (l : List Lab) : (sortL l).Pairwise (fun a b => leT a b = true) := List.pairwise_mergeSort leT_trans leT_total l
theorem sortL_of {l s : List Lab} (hp : s.Perm l) (hs : s.Pairwise (fun a b => leT a b = true)) : sortL l = s :=
  List.Perm.eq_of_pairwise (fun a b _ _ h1 h2 => leT_anti a b h1 h2) (sortL_sorted l) hs ((sortL_perm l).trans hp.symm)
theorem sortL_same {l l' : List Lab} (hp : l.Perm l') : sortL l = sortL l' := sortL_of ((sortL_perm l').trans hp.symm) (sortL_sorted l')
theorem ok_iff (l : List Lab) : Ok l l.length ↔ ∀ x ∈ l, okB x = true := by
  constructor
  · intro h x hx
    obtain ⟨i, hi, rfl⟩ := List.getElem_of_mem hx
    have := h i hi
    rwa [show l.getD i e0 = l[i] by simp [hi]] at this
  · intro h i hi
    rw [show l.getD i e0 = l[i] by simp [hi]]
    exact h _ (List.getElem_mem hi)
theorem makeF_perm {l l' : List Lab} (hp : l.Perm l') : makeF l = makeF l' := by
  unfold makeF
  rw [sortL_same hp]
  have e : Ok l l.length ↔ Ok l' l'.length := by
    rw [ok_iff, ok_iff]
    exact ⟨fun h x hx => h x (hp.mem_iff.2 hx), fun h x hx => h x (hp.mem_iff.1 hx)⟩
  simp only [e]

def b2 : Lab := (⟨#[98]⟩, ⟨#[50]⟩)
def a1 : Lab := (⟨#[97]⟩, ⟨#[49]⟩)
def c0 : Lab := (⟨#[99]⟩, ⟨#[]⟩)
def n2 : Lab := (⟨#[50, 98]⟩, ⟨#[50]⟩)
theorem three_sorted : sortL [b2, a1, c0] = [a1, b2, c0] := by
  refine sortL_of (List.Perm.swap _ _ _) ?_
  decide +kernel
theorem three_made : makeF [b2, a1, c0] = some [a1, b2] := by
  have h := @make_some [b2, a1, c0] (by decide +kernel)
  rw [three_sorted] at h
  rw [h (by decide +kernel) (by decide +kernel)]
  exact congrArg some (by decide +kernel)
theorem one_refused : makeF [n2] = none := by decide +kernel

/-! lists of labels -/
def cmpR : List Lab → List Lab → Int
  | [], [] => 0
  | [], _ :: _ => -1
  | _ :: _, [] => 1
  | a :: x, b :: y => if cmpT a b = 0 then cmpR x y else cmpT a b

theorem cmpFrom_eq (a b : List Lab) : ∀ n k, k + n = min a.length b.length → cmpFrom a b n k = cmpR (a.drop k) (b.drop k)
  | 0, k, h => by
    rw [cmpFrom]
    unfold cmpI
    by_cases h1 : a.length < b.length
    · rw [if_pos (by omega), List.drop_eq_nil_of_le (show a.length ≤ k by omega), List.drop_eq_getElem_cons (show k < b.length by omega)]
      rfl
    · by_cases h2 : b.length < a.length
      · rw [if_neg (by omega), if_pos (by omega), List.drop_eq_nil_of_le (show b.length ≤ k by omega), List.drop_eq_getElem_cons (show k < a.length by omega)]
        rfl
      · rw [if_neg (by omega), if_neg (by omega), List.drop_eq_nil_of_le (show a.length ≤ k by omega), List.drop_eq_nil_of_le (show b.length ≤ k by omega)]
        rfl
  | n + 1, k, h => by
    have e1 : a.getD k e0 = a[k]'(by omega) := by simp [show k < a.length by omega]
    have e2 : b.getD k e0 = b[k]'(by omega) := by simp [show k < b.length by omega]
    rw [cmpFrom, cmpFrom_eq a b n (k + 1) (by omega), List.drop_eq_getElem_cons (show k < a.length by omega), List.drop_eq_getElem_cons (show k < b.length by omega), cmpR, e1, e2]
theorem cmpL_eq (a b : List Lab) : cmpL a b = cmpR a b := by
  have := cmpFrom_eq a b (min a.length b.length) 0 (by omega)
  simpa [cmpL] using this

theorem cmpT_anti (x y : Lab) : cmpT y x = - cmpT x y := by
  rcases ltT_tri x y with h | rfl | h
  · rw [cmpT_neg.2 h, cmpT_pos.2 h]; rfl
  · rw [cmpT_eq]; rfl
  · rw [cmpT_pos.2 h, cmpT_neg.2 h]
theorem cmpT_in (x y : Lab) : -1 ≤ cmpT x y ∧ cmpT x y ≤ 1 := by
  rcases cmpT_cases x y with ⟨h, _⟩ | ⟨h, _⟩ | ⟨h, _⟩ <;> omega
theorem cmpT_ge {x y z : Lab} (h1 : 0 ≤ cmpT x y) (h2 : 0 ≤ cmpT y z) : 0 ≤ cmpT x z ∧ (cmpT x z = 0 → cmpT x y = 0 ∧ cmpT y z = 0) := by
  rcases ltT_tri x y with h | rfl | h
  · rw [cmpT_neg.2 h] at h1; omega
  · exact ⟨h2, fun h => ⟨cmpT_eq _, h⟩⟩
  · rcases ltT_tri y z with j | rfl | j
    · rw [cmpT_neg.2 j] at h2; omega
    · exact ⟨h1, fun h => ⟨h, cmpT_eq _⟩⟩
    · rw [cmpT_pos.2 (ltT_trans j h)]; omega
theorem cmpR_anti : ∀ a b : List Lab, cmpR b a = - cmpR a b
  | [], [] => rfl
  | [], _ :: _ => rfl
  | _ :: _, [] => rfl
  | a :: x, b :: y => by
    rw [cmpR, cmpR, cmpT_anti a b, cmpR_anti x y]
    by_cases h : cmpT a b = 0
    · rw [if_pos (by omega), if_pos h]
    · rw [if_neg (by omega), if_neg h]
theorem cmpR_in : ∀ a b : List Lab, -1 ≤ cmpR a b ∧ cmpR a b ≤ 1
  | [], [] => by decide
  | [], _ :: _ => by simp [cmpR]
  | _ :: _, [] => by simp [cmpR]
  | a :: x, b :: y => by
    rw [cmpR]
    split
    · exact cmpR_in x y
    · exact cmpT_in a b
theorem cmpR_self : ∀ a : List Lab, cmpR a a = 0
  | [] => rfl
  | a :: x => by rw [cmpR, cmpT_eq, if_pos rfl]; exact cmpR_self x
theorem cmpR_ge : ∀ a b c : List Lab, 0 ≤ cmpR a b → 0 ≤ cmpR b c → 0 ≤ cmpR a c
  | [], [], _, _, h => h
  | [], _ :: _, _, h, _ => by simp [cmpR] at h
  | _ :: _, _, [], _, _ => by simp [cmpR]
  | _ :: _, [], _ :: _, _, h => by simp [cmpR] at h
  | a :: x, b :: y, c :: z, h1, h2 => by
    rw [cmpR] at h1 h2 ⊢
    have k1 : 0 ≤ cmpT a b := by by_cases h : cmpT a b = 0 <;> simp_all
    have k2 : 0 ≤ cmpT b c := by by_cases h : cmpT b c = 0 <;> simp_all
    obtain ⟨k3, k4⟩ := cmpT_ge k1 k2
    by_cases h : cmpT a c = 0
    · obtain ⟨j1, j2⟩ := k4 h
      rw [if_pos j1] at h1
      rw [if_pos j2] at h2
      rw [if_pos h]
      exact cmpR_ge x y z h1 h2
    · rw [if_neg h]; exact k3
theorem cmpR_le (a b c : List Lab) (h1 : cmpR a b ≤ 0) (h2 : cmpR b c ≤ 0) : cmpR a c ≤ 0 := by
  have k1 := cmpR_anti a b
  have k2 := cmpR_anti b c
  have k3 := cmpR_anti a c
  have := cmpR_ge c b a (by omega) (by omega)
  omega
end Go.Proofs.YtencpjhpedenbaaGreatDoor

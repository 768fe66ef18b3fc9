/- Groups as lists: what holds of them as elements come one by one. No condition. -/
import Derived.Test.YtencpjhpedenbaaGreatDoorG7
import Derived.Test.YtencpjhpedenbaaGreatDoorG8
namespace Go.Proofs.YtencpjhpedenbaaGreatDoor
open Lb
set_option linter.unusedVariables false

def sizeS (σ : List Pl) : Nat := (σ.map fun p => p.2.length).sum
/-- what holds of the groups of the first k elements -/
structure PInv (how : Int) (ns : List ByteArray) (S : List El) (k : Nat) (σ : List Pl) : Prop where
  size : sizeS σ = k
  few : σ.length ≤ k
  full : ∀ p ∈ σ, 0 < p.2.length
  keys : (σ.map fun p => p.1).Pairwise fun a b => keyF a ≠ keyF b
  labs : ∀ p ∈ σ, ∃ x ∈ S, p.1 = labF how ns x.1
  elems : ∀ p ∈ σ, ∀ x ∈ p.2, x ∈ S
  perm : (σ.flatMap fun p => p.2).Perm (S.take k)
  one : ¬ how = 1 → ¬ how = 2 → σ = if k = 0 then [] else [([], S.take k)]
theorem PInv.start (how : Int) (ns : List ByteArray) (S : List El) : PInv how ns S 0 [] :=
  ⟨rfl, Nat.le_refl _, nofun, List.Pairwise.nil, nofun, nofun, List.Perm.nil, fun _ _ => rfl⟩
theorem size_set : ∀ (σ : List Pl) (i : Nat) (hi : i < σ.length) (x : El), sizeS (σ.set i (σ[i].1, σ[i].2 ++ [x])) = sizeS σ + 1
  | p :: σ, 0, _, x => by simp [sizeS]; omega
  | p :: σ, i + 1, hi, x => by
    have := size_set σ i (by simpa using hi) x
    simp only [sizeS, List.set_cons_succ, List.map_cons, List.sum_cons, List.getElem_cons_succ] at this ⊢
    omega
theorem flat_set : ∀ (σ : List Pl) (i : Nat) (hi : i < σ.length) (x : El), ((σ.set i (σ[i].1, σ[i].2 ++ [x])).flatMap fun p => p.2).Perm ((σ.flatMap fun p => p.2) ++ [x])
  | p :: σ, 0, _, x => by
    simp only [List.set_cons_zero, List.flatMap_cons, List.getElem_cons_zero, List.append_assoc]
    exact List.Perm.append_left _ List.perm_append_comm
  | p :: σ, i + 1, hi, x => by
    have := flat_set σ i (by simpa using hi) x
    simp only [List.set_cons_succ, List.flatMap_cons, List.getElem_cons_succ, List.append_assoc]
    exact List.Perm.append_left _ this
theorem take_one {S : List El} {k : Nat} (hk : k < S.length) : S.take (k + 1) = S.take k ++ [S.getD k z0] := by
  rw [List.take_succ_eq_append_getElem hk]
  simp [hk]
theorem fst_set (σ : List Pl) (i : Nat) (hi : i < σ.length) (l : List El) : (σ.set i (σ[i].1, l)).map (fun p => p.1) = σ.map (fun p => p.1) := by
  rw [List.map_set]
  apply List.ext_getElem
  · simp
  · intro n h1 h2
    simp only [List.getElem_set, List.getElem_map]
    split
    · rename_i h; subst h; rfl
    · rfl
theorem labF_none {how : Int} (h1 : ¬ how = 1) (h2 : ¬ how = 2) (ns : List ByteArray) (l : List Lab) : labF how ns l = [] := by
  unfold labF; rw [if_neg h1, if_neg h2]
theorem PInv.fresh {how : Int} {ns : List ByteArray} {S : List El} {k : Nat} {σ : List Pl} (h : PInv how ns S k σ) (hk : k < S.length) (hn : ∀ p ∈ σ, keyF p.1 ≠ keyF (labF how ns (S.getD k z0).1)) :
    PInv how ns S (k + 1) (σ ++ [(labF how ns (S.getD k z0).1, [S.getD k z0])]) := by
  have hmem : S.getD k z0 ∈ S := by rw [show S.getD k z0 = S[k] by simp [hk]]; exact List.getElem_mem hk
  refine ⟨?_, ?_, ?_, ?_, ?_, ?_, ?_, ?_⟩
  · have := h.size
    unfold sizeS at this ⊢
    simp [this]
  · simp; exact h.few
  · intro p hp
    rcases List.mem_append.1 hp with hp | hp
    · exact h.full p hp
    · rw [List.mem_singleton.1 hp]; simp
  · rw [List.map_append, List.pairwise_append]
    refine ⟨h.keys, List.pairwise_singleton _ _, fun a ha b hb => ?_⟩
    obtain ⟨p, hp, rfl⟩ := List.mem_map.1 ha
    rw [List.mem_singleton.1 hb]
    exact hn p hp
  · intro p hp
    rcases List.mem_append.1 hp with hp | hp
    · exact h.labs p hp
    · rw [List.mem_singleton.1 hp]; exact ⟨_, hmem, rfl⟩
  · intro p hp x hx
    rcases List.mem_append.1 hp with hp | hp
    · exact h.elems p hp x hx
    · rw [List.mem_singleton.1 hp] at hx
      rw [List.mem_singleton.1 hx]; exact hmem
  · rw [take_one hk, List.flatMap_append]
    exact List.Perm.append h.perm (by simp)
  · intro h1 h2
    have ho := h.one h1 h2
    by_cases hk0 : k = 0
    · subst hk0
      rw [if_pos rfl] at ho
      subst ho
      rw [if_neg (by omega), labF_none h1 h2]
      have e : S.take (0 + 1) = [S.getD 0 z0] := by
        rw [List.take_succ_eq_append_getElem hk]
        simp [hk]
      rw [e]; rfl
    · rw [if_neg hk0] at ho
      subst ho
      have := hn ([], S.take k) (by simp)
      rw [labF_none h1 h2] at this
      exact absurd rfl this
theorem PInv.old {how : Int} {ns : List ByteArray} {S : List El} {k : Nat} {σ : List Pl} (h : PInv how ns S k σ) (hk : k < S.length) {i : Nat} (hi : i < σ.length) :
    PInv how ns S (k + 1) (σ.set i ((σ.getD i q0).1, (σ.getD i q0).2 ++ [S.getD k z0])) := by
  have hmem : S.getD k z0 ∈ S := by rw [show S.getD k z0 = S[k] by simp [hk]]; exact List.getElem_mem hk
  have hg : σ.getD i q0 = σ[i] := by simp [hi]
  have hgm : σ[i] ∈ σ := List.getElem_mem hi
  rw [hg]
  have hm : ∀ p, p ∈ σ.set i (σ[i].1, σ[i].2 ++ [S.getD k z0]) → p ∈ σ ∨ p = (σ[i].1, σ[i].2 ++ [S.getD k z0]) := fun p hp => List.mem_or_eq_of_mem_set hp
  refine ⟨?_, ?_, ?_, ?_, ?_, ?_, ?_, ?_⟩
  · rw [size_set σ i hi, h.size]
  · rw [List.length_set]; exact Nat.le_succ_of_le h.few
  · intro p hp
    rcases hm p hp with hp | rfl
    · exact h.full p hp
    · simp
  · rw [fst_set σ i hi]; exact h.keys
  · intro p hp
    rcases hm p hp with hp | rfl
    · exact h.labs p hp
    · exact h.labs σ[i] hgm
  · intro p hp x hx
    rcases hm p hp with hp | rfl
    · exact h.elems p hp x hx
    · rcases List.mem_append.1 hx with hx | hx
      · exact h.elems σ[i] hgm x hx
      · rw [List.mem_singleton.1 hx]; exact hmem
  · rw [take_one hk]
    exact (flat_set σ i hi _).trans (h.perm.append_right _)
  · intro h1 h2
    have ho := h.one h1 h2
    by_cases hk0 : k = 0
    · subst hk0
      rw [if_pos rfl] at ho
      subst ho
      simp at hi
    · rw [if_neg hk0] at ho
      subst ho
      have : i = 0 := by simp at hi; omega
      subst this
      rw [if_neg (by omega), List.take_succ_eq_append_getElem hk]
      simp [hk]
end Go.Proofs.YtencpjhpedenbaaGreatDoor

import Derived.Test.YtiabnacgfoaihaaDoorK2
namespace Go.Proofs.YtiabnacgfoaihaaDoor
open Go.RowKit Lb
set_option linter.unusedVariables false

def seqB (x y : ByteArray) : Bool := x.toList == y.toList
theorem seqB_iff (x y : ByteArray) : seqB x y = true ↔ x = y := by
  unfold seqB
  rw [beq_iff_eq]
  exact ⟨toList_inj, fun h => by rw [h]⟩
/-! made labels -/
def slN (a b : Lab) : Prop := sl a.1 b.1 = true
theorem slN_trans {a b c : Lab} (h1 : slN a b) (h2 : slN b c) : slN a c := sl_trans h1 h2
theorem rising_of : ∀ s : List Lab, s.Pairwise (fun a b => leT a b = true) → Apart s s.length → s.Pairwise slN
  | [], _, _ => List.Pairwise.nil
  | [x], _, _ => List.pairwise_singleton _ _
  | x :: y :: t, h1, h2 => by
    have h1' := List.pairwise_cons.1 h1
    have h2' : Apart (y :: t) (y :: t).length := by
      intro i hi h0
      have := h2 (i + 1) (by simp at hi ⊢; omega) (by omega)
      have e1 : (x :: y :: t).getD (i + 1 - 1) e0 = (y :: t).getD (i - 1) e0 := by
        obtain ⟨j, rfl⟩ : ∃ j, i = j + 1 := ⟨i - 1, by omega⟩
        simp
      have e2 : (x :: y :: t).getD (i + 1) e0 = (y :: t).getD i e0 := by simp
      rw [e1, e2] at this
      exact this
    have ih := rising_of (y :: t) h1'.2 h2'
    have hxy : slN x y := by
      have hne := h2 1 (by simp) (by omega)
      simp only [Nat.sub_self, List.getD_cons_zero, List.getD_cons_succ] at hne
      have hle := (leT_iff x y).1 (h1'.1 y (by simp))
      rcases ltT_tri x y with k | k | k
      · rcases k with k | ⟨e, _⟩
        · exact k
        · rw [e] at hne; simp at hne
      · rw [k] at hne; simp at hne
      · exact absurd k hle
    refine List.pairwise_cons.2 ⟨fun z hz => ?_, ih⟩
    rcases List.mem_cons.1 hz with rfl | hz
    · exact hxy
    · exact slN_trans hxy ((List.pairwise_cons.1 ih).1 z hz)
theorem made_facts {l o : List Lab} (h : makeF l = some o) : (∀ x ∈ o, okB x = true) ∧ (∀ x ∈ o, full x = true) ∧ o.Pairwise slN ∧ o.length ≤ 16 := by
  unfold makeF at h
  split at h
  · rename_i hh
    obtain ⟨h1, h2, h3⟩ := hh
    injection h with h
    subst h
    refine ⟨fun x hx => ?_, fun x hx => (List.mem_filter.1 hx).2, (rising_of _ (sortL_sorted l) h2).filter _, h3⟩
    exact (ok_iff l).1 h1 x ((sortL_perm l).mem_iff.1 (List.mem_filter.1 hx).1)
  · cases h
theorem slN_ne {a b : Lab} (h : slN a b) : (a.1.toList == b.1.toList) = false := by
  cases k : (a.1.toList == b.1.toList) with
  | false => rfl
  | true =>
    have e : a.1 = b.1 := (seqB_iff a.1 b.1).1 k
    unfold slN at h
    rw [e, sl_irrefl] at h; cases h
theorem slN_le {a b : Lab} (h : slN a b) : leT a b = true := by
  rw [leT_iff]
  intro k
  exact ltT_irrefl _ (ltT_trans (.inl h) k)
theorem made_again {l o : List Lab} (h : makeF l = some o) : makeF o = some o := by
  obtain ⟨h1, h2, h3, h4⟩ := made_facts h
  have hs : sortL o = o := sortL_of (List.Perm.refl _) (h3.imp fun h => slN_le h)
  have hf : o.filter full = o := List.filter_eq_self.2 h2
  have := @make_some o ((ok_iff o).2 h1)
  rw [hs, hf] at this
  refine this (fun i hi h0 => ?_) (by omega)
  have := List.pairwise_iff_getElem.1 h3 (i - 1) i (by omega) hi (by omega)
  rw [show o.getD (i - 1) e0 = o[i - 1]'(by omega) by simp [show i - 1 < o.length by omega], show o.getD i e0 = o[i] by simp [hi]]
  exact slN_ne this
end Go.Proofs.YtiabnacgfoaihaaDoor

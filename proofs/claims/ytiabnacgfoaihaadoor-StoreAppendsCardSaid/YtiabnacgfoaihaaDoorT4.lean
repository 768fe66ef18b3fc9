/- Plain facts: a store with one point more, and then another one. No condition. -/
import Derived.Test.YtiabnacgfoaihaaDoorT1
import Derived.Test.YtiabnacgfoaihaaDoorS8
namespace Go.Proofs.YtiabnacgfoaihaaDoor
open Go.RowKit Lb
set_option linter.unusedVariables false

def LowK (k : Nat) (S : List Ser) : Prop := S.length + many S ≤ k ∧ ∀ x ∈ S, x.1.length ≤ 40
theorem many_cons (y : Ser) (S : List Ser) : many (y :: S) = y.2.length + many S := by unfold many; rw [List.map_cons, List.sum_cons]
theorem mem_many : ∀ {S : List Ser} {x : Ser}, x ∈ S → x.2.length ≤ many S
  | [], _, h => by cases h
  | y :: S, x, h => by
    rw [many_cons]
    rcases List.mem_cons.1 h with rfl | h
    · omega
    · have := mem_many h; omega
theorem low_few {k : Nat} {S : List Ser} (h : LowK k S) (hk : k ≤ 65536) : Few S := by
  refine ⟨by have := h.1; omega, fun i hi => ?_⟩
  rw [getD_at hi]
  have h1 := h.2 _ (List.getElem_mem hi)
  have h2 := mem_many (List.getElem_mem hi)
  have := h.1
  exact ⟨by omega, by omega⟩
theorem low_low {S : List Ser} (h : Low S) (hs : ∀ l : List Lab, shortB l = true → l.length ≤ 40) : LowK 400 S := by
  refine ⟨h.1, fun x hx => ?_⟩
  obtain ⟨i, hi, rfl⟩ := List.getElem_of_mem hx
  have := h.2 i hi
  rw [getD_at hi] at this
  exact hs _ this
theorem short_40 {l : List Lab} (h : shortB l = true) : l.length ≤ 40 := by
  unfold shortB at h
  simp only [Bool.and_eq_true, decide_eq_true_eq] at h
  exact h.2
theorem low_app {k : Nat} {S : List Ser} (h : LowK k S) (hS : storeB S = true) {m : List Lab} (hm : m.length ≤ 40) (p : Pt) : LowK (k + 2) (appOut S m p) := by
  refine ⟨?_, fun x hx => ?_⟩
  · rw [many_app hS]
    have := app_length S m p
    have := h.1
    omega
  · rcases (mem_app hS m p x).1 hx with rfl | hx
    · exact hm
    · exact h.2 x hx.1
theorem last_snoc (l : List Pt) (p : Pt) : lastT (l ++ [p]) = p.1 := by unfold lastT; simp
/-- what Append took -/
theorem app_took {S R : List Ser} {l : List Lab} {p : Pt} (h : appF S l p = (0, R)) : ∃ m, storeB S = true ∧ makeF l = some m ∧ ¬ m.length = 0 ∧ tmB p.1 = true ∧ (0 < (ptsAt S m).length → lastT (ptsAt S m) < p.1) ∧ R = appOut S m (p.1, normI p.2) := by
  cases hS : storeB S with
  | false => have := app_1 (l := l) (p := p) hS; rw [h] at this; simp at this
  | true =>
    cases hm : makeF l with
    | none => have := app_2 (p := p) hS hm; rw [h] at this; simp at this
    | some m =>
      by_cases h0 : m.length = 0
      · have := app_3 (p := p) hS hm h0; rw [h] at this; simp at this
      · cases ht : tmB p.1 with
        | false => have := app_4 hS hm h0 ht; rw [h] at this; simp at this
        | true =>
          have h5 := app_5 hS hm h0 ht
          rw [h] at h5
          split at h5
          · simp at h5
          · rename_i hn
            injection h5 with _ h5
            exact ⟨m, rfl, rfl, h0, rfl, fun h1 => by rcases Int.lt_or_le (lastT (ptsAt S m)) p.1 with h2 | h2; exact h2; exact absurd ⟨h1, h2⟩ hn, h5⟩
theorem took_right {S R : List Ser} {l m : List Lab} {p : Pt} (hS : storeB S = true) (hm : makeF l = some m) (h0 : ¬ m.length = 0) (ht : tmB p.1 = true) (hl : 0 < (ptsAt S m).length → lastT (ptsAt S m) < p.1) (hR : R = appOut S m (p.1, normI p.2)) :
    storeB R = true ∧ ptsAt R m = ptsAt S m ++ [(p.1, normI p.2)] := by
  subst hR
  have hr := app_right hS hm h0 (p := (p.1, normI p.2)) ht (norm_norm _) hl
  exact ⟨hr, pts_mem hr ((mem_app hS m _ _).2 (.inl rfl))⟩
/-- what is appended is found -/
theorem took_found {S : List Ser} (hS : storeB S = true) (m : List Lab) (p : Pt) : Found (appOut S m p) m (reach S m) true ∧ reach S m < (appOut S m p).length ∧ (appOut S m p).getD (reach S m) s0 = (m, ptsAt S m ++ [p]) := by
  obtain ⟨L, R, hp⟩ := parts_of hS m
  have hL : L.length = reach S m := by rw [hp.2.2.1, List.length_take]; have := (reach_is S m).1; omega
  rw [app_parts hp]
  have hlt : reach S m < (L ++ [(m, ptsAt S m ++ [p])] ++ R).length := by simp; omega
  have hat : (L ++ [(m, ptsAt S m ++ [p])] ++ R).getD (reach S m) s0 = (m, ptsAt S m ++ [p]) := by
    rw [← hL]; simp [List.getD_eq_getElem?_getD]
  refine ⟨.inl ⟨rfl, hlt, by rw [hat]; exact cmpL_self m, fun i hi => ?_⟩, hlt, hat⟩
  have e : (L ++ [(m, ptsAt S m ++ [p])] ++ R).getD i s0 = L[i]'(by omega) := by
    rw [List.append_assoc]
    simp [List.getD_eq_getElem?_getD, List.getElem?_append_left (show i < L.length by omega)]
    rw [List.getElem?_eq_getElem (by omega)]; rfl
  rw [e]
  have := hp.1 _ (List.getElem_mem (show i < L.length by omega))
  omega
end Go.Proofs.YtiabnacgfoaihaaDoor

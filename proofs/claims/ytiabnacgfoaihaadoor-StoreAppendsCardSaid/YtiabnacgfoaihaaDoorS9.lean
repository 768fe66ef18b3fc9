/- Plain facts: a right store with a point more. No condition. -/
import Derived.Test.YtiabnacgfoaihaaDoorS7
import Derived.Test.YtiabnacgfoaihaaDoorP11
namespace Go.Proofs.YtiabnacgfoaihaaDoor
open Go.RowKit Lb
set_option linter.unusedVariables false

theorem cmpR_zero : ∀ a b : List Lab, cmpR a b = 0 → a = b
  | [], [], _ => rfl
  | [], _ :: _, h => by simp [cmpR] at h
  | _ :: _, [], h => by simp [cmpR] at h
  | x :: a, y :: b, h => by
    simp only [cmpR] at h
    split at h
    · rename_i h0
      rw [cmpT_zero.1 h0, cmpR_zero a b h]
    · rename_i h0
      exact absurd h h0
theorem cmpL_zero {a b : List Lab} (h : cmpL a b = 0) : a = b := by rw [cmpL_eq] at h; exact cmpR_zero a b h
theorem cmpL_lt {a b c : List Lab} (h1 : cmpL a b < 0) (h2 : cmpL b c < 0) : cmpL a c < 0 := by
  rcases Int.lt_or_le (cmpL a c) 0 with h | h
  · exact h
  · have h3 : 0 ≤ cmpL c b := by rw [cmpL_anti]; omega
    have := cmpL_ge a c b h h3
    omega
theorem cmpL_tri (a b : List Lab) : cmpL a b < 0 ∨ a = b ∨ cmpL b a < 0 := by
  rcases Int.lt_trichotomy (cmpL a b) 0 with h | h | h
  · exact .inl h
  · exact .inr (.inl (cmpL_zero h))
  · exact .inr (.inr (by rw [cmpL_anti]; omega))
theorem cmpL_irr (a : List Lab) : ¬ cmpL a a < 0 := by rw [cmpL_self]; exact Int.lt_irrefl 0

def okS (s : Ser) : Prop := ((s.1.length == 0) = false) ∧ rightB s.1 = true ∧ ptsB s.2 = true
def ltS (a b : Ser) : Prop := cmpL a.1 b.1 < 0
theorem getD_at {S : List Ser} {i : Nat} (h : i < S.length) : S.getD i s0 = S[i] := by simp [h]
theorem store_pw (S : List Ser) : storeB S = true ↔ (∀ s ∈ S, okS s) ∧ S.Pairwise ltS := by
  rw [store_iff]
  constructor
  · intro h
    refine ⟨fun s hs => ?_, List.pairwise_iff_getElem.2 ?_⟩
    · obtain ⟨i, hi, rfl⟩ := List.getElem_of_mem hs
      have := h i hi
      unfold serAt at this
      rw [getD_at hi] at this
      exact ⟨this.1, this.2.1, this.2.2.1⟩
    · intro i j hi hj hij
      induction j with
      | zero => omega
      | succ j ih =>
        have hn := (h (j + 1) hj).2.2.2 (by omega)
        rw [Nat.add_sub_cancel, getD_at hj, getD_at (show j < S.length by omega)] at hn
        by_cases e : i = j
        · subst e; exact hn
        · exact cmpL_lt (ih (by omega) (by omega)) hn
  · rintro ⟨h1, h2⟩ i hi
    have h3 := h1 _ (List.getElem_mem hi)
    unfold serAt
    rw [getD_at hi]
    refine ⟨h3.1, h3.2.1, h3.2.2, fun h0 => ?_⟩
    rw [getD_at (show i - 1 < S.length by omega)]
    exact (List.pairwise_iff_getElem.1 h2) (i - 1) i (by omega) hi (by omega)

theorem at_no' {S : List Ser} {m : List Lab} {a : Nat} (hr : Reach S m a) (h : isAt S m a = false) : ptsAt S m = [] ∧ behindN S m = a ∧ reach S m = a := by
  have e : reach S m = a := (reach_is S m).same hr
  unfold ptsAt behindN
  rw [e, h]
  exact ⟨rfl, rfl, rfl⟩
theorem at_yes' {S : List Ser} {m : List Lab} {a : Nat} (hr : Reach S m a) (h : isAt S m a = true) : ptsAt S m = (S.getD a s0).2 ∧ behindN S m = a + 1 ∧ a < S.length ∧ reach S m = a := by
  have e : reach S m = a := (reach_is S m).same hr
  have hl : a < S.length := by
    unfold isAt at h
    simp only [Bool.and_eq_true, decide_eq_true_eq] at h
    exact h.1
  unfold ptsAt behindN
  rw [e, h]
  exact ⟨rfl, rfl, hl, rfl⟩
/-- labels parted: those that are less, those that are more -/
def Parts (S L R : List Ser) (m : List Lab) : Prop := (∀ x ∈ L, cmpL x.1 m < 0) ∧ (∀ x ∈ R, cmpL m x.1 < 0) ∧ L = S.take (reach S m) ∧ R = S.drop (behindN S m) ∧
  ((S = L ++ R ∧ ptsAt S m = []) ∨ S = L ++ [(m, ptsAt S m)] ++ R)
theorem parts_of {S : List Ser} (h : storeB S = true) (m : List Lab) : ∃ L R, Parts S L R m := by
  have hp := ((store_pw S).1 h).2
  have hr := reach_is S m
  refine ⟨S.take (reach S m), S.drop (behindN S m), ?_, ?_, rfl, rfl, ?_⟩
  · intro x hx
    obtain ⟨i, hi, rfl⟩ := List.getElem_of_mem hx
    have hi2 : i < reach S m ∧ i < S.length := by simp at hi; omega
    have := hr.2.1 i hi2.1
    rw [getD_at hi2.2] at this
    rw [List.getElem_take]
    exact this
  · cases hi : isAt S m (reach S m) with
    | true =>
      obtain ⟨_, hb, hl, _⟩ := at_yes' hr hi
      rw [hb]
      intro x hx
      obtain ⟨i, hi2, rfl⟩ := List.getElem_of_mem hx
      have hi3 : reach S m + 1 + i < S.length := by simp at hi2; omega
      rw [List.getElem_drop]
      have he : cmpL S[reach S m].1 m = 0 := by
        unfold isAt at hi
        simp only [Bool.and_eq_true, beq_iff_eq] at hi
        rw [← getD_at hl]; exact hi.2
      have := (List.pairwise_iff_getElem.1 hp) (reach S m) (reach S m + 1 + i) hl hi3 (by omega)
      unfold ltS at this
      rw [cmpL_zero he] at this
      exact this
    | false =>
      obtain ⟨_, hb, _⟩ := at_no' hr hi
      rw [hb]
      intro x hx
      obtain ⟨i, hi2, rfl⟩ := List.getElem_of_mem hx
      have hi3 : reach S m + i < S.length := by simp at hi2; omega
      have hl : reach S m < S.length := by omega
      rw [List.getElem_drop]
      have h0 := hr.2.2 hl
      rw [getD_at hl] at h0
      have hne : cmpL S[reach S m].1 m ≠ 0 := by
        unfold isAt at hi
        rw [decide_eq_true hl, Bool.true_and, beq_eq_false_iff_ne, getD_at hl] at hi
        exact hi
      have h1 : cmpL m S[reach S m].1 < 0 := by rw [cmpL_anti]; omega
      by_cases e : i = 0
      · subst e; simpa using h1
      · exact cmpL_lt h1 ((List.pairwise_iff_getElem.1 hp) (reach S m) (reach S m + i) hl hi3 (by omega))
  · cases hi : isAt S m (reach S m) with
    | true =>
      obtain ⟨hq, hb, hl, _⟩ := at_yes' hr hi
      right
      rw [hb, hq]
      have he : cmpL S[reach S m].1 m = 0 := by
        unfold isAt at hi
        simp only [Bool.and_eq_true, beq_iff_eq] at hi
        rw [← getD_at hl]; exact hi.2
      have e2 : (m, (S.getD (reach S m) s0).2) = S[reach S m] := by rw [getD_at hl]; exact Prod.ext (cmpL_zero he).symm rfl
      rw [e2, List.append_assoc, List.singleton_append, ← List.drop_eq_getElem_cons hl, List.take_append_drop]
    | false =>
      obtain ⟨hq, hb, _⟩ := at_no' hr hi
      left
      rw [hb, hq]
      exact ⟨(List.take_append_drop _ _).symm, rfl⟩
theorem app_parts {S L R : List Ser} {m : List Lab} (h : Parts S L R m) (p : Pt) : appOut S m p = L ++ [(m, ptsAt S m ++ [p])] ++ R := by
  unfold appOut; rw [h.2.2.1, h.2.2.2.1]
theorem mem_parts {S L R : List Ser} {m : List Lab} (h : Parts S L R m) (x : Ser) : x ∈ L ++ R ↔ x ∈ S ∧ x.1 ≠ m := by
  have hne : x ∈ L ++ R → x.1 ≠ m := by
    rintro hx rfl
    rcases List.mem_append.1 hx with h1 | h1
    · exact cmpL_irr _ (h.1 x h1)
    · exact cmpL_irr _ (h.2.1 x h1)
  rcases h.2.2.2.2 with ⟨e, _⟩ | e
  · exact ⟨fun hx => ⟨by rw [e]; exact hx, hne hx⟩, fun hx => by rw [← e]; exact hx.1⟩
  · constructor
    · intro hx
      refine ⟨?_, hne hx⟩
      rw [e]
      rcases List.mem_append.1 hx with h1 | h1
      · simp [h1]
      · simp [h1]
    · rintro ⟨h1, h2⟩
      rw [e] at h1
      simp only [List.mem_append, List.mem_singleton] at h1 ⊢
      rcases h1 with (h1 | h1) | h1
      · exact .inl h1
      · exact absurd (by rw [h1]) h2
      · exact .inr h1
theorem mem_app {S : List Ser} (h : storeB S = true) (m : List Lab) (p : Pt) (x : Ser) : x ∈ appOut S m p ↔ x = (m, ptsAt S m ++ [p]) ∨ (x ∈ S ∧ x.1 ≠ m) := by
  obtain ⟨L, R, hp⟩ := parts_of h m
  rw [app_parts hp, ← mem_parts hp]
  simp only [List.mem_append, List.mem_singleton]
  constructor
  · rintro ((h1 | h1) | h1)
    · exact .inr (.inl h1)
    · exact .inl h1
    · exact .inr (.inr h1)
  · rintro (h1 | h1 | h1)
    · exact .inl (.inr h1)
    · exact .inl (.inl h1)
    · exact .inr h1
theorem pts_mem {S : List Ser} (h : storeB S = true) {m : List Lab} {q : List Pt} (hx : (m, q) ∈ S) : ptsAt S m = q := by
  obtain ⟨L, R, hp⟩ := parts_of h m
  have hno : (m, q) ∉ L ++ R := fun hq => ((mem_parts hp _).1 hq).2 rfl
  rcases hp.2.2.2.2 with ⟨e, _⟩ | e
  · rw [e] at hx; exact absurd hx hno
  · rw [e] at hx
    simp only [List.mem_append, List.mem_singleton] at hx hno
    rcases hx with (h1 | h1) | h1
    · exact absurd (.inl h1) hno
    · injection h1 with _ h1; exact h1.symm
    · exact absurd (.inr h1) hno
theorem mid_mem {S L R : List Ser} {x : Ser} (e : S = L ++ [x] ++ R) : x ∈ S := by rw [e]; simp
theorem pts_none {S : List Ser} (h : storeB S = true) {m : List Lab} (hx : ∀ x ∈ S, x.1 ≠ m) : ptsAt S m = [] := by
  obtain ⟨L, R, hp⟩ := parts_of h m
  rcases hp.2.2.2.2 with ⟨_, e⟩ | e
  · exact e
  · exact absurd rfl (hx (m, ptsAt S m) (mid_mem e))
/-- the points of labels stand in the store, if there are any -/
theorem pts_cases {S : List Ser} (h : storeB S = true) (m : List Lab) : ((m, ptsAt S m) ∈ S) ∨ ((∀ x ∈ S, x.1 ≠ m) ∧ ptsAt S m = []) := by
  obtain ⟨L, R, hp⟩ := parts_of h m
  rcases hp.2.2.2.2 with ⟨e, e2⟩ | e
  · right
    refine ⟨fun x hx => ?_, e2⟩
    rw [e] at hx
    exact ((mem_parts hp x).1 hx).2
  · exact .inl (mid_mem e)
theorem pts_right {l : List Pt} {p : Pt} (hl : l = [] ∨ ptsB l = true) (ht : tmB p.1 = true) (hv : normI p.2 = p.2) (hlt : 0 < l.length → lastT l < p.1) : ptsB (l ++ [p]) = true := by
  rw [pts_iff]
  refine ⟨by simp, fun i hi => ?_⟩
  simp at hi
  have hlast : (l ++ [p]).getD l.length p0 = p := by simp
  by_cases h : i < l.length
  · have hp : ptsB l = true := by
      rcases hl with rfl | h1
      · simp at h
      · exact h1
    have := ((pts_iff l).1 hp).2 i h
    unfold ptAt at this ⊢
    have e1 : ∀ j, j < l.length → (l ++ [p]).getD j p0 = l.getD j p0 := fun j hj => by simp [List.getD_eq_getElem?_getD, List.getElem?_append_left hj]
    rw [e1 i h, e1 (i - 1) (by omega)]
    exact this
  · have : i = l.length := by omega
    subst this
    unfold ptAt
    rw [hlast]
    refine ⟨ht, by rw [hv]; exact beq_self_eq_true _, fun h0 => ?_⟩
    have e1 : (l ++ [p]).getD (l.length - 1) p0 = l.getD (l.length - 1) p0 := by simp [List.getD_eq_getElem?_getD, List.getElem?_append_left (show l.length - 1 < l.length by omega)]
    rw [e1]
    exact hlt h0
theorem app_right {S : List Ser} (h : storeB S = true) {l m : List Lab} (hm : makeF l = some m) (h0 : ¬ m.length = 0) {p : Pt} (ht : tmB p.1 = true) (hv : normI p.2 = p.2) (hlt : 0 < (ptsAt S m).length → lastT (ptsAt S m) < p.1) : storeB (appOut S m p) = true := by
  obtain ⟨h1, h2⟩ := (store_pw S).1 h
  obtain ⟨L, R, hp⟩ := parts_of h m
  rw [store_pw]
  refine ⟨fun s hs => ?_, ?_⟩
  · rcases (mem_app h m p s).1 hs with rfl | hs
    · refine ⟨beq_eq_false_iff_ne.2 h0, made_right hm, pts_right ?_ ht hv hlt⟩
      rcases pts_cases h m with hc | ⟨_, hc⟩
      · exact .inr (h1 _ hc).2.2
      · exact .inl hc
    · exact h1 s hs.1
  · rw [app_parts hp]
    have hLR : (L ++ R).Pairwise ltS := by
      rcases hp.2.2.2.2 with ⟨e, _⟩ | e
      · rw [← e]; exact h2
      · rw [e] at h2
        refine h2.sublist ?_
        rw [List.append_assoc]
        exact (List.Sublist.refl L).append (List.sublist_append_right _ _)
    obtain ⟨a1, a2, a3⟩ := List.pairwise_append.1 hLR
    rw [List.append_assoc]
    refine List.pairwise_append.2 ⟨a1, ?_, ?_⟩
    · rw [List.singleton_append]
      exact List.pairwise_cons.2 ⟨fun x hx => hp.2.1 x hx, a2⟩
    · intro x hx y hy
      rw [List.singleton_append] at hy
      rcases List.mem_cons.1 hy with rfl | hy
      · exact hp.1 x hx
      · exact a3 x hx y hy
/-- right stores with the same series are the same -/
theorem store_same {S S' : List Ser} (h : storeB S = true) (h' : storeB S' = true) (hm : ∀ x, x ∈ S ↔ x ∈ S') : S = S' := by
  have h1 := ((store_pw S).1 h).2
  have h2 := ((store_pw S').1 h').2
  have nd : ∀ T : List Ser, T.Pairwise ltS → T.Nodup := fun T hT => hT.imp fun {a b} hab e => by subst e; exact cmpL_irr _ hab
  have hperm : S.Perm S' := (List.perm_ext_iff_of_nodup (nd S h1) (nd S' h2)).2 hm
  exact hperm.eq_of_pairwise (fun a b _ _ hab hba => absurd (cmpL_lt hab hba) (cmpL_irr _)) h1 h2
/-- how many points -/
def many (S : List Ser) : Nat := (S.map fun x => x.2.length).sum
theorem many_app {S : List Ser} (h : storeB S = true) (m : List Lab) (p : Pt) : many (appOut S m p) = many S + 1 := by
  obtain ⟨L, R, hp⟩ := parts_of h m
  rw [app_parts hp]
  rcases hp.2.2.2.2 with ⟨e, e2⟩ | e
  · rw [e2]; conv => rhs; rw [e]
    simp [many]; omega
  · conv => rhs; rw [e]
    simp [many]; omega
theorem app_length (S : List Ser) (m : List Lab) (p : Pt) : (appOut S m p).length ≤ S.length + 1 := by
  unfold appOut
  have h1 : behindN S m = reach S m + 1 ∨ behindN S m = reach S m := by unfold behindN; split <;> simp
  have h2 := (reach_is S m).1
  simp only [List.length_append, List.length_take, List.length_drop, List.length_singleton]
  omega
end Go.Proofs.YtiabnacgfoaihaaDoor

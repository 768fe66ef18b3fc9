import Derived.Test.YtiabnacgfoaihaaDoorP10
namespace Go.Proofs.YtiabnacgfoaihaaDoor
open Go.RowKit Lb
set_option linter.unusedVariables false

theorem made_right {l o : List Lab} (h : makeF l = some o) : rightB o = true := by
  obtain ⟨f1, f2, f3, f4⟩ := made_facts h
  unfold rightB
  rw [decide_eq_true_eq]
  refine ⟨f4, fun i hi => ?_⟩
  have e : o.getD i e0 = o[i] := by simp [hi]
  refine ⟨by rw [e]; exact f1 _ (List.getElem_mem hi), by rw [e]; exact f2 _ (List.getElem_mem hi), fun h0 => ?_⟩
  have e' : o.getD (i - 1) e0 = o[i - 1] := by simp [show i - 1 < o.length by omega]
  rw [e, e']
  exact (List.pairwise_iff_getElem.1 f3) (i - 1) i (by omega) hi (by omega)
theorem short_names {l : List Lab} (h : shortB l = true) : ∀ i, i < l.length → (l.getD i e0).1.size ≤ 65536 := by
  intro i hi
  rcases Nat.lt_or_ge 400 (l.getD i e0).1.size with h1 | h1
  · rw [short_bad hi (.inl h1)] at h; cases h
  · omega
theorem refmake_yes {l o : List Lab} (h : makeF l = some o) (A : Option Addr) (cap : Nat) (w : World) (hL : Lbs w A l) (hs : ∀ i, i < l.length → (l.getD i e0).1.size ≤ 65536) (hl : l.length ≤ 4096) :
    Calls Tryd.prog 19 #[.slice A l.length cap] w fun e w' => ∃ A' c, e = .returned (.tuple #[.slice A' o.length c, .bool true]) ∧ OwnL w' A' c o ∧ Below w.heap.size w w' :=
  (refmake_any A cap l w hL hs hl).mono fun e w' ⟨hb, hc⟩ => by
    rcases hc with ⟨h1, _⟩ | ⟨o', A', c, h1, he, ho⟩
    · rw [h] at h1; cases h1
    · rw [h] at h1
      injection h1 with h1
      subst h1
      exact ⟨A', c, he, ho, hb⟩
theorem refmake_no {l : List Lab} (h : makeF l = none) (A : Option Addr) (cap : Nat) (w : World) (hL : Lbs w A l) (hs : ∀ i, i < l.length → (l.getD i e0).1.size ≤ 65536) (hl : l.length ≤ 4096) :
    Calls Tryd.prog 19 #[.slice A l.length cap] w fun e w' => e = .returned (.tuple #[.slice none 0 0, .bool false]) ∧ Below w.heap.size w w' :=
  (refmake_any A cap l w hL hs hl).mono fun e w' ⟨hb, hc⟩ => by
    rcases hc with ⟨_, he⟩ | ⟨o', A', c, h1, _⟩
    · exact ⟨he, hb⟩
    · rw [h] at h1; cases h1
theorem right_iff (l : List Lab) : rightB l = true ↔ l.length ≤ 16 ∧ (∀ x ∈ l, okB x = true) ∧ (∀ x ∈ l, full x = true) ∧ l.Pairwise slN := by
  unfold rightB
  rw [decide_eq_true_eq]
  constructor
  · rintro ⟨h16, h⟩
    have at_ : ∀ i (hi : i < l.length), l.getD i e0 = l[i] := fun i hi => by simp [hi]
    refine ⟨h16, fun x hx => ?_, fun x hx => ?_, ?_⟩
    · obtain ⟨i, hi, rfl⟩ := List.getElem_of_mem hx
      have := (h i hi).1
      rw [at_ i hi] at this; exact this
    · obtain ⟨i, hi, rfl⟩ := List.getElem_of_mem hx
      have := (h i hi).2.1
      rw [at_ i hi] at this; exact this
    · rw [List.pairwise_iff_getElem]
      have key : ∀ d i (hi : i < l.length) (hj : i + d + 1 < l.length), slN l[i] l[i + d + 1] := by
        intro d
        induction d with
        | zero =>
          intro i hi hj
          have := (h (i + 1) hj).2.2 (by omega)
          rw [at_ (i + 1) hj, show i + 1 - 1 = i by omega, at_ i hi] at this
          exact this
        | succ d ih =>
          intro i hi hj
          have h1 := ih i hi (by omega)
          have := (h (i + d + 1 + 1) (by omega)).2.2 (by omega)
          rw [at_ (i + d + 1 + 1) (by omega), show i + d + 1 + 1 - 1 = i + d + 1 by omega, at_ (i + d + 1) (by omega)] at this
          exact slN_trans h1 this
      intro i j hi hj hij
      have := key (j - i - 1) i hi (by omega)
      simpa [show i + (j - i - 1) + 1 = j by omega] using this
  · rintro ⟨h16, h1, h2, h3⟩
    refine ⟨h16, fun i hi => ?_⟩
    have e : l.getD i e0 = l[i] := by simp [hi]
    refine ⟨by rw [e]; exact h1 _ (List.getElem_mem hi), by rw [e]; exact h2 _ (List.getElem_mem hi), fun h0 => ?_⟩
    have e' : l.getD (i - 1) e0 = l[i - 1] := by simp [show i - 1 < l.length by omega]
    rw [e, e']
    exact (List.pairwise_iff_getElem.1 h3) (i - 1) i (by omega) hi (by omega)
theorem refcmp_below (A B : Option Addr) (ca cb : Nat) (a b : List Lab) (w : World) (hA : Lbs w A a) (hB : Lbs w B b) (ha : a.length ≤ 65536) (hb : b.length ≤ 65536) :
    Calls Tryd.prog 20 #[.slice A a.length ca, .slice B b.length cb] w fun e w' => e = .returned (.int .i64 (cmpL a b)) ∧ Below w.heap.size w w' :=
  (refcmp_any A B ca cb a b w hA hB ha hb).mono fun e w' ⟨h1, q, h2⟩ => ⟨h1, by subst h2; exact bel_drawn (Below.refl _ _) q⟩
theorem refcmp_zero (A B : Option Addr) (ca cb : Nat) (a : List Lab) (w : World) (hA : Lbs w A a) (hB : Lbs w B a) (ha : a.length ≤ 65536) :
    Calls Tryd.prog 20 #[.slice A a.length ca, .slice B a.length cb] w fun e w' => e = .returned (.int .i64 0) ∧ Below w.heap.size w w' :=
  (refcmp_same A B ca cb a w hA hB ha).mono fun e w' ⟨h1, q, h2⟩ => ⟨h1, by subst h2; exact bel_drawn (Below.refl _ _) q⟩


end Go.Proofs.YtiabnacgfoaihaaDoor

/- Plain facts: labels made one by one, each put in its place, are those made by sorting. And the append of labels that lie anywhere. No condition. -/
import Derived.Test.YtiabnacgfoaihaaDoorP7
import Derived.Test.YtiabnacgfoaihaaDoorP6
import Derived.Maps.AppendAt
import Derived.Laws.AppendOwnNone
import Derived.Laws.OwnMore
namespace Go.Proofs.YtiabnacgfoaihaaDoor
open Go.RowKit Lb
set_option linter.unusedVariables false

theorem sortL_filter (l : List Lab) : (sortL l).filter full = sortL (l.filter full) :=
  (sortL_of ((sortL_perm l).filter full) ((sortL_sorted l).filter full)).symm
theorem names_of_rising {s : List Lab} (h : s.Pairwise slN) : (s.map (·.1)).Nodup := by
  rw [List.nodup_iff_pairwise_ne, List.pairwise_map]
  refine h.imp fun {a b} hab e => ?_
  have := slN_ne hab
  rw [e] at this
  simp at this
theorem apart_of_names {s : List Lab} (h : (s.map (·.1)).Nodup) : Apart s s.length := by
  intro i hi h0
  rw [show s.getD (i - 1) e0 = s[i - 1] by simp [show i - 1 < s.length by omega], show s.getD i e0 = s[i] by simp [hi]]
  refine beq_false_of_ne fun e => ?_
  have := (List.nodup_iff_pairwise_ne.1 h)
  rw [List.pairwise_map] at this
  exact (List.pairwise_iff_getElem.1 this) (i - 1) i (by omega) hi (by omega) e
theorem apart_iff (l : List Lab) : Apart (sortL l) (sortL l).length ↔ (l.map (·.1)).Nodup := by
  have hp : ((sortL l).map (·.1)).Perm (l.map (·.1)) := (sortL_perm l).map _
  constructor
  · intro h
    exact hp.nodup_iff.1 (names_of_rising (rising_of _ (sortL_sorted l) h))
  · intro h
    exact apart_of_names (hp.nodup_iff.2 h)
theorem make_named {l : List Lab} (h1 : Ok l l.length) (h2 : (l.map (·.1)).Nodup) : makeF l = if (sortL (l.filter full)).length ≤ 16 then some (sortL (l.filter full)) else none := by
  unfold makeF
  have := (apart_iff l).2 h2
  rw [sortL_filter]
  by_cases h : (sortL (l.filter full)).length ≤ 16
  · rw [if_pos ⟨h1, this, h⟩, if_pos h]
  · rw [if_neg (fun q => h q.2.2), if_neg h]
theorem make_unnamed {l : List Lab} (h2 : ¬ (l.map (·.1)).Nodup) : makeF l = none := by
  unfold makeF
  rw [if_neg]
  rintro ⟨_, h, _⟩
  exact h2 ((apart_iff l).1 h)
/-- the first k names are unlike -/
def Dist (l : List Lab) (k : Nat) : Prop := ((l.take k).map (·.1)).Nodup
theorem dist_zero (l : List Lab) : Dist l 0 := by unfold Dist; simp
def Unlike (l : List Lab) (x : ByteArray) (j : Nat) : Prop := ∀ i, i < j → (l.getD i e0).1 ≠ x
theorem unlike_zero (l : List Lab) (x : ByteArray) : Unlike l x 0 := fun _ h => absurd h (Nat.not_lt_zero _)
theorem unlike_succ {l : List Lab} {x : ByteArray} {j : Nat} (h : Unlike l x j) (h1 : (l.getD j e0).1 ≠ x) : Unlike l x (j + 1) := by
  intro i hi
  by_cases e : i = j
  · subst e; exact h1
  · exact h i (by omega)
theorem dist_succ {l : List Lab} {k : Nat} (hk : k < l.length) (h : Dist l k) (hu : Unlike l (l.getD k e0).1 k) : Dist l (k + 1) := by
  unfold Dist at *
  rw [List.take_succ_eq_append_getElem hk, List.map_append, List.nodup_append]
  refine ⟨h, by simp, fun a ha b hb => ?_⟩
  simp at hb
  subst hb
  obtain ⟨x, hx, rfl⟩ := List.mem_map.1 ha
  obtain ⟨i, hi, rfl⟩ := List.getElem_of_mem hx
  have hi' : i < k := by simp at hi; omega
  have := hu i hi'
  rw [show l.getD i e0 = l[i] by simp [show i < l.length by omega], show l.getD k e0 = l[k] by simp [hk]] at this
  simpa using this
theorem dup_none {l : List Lab} {j k : Nat} (hj : j < k) (hk : k < l.length) (he : (l.getD j e0).1 = (l.getD k e0).1) : makeF l = none := by
  refine make_unnamed fun h => ?_
  have := (List.nodup_iff_pairwise_ne.1 h)
  rw [List.pairwise_map] at this
  refine (List.pairwise_iff_getElem.1 this) j k (by omega) hk hj ?_
  rw [show l.getD j e0 = l[j] by simp [show j < l.length by omega], show l.getD k e0 = l[k] by simp [hk]] at he
  exact he

/-- all of a list from a place on lie behind a name -/
def Behind (o : List Lab) (x : ByteArray) (a : Nat) : Prop := ∀ j, a ≤ j → j < o.length → sl x (o.getD j e0).1 = true
theorem behind_end (o : List Lab) (x : ByteArray) : Behind o x o.length := fun j h1 h2 => by omega
theorem behind_pred {o : List Lab} {x : ByteArray} {a : Nat} (h : Behind o x (a + 1)) (h1 : sl x (o.getD a e0).1 = true) : Behind o x a := by
  intro j h2 h3
  by_cases e : j = a
  · subst e; exact h1
  · exact h j (by omega) h3

theorem insert_sorts {o m : List Lab} {x : Lab} {a : Nat} (ha : a ≤ o.length) (ho : sortL m = o) (hb : Behind o x.1 a) (hf : a = 0 ∨ sl (o.getD (a - 1) e0).1 x.1 = true) :
    sortL (m ++ [x]) = o.take a ++ (x :: o.drop a) := by
  refine sortL_of ?_ ?_
  · have h1 : (o.take a ++ (x :: o.drop a)).Perm (x :: (o.take a ++ o.drop a)) := List.perm_middle
    rw [List.take_append_drop] at h1
    have h2 : o.Perm m := by rw [← ho]; exact sortL_perm m
    exact (h1.trans (h2.cons x)).trans (List.perm_append_singleton x m).symm
  · have hs : o.Pairwise (fun a b => leT a b = true) := by rw [← ho]; exact sortL_sorted m
    have hx : ∀ y ∈ o.drop a, leT x y = true := by
      intro y hy
      obtain ⟨j, hj, rfl⟩ := List.getElem_of_mem hy
      rw [List.length_drop] at hj
      have := hb (a + j) (by omega) (by omega)
      rw [show o.getD (a + j) e0 = o[a + j] by simp [show a + j < o.length by omega]] at this
      rw [List.getElem_drop]
      exact slN_le this
    have hy : ∀ y ∈ o.take a, leT y x = true := by
      intro y hy
      rcases hf with h0 | hf
      · subst h0; simp at hy
      · obtain ⟨j, hj, rfl⟩ := List.getElem_of_mem hy
        have hj' : j < a := by simp at hj; omega
        have hlast : leT (o.getD (a - 1) e0) x = true := slN_le hf
        rw [List.getElem_take]
        by_cases e : j = a - 1
        · subst e
          rw [show o.getD (a - 1) e0 = o[a - 1] by simp [show a - 1 < o.length by omega]] at hlast
          exact hlast
        · refine leT_trans _ _ _ ?_ hlast
          rw [show o.getD (a - 1) e0 = o[a - 1] by simp [show a - 1 < o.length by omega]]
          exact (List.pairwise_iff_getElem.1 hs) j (a - 1) (by omega) (by omega) (by omega)
    rw [List.pairwise_append]
    refine ⟨hs.sublist (List.take_sublist _ _), List.pairwise_cons.2 ⟨hx, hs.sublist (List.drop_sublist _ _)⟩, ?_⟩
    intro y h1 z h2
    rcases List.mem_cons.1 h2 with rfl | h2
    · exact hy y h1
    · exact leT_trans _ _ _ (hy y h1) (hx z h2)

/-! the append of labels -/
theorem flatL_one (l : List Lab) : ∀ u ∈ flatL l, u.oneCell' = true := by
  induction l with
  | nil => intro u hu; simp [flatL] at hu
  | cons p l ih =>
    intro u hu
    simp only [flatL, List.mem_cons] at hu
    rcases hu with rfl | rfl | hu
    · rfl
    · rfl
    · exact ih u hu
theorem Lbs.cells {w : World} {ad : Addr} {l : List Lab} (h : Lbs w (some ad) l) : ∀ j u, (flatL l)[j]? = some u → w.cell? (ad.add j) = some u := by
  intro j u hu
  have hj : j < (flatL l).length := by
    rcases Nat.lt_or_ge j (flatL l).length with h1 | h1
    · exact h1
    · rw [List.getElem?_eq_none h1] at hu; cases hu
  rw [flatL_length] at hj
  obtain ⟨b, off, e, _, hc⟩ := h (by omega)
  injection e with e
  subst e
  have ea : (⟨b, off, none⟩ : Addr).add j = ⟨b, off + j, none⟩ := by unfold Addr.add; split <;> simp_all
  rw [ea]
  have f := flatL_at l (j / 2) (by omega)
  have c := hc (j / 2) (by omega)
  by_cases hp : j % 2 = 0
  · have ej : j / 2 * 2 = j := by omega
    rw [ej] at f c
    rw [← hu, f.1]; exact c.1
  · have ej : j / 2 * 2 + 1 = j := by omega
    have eo : off + j / 2 * 2 + 1 = off + j := by omega
    rw [ej] at f
    rw [eo] at c
    rw [← hu, f.2]; exact c.2
theorem wpList_append_lbs {w : World} {ops : Array Oper} {rest : List Oper} {o : Oper} {a : Act} {Q : Exit → Act → World → Prop} (hgd : o.guard = none) (s x : Operand)
    (ho : o.op = .call { callee := .builtin .append, args := #[s, x], argTypes := #[23, 23] })
    (base : Nat) (v : Value) (n : Nat) (xs : List Value) (hs : a.eval s = v) (hown : w.ownsRow base 52 2 v n xs)
    (A : Option Addr) (m c : Nat) (l : List Lab) (hm : l.length = m) (hx : a.eval x = .slice A m c) (hl : Lbs w A l) (hc : A = none → c = 0) (hsz : n + m ≤ 65536) (hbase : base ≤ w.heap.size)
    (h : ∀ v' w', w'.ownsRow base 52 2 v' (n + m) (xs ++ flatL l) → w.grownBy w' v.ownBlock → wpList Tryd.prog ops Q rest (a.put o.dst v') w') : wpList Tryd.prog ops Q (o :: rest) a w := by
  obtain ⟨i0, hi0, hz0, hz1, hz2⟩ := info_parts lab_info
  subst hm
  cases A with
  | none =>
    have hc := hc rfl
    have h0 : l = [] := by
      cases l with
      | nil => rfl
      | cons p l => obtain ⟨_, _, e, _⟩ := hl (by simp); cases e
    subst h0
    subst hc
    refine wpList_append_own_none hgd s x 23 ho base 52 i0 2 Tryd.underlying23 hi0 v n xs hs hown hx ?_
    exact h v w (by simpa [flatL] using hown) (World.grownBy.refl w _)
  | some ad =>
    refine wpList_append_own_at w hgd s x 23 ho base 52 i0 _ 2 32 Tryd.underlying23 hi0 hz0 hz1 hz2 rfl (by decide) v n xs hs hown ad l.length c (flatL l) hx (flatL_length l) hl.cells (flatL_one l) (by unfold maxLen; omega) (by omega) hbase ?_
    intro v' w' h1 h2 _ _
    exact h v' w' h1 h2
theorem Lbs.take {w : World} {A : Option Addr} {l : List Lab} (h : Lbs w A l) (a : Nat) : Lbs w A (l.take a) := by
  intro h0
  have hl : 0 < l.length := by simp at h0; omega
  obtain ⟨b, off, e, hb, hc⟩ := h hl
  refine ⟨b, off, e, hb, fun i hi => ?_⟩
  have hi2 : i < a ∧ i < l.length := by simp at hi; omega
  have := hc i hi2.2
  rw [show (l.take a).getD i e0 = l.getD i e0 by simp [hi2.1]]
  exact this
theorem Lbs.drop {w : World} {b off : Nat} {l : List Lab} (h : Lbs w (some ⟨b, off, none⟩) l) (a : Nat) : Lbs w (some ⟨b, off + a * 2, none⟩) (l.drop a) := by
  intro h0
  have hl : 0 < l.length := by simp at h0; omega
  obtain ⟨b', off', e, hb, hc⟩ := h hl
  injection e with e
  injection e with e1 e2
  subst e1; subst e2
  refine ⟨b, off + a * 2, rfl, hb, fun i hi => ?_⟩
  have hi2 : a + i < l.length := by simp at hi; omega
  have := hc (a + i) hi2
  rw [show (l.drop a).getD i e0 = l.getD (a + i) e0 by simp [List.getD_eq_getElem?_getD, List.getElem?_drop]]
  rw [show off + a * 2 + i * 2 = off + (a + i) * 2 by omega]
  exact this
theorem own_lbs {w : World} {base n : Nat} {v : Value} {l : List Lab} (hn : l.length = n) (h : w.ownsRow base 52 2 v n (flatL l)) : ∃ A c, v = .slice A n c ∧ OwnL w A c l := by
  subst hn
  rcases h.2 with ⟨hv, hn⟩ | ⟨g, cap, cur, hv, _⟩
  · exact ⟨none, 0, by rw [hv, hn], fun h0 => by omega, fun _ => rfl⟩
  · subst hv
    refine ⟨_, cap, rfl, fun h0 => ⟨g, 0, rfl, (h.lt g rfl).2, fun i hi => ?_⟩, fun h => by cases h⟩
    have c := h.cells (g := g) rfl
    have f := flatL_at l i hi
    have e1 : (⟨g, 0, none⟩ : Addr).add (i * 2) = ⟨g, 0 + i * 2, none⟩ := by unfold Addr.add; split <;> simp_all
    have e2 : (⟨g, 0, none⟩ : Addr).add (i * 2 + 1) = ⟨g, 0 + i * 2 + 1, none⟩ := by unfold Addr.add; simp
    rw [← e1, ← e2]
    exact ⟨c _ _ f.1, c _ _ f.2⟩
theorem own_lbs2 {w : World} {base n : Nat} {v : Value} {l : List Lab} (hn : l.length = n) (h : w.ownsRow base 52 2 v n (flatL l)) : ∃ A c, v = .slice A n c ∧ OwnL w A c l ∧ n ≤ c ∧ c ≤ maxLen ∧ (∀ ad, A = some ad → ∃ g, ad = ⟨g, 0, none⟩ ∧ g < w.heap.size) := by
  obtain ⟨A, c, hv, ho⟩ := own_lbs hn h
  refine ⟨A, c, hv, ho, ?_⟩
  rcases h.2 with ⟨hv', hn'⟩ | ⟨g, cap, cur, hv', h1, h2, h3, h4, _⟩
  · rw [hv'] at hv; injection hv with e1 e2 e3
    subst e1; subst e3
    exact ⟨by omega, by unfold maxLen; omega, fun ad h => by cases h⟩
  · have hlt := (h.lt g (by rw [hv']; rfl)).2
    rw [hv'] at hv; injection hv with e1 e2 e3
    subst e1; subst e3
    exact ⟨h3, h4, fun ad h => by injection h with h; subst h; exact ⟨g, rfl, hlt⟩⟩
end Go.Proofs.YtiabnacgfoaihaaDoor

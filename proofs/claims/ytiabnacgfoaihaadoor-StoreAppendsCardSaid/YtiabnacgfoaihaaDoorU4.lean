import Derived.Test.YtiabnacgfoaihaaDoorU3
namespace Go.Proofs.YtiabnacgfoaihaaDoor
open Go.RowKit Lb
set_option linter.unusedVariables false

/-! the document's Append: what its loop has after k series -/
def outK (S : List Ser) (m : List Lab) (p : Pt) (k : Nat) : List Ser :=
  if k ≤ reach S m then S.take k else S.take (reach S m) ++ [(m, ptsAt S m ++ [p])] ++ (S.take k).drop (behindN S m)
theorem take_snoc {S : List Ser} {k : Nat} (hk : k < S.length) : S.take (k + 1) = S.take k ++ [S.getD k s0] := by
  rw [getD_at hk]; simp
theorem outK_low {S : List Ser} {m : List Lab} {p : Pt} {k : Nat} (h : k ≤ reach S m) : outK S m p k = S.take k := if_pos h
theorem outK_high {S : List Ser} {m : List Lab} {p : Pt} {k : Nat} (h : reach S m < k) : outK S m p k = S.take (reach S m) ++ [(m, ptsAt S m ++ [p])] ++ (S.take k).drop (behindN S m) := if_neg (by omega)
theorem behind_two (S : List Ser) (m : List Lab) : behindN S m = reach S m ∨ behindN S m = reach S m + 1 := by
  unfold behindN; split
  · exact .inr rfl
  · exact .inl rfl
theorem outK_next {S : List Ser} {m : List Lab} {p : Pt} {k : Nat} (hk : k < S.length) (h : k ≠ reach S m) : outK S m p (k + 1) = outK S m p k ++ [S.getD k s0] := by
  by_cases e : k < reach S m
  · rw [outK_low (by omega), outK_low (by omega), take_snoc hk]
  · have hb : behindN S m ≤ (S.take k).length := by
      rw [List.length_take]
      rcases behind_two S m with e2 | e2 <;> omega
    rw [outK_high (by omega), outK_high (by omega), take_snoc hk, List.drop_append_of_le_length hb, ← List.append_assoc]
theorem outK_len (S : List Ser) (m : List Lab) (p : Pt) (k : Nat) : (outK S m p k).length ≤ S.length + 1 := by
  unfold outK
  have := (reach_is S m).1
  rcases behind_two S m with e2 | e2
  all_goals
    split
    · rw [List.length_take]; omega
    · simp only [List.length_append, List.length_take, List.length_drop, List.length_singleton, e2]; omega
theorem outK_end {S : List Ser} {m : List Lab} {p : Pt} (h : reach S m < S.length) : outK S m p S.length = appOut S m p := by
  rw [outK_high h, List.take_length]; rfl
theorem outK_end2 {S : List Ser} {m : List Lab} {p : Pt} (h : ¬ reach S m < S.length) : ptsAt S m = [] ∧ appOut S m p = outK S m p S.length ++ [(m, [p])] := by
  have hl := (reach_is S m).1
  have he : reach S m = S.length := by omega
  have hi : isAt S m (reach S m) = false := by
    unfold isAt; rw [he]; simp
  obtain ⟨h1, h2, _⟩ := at_no' (reach_is S m) hi
  refine ⟨h1, ?_⟩
  unfold appOut
  rw [h2, h1, outK_low (by omega), he]
  simp

theorem round_facts {S : List Ser} (h : storeB S = true) (m : List Lab) (p : Pt) {k : Nat} (hk : k < S.length) :
    (k < reach S m ∧ cmpL (S.getD k s0).1 m < 0 ∧ outK S m p (k + 1) = outK S m p k ++ [S.getD k s0]) ∨
    (k = reach S m ∧ cmpL (S.getD k s0).1 m = 0 ∧ ptsAt S m = (S.getD k s0).2 ∧ 0 < (S.getD k s0).2.length ∧ outK S m p (k + 1) = outK S m p k ++ [((S.getD k s0).1, (S.getD k s0).2 ++ [p])]) ∨
    (k = reach S m ∧ 0 < cmpL (S.getD k s0).1 m ∧ ptsAt S m = [] ∧ outK S m p (k + 1) = (outK S m p k ++ [(m, [p])]) ++ [S.getD k s0]) ∨
    (reach S m < k ∧ 0 < cmpL (S.getD k s0).1 m ∧ outK S m p (k + 1) = outK S m p k ++ [S.getD k s0]) := by
  have hr := reach_is S m
  by_cases e1 : k < reach S m
  · exact .inl ⟨e1, hr.2.1 k e1, outK_next hk (by omega)⟩
  by_cases e2 : k = reach S m
  · right
    rw [← e2] at hr
    cases hi : isAt S m k with
    | true =>
      obtain ⟨hq, hb, hl, _⟩ := at_yes' hr hi
      have he : cmpL (S.getD k s0).1 m = 0 := by
        unfold isAt at hi
        simp only [Bool.and_eq_true, beq_iff_eq] at hi
        exact hi.2
      refine .inl ⟨e2, he, hq, ?_, ?_⟩
      · have := ((store_pw S).1 h).1 _ (List.getElem_mem hl)
        rw [getD_at hl]
        have h2 := this.2.2
        rcases Nat.eq_zero_or_pos S[k].2.length with h0 | h0
        · rw [List.eq_nil_of_length_eq_zero h0] at h2
          simp [ptsB] at h2
        · exact h0
      · rw [outK_high (by omega), outK_low (by omega), hb, ← e2, hq, ← cmpL_zero he]
        simp
    | false =>
      obtain ⟨hq, hb, _⟩ := at_no' hr hi
      have h0 := hr.2.2 hk
      have hne : cmpL (S.getD k s0).1 m ≠ 0 := by
        unfold isAt at hi
        rw [decide_eq_true hk, Bool.true_and, beq_eq_false_iff_ne] at hi
        exact hi
      refine .inr (.inl ⟨e2, by omega, hq, ?_⟩)
      rw [outK_high (by omega), outK_low (by omega), hb, ← e2, hq, take_snoc hk, List.drop_append_of_le_length (by rw [List.length_take]; omega)]
      simp
  · refine .inr (.inr (.inr ⟨by omega, ?_, outK_next hk e2⟩))
    obtain ⟨L, R, hp⟩ := parts_of h m
    have hm : S.getD k s0 ∈ R := by
      rw [hp.2.2.2.1, getD_at hk]
      have hb : behindN S m ≤ k := by rcases behind_two S m with e | e <;> omega
      rw [List.mem_iff_getElem]
      exact ⟨k - behindN S m, by rw [List.length_drop]; omega, by rw [List.getElem_drop]; congr 1; omega⟩
    have := hp.2.1 _ hm
    rw [cmpL_anti] at this
    omega

/-! what the loop holds of a series: its labels (and mostly its points) lie below; new points are a row of their own -/
def El (W0 wr : World) (x : VV) (s : Ser) : Prop := ∃ LA lc, x.1 = .slice LA s.1.length lc ∧ Lbs W0 LA s.1 ∧ (LA = none → lc = 0) ∧
  ((∃ PA pc, x.2 = .slice PA s.2.length pc ∧ Pts W0 PA s.2 ∧ (PA = none → pc = 0) ∧ s.2.length ≤ pc ∧ pc ≤ 9223372036854775807) ∨ (wr.ownsRow W0.heap.size 26 2 x.2 s.2.length (flatP s.2) ∧ ∀ i, i < s.2.length → Bits (s.2.getD i p0).2))
theorem El.below {W0 w w' : World} {x : VV} {s : Ser} (h : El W0 w x s) (hb : Below w.heap.size w w') : El W0 w' x s := by
  obtain ⟨LA, lc, h1, h2, h3, h4⟩ := h
  refine ⟨LA, lc, h1, h2, h3, ?_⟩
  rcases h4 with h4 | ⟨h4, h5⟩
  · exact .inl h4
  · exact .inr ⟨own_below h4 hb, h5⟩
theorem El.kept {W0 w w' : World} {x : VV} {s : Ser} {b2 n : Nat} {v : Value} {xs : List Value} (h : El W0 w x s) (hv : w.ownsRow b2 49 2 v n xs) (hg : w.grownBy w' v.ownBlock) : El W0 w' x s := by
  obtain ⟨LA, lc, h1, h2, h3, h4⟩ := h
  refine ⟨LA, lc, h1, h2, h3, ?_⟩
  rcases h4 with h4 | ⟨h4, h5⟩
  · exact .inl h4
  · exact .inr ⟨h4.kept hg (own_apart h4 hv (by decide)), h5⟩
theorem El.ser {W0 w : World} {x : VV} {s : Ser} (h : El W0 w x s) (hb : Below W0.heap.size W0 w) : SerV w x s := by
  obtain ⟨LA, lc, h1, h2, h3, h4⟩ := h
  rcases h4 with ⟨PA, pc, h4, h5, h6, h7, h8⟩ | ⟨h4, h5⟩
  · exact ⟨LA, lc, PA, pc, Prod.ext h1 h4, h2.below hb, h3, h5.below hb, h6, h7, h8⟩
  · obtain ⟨PA, pc, e3, e4, e5, e6, e7⟩ := Raw.of_own (r := s.2.map encP) (by simp) h4
    exact ⟨LA, lc, PA, pc, Prod.ext h1 e3, h2.below hb, h3, Pts.of_raw e4 h5, e5, e6, e7⟩
theorem own_one {w : World} {base : Nat} {e : TypeId} {s n : Nat} {v : Value} {xs : List Value} (h : w.ownsRow base e s v n xs) : v.oneCell' = true := by
  rcases h.2 with ⟨rfl, _⟩ | ⟨g, cap, cur, rfl, _⟩ <;> rfl
theorem El.one {W0 w : World} {x : VV} {s : Ser} (h : El W0 w x s) : ∀ u ∈ ([x.1, x.2] : List Value), u.oneCell' = true := by
  obtain ⟨LA, lc, h1, h2, h3, h4⟩ := h
  intro u hu
  simp at hu
  rcases hu with rfl | rfl
  · rw [h1]; rfl
  · rcases h4 with ⟨PA, pc, h4, _⟩ | ⟨h4, _⟩
    · rw [h4]; rfl
    · exact own_one h4
def OutR (W0 w : World) (v : Value) (O : List Ser) : Prop := ∃ raw, w.ownsRow W0.heap.size 49 2 v O.length (flatV raw) ∧ raw.length = O.length ∧ ∀ i, i < O.length → El W0 w (raw.getD i v0) (O.getD i s0)
theorem OutR.nil (W0 w : World) : OutR W0 w (.slice none 0 0) [] := ⟨[], World.ownsRow_nil _ _ _ _, rfl, fun i hi => absurd hi (Nat.not_lt_zero _)⟩
theorem OutR.below {W0 w w' : World} {v : Value} {O : List Ser} (h : OutR W0 w v O) (hb : Below w.heap.size w w') : OutR W0 w' v O := by
  obtain ⟨raw, h1, h2, h3⟩ := h
  exact ⟨raw, own_below h1 hb, h2, fun i hi => (h3 i hi).below hb⟩
theorem OutR.srs {W0 w : World} {v : Value} {O : List Ser} (h : OutR W0 w v O) (hb : Below W0.heap.size W0 w) : ∃ A c, v = .slice A O.length c ∧ Srs w A O := by
  obtain ⟨raw, h1, h2, h3⟩ := h
  obtain ⟨A, c, e1, e2, _⟩ := Raw.of_own h2 h1
  exact ⟨A, c, e1, raw, e2, h2, fun i hi => (h3 i hi).ser hb⟩
theorem out_snoc {W0 w w' : World} {v v' : Value} {O : List Ser} {raw : List VV} {x : VV} {s : Ser} (ho : w.ownsRow W0.heap.size 49 2 v O.length (flatV raw)) (hl : raw.length = O.length)
    (he : ∀ i, i < O.length → El W0 w (raw.getD i v0) (O.getD i s0)) (hx : El W0 w x s) (hg : w.grownBy w' v.ownBlock) (ho' : w'.ownsRow W0.heap.size 49 2 v' (O.length + 1) (flatV raw ++ [x.1, x.2])) : OutR W0 w' v' (O ++ [s]) := by
  refine ⟨raw ++ [x], ?_, by simp [hl], fun i hi => ?_⟩
  · rw [List.length_append, ← show flatV raw ++ [x.1, x.2] = flatV (raw ++ [x]) from flatV_snoc raw x.1 x.2]; exact ho'
  · by_cases e : i < O.length
    · rw [show (raw ++ [x]).getD i v0 = raw.getD i v0 by simp [List.getD_eq_getElem?_getD, List.getElem?_append_left (show i < raw.length by rw [hl]; exact e)],
        show (O ++ [s]).getD i s0 = O.getD i s0 by simp [List.getD_eq_getElem?_getD, List.getElem?_append_left e]]
      exact (he i e).kept ho hg
    · have : i = O.length := by simp at hi; omega
      subst this
      rw [show (raw ++ [x]).getD O.length v0 = x by rw [← hl]; simp, show (O ++ [s]).getD O.length s0 = s by simp]
      exact hx.kept ho hg
/-- one more series behind those that the loop has -/
theorem wpList_out {W0 w : World} {ops : Array Oper} {rest : List Oper} {o : Oper} {a : Act} {Q : Exit → Act → World → Prop} (hgd : o.guard = none) (s x : Operand)
    (ho : o.op = .call { callee := .builtin .append, args := #[s, x], argTypes := #[22, 22] })
    (v : Value) (O : List Ser) (hs : a.eval s = v) (hO : OutR W0 w v O) (x1 x2 : Value) (sr : Ser) (g : Nat) (hx : a.eval x = .slice (some ⟨g, 0, none⟩) 1 1)
    (hc : ∀ j u, ([x1, x2] : List Value)[j]? = some u → w.cell? ((⟨g, 0, none⟩ : Addr).add j) = some u) (hel : El W0 w (x1, x2) sr) (hn : O.length ≤ 100000) (hW : Below W0.heap.size W0 w)
    (h : ∀ v' w', OutR W0 w' v' (O ++ [sr]) → Below W0.heap.size W0 w' → wpList Tryd.prog ops Q rest (a.put o.dst v') w') : wpList Tryd.prog ops Q (o :: rest) a w := by
  obtain ⟨i0, hi0, hz0, hz1, hz2⟩ := info_parts ser_info
  obtain ⟨raw, h1, h2, h3⟩ := hO
  refine wpList_append_own_at w hgd s x 22 ho W0.heap.size 49 i0 _ 2 48 Tryd.underlying22 hi0 hz0 hz1 hz2 rfl (by decide) v O.length (flatV raw) hs h1 ⟨g, 0, none⟩ 1 1 [x1, x2] hx rfl hc hel.one (by unfold maxLen; omega) (by omega) hW.size ?_
  intro v' w' e1 e2 _ _
  exact h v' w' (out_snoc h1 h2 h3 hel e2 e1) (hW.grown e2 hW.size (fun q hq => (h1.lt q hq).1))
end Go.Proofs.YtiabnacgfoaihaaDoor

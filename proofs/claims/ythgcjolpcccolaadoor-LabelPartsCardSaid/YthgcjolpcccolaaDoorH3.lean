import Derived.Test.YthgcjolpcccolaaDoorH2
namespace Go.Proofs.YthgcjolpcccolaaDoor
open Go.RowKit Lb
set_option linter.unusedVariables false

/-- the value of a name -/
def getF : List Lab → ByteArray → ByteArray
  | [], _ => ⟨#[]⟩
  | x :: l, s => if seqB x.1 s = true then x.2 else getF l s

set_option maxHeartbeats 1000000 in
theorem get_any (A : Option Addr) (cap : Nat) (l : List Lab) (s : ByteArray) (w : World) (hL : Lbs w A l) (hl : l.length ≤ 65536) :
    Calls Tryd.prog 17 #[.slice A l.length cap, .string s] w fun e w' => e = .returned (.string (getF l s)) ∧ Below w.heap.size w w' := by
  generalize hr : getF l s = r
  have HL := Lib.hid hL
  clear hL
  generalize hn : l.length = n at *
  have HN := Lib.hid hn
  have HR : Hid (getF (l.drop 0) s = r) := by rw [List.drop_zero]; exact hr
  clear hn hr
  go_enter Tryd.func17, Tryd.ntmps17
  go_wp2
  go_loopw [9] (fun i wr => ∃ k : Nat, k ≤ n ∧ i = .int .i64 k ∧ Hid (getF (l.drop k) s = r) ∧ Hid (Below w.heap.size w wr)) (fun i _ => n - (intOf i).toNat)
  case atStart => exact ⟨0, Nat.zero_le _, rfl, HR, Below.refl _ _⟩
  case round =>
    obtain ⟨k, hk, rfl, HC, HB⟩ := hrel
    by_cases hlt : k < n
    · have hkl : k < l.length := by rw [HN.out]; exact hlt
      obtain ⟨b0, off, rfl, hb0, hc⟩ := HL.out (by omega)
      have hx : wr.cell? ⟨b0, off + k * 2, none⟩ = some (.string (l.getD k e0).1) := (HB.out.cell (p := ⟨b0, off + k * 2, none⟩) hb0).trans (hc k hkl).1
      have hy : wr.cell? ⟨b0, off + k * 2 + 1, none⟩ = some (.string (l.getD k e0).2) := (HB.out.cell (p := ⟨b0, off + k * 2 + 1, none⟩) hb0).trans (hc k hkl).2
      have hsz := HB.out.size
      have hstep := HC.out
      have eg : l.getD k e0 = l[k] := by simp [hkl]
      rw [List.drop_eq_getElem_cons hkl, getF, ← eg] at hstep
      have hq : seqB (l.getD k e0).1 s = ((l.getD k e0).1.toList == s.toList) := rfl
      rw [hq] at hstep
      clear hc hq eg
      generalize (l.getD k e0).1 = x at *
      generalize (l.getD k e0).2 = y at *
      cases hs : (x.toList == s.toList) with
      | true =>
        rw [hs, if_pos rfl] at hstep
        subst hstep
        go_wp2
        go_ret
        exact ⟨rfl, HB.out.alloc hsz _⟩
      | false =>
        rw [hs, if_neg (by decide)] at hstep
        have HS := Lib.hid hstep
        clear hstep
        go_wp2
        go_roundw
        case rel => exact ⟨k + 1, by omega, by go_num, HS, HB.out.alloc hsz _⟩
        case measure => simp [intOf]; omega
    · have hf : r = ⟨#[]⟩ := by
        have := HC.out
        rw [List.drop_eq_nil_of_le (by rw [HN.out]; omega), getF] at this
        exact this.symm
      subst hf
      go_wp2
      go_ret
      exact ⟨rfl, HB.out⟩

/-! made labels -/
def slN (a b : Lab) : Prop := sl a.1 b.1 = true
theorem slN_trans {a b c : Lab} (h1 : slN a b) (h2 : slN b c) : slN a c := sl_trans h1 h2
theorem rising_of : ∀ s : List Lab, s.Pairwise (fun a b => leT a b = true) → Apart s s.length → s.Pairwise slN
  | [], _, _ => List.Pairwise.nil
  | [x], _, _ => List.pairwise_singleton _ _
  | x :: y :: t, h1, h2 => by
    have h1' := List.pairwise_cons.1 h1
    have h2' : Apart (y :: t) (y :: t).length := by
      intro i hi h0
      have := h2 (i + 1) (by simp at hi ⊢; omega) (by omega)
      have e1 : (x :: y :: t).getD (i + 1 - 1) e0 = (y :: t).getD (i - 1) e0 := by
        obtain ⟨j, rfl⟩ : ∃ j, i = j + 1 := ⟨i - 1, by omega⟩
        simp
      have e2 : (x :: y :: t).getD (i + 1) e0 = (y :: t).getD i e0 := by simp
      rw [e1, e2] at this
      exact this
    have ih := rising_of (y :: t) h1'.2 h2'
    have hxy : slN x y := by
      have hne := h2 1 (by simp) (by omega)
      simp only [Nat.sub_self, List.getD_cons_zero, List.getD_cons_succ] at hne
      have hle := (leT_iff x y).1 (h1'.1 y (by simp))
      rcases ltT_tri x y with k | k | k
      · rcases k with k | ⟨e, _⟩
        · exact k
        · rw [e] at hne; simp at hne
      · rw [k] at hne; simp at hne
      · exact absurd k hle
    refine List.pairwise_cons.2 ⟨fun z hz => ?_, ih⟩
    rcases List.mem_cons.1 hz with rfl | hz
    · exact hxy
    · exact slN_trans hxy ((List.pairwise_cons.1 ih).1 z hz)
theorem made_facts {l o : List Lab} (h : makeF l = some o) : (∀ x ∈ o, okB x = true) ∧ (∀ x ∈ o, full x = true) ∧ o.Pairwise slN ∧ o.length ≤ 16 := by
  unfold makeF at h
  split at h
  · rename_i hh
    obtain ⟨h1, h2, h3⟩ := hh
    injection h with h
    subst h
    refine ⟨fun x hx => ?_, fun x hx => (List.mem_filter.1 hx).2, (rising_of _ (sortL_sorted l) h2).filter _, h3⟩
    exact (ok_iff l).1 h1 x ((sortL_perm l).mem_iff.1 (List.mem_filter.1 hx).1)
  · cases h
theorem slN_ne {a b : Lab} (h : slN a b) : (a.1.toList == b.1.toList) = false := by
  cases k : (a.1.toList == b.1.toList) with
  | false => rfl
  | true =>
    have e : a.1 = b.1 := (seqB_iff a.1 b.1).1 k
    unfold slN at h
    rw [e, sl_irrefl] at h; cases h
theorem slN_le {a b : Lab} (h : slN a b) : leT a b = true := by
  rw [leT_iff]
  intro k
  exact ltT_irrefl _ (ltT_trans (.inl h) k)
theorem made_again {l o : List Lab} (h : makeF l = some o) : makeF o = some o := by
  obtain ⟨h1, h2, h3, h4⟩ := made_facts h
  have hs : sortL o = o := sortL_of (List.Perm.refl _) (h3.imp fun h => slN_le h)
  have hf : o.filter full = o := List.filter_eq_self.2 h2
  have := @make_some o ((ok_iff o).2 h1)
  rw [hs, hf] at this
  refine this (fun i hi h0 => ?_) (by omega)
  have := List.pairwise_iff_getElem.1 h3 (i - 1) i (by omega) hi (by omega)
  rw [show o.getD (i - 1) e0 = o[i - 1]'(by omega) by simp [show i - 1 < o.length by omega], show o.getD i e0 = o[i] by simp [hi]]
  exact slN_ne this
theorem getF_at : ∀ (o : List Lab), o.Pairwise slN → ∀ i, i < o.length → getF o (o.getD i e0).1 = (o.getD i e0).2
  | [], _, _, h => by simp at h
  | x :: t, hp, 0, _ => by
    simp only [getF, List.getD_cons_zero]
    rw [if_pos ((seqB_iff _ _).2 rfl)]
  | x :: t, hp, i + 1, h => by
    have hp' := List.pairwise_cons.1 hp
    have hi : i < t.length := by simpa using h
    have e : (x :: t).getD (i + 1) e0 = t.getD i e0 := by simp
    rw [e, getF, if_neg, getF_at t hp'.2 i hi]
    rw [show t.getD i e0 = t[i] by simp [hi]]
    have := slN_ne (hp'.1 t[i] (List.getElem_mem hi))
    unfold seqB
    rw [this]; decide
theorem isIn_all (o : List Lab) : o.filter (isIn (o.map (·.1))) = o := by
  refine List.filter_eq_self.2 fun x hx => ?_
  unfold isIn inB
  rw [List.any_eq_true]
  exact ⟨x.1, List.mem_map.2 ⟨x, hx, rfl⟩, (seqB_iff _ _).2 rfl⟩
theorem isOut_all (o : List Lab) : o.filter (isOut (o.map (·.1))) = [] := by
  refine List.filter_eq_nil_iff.2 fun x hx => ?_
  have : isIn (o.map (·.1)) x = true := by
    unfold isIn inB
    rw [List.any_eq_true]
    exact ⟨x.1, List.mem_map.2 ⟨x, hx, rfl⟩, (seqB_iff _ _).2 rfl⟩
  unfold isOut
  unfold isIn at this
  rw [this]; decide
theorem isIn_none (o : List Lab) : o.filter (isIn []) = [] := by
  refine List.filter_eq_nil_iff.2 fun x hx => ?_
  simp [isIn, inB]
end Go.Proofs.YthgcjolpcccolaaDoor

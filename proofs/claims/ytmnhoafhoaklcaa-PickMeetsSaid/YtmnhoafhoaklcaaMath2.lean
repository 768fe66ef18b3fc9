/- Plain facts on windows: two that meet, one in another one, and the last sample. No condition. -/
import Derived.Test.YtmnhoafhoaklcaaMath
namespace Go.Proofs.Ytmnhoafhoaklcaa.Pk

theorem may_less {l : List Pt} {t a b : Int} (h : mayB l t b = true) (h1 : 1 ≤ a) (h2 : a ≤ b) : mayB l t a = true := by
  obtain ⟨hg, ht, hb⟩ := (mayB_iff l t b).1 h
  exact (mayB_iff l t a).2 ⟨hg, ht, h1, by omega⟩

theorem cut_two (l : List Pt) (i j k : Nat) (h1 : i ≤ j) (h2 : j ≤ k) : (l.drop i).take (k - i) = (l.drop i).take (j - i) ++ (l.drop j).take (k - j) := by
  have e : k - i = (j - i) + (k - j) := by omega
  rw [e, List.take_add, List.drop_drop, show i + (j - i) = j by omega]

/-- a window is two that meet -/
theorem win_meet {l : List Pt} {t a b : Int} (h : mayB l t (a + b) = true) (ha : mayB l t a = true) (hb : mayB l (t - a) b = true) : win l t (a + b) = win l (t - a) b ++ win l t a := by
  obtain ⟨hg, ht, h3⟩ := (mayB_iff l t a).1 ha
  obtain ⟨_, _, h4⟩ := (mayB_iff l (t - a) b).1 hb
  rw [win_cut l t (a + b) h, win_cut l t a ha, win_cut l (t - a) b hb, ← List.filter_append, show t - (a + b) = t - a - b by omega]
  rw [cut_two l (cnt l (t - a - b)) (cnt l (t - a)) (cnt l t) (cnt_mono l hg (by omega)) (cnt_mono l hg (by omega))]

/-- a less wide window stands at the end of a wider one -/
theorem win_wide {l : List Pt} {t a b : Int} (h : mayB l t b = true) (h1 : 1 ≤ a) (h2 : a ≤ b) : ∃ pre, win l t b = pre ++ win l t a := by
  obtain ⟨hg, ht, hb⟩ := (mayB_iff l t b).1 h
  rw [win_cut l t b h, win_cut l t a (may_less h h1 h2)]
  rw [cut_two l (cnt l (t - b)) (cnt l (t - a)) (cnt l t) (cnt_mono l hg (by omega)) (cnt_mono l hg (by omega)), List.filter_append]
  exact ⟨_, rfl⟩

theorem win_each {l : List Pt} {t b : Int} (i : Nat) (hi : i < (win l t b).length) : ((win l t b).getD i d0).1 ≤ t ∧ t - b < ((win l t b).getD i d0).1 ∧ (((win l t b).getD i d0).2 == stale) = false := by
  have hm : (win l t b).getD i d0 ∈ win l t b := by
    rw [show (win l t b).getD i d0 = (win l t b)[i] by simp [hi]]
    exact List.getElem_mem hi
  generalize (win l t b).getD i d0 = p at hm ⊢
  unfold win at hm
  split at hm
  · have := (List.mem_filter.1 hm).2
    simp only [inW, Bool.and_eq_true, decide_eq_true_eq, Bool.not_eq_true'] at this
    exact ⟨this.1, this.2.1, this.2.2⟩
  · simp at hm

theorem at_ok_iff {l : List Pt} {t b : Int} (h : (at_ l t b).2 = true) : mayB l t b = true ∧ 0 < cnt l t ∧ t - b < (l.getD (cnt l t - 1) d0).1 ∧ ((l.getD (cnt l t - 1) d0).2 == stale) = false ∧ at_ l t b = ((l.getD (cnt l t - 1) d0).2, true) := by
  unfold at_ at h ⊢
  split at h
  · rename_i hc
    rw [if_pos hc]
    obtain ⟨hm, hl⟩ := hc
    unfold lastOf at hl ⊢
    split at hl
    · cases hl
    · rename_i h0
      rw [if_neg h0]
      simp only [Bool.and_eq_true, decide_eq_true_eq, Bool.not_eq_true'] at hl
      exact ⟨hm, by omega, hl.1, hl.2, rfl⟩
  · cases h

theorem at_wide {l : List Pt} {t a b : Int} (h : mayB l t b = true) (h2 : a ≤ b) (ho : (at_ l t a).2 = true) : at_ l t b = at_ l t a := by
  obtain ⟨_, h0, hx, hs, he⟩ := at_ok_iff ho
  rw [he]
  unfold at_ lastOf
  rw [if_neg (show ¬ cnt l t = 0 by omega), if_pos]
  refine ⟨h, ?_⟩
  rw [hs, decide_eq_true (by omega)]
  rfl

theorem getD_append_right (p x : List Pt) (i : Nat) : (p ++ x).getD (p.length + i) d0 = x.getD i d0 := by
  simp [List.getD_eq_getElem?_getD, List.getElem?_append_right]

/-- the last one of a window is the sample -/
theorem at_last {l : List Pt} {t b : Int} (h : (at_ l t b).2 = true) : 0 < (win l t b).length ∧ ((win l t b).getD ((win l t b).length - 1) d0).2 = (at_ l t b).1 := by
  obtain ⟨hm, h0, hx, hs, he⟩ := at_ok_iff h
  obtain ⟨hg, ht, hb⟩ := (mayB_iff l t b).1 hm
  have hc := cnt_le l t
  have hlo : cnt l (t - b) ≤ cnt l t - 1 := by
    by_cases e : cnt l (t - b) ≤ cnt l t - 1
    · exact e
    · have := (cnt_spec l hg (t - b)).1 (cnt l t - 1) (by omega)
      omega
  have hw : win l t b = ((l.drop (cnt l (t - b))).take (cnt l t - 1 - cnt l (t - b))).filter fresh ++ [l.getD (cnt l t - 1) d0] := by
    rw [win_cut l t b hm, cut_two l (cnt l (t - b)) (cnt l t - 1) (cnt l t) hlo (by omega), List.filter_append]
    congr 1
    rw [show cnt l t - (cnt l t - 1) = 1 by omega, List.drop_eq_getElem_cons (show cnt l t - 1 < l.length by omega)]
    have e : l.getD (cnt l t - 1) d0 = l[cnt l t - 1] := by simp [show cnt l t - 1 < l.length by omega]
    rw [e] at hs ⊢
    have hf : fresh l[cnt l t - 1] = true := by simp only [fresh, hs]; rfl
    rw [List.take_succ_cons, List.take_zero, List.filter_cons, if_pos hf]
    rfl
  rw [hw]
  refine ⟨by simp, ?_⟩
  rw [he, List.length_append, List.length_singleton, Nat.add_sub_cancel]
  have := getD_append_right (((l.drop (cnt l (t - b))).take (cnt l t - 1 - cnt l (t - b))).filter fresh) [l.getD (cnt l t - 1) d0] 0
  rw [Nat.add_zero] at this
  rw [this]
  rfl

theorem win_len (l : List Pt) (t b : Int) : (win l t b).length ≤ l.length := by
  unfold win
  split
  · exact List.length_filter_le _ _
  · simp
end Go.Proofs.Ytmnhoafhoaklcaa.Pk

import Derived.Test.YtmnhoafhoaklcaaW5
namespace Go.Proofs.Ytmnhoafhoaklcaa
open Go.RowKit Pk
set_option linter.unusedVariables false

theorem add_none (b off k : Nat) : (⟨b, off, none⟩ : Addr).add k = ⟨b, off + k, none⟩ := by unfold Addr.add; split <;> simp_all

/-- a part of the points, cut out -/
theorem Pts.cut {w : World} {A : Option Addr} {l : List Pt} (h : Pts w A l) (cap lo hi : Nat) (hlo : lo ≤ hi) (hhi : hi ≤ l.length) (hc : l.length ≤ cap) :
    Pts w (if cap = lo then A else A.map (·.add (lo * 2))) ((l.drop lo).take (hi - lo)) := by
  intro hn
  have hlen : ((l.drop lo).take (hi - lo)).length = hi - lo := by simp; omega
  rw [hlen] at hn
  obtain ⟨b, off, rfl, hb, hcell⟩ := h (by omega)
  rw [if_neg (by omega)]
  refine ⟨b, off + lo * 2, by simp [add_none], hb, fun i hi' => ?_⟩
  rw [hlen] at hi'
  have e : ((l.drop lo).take (hi - lo)).getD i d0 = l.getD (lo + i) d0 := by
    simp only [List.getD_eq_getElem?_getD, List.getElem?_take, List.getElem?_drop]
    rw [if_pos hi']
  rw [e, show off + lo * 2 + i * 2 = off + (lo + i) * 2 by omega]
  exact hcell (lo + i) (by omega)

theorem Pts.less {w : World} {A : Option Addr} {l : List Pt} (h : Pts w A l) {w' : World} (hb : Below w.heap.size w w') : Pts w' A l := h.below hb

set_option maxHeartbeats 2000000 in
theorem window_any (A : Option Addr) (cap : Nat) (l : List Pt) (t b : Int) (w : World) (hp : Pts w A l) (hl : l.length ≤ 65536) (hcap : l.length ≤ cap) :
    Calls Try.prog 10 #[.slice A l.length cap, .int .i64 t, .int .i64 b] w fun e w' => ∃ A' c, e = .returned (.slice A' (win l t b).length c) ∧ Own w' A' c (win l t b) ∧ Below w.heap.size w w' := by
  have HP := Lib.hid hp
  cases hm : mayB l t b with
  | false =>
    have hw : win l t b = [] := by simp [win, hm]
    rw [hw]
    have h1 := usable_any A cap l t b w hp hl
    rw [hm] at h1
    generalize l.length = n at *
    have H1 := Lib.hid h1
    clear hp h1 hm hw
    go_enter Try.func10, Try.ntmps10
    go_wp2_with fail
    refine (H1.out).mono ?_
    rintro e w1 ⟨rfl, hb1⟩
    go_wp2
    go_ret
    exact ⟨none, 0, rfl, ⟨fun h => by simp at h, fun _ => rfl⟩, hb1⟩
  | true =>
    obtain ⟨hg, ht, hb⟩ := (mayB_iff l t b).1 hm
    simp only [far_eq] at ht hb
    have hw := win_cut l t b hm
    have h1 := usable_any A cap l t b w hp hl
    rw [hm] at h1
    have H1 := Lib.hid h1
    have hc1 := cnt_le l t
    have hc2 := cnt_mono l hg (s := t - b) (t := t) (by omega)
    have h2 : ∀ w1, Below w.heap.size w w1 → Calls Try.prog 14 #[.slice A l.length cap, .int .i64 (t - b)] w1 fun e w' => e = .returned (.int .i64 (cnt l (t - b) : Nat)) ∧ Below w1.heap.size w1 w' := fun w1 hb1 => upto_any A cap l (t - b) w1 (hp.below hb1) hl hg
    have h3 : ∀ w1, Below w.heap.size w w1 → Calls Try.prog 14 #[.slice A l.length cap, .int .i64 t] w1 fun e w' => e = .returned (.int .i64 (cnt l t : Nat)) ∧ Below w1.heap.size w1 w' := fun w1 hb1 => upto_any A cap l t w1 (hp.below hb1) hl hg
    have h4 : ∀ w1, Below w.heap.size w w1 → Calls Try.prog 16 #[.slice (if cap = cnt l (t - b) then A else A.map (·.add (cnt l (t - b) * 2))) (cnt l t - cnt l (t - b)) (cap - cnt l (t - b)), .func (.func 15) #[] #[]] w1 fun e w' => ∃ A' c, e = .returned (.slice A' (win l t b).length c) ∧ Own w' A' c (win l t b) ∧ Below w1.heap.size w1 w' := by
      intro w1 hb1
      have hlen : ((l.drop (cnt l (t - b))).take (cnt l t - cnt l (t - b))).length = cnt l t - cnt l (t - b) := by simp; omega
      have := without_any _ (cap - cnt l (t - b)) _ w1 ((hp.below hb1).cut cap (cnt l (t - b)) (cnt l t) hc2 hc1 hcap) (by omega)
      rw [hlen, ← hw] at this
      exact this
    have H2 := Lib.hid h2
    have H3 := Lib.hid h3
    have H4 := Lib.hid h4
    generalize l.length = n at *
    clear hp h1 hm hw h2 h3 h4 hg
    generalize cnt l (t - b) = lo at *
    generalize cnt l t = hi at *
    generalize win l t b = l' at *
    by_cases hcl : cap = lo
    · subst hcl
      have H5 := Lib.hid (fun w1 hb1 => by have := H4.out w1 hb1; rw [if_pos rfl] at this; exact this : ∀ w1, Below w.heap.size w w1 → Calls Try.prog 16 #[.slice A (hi - cap) (cap - cap), .func (.func 15) #[] #[]] w1 fun e w' => ∃ A' c, e = .returned (.slice A' l'.length c) ∧ Own w' A' c l' ∧ Below w1.heap.size w1 w')
      clear H4
      go_enter Try.func10, Try.ntmps10
      go_wp2_with fail
      refine (H1.out).mono ?_
      rintro e w1 ⟨rfl, hb1⟩
      go_wp2_with fail
      refine (H2.out _ hb1).mono ?_
      rintro e w2 ⟨rfl, hb2⟩
      go_wp2_with fail
      have hb2' := hb1.trans (hb2.mono hb1.size)
      refine (H3.out _ hb2').mono ?_
      rintro e w3 ⟨rfl, hb3⟩
      have hb3' := hb2'.trans (hb3.mono hb2'.size)
      go_wp2_with fail
      rw [show (0 : Nat) = cap - cap by omega]
      refine (H5.out _ hb3').mono ?_
      rintro e w4 ⟨A', c, rfl, hpt, hb4⟩
      have HPT := Lib.hid hpt
      clear hpt
      go_wp2
      go_ret
      exact ⟨_, _, rfl, HPT.out, hb3'.trans (hb4.mono hb3'.size)⟩
    · have H5 := Lib.hid (fun w1 hb1 => by have := H4.out w1 hb1; rw [if_neg hcl] at this; exact this : ∀ w1, Below w.heap.size w w1 → Calls Try.prog 16 #[.slice (A.map (·.add (lo * 2))) (hi - lo) (cap - lo), .func (.func 15) #[] #[]] w1 fun e w' => ∃ A' c, e = .returned (.slice A' l'.length c) ∧ Own w' A' c l' ∧ Below w1.heap.size w1 w')
      clear H4
      go_enter Try.func10, Try.ntmps10
      go_wp2_with fail
      refine (H1.out).mono ?_
      rintro e w1 ⟨rfl, hb1⟩
      go_wp2_with fail
      refine (H2.out _ hb1).mono ?_
      rintro e w2 ⟨rfl, hb2⟩
      go_wp2_with fail
      have hb2' := hb1.trans (hb2.mono hb1.size)
      refine (H3.out _ hb2').mono ?_
      rintro e w3 ⟨rfl, hb3⟩
      have hb3' := hb2'.trans (hb3.mono hb2'.size)
      go_wp2_with fail
      refine (H5.out _ hb3').mono ?_
      rintro e w4 ⟨A', c, rfl, hpt, hb4⟩
      have HPT := Lib.hid hpt
      clear hpt
      go_wp2
      go_ret
      exact ⟨_, _, rfl, HPT.out, hb3'.trans (hb4.mono hb3'.size)⟩
end Go.Proofs.Ytmnhoafhoaklcaa

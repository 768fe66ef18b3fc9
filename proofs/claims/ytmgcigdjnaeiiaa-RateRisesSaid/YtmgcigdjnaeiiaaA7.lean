import Derived.Test.YtmgcigdjnaeiiaaA6
namespace Go.Proofs.Ytmgcigdjnaeiiaa
open Go.RowKit Fl Ieee
set_option linter.unusedVariables false

theorem gained_q (A : Option Addr) (cap : Nat) (l : List Pt) (w : World) (hL : Pts w A l) (hl : 2 ≤ l.length) (hm : l.length ≤ 65536) (hv : ∀ i, i < l.length → (l.getD i e0).2 < 9218868437227405312) :
    Calls Try.prog 25 #[.slice A l.length cap, .bool true] w fun e w' => e = .returned (.float .f64 (gSeq l l.length)) ∧ Below w.heap.size w w' :=
  (gained_true A cap l w hL hl hm hv).mono fun e w' ⟨_, h2, h3⟩ => ⟨h2, h3⟩
/-- the growth of a list is at least 0: by a world that holds it -/
theorem gState_seq (l : List Pt) (hv : ∀ i, i < l.length → (l.getD i e0).2 < 9218868437227405312) (hl : 2 ≤ l.length) : ∀ k, 1 ≤ k → k ≤ l.length → GState l k (gSeq l k) := by
  intro k
  induction k with
  | zero => intro h; omega
  | succ k ih =>
    intro _ hk
    by_cases h0 : k = 0
    · subst h0
      obtain ⟨g0, hg0, hgs⟩ := sub_fall (hv (l.length - 1) (by omega)) (hv 0 (by omega))
      rw [gSeq_one, hg0]
      rcases hgs with h | ⟨r, h1, h2, h3⟩
      · exact .inl h.1
      · exact .inr ⟨r, h1, h2, h3, Nat.le_refl _⟩
    · have hs := ih (by omega) (by omega)
      by_cases hf : (l.getD k e0).2 < (l.getD (k - 1) e0).2
      · obtain ⟨z, hz, hzn⟩ := gstate_fall hs (hv (k - 1) (by omega))
        rw [← gSeq_fall (by omega) hf rfl hz]
        exact .inl hzn
      · rw [← gSeq_up (by omega) hf rfl]
        exact gstate_up hs (by omega) (by omega)
theorem gSeq_nn (l : List Pt) (hv : ∀ i, i < l.length → (l.getD i e0).2 < 9218868437227405312) (hl : 2 ≤ l.length) : NN (gSeq l l.length) := gstate_end (gState_seq l hv hl l.length (by omega) (Nat.le_refl _))

/-- with counts, and a divisor: a number of at least 0 -/
theorem growth_up (A : Option Addr) (cap : Nat) (l : List Pt) (s e : Int) (dv : Nat) (w : World) (hL : Pts w A l) (hu : Usable l s e) (hm : l.length ≤ 400) (hv : ∀ i, i < l.length → (l.getD i e0).2 < 9218868437227405312) (hdv : In 1012 1069 dv) :
    ∃ res, NN res ∧ ∀ W, Below w.heap.size w W → Calls Try.prog 15 #[.slice A l.length cap, .int .i64 s, .int .i64 e, .bool true, .float .f64 dv] W fun x w' => x = .returned (.float .f64 res) ∧ Below W.heap.size W w' := by
  have hr := usable_rise hu
  obtain ⟨u1, u2, u3, u4, u5, u6, u7, u8⟩ := hu
  have hlast := hr (l.length - 1) (by omega)
  have hlast2 := hlast.2 (by omega)
  obtain ⟨mean, bg, most, half, r1, r2, g1, g2, q1, q2, res, c1, c2, c3, c4, c5, c6, c7, c8, c9, c10, c11, c12⟩ := chain_up (n := l.length) (g := gSeq l l.length) (v0 := (l.getD 0 e0).2) (d1 := ((l.getD 0 e0).1 - s).toNat) (d2 := (e - (l.getD (l.length - 1) e0).1).toNat) (d3 := ((l.getD (l.length - 1) e0).1 - (l.getD 0 e0).1).toNat) (dv := dv)
    u1 hm (gSeq_nn l hv u1) (hv 0 (by omega)) (by omega) (by omega) (by omega) (by omega) (by omega) hdv
  refine ⟨res, c12, fun W hW => ?_⟩
  exact growth_is A cap l s e true dv (gSeq l l.length) W (hL.below hW) u1 (by omega) _ _ _ mean bg most half r1 r2 g1 g2 q1 q2 res (by omega) (by omega) (by omega) (by omega) (by omega) (by omega) c1 c2 c3 c4 c5 c6 c7 c8 c9 c10 c11
    (fun W' hW' => gained_q A cap l W' ((hL.below hW).below hW') u1 (by omega) hv)
end Go.Proofs.Ytmgcigdjnaeiiaa

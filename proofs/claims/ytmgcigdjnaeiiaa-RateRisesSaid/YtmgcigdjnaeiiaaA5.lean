import Derived.Test.YtmgcigdjnaeiiaaA4
namespace Go.Proofs.Ytmgcigdjnaeiiaa
open Go.RowKit Fl Ieee
set_option linter.unusedVariables false

/-! Norm, IsNone, IsInf at numbers of at least 0 -/
theorem self_eq {x : Nat} (hx : NN x) : (double.order x x == some .eq) = true := by
  rw [order_nn hx hx]
  simp
theorem isnum_any (x : Nat) (hx : NN x) (w : World) : Calls Try.prog 28 #[.float .f64 x] w fun e w' => e = .returned (.bool true) ∧ w = w' := by
  have h : (FloatKind.f64.format.order x x == some .eq) = true := self_eq hx
  clear hx
  go_enter Try.func28, Try.ntmps28
  go_wp2
  go_ret
  exact ⟨rfl, rfl⟩
theorem norm_any (x : Nat) (hx : NN x) (w : World) : Calls Try.prog 17 #[.int .u64 (x : Int)] w fun e w' => e = .returned (.int .u64 (x : Int)) ∧ w = w' := by
  have H := Lib.hid (fun w => isnum_any x hx w)
  have hb := fun w => frombits x w
  have hne : ((x : Int) == 9218868437227405314) = false := beq_eq_false_iff_ne.2 (by unfold NN at hx; omega)
  clear hx
  go_enter Try.func17, Try.ntmps17
  go_wp2_with fail
  refine (H.out _).mono ?_
  rintro e w1 ⟨rfl, rfl⟩
  go_wp2
  go_ret
  exact ⟨rfl, rfl⟩
theorem near_any (t : Int) (w : World) : Calls Try.prog 22 #[.int .i64 t] w fun e w' => e = .returned (.bool (decide (-4503599627370496 ≤ t) && decide (t ≤ 4503599627370496))) ∧ w = w' := by
  by_cases h1 : -4503599627370496 ≤ t
  · by_cases h2 : t ≤ 4503599627370496
    · go_enter Try.func22, Try.ntmps22
      go_wp2
      go_ret
      exact ⟨by simp [h1, h2], rfl⟩
    · go_enter Try.func22, Try.ntmps22
      go_wp2
      go_ret
      exact ⟨by simp [h2], rfl⟩
  · go_enter Try.func22, Try.ntmps22
    go_wp2
    go_ret
    exact ⟨by simp; omega, rfl⟩
theorem float_any (x : Nat) (w : World) : Calls Try.prog 10 #[.int .u64 (x : Int)] w fun e w' => e = .returned (.float .f64 x) ∧ w = w' := by
  have hb := fun w => frombits x w
  go_enter Try.func10, Try.ntmps10
  go_wp2
  go_ret
  exact ⟨rfl, rfl⟩
/-- points in order, within start and end -/
def Usable (l : List Pt) (s e : Int) : Prop := 2 ≤ l.length ∧ -4503599627370496 ≤ s ∧ s ≤ 4503599627370496 ∧ -4503599627370496 ≤ e ∧ e ≤ 4503599627370496 ∧ s < (l.getD 0 e0).1 ∧ (l.getD (l.length - 1) e0).1 ≤ e ∧ ∀ k, 1 ≤ k → k < l.length → (l.getD (k - 1) e0).1 < (l.getD k e0).1
theorem usable_rise {l : List Pt} {s e : Int} (h : Usable l s e) : ∀ k, k < l.length → (l.getD 0 e0).1 ≤ (l.getD k e0).1 ∧ (1 ≤ k → (l.getD 0 e0).1 < (l.getD k e0).1) := by
  intro k
  induction k with
  | zero => intro _; exact ⟨Int.le_refl _, fun h => absurd h (by omega)⟩
  | succ k ih =>
    intro hk
    have h1 := ih (by omega)
    have h2 := h.2.2.2.2.2.2.2 (k + 1) (by omega) hk
    rw [Nat.add_sub_cancel] at h2
    exact ⟨by omega, fun _ => by omega⟩

/-! what the whole comes to, with rate and increase -/
theorem one_in : In 1023 1023 4607182418800017408 := ⟨by decide, by decide⟩
theorem two_in : In 1024 1024 4611686018427387904 := ⟨by decide, by decide⟩
theorem chain_up {n g v0 d1 d2 d3 dv : Nat} (hn : 2 ≤ n) (hn4 : n ≤ 400) (hg : NN g) (hv : v0 < 9218868437227405312) (h1 : d1 ≠ 0) (h3 : d3 ≠ 0) (m1 : d1 ≤ 9007199254740992) (m2 : d2 ≤ 9007199254740992) (m3 : d3 ≤ 9007199254740992) (hdv : In 1012 1069 dv) :
    ∃ mean bg most half r1 r2 g1 g2 q1 q2 res : Nat, double.div (secF d3) (ofN (n - 1)) = some mean ∧ Begins true g v0 (secF d3) bg (secF d1) ∧ double.mul mean 4607632778762754458 = some most ∧ double.div mean 4611686018427387904 = some half ∧
      (r1 = if (double.order bg most == some .lt) = true then bg else half) ∧ (r2 = if (double.order (secF d2) most == some .lt) = true then secF d2 else half) ∧
      double.add (secF d3) r1 = some g1 ∧ double.add g1 r2 = some g2 ∧ double.div g2 (secF d3) = some q1 ∧ double.div q1 dv = some q2 ∧ double.mul g q2 = some res ∧ NN res := by
  obtain ⟨_, s1, _⟩ := sec_is d1 m1
  obtain ⟨_, s2, s2'⟩ := sec_is d2 m2
  obtain ⟨_, s3, _⟩ := sec_is d3 m3
  have s1 := s1 h1
  have s3 := s3 h3
  have hx2 : secF d2 ≤ 1070 * 4503599627370496 := by
    by_cases h : d2 = 0
    · rw [s2' h]; exact Nat.zero_le _
    · exact Nat.le_trans (s2 h).2 (Nat.mul_le_mul_right _ (by omega))
  have hl : (n - 1).log2 < 9 := (Nat.log2_lt (by omega)).2 (by omega)
  obtain ⟨mean, hmean, imean⟩ := div_in s3 (ofN_in (d := n - 1) (by omega) (by omega)) (by omega) (by omega) (by omega) (by omega) (by omega) (by omega)
  have imean : In 1002 1070 mean := imean.wide (by omega) (by omega)
  have nmean := imean.normal (by omega) (by omega)
  obtain ⟨half, hhalf, ihalf⟩ := div_in imean two_in (by omega) (by omega) (by omega) (by omega) (by omega) (by omega)
  have ihalf : In 1000 1070 half := ihalf.wide (by omega) (by omega)
  obtain ⟨most, hmost, imost⟩ := mul_nn (x := mean) (y := 4607632778762754458) (Nat.le_of_lt nmean.2) ⟨by omega, by omega⟩
  have n3 := s3.normal (by omega) (by omega)
  have n1 := s1.normal (by omega) (by omega)
  obtain ⟨bg, hbg, ibg⟩ : ∃ bg, Begins true g v0 (secF d3) bg (secF d1) ∧ bg ≤ 1070 * 4503599627370496 := by
    have b1 : secF d1 ≤ 1070 * 4503599627370496 := Nat.le_trans s1.2 (Nat.mul_le_mul_right _ (by omega))
    cases hc : (double.order g 0 == some .gt) with
    | false => exact ⟨secF d1, .inr (.inl ⟨rfl, hc, rfl⟩), b1⟩
    | true =>
      have hg0 : g ≠ 0 := by
        rintro rfl
        rw [order_nn (Nat.zero_le _) (Nat.zero_le _)] at hc
        simp at hc
      obtain ⟨q0, hq0, iq0⟩ := div_nn hv hg hg0
      obtain ⟨z, hz, iz⟩ := mul_nn' (x := secF d3) (y := q0) ⟨by omega, n3.2⟩ iq0
      have hge : (double.order v0 0 == some .gt || double.order v0 0 == some .eq) = true := by
        rw [order_nn (Nat.le_of_lt hv) (Nat.zero_le _)]
        rcases Nat.eq_zero_or_pos v0 with h | h
        · subst h; simp
        · rw [Nat.compare_eq_gt.2 h]; rfl
      refine ⟨_, .inr (.inr ⟨rfl, hc, hge, q0, z, hq0, hz, rfl⟩), ?_⟩
      split
      · rename_i ho
        rw [order_nn iz (Nat.le_of_lt n1.2)] at ho
        have : z < secF d1 := Nat.compare_eq_lt.1 (by simpa using ho)
        omega
      · exact b1
  have ir : ∀ x, x ≤ 1070 * 4503599627370496 → (if (double.order x most == some .lt) = true then x else half) ≤ 1070 * 4503599627370496 := fun x hx => by
    split
    · exact hx
    · exact ihalf.2
  obtain ⟨g1, hg1, ig1⟩ := add_in (s3.wide (Nat.le_refl _) (show 1069 ≤ 1070 by omega)) (ir bg ibg) (by omega) (by omega)
  obtain ⟨g2, hg2, ig2⟩ := add_in ig1 (Nat.le_trans (ir (secF d2) hx2) (Nat.mul_le_mul_right _ (by omega))) (by omega) (by omega)
  obtain ⟨q1, hq1, iq1⟩ := div_in ig2 s3 (by omega) (by omega) (by omega) (by omega) (by omega) (by omega)
  obtain ⟨q2, hq2, iq2⟩ := div_in iq1 hdv (by omega) (by omega) (by omega) (by omega) (by omega) (by omega)
  have nq2 := iq2.normal (by omega) (by omega)
  obtain ⟨res, hres, ires⟩ := mul_nn hg ⟨by omega, nq2.2⟩
  exact ⟨mean, bg, most, half, _, _, g1, g2, q1, q2, res, hmean, hbg, hmost, hhalf, rfl, rfl, hg1, hg2, hq1, hq2, hres, ires⟩
end Go.Proofs.Ytmgcigdjnaeiiaa

import Derived.Test.YtmnhoafhoaklcaaW1
namespace Go.Proofs.Ytmnhoafhoaklcaa
open Go.RowKit Pk
set_option linter.unusedVariables false

theorem may_bad (l : List Pt) (t b : Int) (k : Nat) (hk : k < l.length) (h : (l.getD k d0).1 < -2305843009213693952 ∨ 2305843009213693952 < (l.getD k d0).1 ∨ (0 < k ∧ (l.getD k d0).1 ≤ (l.getD (k - 1) d0).1)) : mayB l t b = false := by
  cases hm : mayB l t b with
  | false => rfl
  | true =>
    obtain ⟨hg, _⟩ := (mayB_iff l t b).1 hm
    have := hg k hk
    have e := far_eq
    rcases h with h | h | ⟨h0, h⟩
    · omega
    · omega
    · have := this.2 h0; omega

theorem may_of (l : List Pt) (t b : Int) (hg : Rise l l.length) : mayB l t b = (decide (-2305843009213693952 ≤ t) && (decide (t ≤ 2305843009213693952) && (decide (0 < b) && decide (b ≤ 2305843009213693952)))) := by
  rw [Bool.eq_iff_iff, mayB_iff]
  simp only [far_eq, Bool.and_eq_true, decide_eq_true_eq]
  constructor
  · rintro ⟨_, h1, h2, h3⟩; omega
  · rintro ⟨h1, h2, h3, h4⟩; exact ⟨hg, by omega, by omega, by omega⟩

theorem draws (w : World) (m n : Nat) : ∃ k, (w.drewN m).drewN n = w.drewN k := ⟨_, World.drewN_drewN w m n⟩

theorem rise_next {l : List Pt} {k : Nat} (h : Rise l k) (h1 : ¬ (l.getD k d0).1 < -2305843009213693952) (h2 : ¬ 2305843009213693952 < (l.getD k d0).1) (h3 : k = 0 ∨ (l.getD (k - 1) d0).1 < (l.getD k d0).1) : Rise l (k + 1) :=
  rise_succ h (by simp only [far_eq]; omega) (fun h0 => by rcases h3 with h3 | h3 <;> omega)

set_option maxHeartbeats 3200000 in
theorem may_any (A : Option Addr) (cap : Nat) (l : List Pt) (t b : Int) (w : World) (hp : Pts w A l) (hl : l.length ≤ 65536) :
    Calls Try.prog 12 #[.slice A l.length cap, .int .i64 t, .int .i64 b] w fun e w' => e = .returned (.bool (mayB l t b)) ∧ ∃ n, w' = w.drewN n := by
  generalize hr : mayB l t b = r
  have HR := Lib.hid hr
  generalize hn : l.length = n
  have HN := Lib.hid hn
  have HP := Lib.hid hp
  have hl' : n ≤ 65536 := by omega
  clear hn hp hl hr
  go_enter Try.func12, Try.ntmps12
  go_wp2
  go_loopw [7] (fun i wr => ∃ k m : Nat, k ≤ n ∧ i = .int .i64 k ∧ wr = w.drewN m ∧ Hid (Rise l k)) (fun i _ => n - (intOf i).toNat)
  case atStart => exact ⟨0, 0, Nat.zero_le _, rfl, rfl, rise_zero l⟩
  case round =>
    obtain ⟨k, m, hk, rfl, rfl, hg⟩ := hrel
    by_cases hlt : k < n
    · have hkl : k < l.length := by rw [HN.out]; exact hlt
      obtain ⟨b0, off, rfl, hb0, hc⟩ := HP.out (by omega)
      have hx := (hc k hkl).1
      have hy : 0 < k → w.cell? ⟨b0, off + (k - 1) * 2, none⟩ = some (.int .i64 (l.getD (k - 1) d0).1) := fun h => (hc (k - 1) (by omega)).1
      have hbad := may_bad l t b k hkl
      have hgood := @rise_next l k hg.out
      have HB := Lib.hid hbad
      have HG := Lib.hid hgood
      clear hc hbad hgood
      generalize (l.getD k d0).1 = x at *
      generalize (l.getD (k - 1) d0).1 = y at *
      by_cases c1 : x < -2305843009213693952
      · have hf : r = false := by rw [← HR.out]; exact HB.out (.inl c1)
        subst hf
        clear hy
        go_wp2
        go_quiet (fail)
        go_wp2
        go_ret
        exact ⟨rfl, draws _ _ _⟩
      · by_cases c2 : 2305843009213693952 < x
        · have hf : r = false := by rw [← HR.out]; exact HB.out (.inr (.inl c2))
          subst hf
          clear hy
          have d1 : decide (x < -2305843009213693952) = false := by simpa using c1
          go_wp2
          go_quiet (fail)
          go_wp2
          go_ret
          exact ⟨rfl, draws _ _ _⟩
        · have d1 : decide (x < -2305843009213693952) = false := by simpa using c1
          have d2 : decide (2305843009213693952 < x) = false := by simpa using c2
          by_cases c3 : k = 0
          · have hg' : Hid (Rise l (k + 1)) := HG.out c1 c2 (.inl c3)
            have d3 : decide (0 < k) = false := by simp; omega
            have HC := Lib.hid c3
            clear hy c3
            go_wp2
            go_quiet (fail)
            go_wp2
            go_roundw
            case rel => exact ⟨k + 1, _, by omega, by go_num, rfl, hg'⟩
            case measure => simp [intOf]; omega
          · have hk0 : (0 : Int) < (k : Int) := by omega
            have d3 : decide (0 < k) = true := by simp; omega
            have hy' := hy (by omega)
            clear hy
            by_cases c4 : x ≤ y
            · have hf : r = false := by rw [← HR.out]; exact HB.out (.inr (.inr ⟨by omega, c4⟩))
              subst hf
              go_wp2
              go_quiet (fail)
              go_wp2
              go_ret
              exact ⟨rfl, draws _ _ _⟩
            · have hg' : Hid (Rise l (k + 1)) := HG.out c1 c2 (.inr (by omega))
              have d4 : decide (x ≤ y) = false := by simpa using c4
              go_wp2
              go_quiet (fail)
              go_wp2
              go_roundw
              case rel => exact ⟨k + 1, _, by omega, by go_num, rfl, hg'⟩
              case measure => simp [intOf]; omega
    · have hgl : Rise l l.length := by have := HN.out; rw [this, show n = k by omega]; exact hg.out
      have HF := Lib.hid ((may_of l t b hgl).symm.trans HR.out)
      by_cases e1 : -2305843009213693952 ≤ t
      · by_cases e2 : t ≤ 2305843009213693952
        · by_cases e3 : 0 < b
          · by_cases e4 : b ≤ 2305843009213693952
            · go_wp2
              go_ret
              exact ⟨by rw [← HF.out]; simp [e1, e2, e3, e4], _, rfl⟩
            · go_wp2
              go_ret
              exact ⟨by rw [← HF.out]; simp [e4], _, rfl⟩
          · go_wp2
            go_ret
            exact ⟨by rw [← HF.out]; simp; omega, _, rfl⟩
        · go_wp2
          go_ret
          exact ⟨by rw [← HF.out]; simp; omega, _, rfl⟩
      · go_wp2
        go_ret
        exact ⟨by rw [← HF.out]; simp; omega, _, rfl⟩
end Go.Proofs.Ytmnhoafhoaklcaa

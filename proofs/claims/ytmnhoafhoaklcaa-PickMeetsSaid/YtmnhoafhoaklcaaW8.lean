import Derived.Test.YtmnhoafhoaklcaaW7
namespace Go.Proofs.Ytmnhoafhoaklcaa
open Go.RowKit Pk
set_option linter.unusedVariables false

/-- what the reader one by one knows after k points -/
def stTo (l : List Pt) (t b : Int) : Nat → Int × Bool
  | 0 => (0, false)
  | k + 1 => if (l.getD k d0).1 ≤ t then ((l.getD k d0).2, decide (t - b < (l.getD k d0).1) && !((l.getD k d0).2 == stale)) else stTo l t b k

theorem stTo_low (l : List Pt) (t b : Int) (hg : Rise l l.length) (k : Nat) (hk : k ≤ cnt l t) : stTo l t b k = if k = 0 then (0, false) else ((l.getD (k - 1) d0).2, decide (t - b < (l.getD (k - 1) d0).1) && !((l.getD (k - 1) d0).2 == stale)) := by
  cases k with
  | zero => rfl
  | succ k =>
    rw [stTo, if_pos ((cnt_spec l hg t).1 k (by omega)), if_neg (by omega)]
    rfl
theorem stTo_high (l : List Pt) (t b : Int) (hg : Rise l l.length) (k : Nat) (h1 : cnt l t ≤ k) (h2 : k ≤ l.length) : stTo l t b k = stTo l t b (cnt l t) := by
  induction k with
  | zero => rw [show cnt l t = 0 by omega]
  | succ k ih =>
    by_cases e : cnt l t = k + 1
    · rw [e]
    · rw [stTo, if_neg (by have := (cnt_spec l hg t).2 k (by omega) (by omega); omega), ih (by omega) (by omega)]
theorem stTo_all (l : List Pt) (t b : Int) (hg : Rise l l.length) : stTo l t b l.length = lastOf l t b := by
  rw [stTo_high l t b hg _ (cnt_le l t) (Nat.le_refl _), stTo_low l t b hg _ (Nat.le_refl _)]
  rfl
theorem at_yes {l : List Pt} {t b : Int} (hm : mayB l t b = true) (h : (stTo l t b l.length).2 = true) : at_ l t b = ((stTo l t b l.length).1, true) := by
  have e := stTo_all l t b ((mayB_iff l t b).1 hm).1
  rw [e] at h ⊢
  unfold at_
  rw [if_pos ⟨hm, h⟩]
theorem at_no {l : List Pt} {t b : Int} (hm : mayB l t b = true) (h : (stTo l t b l.length).2 = false) : at_ l t b = (0, false) := by
  have e := stTo_all l t b ((mayB_iff l t b).1 hm).1
  rw [e] at h
  unfold at_
  rw [if_neg (by rw [h]; simp)]

theorem may_is (A : Option Addr) (cap : Nat) (l : List Pt) (t b : Int) (r : Bool) (h : mayB l t b = r) (w : World) (hp : Pts w A l) (hl : l.length ≤ 65536) :
    Calls Try.prog 12 #[.slice A l.length cap, .int .i64 t, .int .i64 b] w fun e w' => e = .returned (.bool r) ∧ ∃ n, w' = w.drewN n := by
  subst h
  exact may_any A cap l t b w hp hl
theorem Pts.drawn {w : World} {A : Option Addr} {l : List Pt} (h : Pts w A l) (n : Nat) : Pts (w.drewN n) A l := h

theorem st_skip {l : List Pt} {t b : Int} {k : Nat} (h : ¬ (l.getD k d0).1 ≤ t) : stTo l t b (k + 1) = stTo l t b k := by rw [stTo, if_neg h]
theorem st_take {l : List Pt} {t b : Int} {k : Nat} (h : (l.getD k d0).1 ≤ t) : stTo l t b (k + 1) = ((l.getD k d0).2, decide (t - b < (l.getD k d0).1) && !((l.getD k d0).2 == stale)) := by rw [stTo, if_pos h]

set_option maxHeartbeats 2000000 in
theorem refAt_any (A : Option Addr) (cap : Nat) (l : List Pt) (t b : Int) (w : World) (hp : Pts w A l) (hl : l.length ≤ 65536) :
    Calls Try.prog 8 #[.slice A l.length cap, .int .i64 t, .int .i64 b] w fun e w' => e = .returned (.tuple #[.int .u64 (at_ l t b).1, .bool (at_ l t b).2]) ∧ ∃ n, w' = w.drewN n := by
  cases hm : mayB l t b with
  | false =>
    rw [at_off hm]
    have h1 := may_is A cap l t b false hm w hp hl
    have H1 := Lib.hid h1
    generalize hn : l.length = n at *
    have h0 : 0 < n ∨ n = 0 := by omega
    clear hp h1 hm hn
    rcases h0 with h0 | h0
    · go_enter Try.func8, Try.ntmps8
      go_wp2
      refine wp_loop_rounds 1 ?_
      rw [rounds_succ]
      go_wp2_with fail
      refine (H1.out).mono ?_
      rintro e w1 ⟨rfl, q, rfl⟩
      go_wp2
      go_ret2
      exact ⟨rfl, q, rfl⟩
    · subst h0
      clear H1
      go_enter Try.func8, Try.ntmps8
      go_wp2
      refine wp_loop_rounds 1 ?_
      rw [rounds_succ]
      go_wp2
      go_ret2
      exact ⟨rfl, 0, rfl⟩
  | true =>
    obtain ⟨hg, ht, hb⟩ := (mayB_iff l t b).1 hm
    simp only [far_eq] at ht hb
    have hyes := @at_yes l t b hm
    have hno := @at_no l t b hm
    have h1 : ∀ m, Calls Try.prog 12 #[.slice A l.length cap, .int .i64 t, .int .i64 b] (w.drewN m) fun e w' => e = .returned (.bool true) ∧ ∃ n, w' = (w.drewN m).drewN n := fun m => may_is A cap l t b true hm _ (hp.drawn m) hl
    have H1 := Lib.hid h1
    have HP := Lib.hid hp
    have HY := Lib.hid hyes
    have HN := Lib.hid hno
    clear hp h1 hm hg hyes hno
    generalize at_ l t b = r at *
    generalize hn : l.length = n at *
    have HL := Lib.hid hn
    clear hn
    go_enter Try.func8, Try.ntmps8
    go_wp2
    go_loopw [8, 9, 10] (fun v ok i wr => ∃ k m : Nat, k ≤ n ∧ i = .int .i64 k ∧ v = .int .u64 (stTo l t b k).1 ∧ ok = .bool (stTo l t b k).2 ∧ wr = w.drewN m) (fun _ _ i _ => n - (intOf i).toNat)
    case atStart => exact ⟨0, 0, Nat.zero_le _, rfl, rfl, rfl, rfl⟩
    case round =>
      obtain ⟨k, m, hk, rfl, rfl, rfl, rfl⟩ := hrel
      by_cases hlt : k < n
      · have hkl : k < l.length := by rw [HL.out]; exact hlt
        obtain ⟨b0, off, rfl, hb0, hc⟩ := HP.out (by omega)
        have hc1 := (hc k hkl).1
        have hc2 := (hc k hkl).2
        have hsk := @st_skip l t b k
        have htk := @st_take l t b k
        have HSK := Lib.hid hsk
        have HTK := Lib.hid htk
        clear hc hsk htk
        generalize he' : stTo l t b (k + 1) = s' at *
        have HE := Lib.hid he'
        clear he'
        generalize stTo l t b k = s at *
        generalize (l.getD k d0).1 = x at *
        generalize (l.getD k d0).2 = y at *
        by_cases c1 : x ≤ t
        · have hs' := HTK.out c1
          by_cases c2 : t - b < x
          · have d2 : decide (t - b < x) = true := by simpa using c2
            cases c3 : (y == stale) with
            | true =>
              have c3' : (y != 9218868437227405314) = false := by
                have : (y == 9218868437227405314) = true := c3
                simp [bne, this]
              have e2 : s' = (y, false) := by rw [hs', c3, d2]; rfl
              have HE2 := Lib.hid e2
              clear hs' e2 c3 HTK HSK
              go_wp2_with fail
              refine (H1.out m).mono ?_
              rintro e w1 ⟨rfl, q, rfl⟩
              go_wp2
              go_roundw
              case rel => exact ⟨k + 1, _, by omega, by go_num, by rw [HE.out, HE2.out], by rw [HE.out, HE2.out], rfl⟩
              case measure => simp [intOf]; omega
            | false =>
              have c3' : (y != 9218868437227405314) = true := by
                have : (y == 9218868437227405314) = false := c3
                simp [bne, this]
              have e2 : s' = (y, true) := by rw [hs', c3, d2]; rfl
              have HE2 := Lib.hid e2
              clear hs' e2 c3 HTK HSK
              go_wp2_with fail
              refine (H1.out m).mono ?_
              rintro e w1 ⟨rfl, q, rfl⟩
              go_wp2
              go_roundw
              case rel => exact ⟨k + 1, _, by omega, by go_num, by rw [HE.out, HE2.out], by rw [HE.out, HE2.out], rfl⟩
              case measure => simp [intOf]; omega
          · have d2 : decide (t - b < x) = false := by simpa using c2
            have e2 : s' = (y, false) := by rw [hs', d2]; rfl
            have HE2 := Lib.hid e2
            clear hs' e2 HTK HSK
            go_wp2_with fail
            refine (H1.out m).mono ?_
            rintro e w1 ⟨rfl, q, rfl⟩
            go_wp2
            go_roundw
            case rel => exact ⟨k + 1, _, by omega, by go_num, by rw [HE.out, HE2.out], by rw [HE.out, HE2.out], rfl⟩
            case measure => simp [intOf]; omega
        · have hs' := HSK.out c1
          have d1 : decide (x ≤ t) = false := by simpa using c1
          subst hs'
          clear HTK HSK
          go_wp2_with fail
          refine (H1.out m).mono ?_
          rintro e w1 ⟨rfl, q, rfl⟩
          go_wp2
          go_roundw
          case rel => exact ⟨k + 1, _, by omega, by go_num, by rw [HE.out], by rw [HE.out], rfl⟩
          case measure => simp [intOf]; omega
      · have hkn : k = n := by omega
        have HY2 := Lib.hid (hkn.symm ▸ HY.out)
        have HN2 := Lib.hid (hkn.symm ▸ HN.out)
        clear hkn HY HN
        generalize stTo l t b k = s at *
        obtain ⟨s1, s2⟩ := s
        cases s2 with
        | true =>
          have hr := HY2.out rfl
          subst hr
          clear HY2 HN2
          go_wp2
          go_ret2
          exact ⟨rfl, _, rfl⟩
        | false =>
          have hr := HN2.out rfl
          subst hr
          clear HY2 HN2
          go_wp2
          go_ret2
          exact ⟨rfl, _, rfl⟩
end Go.Proofs.Ytmnhoafhoaklcaa

import Derived.Test.YtmnhoafhoaklcaaW6
namespace Go.Proofs.Ytmnhoafhoaklcaa
open Go.RowKit Pk
set_option linter.unusedVariables false

theorem at_off {l : List Pt} {t b : Int} (h : mayB l t b = false) : at_ l t b = (0, false) := by unfold at_; rw [if_neg (by simp [h])]
theorem at_zero {l : List Pt} {t b : Int} (h : cnt l t = 0) : at_ l t b = (0, false) := by unfold at_; rw [if_neg (by simp [lastOf, h])]
theorem at_old {l : List Pt} {t b : Int} (h0 : 0 < cnt l t) (h : (l.getD (cnt l t - 1) d0).1 ≤ t - b) : at_ l t b = (0, false) := by
  unfold at_ lastOf
  rw [if_neg (show ¬ cnt l t = 0 by omega), if_neg]
  rintro ⟨_, h2⟩
  rw [decide_eq_false (by omega)] at h2
  simp at h2
theorem at_stale {l : List Pt} {t b : Int} (h0 : 0 < cnt l t) (h : ((l.getD (cnt l t - 1) d0).2 == stale) = true) : at_ l t b = (0, false) := by
  unfold at_ lastOf
  rw [if_neg (show ¬ cnt l t = 0 by omega), if_neg]
  rintro ⟨_, h2⟩
  rw [h] at h2
  simp at h2
theorem at_ok {l : List Pt} {t b : Int} (hm : mayB l t b = true) (h0 : 0 < cnt l t) (h1 : ¬ (l.getD (cnt l t - 1) d0).1 ≤ t - b) (h : ((l.getD (cnt l t - 1) d0).2 == stale) = false) : at_ l t b = ((l.getD (cnt l t - 1) d0).2, true) := by
  unfold at_ lastOf
  rw [if_neg (show ¬ cnt l t = 0 by omega), if_pos]
  refine ⟨hm, ?_⟩
  rw [h, decide_eq_true (by omega)]
  rfl

set_option maxHeartbeats 2000000 in
theorem at_any (A : Option Addr) (cap : Nat) (l : List Pt) (t b : Int) (w : World) (hp : Pts w A l) (hl : l.length ≤ 65536) :
    Calls Try.prog 7 #[.slice A l.length cap, .int .i64 t, .int .i64 b] w fun e w' => e = .returned (.tuple #[.int .u64 (at_ l t b).1, .bool (at_ l t b).2]) ∧ Below w.heap.size w w' := by
  cases hm : mayB l t b with
  | false =>
    rw [at_off hm]
    have h1 := usable_any A cap l t b w hp hl
    rw [hm] at h1
    generalize l.length = n at *
    have H1 := Lib.hid h1
    clear hp h1 hm
    go_enter Try.func7, Try.ntmps7
    go_wp2_with fail
    refine (H1.out).mono ?_
    rintro e w1 ⟨rfl, hb1⟩
    go_wp2
    go_ret2
    exact ⟨rfl, hb1⟩
  | true =>
    obtain ⟨hg, ht, hb⟩ := (mayB_iff l t b).1 hm
    simp only [far_eq] at ht hb
    have h1 := usable_any A cap l t b w hp hl
    rw [hm] at h1
    have H1 := Lib.hid h1
    have h3 : ∀ w1, Below w.heap.size w w1 → Calls Try.prog 14 #[.slice A l.length cap, .int .i64 t] w1 fun e w' => e = .returned (.int .i64 (cnt l t : Nat)) ∧ Below w1.heap.size w1 w' := fun w1 hb1 => upto_any A cap l t w1 (hp.below hb1) hl hg
    have H3 := Lib.hid h3
    have hcl := cnt_le l t
    have HP := Lib.hid hp
    clear h1 h3 hp hg
    by_cases h0 : cnt l t = 0
    · rw [at_zero h0]
      rw [h0] at H3
      clear hm hcl h0
      generalize l.length = n at *
      go_enter Try.func7, Try.ntmps7
      go_wp2_with fail
      refine (H1.out).mono ?_
      rintro e w1 ⟨rfl, hb1⟩
      go_wp2_with fail
      refine (H3.out _ hb1).mono ?_
      rintro e w2 ⟨rfl, hb2⟩
      go_wp2
      go_ret2
      exact ⟨rfl, hb1.trans (hb2.mono hb1.size)⟩
    · have h0' : 0 < cnt l t := by omega
      obtain ⟨b0, off, rfl, hb0, hc⟩ := HP.out (by omega)
      have hc1 := hc (cnt l t - 1) (by omega)
      clear hc HP
      have hold := @at_old l t b h0'
      have hst := @at_stale l t b h0'
      have hok := @at_ok l t b hm h0'
      have HO := Lib.hid hold
      have HS := Lib.hid hst
      have HK := Lib.hid hok
      clear hold hst hok hm
      generalize at_ l t b = r at *
      generalize (l.getD (cnt l t - 1) d0).1 = x at *
      generalize (l.getD (cnt l t - 1) d0).2 = v at *
      generalize cnt l t = c at *
      generalize l.length = n at *
      have hz : ((c : Int) == 0) = false := by simp; omega
      by_cases c1 : x ≤ t - b
      · have hr := HO.out c1
        subst hr
        clear HO HS HK
        go_enter Try.func7, Try.ntmps7
        go_wp2_with fail
        refine (H1.out).mono ?_
        rintro e w1 ⟨rfl, hb1⟩
        go_wp2_with fail
        refine (H3.out _ hb1).mono ?_
        rintro e w2 ⟨rfl, hb2⟩
        have hb3 := hb1.trans (hb2.mono hb1.size)
        have g1 : w2.cell? ⟨b0, off + (c - 1) * 2, none⟩ = some (.int .i64 x) := (hb3.cell (p := ⟨b0, off + (c - 1) * 2, none⟩) hb0).trans hc1.1
        go_wp2
        go_ret2
        exact ⟨rfl, hb3⟩
      · have d1 : decide (x ≤ t - b) = false := by simpa using c1
        cases hs : (v == stale) with
        | true =>
          have hr := HS.out hs
          subst hr
          have HV := Lib.hid hs
          clear HO HS HK hs
          go_enter Try.func7, Try.ntmps7
          go_wp2_with fail
          refine (H1.out).mono ?_
          rintro e w1 ⟨rfl, hb1⟩
          go_wp2_with fail
          refine (H3.out _ hb1).mono ?_
          rintro e w2 ⟨rfl, hb2⟩
          have hb3 := hb1.trans (hb2.mono hb1.size)
          have g1 : w2.cell? ⟨b0, off + (c - 1) * 2, none⟩ = some (.int .i64 x) := (hb3.cell (p := ⟨b0, off + (c - 1) * 2, none⟩) hb0).trans hc1.1
          have g2 : w2.cell? ⟨b0, off + (c - 1) * 2 + 1, none⟩ = some (.int .u64 v) := (hb3.cell (p := ⟨b0, off + (c - 1) * 2 + 1, none⟩) hb0).trans hc1.2
          go_wp2_with fail
          refine (stale_is _ _ _ true HV.out).mono ?_
          rintro e w' ⟨rfl, rfl⟩
          go_wp2
          go_ret2
          exact ⟨rfl, hb3.alloc hb3.size _⟩
        | false =>
          have hr := HK.out c1 hs
          subst hr
          have HV := Lib.hid hs
          clear HO HS HK hs
          go_enter Try.func7, Try.ntmps7
          go_wp2_with fail
          refine (H1.out).mono ?_
          rintro e w1 ⟨rfl, hb1⟩
          go_wp2_with fail
          refine (H3.out _ hb1).mono ?_
          rintro e w2 ⟨rfl, hb2⟩
          have hb3 := hb1.trans (hb2.mono hb1.size)
          have hb4 : b0 < w2.heap.size := by have := hb3.size; omega
          have g1 : w2.cell? ⟨b0, off + (c - 1) * 2, none⟩ = some (.int .i64 x) := (hb3.cell (p := ⟨b0, off + (c - 1) * 2, none⟩) hb0).trans hc1.1
          have g2 : w2.cell? ⟨b0, off + (c - 1) * 2 + 1, none⟩ = some (.int .u64 v) := (hb3.cell (p := ⟨b0, off + (c - 1) * 2 + 1, none⟩) hb0).trans hc1.2
          go_wp2_with fail
          refine (stale_is _ _ _ false HV.out).mono ?_
          rintro e w' ⟨rfl, rfl⟩
          go_wp2
          go_ret2
          exact ⟨rfl, hb3.alloc hb3.size _⟩
end Go.Proofs.Ytmnhoafhoaklcaa

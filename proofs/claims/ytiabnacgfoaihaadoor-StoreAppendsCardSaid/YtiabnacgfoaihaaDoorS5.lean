import Derived.Test.YtiabnacgfoaihaaDoorS4
import Derived.Test.YtiabnacgfoaihaaDoorM3
namespace Go.Proofs.YtiabnacgfoaihaaDoor
open Go.RowKit Lb
set_option linter.unusedVariables false

theorem cmpL_ge (a b c : List Lab) (h1 : 0 ≤ cmpL a b) (h2 : 0 ≤ cmpL b c) : 0 ≤ cmpL a c := by
  rw [cmpL_eq] at *; exact cmpR_ge a b c h1 h2
theorem cmpL_le (a b c : List Lab) (h1 : cmpL a b ≤ 0) (h2 : cmpL b c ≤ 0) : cmpL a c ≤ 0 := by
  rw [cmpL_eq] at *; exact cmpR_le a b c h1 h2
theorem cmpL_anti (a b : List Lab) : cmpL b a = - cmpL a b := by rw [cmpL_eq, cmpL_eq]; exact cmpR_anti a b
theorem cmpL_self (a : List Lab) : cmpL a a = 0 := by rw [cmpL_eq]; exact cmpR_self a
theorem cmpL_in (a b : List Lab) : -1 ≤ cmpL a b ∧ cmpL a b ≤ 1 := by rw [cmpL_eq]; exact cmpR_in a b

theorem mono_of {S : List Ser} (h : DownFrom S 0) : ∀ i j, i ≤ j → j < S.length → 0 ≤ cmpL (S.getD j s0).1 (S.getD i s0).1 := by
  intro i j
  induction j with
  | zero =>
    intro h1 h2
    have : i = 0 := by omega
    subst this
    rw [cmpL_self]; exact Int.le_refl _
  | succ j ih =>
    intro h1 h2
    by_cases e : i = j + 1
    · subst e; rw [cmpL_self]; exact Int.le_refl _
    · exact cmpL_ge _ _ _ (h j (Nat.zero_le _) h2) (ih (by omega) (by omega))
theorem rises_of {S : List Ser} (h : DownFrom S 0) (l : List Lab) : Rises S l := fun i j h1 h2 h3 => cmpL_ge _ _ _ (mono_of h i j h1 h2) h3
theorem found_yes {S : List Ser} {l : List Lab} {a : Nat} (hr : Reach S l a) (h : isAt S l a = true) : Found S l a true := by
  unfold isAt at h
  simp only [Bool.and_eq_true, decide_eq_true_eq, beq_iff_eq] at h
  exact .inl ⟨rfl, h.1, h.2, fun i hi => by have := hr.2.1 i hi; omega⟩
theorem found_no {S : List Ser} {l : List Lab} {a : Nat} (hd : DownFrom S 0) (hr : Reach S l a) (h : isAt S l a = false) : Found S l a false := by
  refine .inr ⟨rfl, fun i hi he => ?_, hr⟩
  rcases Nat.lt_or_ge i a with h1 | h1
  · have := hr.2.1 i h1; omega
  · have h2 := mono_of hd a i h1 hi
    have h3 : cmpL (S.getD a s0).1 (S.getD i s0).1 ≤ 0 := by rw [cmpL_anti]; omega
    have h4 := cmpL_le _ _ _ h3 (by omega : cmpL (S.getD i s0).1 l ≤ 0)
    have h5 := hr.2.2 (by omega)
    unfold isAt at h
    rw [decide_eq_true (by omega : a < S.length), Bool.true_and, beq_eq_false_iff_ne] at h
    omega

def FindP (S : List Ser) (l : List Lab) (w : World) (e : Ending) (w' : World) : Prop := (∃ (a : Nat) (ok : Bool), e = .returned (.tuple #[.int .i64 a, .bool ok]) ∧ Found S l a ok) ∧ Below w.heap.size w w'
/-- the first place that is reached, of those gone through -/
def First (S : List Ser) (l : List Lab) (k f : Nat) : Prop := (f = S.length ∧ ∀ i, i < k → cmpL (S.getD i s0).1 l < 0) ∨ (f < k ∧ 0 ≤ cmpL (S.getD f s0).1 l ∧ ∀ i, i < f → cmpL (S.getD i s0).1 l < 0)
theorem first_on {S : List Ser} {l : List Lab} {k f : Nat} (h : First S l k f) (hf : f ≠ S.length) : First S l (k + 1) f := by
  rcases h with ⟨h, _⟩ | ⟨h1, h2, h3⟩
  · exact absurd h hf
  · exact .inr ⟨by omega, h2, h3⟩
theorem first_less {S : List Ser} {l : List Lab} {k : Nat} (hk : k < S.length) (h : First S l k S.length) (hc : ¬ 0 ≤ cmpL (S.getD k s0).1 l) : First S l (k + 1) S.length := by
  rcases h with ⟨_, h⟩ | ⟨h1, _⟩
  · refine .inl ⟨rfl, fun i hi => ?_⟩
    rcases Nat.lt_succ_iff_lt_or_eq.1 hi with h1 | rfl
    · exact h i h1
    · omega
  · omega
theorem first_here {S : List Ser} {l : List Lab} {k : Nat} (hk : k < S.length) (h : First S l k S.length) (hc : 0 ≤ cmpL (S.getD k s0).1 l) : First S l (k + 1) k := by
  rcases h with ⟨_, h⟩ | ⟨h1, _⟩
  · exact .inr ⟨by omega, hc, h⟩
  · omega
theorem first_end {S : List Ser} {l : List Lab} {f : Nat} (h : First S l S.length f) (hn : ∀ i, i < S.length → cmpL (S.getD i s0).1 l ≠ 0) : Found S l f false := by
  refine .inr ⟨rfl, hn, ?_⟩
  rcases h with ⟨rfl, h⟩ | ⟨h1, h2, h3⟩
  · exact ⟨Nat.le_refl _, h, fun h => absurd h (Nat.lt_irrefl _)⟩
  · exact ⟨by omega, h3, fun _ => h2⟩

set_option maxRecDepth 100000 in
set_option maxHeartbeats 2000000 in
theorem passed_any (A L : Option Addr) (c cl : Nat) (S : List Ser) (l : List Lab) (w : World) (hS : Srs w A S) (hL : Lbs w L l) (hF : Few S) (hl : l.length ≤ 65536) :
    Calls Tryd.prog 30 #[.agg #[.slice A S.length c, .slice L l.length cl]] w (FindP S l w) := by
  have H1 := Lib.hid (fun k (hk : k < S.length) r hr W (hW : Below w.heap.size w W) => is_any A L c cl S l k r hr W (hS.below hW) (hL.below hW) (fun h => (hF.2 k h).1) hl)
  have H2 := Lib.hid (fun k hk W (hW : Below w.heap.size w W) => reached_any A L c cl S l k hk W (hS.below hW) (hL.below hW) (hF.2 k hk).1 hl)
  have hn1 := hF.1
  clear hS hL hF hl
  generalize hn : S.length = n at *
  have HN := Lib.hid hn
  clear hn
  generalize l.length = nl at *
  have k0 : Below w.heap.size w (w.alloc (.cells #[.slice A n c, .slice L nl cl] 59)) := (Below.refl w.heap.size w).alloc (Nat.le_refl _) _
  have K0 := Lib.hid k0
  have q1 : (w.alloc (.cells #[.slice A n c, .slice L nl cl] 59)).cell? ⟨w.heap.size, 0, none⟩ = some (.slice A n c) := by rw [World.cell?_alloc_at _ _ _ _ rfl]; rfl
  have q2 : (w.alloc (.cells #[.slice A n c, .slice L nl cl] 59)).cell? ⟨w.heap.size, 1, none⟩ = some (.slice L nl cl) := by rw [World.cell?_alloc_at _ _ _ _ rfl]; rfl
  have Q1 := Lib.hid q1
  have Q2 := Lib.hid q2
  clear k0 q1 q2
  go_enter Tryd.func30, Tryd.ntmps30
  go_wp2
  go_loopw [4, 12] (fun s4 s12 wr => ∃ k f : Nat, k ≤ n ∧ s12 = .int .i64 k ∧ s4 = .int .i64 f ∧ f ≤ n ∧ Hid (First S l k f) ∧ Hid (∀ i, i < k → cmpL (S.getD i s0).1 l ≠ 0) ∧ Hid (Below (w.alloc (.cells #[.slice A n c, .slice L nl cl] 59)).heap.size (w.alloc (.cells #[.slice A n c, .slice L nl cl] 59)) wr)) (fun _ i _ => n - (intOf i).toNat)
  case atStart => exact ⟨0, n, Nat.zero_le _, rfl, rfl, Nat.le_refl _, .inl ⟨HN.out.symm, fun i hi => absurd hi (Nat.not_lt_zero _)⟩, fun i hi => absurd hi (Nat.not_lt_zero _), Below.refl _ _⟩
  case round =>
    obtain ⟨k, f, hk, rfl, rfl, hfn, HFi, HNe, HB⟩ := hrel
    have HW : Hid (Below w.heap.size w wr) := K0.out.trans (HB.out.mono (by simp))
    by_cases hlt : k < n
    · have r1 : wr.cell? ⟨w.heap.size, 0, none⟩ = some (.slice A n c) := (HB.out.cell (p := ⟨w.heap.size, 0, none⟩) (by simp)).trans Q1.out
      have r2 : wr.cell? ⟨w.heap.size, 1, none⟩ = some (.slice L nl cl) := (HB.out.cell (p := ⟨w.heap.size, 1, none⟩) (by simp)).trans Q2.out
      have hg : w.heap.size < wr.heap.size := by have := HB.out.size; simp at this; omega
      cases hi : isAt S l k with
      | true =>
        have HC := Lib.hid (H1.out k hlt true hi wr HW.out)
        have HI := Lib.hid hi
        clear hi
        go_wp2_with fail
        refine (HC.out).mono ?_
        rintro e w1 ⟨rfl, hb1⟩
        have HB1 := Lib.hid (HW.out.trans (hb1.mono HW.out.size))
        clear hb1
        go_wp2
        go_ret2
        refine ⟨⟨k, true, rfl, .inl ⟨rfl, by rw [HN.out]; exact hlt, ?_, HNe.out⟩⟩, HB1.out⟩
        have := HI.out
        unfold isAt at this
        simp only [Bool.and_eq_true, decide_eq_true_eq, beq_iff_eq] at this
        exact this.2
      | false =>
        have HC := Lib.hid (H1.out k hlt false hi wr HW.out)
        have HNe1 : Hid (∀ i, i < k + 1 → cmpL (S.getD i s0).1 l ≠ 0) := by
          intro i h1
          rcases Nat.lt_succ_iff_lt_or_eq.1 h1 with h2 | rfl
          · exact HNe.out i h2
          · unfold isAt at hi
            rw [decide_eq_true (by rw [HN.out]; exact hlt), Bool.true_and, beq_eq_false_iff_ne] at hi
            exact hi
        clear hi
        by_cases hf : f = n
        · subst hf
          have hcmp := H2.out k hlt
          cases hd : decide (0 ≤ cmpL (S.getD k s0).1 l) with
          | true =>
            rw [hd] at hcmp
            have HD := Lib.hid hcmp
            have HFi1 : Hid (First S l (k + 1) k) := first_here (by rw [HN.out]; exact hlt) (by rw [HN.out]; exact HFi.out) (of_decide_eq_true hd)
            clear hcmp hd
            go_wp2_with fail
            refine (HC.out).mono ?_
            rintro e w1 ⟨rfl, hb1⟩
            have HB1 := Lib.hid (HB.out.trans (hb1.mono HB.out.size))
            have HW1 := Lib.hid (HW.out.trans (hb1.mono HW.out.size))
            have t1 : w1.cell? ⟨w.heap.size, 0, none⟩ = some (.slice A f c) := (hb1.cell (p := ⟨w.heap.size, 0, none⟩) hg).trans r1
            have t2 : w1.cell? ⟨w.heap.size, 1, none⟩ = some (.slice L nl cl) := (hb1.cell (p := ⟨w.heap.size, 1, none⟩) hg).trans r2
            clear hb1
            go_wp2_with fail
            refine (HD.out _ HW1.out).mono ?_
            rintro e w2 ⟨rfl, hb2⟩
            have HB2 := Lib.hid (HB1.out.trans (hb2.mono HB1.out.size))
            clear hb2
            go_wp2
            go_roundw
            case rel => exact ⟨k + 1, k, by omega, by go_num, rfl, by omega, HFi1, HNe1, HB2⟩
            case measure => simp [intOf]; omega
          | false =>
            rw [hd] at hcmp
            have HD := Lib.hid hcmp
            have HFi1 : Hid (First S l (k + 1) f) := by
              have := first_less (S := S) (l := l) (k := k) (by rw [HN.out]; exact hlt) (by rw [HN.out]; exact HFi.out) (of_decide_eq_false hd)
              rw [HN.out] at this; exact this
            clear hcmp hd
            go_wp2_with fail
            refine (HC.out).mono ?_
            rintro e w1 ⟨rfl, hb1⟩
            have HB1 := Lib.hid (HB.out.trans (hb1.mono HB.out.size))
            have HW1 := Lib.hid (HW.out.trans (hb1.mono HW.out.size))
            have t1 : w1.cell? ⟨w.heap.size, 0, none⟩ = some (.slice A f c) := (hb1.cell (p := ⟨w.heap.size, 0, none⟩) hg).trans r1
            have t2 : w1.cell? ⟨w.heap.size, 1, none⟩ = some (.slice L nl cl) := (hb1.cell (p := ⟨w.heap.size, 1, none⟩) hg).trans r2
            clear hb1
            go_wp2_with fail
            refine (HD.out _ HW1.out).mono ?_
            rintro e w2 ⟨rfl, hb2⟩
            have HB2 := Lib.hid (HB1.out.trans (hb2.mono HB1.out.size))
            clear hb2
            go_wp2
            go_roundw
            case rel => exact ⟨k + 1, f, by omega, by go_num, rfl, by omega, HFi1, HNe1, HB2⟩
            case measure => simp [intOf]; omega
        · have dq : ((f : Int) == (n : Int)) = false := beq_eq_false_iff_ne.2 (by omega)
          have HFi1 : Hid (First S l (k + 1) f) := first_on HFi.out (by rw [HN.out]; exact hf)
          clear hf
          go_wp2_with fail
          refine (HC.out).mono ?_
          rintro e w1 ⟨rfl, hb1⟩
          have HB1 := Lib.hid (HB.out.trans (hb1.mono HB.out.size))
          have t1 : w1.cell? ⟨w.heap.size, 0, none⟩ = some (.slice A n c) := (hb1.cell (p := ⟨w.heap.size, 0, none⟩) hg).trans r1
          clear hb1
          go_wp2
          go_roundw
          case rel => exact ⟨k + 1, f, by omega, by go_num, rfl, by omega, HFi1, HNe1, HB1⟩
          case measure => simp [intOf]; omega
    · have hkn : k = n := by omega
      subst hkn
      have HE : Hid (Found S l f false) := first_end (by rw [HN.out]; exact HFi.out) (by rw [HN.out]; exact HNe.out)
      go_wp2
      go_ret2
      exact ⟨⟨f, false, rfl, HE.out⟩, HW.out⟩

set_option maxRecDepth 100000 in
set_option maxHeartbeats 2000000 in
theorem find_any (A L : Option Addr) (c cl : Nat) (S : List Ser) (l : List Lab) (w : World) (hS : Srs w A S) (hL : Lbs w L l) (hF : Few S) (hl : l.length ≤ 65536) :
    Calls Tryd.prog 12 #[.slice A S.length c, .slice L l.length cl] w (FindP S l w) := by
  have H1 := Lib.hid (fun W (hW : Below w.heap.size w W) => sorted_any A c S W (hS.below hW) (fun i hi => (hF.2 i hi).1) hF.1)
  have H2 := Lib.hid (fun (hR : Rises S l) W (hW : Below w.heap.size w W) => halved_any A L c cl S l W (hS.below hW) (hL.below hW) hF hl hR)
  have H3 := Lib.hid (fun k r hr W (hW : Below w.heap.size w W) => is_any A L c cl S l k r hr W (hS.below hW) (hL.below hW) (fun h => (hF.2 k h).1) hl)
  have H4 := Lib.hid (fun W (hW : Below w.heap.size w W) => passed_any A L c cl S l W (hS.below hW) (hL.below hW) hF hl)
  clear hS hL hF hl
  generalize S.length = n at *
  generalize l.length = nl at *
  have k0 : Below w.heap.size w (w.alloc (.cells #[.slice A n c, .slice L nl cl] 59)) := (Below.refl w.heap.size w).alloc (Nat.le_refl _) _
  have K0 := Lib.hid k0
  have q1 : (w.alloc (.cells #[.slice A n c, .slice L nl cl] 59)).cell? ⟨w.heap.size, 0, none⟩ = some (.slice A n c) := by rw [World.cell?_alloc_at _ _ _ _ rfl]; rfl
  have q2 : (w.alloc (.cells #[.slice A n c, .slice L nl cl] 59)).cell? ⟨w.heap.size, 1, none⟩ = some (.slice L nl cl) := by rw [World.cell?_alloc_at _ _ _ _ rfl]; rfl
  have Q1 := Lib.hid q1
  have Q2 := Lib.hid q2
  clear k0 q1 q2
  go_enter Tryd.func12, Tryd.ntmps12
  go_wp2_with fail
  refine (H1.out _ K0.out).mono ?_
  rintro e w1 ⟨⟨r, rfl, hr⟩, hb1⟩
  have r1 : w1.cell? ⟨w.heap.size, 0, none⟩ = some (.slice A n c) := (hb1.cell (p := ⟨w.heap.size, 0, none⟩) (by simp)).trans Q1.out
  have r2 : w1.cell? ⟨w.heap.size, 1, none⟩ = some (.slice L nl cl) := (hb1.cell (p := ⟨w.heap.size, 1, none⟩) (by simp)).trans Q2.out
  have hg : w.heap.size < w1.heap.size := by have := hb1.size; simp at this; omega
  have HW := Lib.hid (K0.out.trans (hb1.mono (by simp)))
  have HR := Lib.hid hr
  clear hb1 hr
  cases r with
  | false =>
    go_wp2_with fail
    refine (H4.out _ HW.out).mono ?_
    rintro e w2 ⟨⟨a, ok, rfl, hf⟩, hb2⟩
    have HFo := Lib.hid hf
    clear hf
    go_wp2
    go_ret2
    exact ⟨⟨a, ok, rfl, HFo.out⟩, HW.out.trans (hb2.mono HW.out.size)⟩
  | true =>
    have HD : Hid (DownFrom S 0) := HR.out.1 rfl
    go_wp2_with fail
    refine (H2.out (rises_of HD.out l) _ HW.out).mono ?_
    rintro e w2 ⟨⟨a, rfl, ha⟩, hb2⟩
    have HA := Lib.hid ha
    have t1 : w2.cell? ⟨w.heap.size, 0, none⟩ = some (.slice A n c) := (hb2.cell (p := ⟨w.heap.size, 0, none⟩) hg).trans r1
    have t2 : w2.cell? ⟨w.heap.size, 1, none⟩ = some (.slice L nl cl) := (hb2.cell (p := ⟨w.heap.size, 1, none⟩) hg).trans r2
    have HW2 := Lib.hid (HW.out.trans (hb2.mono HW.out.size))
    clear ha hb2
    cases hi : isAt S l a with
    | true =>
      have HC := Lib.hid (H3.out a true hi w2 HW2.out)
      have HFo := Lib.hid (found_yes HA.out hi)
      clear hi
      go_wp2_with fail
      refine (HC.out).mono ?_
      rintro e w3 ⟨rfl, hb3⟩
      go_wp2
      go_ret2
      exact ⟨⟨a, true, rfl, HFo.out⟩, HW2.out.trans (hb3.mono HW2.out.size)⟩
    | false =>
      have HC := Lib.hid (H3.out a false hi w2 HW2.out)
      have HFo := Lib.hid (found_no HD.out HA.out hi)
      clear hi
      go_wp2_with fail
      refine (HC.out).mono ?_
      rintro e w3 ⟨rfl, hb3⟩
      go_wp2
      go_ret2
      exact ⟨⟨a, false, rfl, HFo.out⟩, HW2.out.trans (hb3.mono HW2.out.size)⟩
end Go.Proofs.YtiabnacgfoaihaaDoor

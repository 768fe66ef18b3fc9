import Derived.Test.YtiabnacgfoaihaaDoorS5
import Derived.Test.YtiabnacgfoaihaaDoorP5
namespace Go.Proofs.YtiabnacgfoaihaaDoor
open Go.RowKit Lb
set_option linter.unusedVariables false

/-! a store is right -/
def serAt (S : List Ser) (i : Nat) : Prop := (((S.getD i s0).1.length == 0) = false) ∧ rightB (S.getD i s0).1 = true ∧ ptsB (S.getD i s0).2 = true ∧ (0 < i → cmpL (S.getD (i - 1) s0).1 (S.getD i s0).1 < 0)
def SerTo (S : List Ser) (k : Nat) : Prop := ∀ i, i < k → serAt S i
instance (S : List Ser) (i : Nat) : Decidable (serAt S i) := by unfold serAt; infer_instance
instance (S : List Ser) (k : Nat) : Decidable (SerTo S k) := inferInstanceAs (Decidable (∀ i, i < k → serAt S i))
def storeB (S : List Ser) : Bool := decide (SerTo S S.length)
theorem ser_zero (S : List Ser) : SerTo S 0 := fun _ h => absurd h (Nat.not_lt_zero _)
theorem ser_succ {S : List Ser} {k : Nat} (h : SerTo S k) (h1 : serAt S k) : SerTo S (k + 1) := by
  intro i hi
  rcases Nat.lt_succ_iff_lt_or_eq.1 hi with h2 | rfl
  · exact h i h2
  · exact h1
theorem store_bad {S : List Ser} {k : Nat} (hk : k < S.length) (h : ¬ serAt S k) : storeB S = false := by
  unfold storeB; rw [decide_eq_false_iff_not]; exact fun h2 => h (h2 k hk)
theorem store_all {S : List Ser} (h : SerTo S S.length) : storeB S = true := by unfold storeB; rw [decide_eq_true_eq]; exact h
theorem store_iff (S : List Ser) : storeB S = true ↔ SerTo S S.length := by unfold storeB; rw [decide_eq_true_eq]

set_option maxRecDepth 100000 in
set_option maxHeartbeats 4000000 in
theorem sright_any (A : Option Addr) (c : Nat) (S : List Ser) (w : World) (hS : Srs w A S) (hF : Few S) (hT : Tabs w) :
    Calls Tryd.prog 16 #[.slice A S.length c] w fun e w' => e = .returned (.bool (storeB S)) ∧ Below w.heap.size w w' := by
  generalize hr : storeB S = r
  have HR := Lib.hid hr
  have HS := Lib.hid hS
  have HT := Lib.hid hT
  have hT4 := hT.size
  have HF := Lib.hid hF.2
  have hn1 := hF.1
  clear hr hS hF hT
  generalize hn : S.length = n at *
  have HN := Lib.hid hn
  clear hn
  go_enter Tryd.func16, Tryd.ntmps16
  go_wp2
  go_loopw [7] (fun i wr => ∃ k : Nat, k ≤ n ∧ i = .int .i64 k ∧ Hid (SerTo S k) ∧ Hid (Below w.heap.size w wr)) (fun i _ => n - (intOf i).toNat)
  case atStart => exact ⟨0, Nat.zero_le _, rfl, ser_zero S, Below.refl _ _⟩
  case round =>
    obtain ⟨k, hk, rfl, HC, HB⟩ := hrel
    by_cases hlt : k < n
    · have hkl : k < S.length := by rw [HN.out]; exact hlt
      have HSr := Lib.hid (HS.out.below HB.out)
      obtain ⟨b, off, LA, lc, PA, pc, rfl, hlb, hx1, hy1, hL1, _, hP1, _⟩ := HSr.out.at_ hkl
      have hTr := HT.out.below (by omega) HB.out
      have HBAD := Lib.hid (@store_bad S k hkl)
      have HGO := Lib.hid (@ser_succ S k HC.out)
      have hat : serAt S k = ((((S.getD k s0).1.length == 0) = false) ∧ rightB (S.getD k s0).1 = true ∧ ptsB (S.getD k s0).2 = true ∧ (0 < k → cmpL (S.getD (k - 1) s0).1 (S.getD k s0).1 < 0)) := rfl
      rw [hat] at HBAD HGO
      have hsz := HB.out.size
      have H1 := Lib.hid (fun W (hW : Below wr.heap.size wr W) => right_any LA lc (S.getD k s0).1 W (hL1.below hW) (hTr.below (by omega) hW) (HF.out k hlt).1)
      have H2 := Lib.hid (fun W (hW : Below wr.heap.size wr W) => points_any PA pc (S.getD k s0).2 W (hP1.below hW) (HF.out k hlt).2)
      have H3 : Hid (0 < k → ∃ LA' lc' PA' pc', wr.cell? ⟨b, off + (k - 1) * 2, none⟩ = some (.slice LA' (S.getD (k - 1) s0).1.length lc') ∧ wr.cell? ⟨b, off + (k - 1) * 2 + 1, none⟩ = some (.slice PA' (S.getD (k - 1) s0).2.length pc') ∧
          ∀ W (hW : Below wr.heap.size wr W), Calls Tryd.prog 29 #[.agg #[.slice LA' (S.getD (k - 1) s0).1.length lc', .slice PA' (S.getD (k - 1) s0).2.length pc'], .agg #[.slice LA (S.getD k s0).1.length lc, .slice PA (S.getD k s0).2.length pc]] W fun e w' => e = .returned (.int .i64 (cmpL (S.getD (k - 1) s0).1 (S.getD k s0).1)) ∧ Below W.heap.size W w') := by
        intro h0
        obtain ⟨b', off', LA', lc', PA', pc', e', hlb', hx2, hy2, hL2, _⟩ := HSr.out.at_ (i := k - 1) (by omega)
        injection e' with e'
        injection e' with e1 e2
        subst e1; subst e2
        exact ⟨LA', lc', PA', pc', hx2, hy2, fun W hW => cmpSer_any LA' LA lc' lc _ _ _ _ _ rfl W (hL2.below hW) (hL1.below hW) (HF.out (k - 1) (by omega)).1 (HF.out k hlt).1⟩
      clear hL1 hP1 hTr hat HSr
      generalize (S.getD k s0).1.length = m1 at *
      generalize (S.getD k s0).2.length = m2 at *
      generalize rightB (S.getD k s0).1 = b1 at *
      generalize ptsB (S.getD k s0).2 = b2 at *
      generalize cmpL (S.getD (k - 1) s0).1 (S.getD k s0).1 = cv at *
      generalize (S.getD (k - 1) s0).1.length = m3 at *
      generalize (S.getD (k - 1) s0).2.length = m4 at *
      have k0 : Below wr.heap.size wr (wr.alloc (.cells #[.slice LA m1 lc, .slice PA m2 pc] 49)) := (Below.refl _ _).alloc (Nat.le_refl _) _
      have K0 := Lib.hid k0
      have q1 : (wr.alloc (.cells #[.slice LA m1 lc, .slice PA m2 pc] 49)).cell? ⟨wr.heap.size, 0, none⟩ = some (.slice LA m1 lc) := by rw [World.cell?_alloc_at _ _ _ _ rfl]; rfl
      have q2 : (wr.alloc (.cells #[.slice LA m1 lc, .slice PA m2 pc] 49)).cell? ⟨wr.heap.size, 1, none⟩ = some (.slice PA m2 pc) := by rw [World.cell?_alloc_at _ _ _ _ rfl]; rfl
      have Q1 := Lib.hid q1
      have Q2 := Lib.hid q2
      clear k0 q1 q2
      by_cases h0 : m1 = 0
      · have hf : r = false := by rw [← HR.out]; exact HBAD.out (by rw [h0]; rintro ⟨h, _⟩; simp at h)
        subst hf
        have d0 : ((m1 : Int) == 0) = true := beq_iff_eq.2 (by omega)
        clear h0
        go_wp2
        go_ret
        exact ⟨rfl, HB.out.trans (K0.out.mono hsz)⟩
      · have d0 : ((m1 : Int) == 0) = false := beq_eq_false_iff_ne.2 (by omega)
        have d0' : (m1 == 0) = false := beq_eq_false_iff_ne.2 h0
        have D0 := Lib.hid d0'
        clear h0 d0'
        cases b1 with
        | false =>
          have hf : r = false := by rw [← HR.out]; exact HBAD.out (by rintro ⟨_, h, _⟩; cases h)
          subst hf
          go_wp2_with fail
          refine (H1.out _ K0.out).mono ?_
          rintro e w1 ⟨rfl, hb1⟩
          have HB1 := Lib.hid (HB.out.trans ((K0.out.trans (hb1.mono (by simp))).mono hsz))
          clear hb1
          go_wp2
          go_ret
          exact ⟨rfl, HB1.out⟩
        | true =>
          go_wp2_with fail
          refine (H1.out _ K0.out).mono ?_
          rintro e w1 ⟨rfl, hb1⟩
          have r1 : w1.cell? ⟨wr.heap.size, 0, none⟩ = some (.slice LA m1 lc) := (hb1.cell (p := ⟨wr.heap.size, 0, none⟩) (by simp)).trans Q1.out
          have r2 : w1.cell? ⟨wr.heap.size, 1, none⟩ = some (.slice PA m2 pc) := (hb1.cell (p := ⟨wr.heap.size, 1, none⟩) (by simp)).trans Q2.out
          have hg : wr.heap.size < w1.heap.size := by have := hb1.size; simp at this; omega
          have KK := Lib.hid (K0.out.trans (hb1.mono (by simp)))
          clear hb1
          cases b2 with
          | false =>
            have hf : r = false := by rw [← HR.out]; exact HBAD.out (by rintro ⟨_, _, h, _⟩; cases h)
            subst hf
            go_wp2_with fail
            refine (H2.out _ KK.out).mono ?_
            rintro e w2 ⟨rfl, hb2⟩
            have HB1 := Lib.hid (HB.out.trans ((KK.out.trans (hb2.mono KK.out.size)).mono hsz))
            clear hb2
            go_wp2
            go_ret
            exact ⟨rfl, HB1.out⟩
          | true =>
            go_wp2_with fail
            refine (H2.out _ KK.out).mono ?_
            rintro e w2 ⟨rfl, hb2⟩
            have t1 : w2.cell? ⟨wr.heap.size, 0, none⟩ = some (.slice LA m1 lc) := (hb2.cell (p := ⟨wr.heap.size, 0, none⟩) hg).trans r1
            have t2 : w2.cell? ⟨wr.heap.size, 1, none⟩ = some (.slice PA m2 pc) := (hb2.cell (p := ⟨wr.heap.size, 1, none⟩) hg).trans r2
            have K2 := Lib.hid (KK.out.trans (hb2.mono KK.out.size))
            clear hb2 r1 r2
            have HB2 := Lib.hid (HB.out.trans (K2.out.mono hsz))
            by_cases hk0 : k = 0
            · have HS1 : Hid (SerTo S (k + 1)) := HGO.out ⟨D0.out, trivial, trivial, fun h => absurd h (by omega)⟩
              have dk : decide (0 < k) = false := by simp; omega
              clear hk0 H3
              go_wp2_with fail
              go_quiet (fail)
              go_wp2
              go_roundw
              case rel => exact ⟨k + 1, by omega, by go_num, HS1, bel_drawn HB2.out _⟩
              case measure => simp [intOf]; omega
            · obtain ⟨LA', lc', PA', pc', c1, c2, H3'⟩ := H3.out (by omega)
              have H4 := Lib.hid H3'
              have dk : decide (0 < k) = true := by simp; omega
              have dk' : (0 : Int) < (k : Int) := by omega
              have u1 : w2.cell? ⟨b, off + (k - 1) * 2, none⟩ = some (.slice LA' m3 lc') := (K2.out.cell (p := ⟨b, off + (k - 1) * 2, none⟩) hlb).trans c1
              have u2 : w2.cell? ⟨b, off + (k - 1) * 2 + 1, none⟩ = some (.slice PA' m4 pc') := (K2.out.cell (p := ⟨b, off + (k - 1) * 2 + 1, none⟩) hlb).trans c2
              have f1 : (k : Int) - 1 < (n : Int) := by omega
              have f2 : (0 : Int) ≤ (k : Int) - 1 := by omega
              have f2' : (1 : Int) ≤ (k : Int) := by omega
              have f3 : ((k : Int) - 1).toNat = k - 1 := by omega
              have f4 : IntKind.i64.wrap ((k : Int) - 1) = (k : Int) - 1 := IntWalk.i64_in _ (by omega)
              have f5 : b < w2.heap.size := by have := K2.out.size; omega
              have f6 : wr.heap.size < w2.heap.size := by have := K2.out.size; have := t1; exact World.block_lt_of_cell? _ _ t1
              clear H3 c1 c2 H3'
              by_cases hc : cv < 0
              · have HS1 : Hid (SerTo S (k + 1)) := HGO.out ⟨D0.out, trivial, trivial, fun h => hc⟩
                have dc : decide (0 ≤ cv) = false := by simp; omega
                go_wp2_with fail
                go_still_tail 9, (by kernel_rfl)
                go_wp2_with fail
                refine (H4.out _ K2.out.drew).mono ?_
                rintro e w3 ⟨rfl, hb3⟩
                have HB3 := Lib.hid (HB2.out.drew.trans (hb3.mono (by exact HB2.out.size)))
                clear hb3
                go_wp2
                go_roundw
                case rel => exact ⟨k + 1, by omega, by go_num, HS1, HB3⟩
                case measure => simp [intOf]; omega
              · have hf : r = false := by rw [← HR.out]; exact HBAD.out (by rintro ⟨_, _, _, h⟩; exact hc (h (by omega)))
                subst hf
                have dc : decide (0 ≤ cv) = true := by simp; omega
                go_wp2_with fail
                go_still_tail 9, (by kernel_rfl)
                go_wp2_with fail
                refine (H4.out _ K2.out.drew).mono ?_
                rintro e w3 ⟨rfl, hb3⟩
                have HB3 := Lib.hid (HB2.out.drew.trans (hb3.mono (by exact HB2.out.size)))
                clear hb3
                go_wp2
                go_ret
                exact ⟨rfl, HB3.out⟩
    · have hf : r = true := by rw [← HR.out]; exact store_all (by rw [HN.out, show n = k by omega]; exact HC.out)
      subst hf
      go_wp2
      go_ret
      exact ⟨rfl, HB.out⟩
end Go.Proofs.YtiabnacgfoaihaaDoor

import Derived.Test.YtiabnacgfoaihaaDoorU1
namespace Go.Proofs.YtiabnacgfoaihaaDoor
open Go.RowKit Lb
set_option linter.unusedVariables false

theorem cmp_one (a b : List Lab) : (cmpL b a != 1) = !decide (cmpL a b < 0) := by
  have h1 := cmpL_in a b
  have h2 := cmpL_anti a b
  rw [h2]
  by_cases h : cmpL a b < 0
  · have : cmpL a b = -1 := by omega
    rw [this]; rfl
  · rw [decide_eq_false h]
    simp; omega

/-! the document's Right of a store -/
set_option maxRecDepth 100000 in
set_option maxHeartbeats 8000000 in
theorem refsright_any (A : Option Addr) (c : Nat) (S : List Ser) (w : World) (hS : Srs w A S) (hF : Few S) (hs : ∀ i, i < S.length → ∀ j, j < (S.getD i s0).1.length → ((S.getD i s0).1.getD j e0).1.size ≤ 65536) :
    Calls Tryd.prog 17 #[.slice A S.length c] w fun e w' => e = .returned (.bool (storeB S)) ∧ Below w.heap.size w w' := by
  generalize hr : storeB S = r
  have HR := Lib.hid hr
  have HS := Lib.hid hS
  have HF := Lib.hid hF.2
  have HSZ := Lib.hid hs
  have hn1 := hF.1
  clear hr hS hF hs
  generalize hn : S.length = n at *
  have HN := Lib.hid hn
  clear hn
  go_enter Tryd.func17, Tryd.ntmps17
  go_wp2
  go_loopw [3] (fun i wr => ∃ k : Nat, k ≤ n ∧ i = .int .i64 k ∧ Hid (SerTo S k) ∧ Hid (Below w.heap.size w wr)) (fun i _ => n - (intOf i).toNat)
  case atStart => exact ⟨0, Nat.zero_le _, rfl, ser_zero S, Below.refl _ _⟩
  case round =>
    obtain ⟨k, hk, rfl, HC, HB⟩ := hrel
    by_cases hlt : k < n
    · have hkl : k < S.length := by rw [HN.out]; exact hlt
      obtain ⟨b, off, LA, lc, PA, pc, rfl, hlb, hx1, hy1, hL1, _, hP1, _⟩ := HS.out.at_ hkl
      have HBAD := Lib.hid (@store_bad S k hkl)
      have HGO := Lib.hid (@ser_succ S k HC.out)
      have hat : serAt S k = ((((S.getD k s0).1.length == 0) = false) ∧ rightB (S.getD k s0).1 = true ∧ ptsB (S.getD k s0).2 = true ∧ (0 < k → cmpL (S.getD (k - 1) s0).1 (S.getD k s0).1 < 0)) := rfl
      rw [hat] at HBAD HGO
      have H1 := Lib.hid (fun W (hW : Below w.heap.size w W) => refright_any LA lc (S.getD k s0).1 W (hL1.below hW) (HSZ.out k hlt) (HF.out k hlt).1)
      have HP := Lib.hid hP1
      have hpl := (HF.out k hlt).2
      have HX := Lib.hid (fun W (hW : Below w.heap.size w W) => (hW.cell (p := ⟨b, off + k * 2, none⟩) hlb).trans hx1)
      have HY := Lib.hid (fun W (hW : Below w.heap.size w W) => (hW.cell (p := ⟨b, off + k * 2 + 1, none⟩) hlb).trans hy1)
      have H3 : Hid (0 < k → ∃ LA' lc', (∀ W (hW : Below w.heap.size w W), W.cell? ⟨b, off + (k - 1) * 2, none⟩ = some (.slice LA' (S.getD (k - 1) s0).1.length lc')) ∧
          ∀ W (hW : Below w.heap.size w W), Calls Tryd.prog 20 #[.slice LA (S.getD k s0).1.length lc, .slice LA' (S.getD (k - 1) s0).1.length lc'] W fun e w' => e = .returned (.int .i64 (cmpL (S.getD k s0).1 (S.getD (k - 1) s0).1)) ∧ ∃ q, w' = W.drewN q) := by
        intro h0
        obtain ⟨b', off', LA', lc', PA', pc', e', hlb', hx2, hy2, hL2, _⟩ := HS.out.at_ (i := k - 1) (by omega)
        injection e' with e'
        injection e' with e1 e2
        subst e1; subst e2
        exact ⟨LA', lc', fun W hW => (hW.cell (p := ⟨b, off + (k - 1) * 2, none⟩) hlb).trans hx2, fun W hW => refcmp_any LA LA' lc lc' _ _ W (hL1.below hW) (hL2.below hW) (HF.out k hlt).1 (HF.out (k - 1) (by omega)).1⟩
      have HCO := Lib.hid (cmp_one (S.getD (k - 1) s0).1 (S.getD k s0).1)
      have hx := HX.out wr HB.out
      have hy := HY.out wr HB.out
      obtain ⟨cv, hcv⟩ : ∃ z, cmpL (S.getD k s0).1 (S.getD (k - 1) s0).1 = z := ⟨_, rfl⟩
      rw [hcv] at HCO H3
      clear hL1 hP1 hx1 hy1 hat hcv
      obtain ⟨P, hPp⟩ : ∃ P, (S.getD k s0).2 = P := ⟨_, rfl⟩
      rw [hPp] at HBAD HGO HP hpl HY hy
      clear hPp
      generalize (S.getD k s0).1.length = m1 at *
      generalize rightB (S.getD k s0).1 = b1 at *
      generalize hltv : decide (cmpL (S.getD (k - 1) s0).1 (S.getD k s0).1 < 0) = lv at *
      have HLV := Lib.hid hltv
      clear hltv
      generalize (S.getD (k - 1) s0).1.length = m3 at *
      generalize hm2 : P.length = m2 at *
      have HM2 := Lib.hid hm2
      clear hm2
      cases b1 with
      | false =>
        have hf : r = false := by rw [← HR.out]; exact HBAD.out (by rintro ⟨_, h, _⟩; cases h)
        subst hf
        go_wp2_with fail
        refine (H1.out _ HB.out).mono ?_
        rintro e w1 ⟨rfl, hb1⟩
        have HB1 := Lib.hid (HB.out.trans (hb1.mono HB.out.size))
        clear hb1
        go_wp2
        go_ret
        exact ⟨rfl, HB1.out⟩
      | true =>
        go_wp2_with fail
        refine (H1.out _ HB.out).mono ?_
        rintro e w1 ⟨rfl, hb1⟩
        have HB1 := Lib.hid (HB.out.trans (hb1.mono HB.out.size))
        have hx := HX.out w1 HB1.out
        have hy := HY.out w1 HB1.out
        clear hb1
        by_cases h0 : m1 = 0
        · have hf : r = false := by rw [← HR.out]; exact HBAD.out (by rw [h0]; rintro ⟨h, _⟩; simp at h)
          subst hf
          have d0 : ((m1 : Int) == 0) = true := beq_iff_eq.2 (by omega)
          clear h0
          go_wp2
          go_ret
          exact ⟨rfl, HB1.out⟩
        · have d0 : ((m1 : Int) == 0) = false := beq_eq_false_iff_ne.2 (by omega)
          have D0 : Hid ((m1 == 0) = false) := beq_eq_false_iff_ne.2 h0
          clear h0
          by_cases h2 : m2 = 0
          · have hf : r = false := by
              rw [← HR.out]
              refine HBAD.out ?_
              rintro ⟨_, _, h, _⟩
              have := ((pts_iff P).1 h).1
              rw [HM2.out] at this
              omega
            subst hf
            have d1 : ((m2 : Int) == 0) = true := beq_iff_eq.2 (by omega)
            clear h2
            go_wp2
            go_ret
            exact ⟨rfl, HB1.out⟩
          · have d1 : ((m2 : Int) == 0) = false := beq_eq_false_iff_ne.2 (by omega)
            have hm2p : 0 < m2 := by omega
            clear h2
            obtain ⟨pb, poff, rfl, hpb, hpc⟩ := HP.out (by rw [HM2.out]; exact hm2p)
            have HPC := Lib.hid hpc
            clear hpc
            go_wp2
            go_loopw [5] (fun s5 wi => ∃ j : Nat, j ≤ m2 ∧ s5 = .int .i64 j ∧ Hid (PtsTo P j) ∧ Hid (Below w.heap.size w wi)) (fun s5 _ => m2 - (intOf s5).toNat)
            case atStart => exact ⟨0, Nat.zero_le _, rfl, pts_zero P, HB1⟩
            case round =>
              obtain ⟨j, hj, rfl, HPT, HBi⟩ := hrel
              by_cases hjt : j < m2
              · have hjl : j < P.length := by rw [HM2.out]; exact hjt
                obtain ⟨c1, c2, hbits⟩ := HPC.out j hjl
                have hx9 := (HBi.out.cell (p := ⟨pb, poff + j * 2, none⟩) hpb).trans c1
                have hy9 := (HBi.out.cell (p := ⟨pb, poff + j * 2 + 1, none⟩) hpb).trans c2
                have hz9 : 0 < j → _ := fun h0 => (HBi.out.cell (p := ⟨pb, poff + (j - 1) * 2, none⟩) hpb).trans (HPC.out (j - 1) (by rw [HM2.out]; omega)).1
                have HB2 := Lib.hid (@pts_bad P j hjl)
                have HG2 := Lib.hid (@pts_succ P j HPT.out)
                have hat : ptAt P j = (tmB (P.getD j p0).1 = true ∧ (normI (P.getD j p0).2 == (P.getD j p0).2) = true ∧ (0 < j → (P.getD (j - 1) p0).1 < (P.getD j p0).1)) := rfl
                rw [hat] at HB2 HG2
                have HFALSE : Hid (ptsB P = false → r = false) := by
                  intro h
                  rw [← HR.out]
                  refine HBAD.out ?_
                  rintro ⟨_, _, h2, _⟩
                  rw [h] at h2; cases h2
                clear c1 c2 hat hx hy
                generalize (P.getD j p0).1 = x at *
                generalize (P.getD j p0).2 = y at *
                generalize (P.getD (j - 1) p0).1 = z at *
                generalize hny : normI y = ny at *
                have HY2 := Lib.hid (fun W => refnorm_q y hbits ny hny W)
                clear hbits hny
                by_cases e1 : x < -1125899906842624
                · have hf : r = false := HFALSE.out (HB2.out (by rintro ⟨h, _⟩; have := tm_in h; omega))
                  subst hf
                  have g1 : decide (x < -1125899906842624) = true := by simpa using e1
                  clear hz9
                  go_wp2_with fail
                  go_quiet (fail)
                  go_wp2
                  go_ret
                  exact ⟨rfl, bel_drawn HBi.out _⟩
                · have g1 : decide (x < -1125899906842624) = false := by simpa using e1
                  by_cases e2 : 1125899906842624 < x
                  · have hf : r = false := HFALSE.out (HB2.out (by rintro ⟨h, _⟩; have := tm_in h; omega))
                    subst hf
                    have g2 : decide (1125899906842624 < x) = true := by simpa using e2
                    clear hz9
                    go_wp2_with fail
                    go_quiet (fail)
                    go_wp2
                    go_ret
                    exact ⟨rfl, bel_drawn HBi.out _⟩
                  · have g2 : decide (1125899906842624 < x) = false := by simpa using e2
                    have HTM : Hid (tmB x = true) := by
                      show tmB x = true
                      unfold tmB
                      simp; omega
                    cases h5 : (ny == y) with
                    | false =>
                      have hf : r = false := HFALSE.out (HB2.out (by rw [h5]; rintro ⟨_, h, _⟩; simp at h))
                      subst hf
                      have g3 : (ny != y) = true := by simp [bne, h5]
                      clear h5 hz9
                      go_wp2_with fail
                      go_quiet ((go_at_call 27; exact Calls.quiet_of_same (HY2.out _)))
                      go_wp2
                      go_ret
                      exact ⟨rfl, bel_drawn HBi.out _⟩
                    | true =>
                      have g3 : (ny != y) = false := by simp [bne, h5]
                      by_cases hj0 : j = 0
                      · have HS1 : Hid (PtsTo P (j + 1)) := HG2.out ⟨HTM.out, h5, fun h => absurd h (by omega)⟩
                        have dk : decide (0 < j) = false := by simp; omega
                        clear h5 hj0 hz9
                        go_wp2_with fail
                        go_quiet ((go_at_call 27; exact Calls.quiet_of_same (HY2.out _)))
                        go_wp2
                        go_roundw
                        case rel => exact ⟨j + 1, by omega, by go_num, HS1, bel_drawn HBi.out _⟩
                        case measure => simp [intOf]; omega
                      · have dk : decide (0 < j) = true := by simp; omega
                        have dk' : (0 : Int) < (j : Int) := by omega
                        have hz' := hz9 (by omega)
                        have k1 : (1 : Int) ≤ (j : Int) := by omega
                        have k2 : (j : Int) - 1 < (m2 : Int) := by omega
                        have k3 : (0 : Int) ≤ (j : Int) - 1 := by omega
                        have k4 : ((j : Int) - 1).toNat = j - 1 := by omega
                        have k5 : IntKind.i64.wrap ((j : Int) - 1) = (j : Int) - 1 := IntWalk.i64_in _ (by omega)
                        clear hz9
                        by_cases h6 : x ≤ z
                        · have hf : r = false := HFALSE.out (HB2.out (by rintro ⟨_, _, h⟩; have := h (by omega); omega))
                          subst hf
                          have g6 : decide (x ≤ z) = true := by simpa using h6
                          clear h5
                          go_wp2_with fail
                          go_quiet ((go_at_call 27; exact Calls.quiet_of_same (HY2.out _)))
                          go_wp2
                          go_ret
                          exact ⟨rfl, bel_drawn HBi.out _⟩
                        · have HS1 : Hid (PtsTo P (j + 1)) := HG2.out ⟨HTM.out, h5, fun _ => by omega⟩
                          have g6 : decide (x ≤ z) = false := by simpa using h6
                          clear h5
                          go_wp2_with fail
                          go_quiet ((go_at_call 27; exact Calls.quiet_of_same (HY2.out _)))
                          go_wp2
                          go_roundw
                          case rel => exact ⟨j + 1, by omega, by go_num, HS1, bel_drawn HBi.out _⟩
                          case measure => simp [intOf]; omega
              · have hjm : j = m2 := by omega
                subst hjm
                have HPB : Hid (ptsB P = true) := by
                  show ptsB P = true
                  rw [pts_iff]
                  exact ⟨by rw [HM2.out]; exact hm2p, by rw [HM2.out]; exact HPT.out⟩
                have hx7 := HX.out _ HBi.out
                clear hx hy
                by_cases hk0 : k = 0
                · have HS1 : Hid (SerTo S (k + 1)) := HGO.out ⟨D0.out, trivial, HPB.out, fun h => absurd h (by omega)⟩
                  have dk : decide (0 < k) = false := by simp; omega
                  clear hk0
                  go_wp2_with fail
                  go_quiet (fail)
                  go_wp2
                  go_roundw
                  case rel => exact ⟨k + 1, by omega, by go_num, HS1, bel_drawn HBi.out _⟩
                  case measure => simp [intOf]; omega
                · obtain ⟨LA', lc', hx2, H4'⟩ := H3.out (by omega)
                  have H4 := Lib.hid H4'
                  have hx8 := hx2 _ HBi.out
                  have dk : decide (0 < k) = true := by simp; omega
                  have dk' : (0 : Int) < (k : Int) := by omega
                  have k1 : (1 : Int) ≤ (k : Int) := by omega
                  have k2 : (k : Int) - 1 < (n : Int) := by omega
                  have k3 : (0 : Int) ≤ (k : Int) - 1 := by omega
                  have k4 : ((k : Int) - 1).toNat = k - 1 := by omega
                  have k5 : IntKind.i64.wrap ((k : Int) - 1) = (k : Int) - 1 := IntWalk.i64_in _ (by omega)
                  have k6 : (k : Int) < (n : Int) := by omega
                  clear hx2 H4'
                  cases lv with
                  | true =>
                    have HS1 : Hid (SerTo S (k + 1)) := HGO.out ⟨D0.out, trivial, HPB.out, fun h => of_decide_eq_true HLV.out⟩
                    have g7 : (cv != 1) = false := HCO.out
                    go_wp2_with fail
                    go_quiet ((go_at_call 20; exact Calls.quiet_of (H4.out _ (bel_drawn HBi.out _))))
                    go_wp2
                    go_roundw
                    case rel => exact ⟨k + 1, by omega, by go_num, HS1, bel_drawn HBi.out _⟩
                    case measure => simp [intOf]; omega
                  | false =>
                    have hf : r = false := by rw [← HR.out]; exact HBAD.out (by rintro ⟨_, _, _, h⟩; exact (of_decide_eq_false HLV.out) (h (by omega)))
                    subst hf
                    have g7 : (cv != 1) = true := HCO.out
                    go_wp2_with fail
                    go_quiet ((go_at_call 20; exact Calls.quiet_of (H4.out _ (bel_drawn HBi.out _))))
                    go_wp2
                    go_ret
                    exact ⟨rfl, bel_drawn HBi.out _⟩
    · have hf : r = true := by rw [← HR.out]; exact store_all (by rw [HN.out, show n = k by omega]; exact HC.out)
      subst hf
      go_wp2
      go_ret
      exact ⟨rfl, HB.out⟩
end Go.Proofs.YtiabnacgfoaihaaDoor

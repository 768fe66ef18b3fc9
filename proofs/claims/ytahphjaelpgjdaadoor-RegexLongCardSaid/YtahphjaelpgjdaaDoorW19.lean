import Derived.Test.YtahphjaelpgjdaaDoorW18
namespace Go.Proofs.YtahphjaelpgjdaaDoor
open Go.RowKit Rx
set_option linter.unusedVariables false

/-! one part behind another -/
set_option maxRecDepth 100000 in
set_option maxHeartbeats 8000000 in
theorem cat_any (b a o : Nat) (T F : Value) (l : ByteArray) (grp : Nat → Mach → Res) (m : Mach) (w : World) (hr : Rdr w b T F l m a o) (hT : TzT w) (hl : l.size ≤ 200) (ha : a ≤ l.size) (hm : Rx.Good m) (hn : m.takes.length ≤ a) (hg : GC b l o grp) (hf : FineG l grp) :
    Calls Tryd.prog 50 #[.pointer (some ⟨b, 0, none⟩)] w (PP b T F l o w (catF l grp a m)) := by
  have HR := Lib.hid (hr.alloc (.cells zero9 85))
  have HM := Lib.hid ((Moves.refl b T F w).alloc (.cells zero9 85))
  have B0 := Lib.hid (Blk.new w 85 zero9)
  have HT := Lib.hid (HM.out.tz hr hT)
  have HFT : Hid (∀ j, w.heap.size ≤ j → ¬ Foot b T F j) := fun j hj hf => by have := (hr.lt_foot hf).1; omega
  have HG := Lib.hid hg
  have HFG := Lib.hid hf
  have HQ1 : Hid (Rx.Good m ∧ PcIn m.takes.length unit ∧ m.takes.length ≤ a) := ⟨hm, unit_in _, hn⟩
  clear hr hT hg hm hf hn
  go_enter Tryd.func50, Tryd.ntmps50
  go_upto_region 1 with fail
  generalize hW : w.alloc (.cells zero9 85) = W at *
  clear hW
  have J1 : Hid (Blk (W.alloc (.cells #[.bool true, .int .u64 0, .int .u64 0, .int .u64 0, .int .u64 0, .int .u64 0, .int .u64 0, .int .u64 0, .int .u64 0] 85)) W.heap.size 85 (pcC unit)) := by
    show Blk _ _ _ _
    unfold pcC unit
    simp only [wv_zero]
    exact Blk.new W 85 _
  have HR2 := Lib.hid (HR.out.alloc (.cells #[.bool true, .int .u64 0, .int .u64 0, .int .u64 0, .int .u64 0, .int .u64 0, .int .u64 0, .int .u64 0, .int .u64 0] 85))
  have JM := Lib.hid ((Moves.refl b T F W).alloc (.cells #[.bool true, .int .u64 0, .int .u64 0, .int .u64 0, .int .u64 0, .int .u64 0, .int .u64 0, .int .u64 0, .int .u64 0] 85))
  have hlt : w.heap.size < W.heap.size := B0.out.lt
  have hne : w.heap.size ≠ W.heap.size := by omega
  go_upto_region 2 with fail
  generalize hW : W.alloc (.cells #[.bool true, .int .u64 0, .int .u64 0, .int .u64 0, .int .u64 0, .int .u64 0, .int .u64 0, .int .u64 0, .int .u64 0] 85) = W2 at *
  clear hW
  go_loopw [5, 6] (fun s5 s6 wr => ∃ (k a' : Nat) (m' : Mach) (p' : Pc) (T' F' : Value), l.size < k + a' ∧ a' ≤ l.size ∧ Hid (Rdr wr b T' F' l m' a' o) ∧ Hid (Moves b T F W T' F' wr) ∧ Hid (Blk wr W.heap.size 85 (pcC p')) ∧ Hid (Rx.Good m' ∧ PcIn m'.takes.length p' ∧ m'.takes.length ≤ a') ∧ Hid (catF l grp a m = catL l grp k a' m' p')) (fun s5 s6 wr => l.size - atOf wr b)
  case atStart => exact ⟨l.size + 1, a, m, unit, T, F, by omega, ha, HR2, JM, J1, HQ1, rfl⟩
  case round =>
    obtain ⟨k, a', m', p', T1, F1, hk, ha', HRr, HMr, Jr, HQr, HE⟩ := hrel
    have HMEAS : Hid (atOf wr b = a') := HRr.out.at_of
    have HTr : Hid (TzT wr) := HMr.out.tz HR.out HT.out
    obtain ⟨k', rfl⟩ : ∃ k', k = k' + 1 := ⟨k - 1, by omega⟩
    obtain ⟨pe, pf, pl⟩ := p'
    by_cases hlt1 : a' < l.size
    · have HEN := Lib.hid (ended_any b a' l false (by simp; omega) wr hl (rd_cells HRr.out).2.2.1 (rd_cells HRr.out).2.2.2.1)
      have HS := Lib.hid (fun n => sees_is b a' l ⟨#[124, 41]⟩ [124, 41] sg_cat (wr.drewN n) hl ha' (rd_cells HRr.out).2.2.1 (rd_cells HRr.out).2.2.2.1)
      cases hs : seesAny l a' [124, 41] with
      | true =>
        rw [hs] at HS
        have HE2 : Hid (catF l grp a m = .ok a' m' ⟨pe, pf, pl⟩) := by
          show catF l grp a m = _
          rw [HE.out]; unfold catL; rw [if_neg (by rw [hs]; simp)]
        clear hs HE
        go_wp2_with fail
        refine (HEN.out).mono ?_
        rintro e w3 ⟨rfl, n3, rfl⟩
        go_wp2_with fail
        refine (HS.out n3).mono ?_
        rintro e w4 ⟨rfl, n4, rfl⟩
        have HR3 := Lib.hid ((HRr.out.drewN n3).drewN n4)
        have HM3 := Lib.hid ((HMr.out.drewN n3).drewN n4)
        have J3 := Lib.hid ((Jr.out.drewN n3).drewN n4)
        have B3 := Lib.hid (B0.out.moves HM3.out (HFT.out _ (Nat.le_refl _)))
        generalize hW : (wr.drewN n3).drewN n4 = W3 at *
        clear hW HRr HMr Jr HTr HS HEN
        obtain ⟨x0, x1, x2, x3, x4, x5, x6, x7, x8⟩ := cells9 J3.out
        obtain ⟨r0, r1, r2, r3, r4, r5, r6, r7, r8⟩ := cells9 B3.out
        obtain ⟨g0, g1, g2, g3, g4, g5, g6, g7, g8⟩ := frozen9 B3.out
        go_wp2
        exact bodyPost_ret (v := .tuple #[pcV ⟨pe, pf, pl⟩, .nilIface]) (by simp [results, Tryd.results50, go_sem, r0, r1, r2, r3, r4, r5, r6, r7, r8]) rfl (pp_ok HE2.out ((HM.out.trans HM3.out).set9 (Nat.le_refl _) _ _ _ _ _ _ _ _ _) rfl (HR3.out.set9 (HR3.out.off B3.out (by decide) (by decide)) _ _ _ _ _ _ _ _ _))
      | false =>
        rw [hs] at HS
        have HRE := Lib.hid (fun X (hX : Rdr X b T1 F1 l m' a' o) (hT : TzT X) => rep_any b a' o T1 F1 l grp m' X hX hT hl hlt1 HQr.out.1 HQr.out.2.2 HG.out HFG.out)
        have HFI := Lib.hid (rep_fine HFG.out hlt1 HQr.out.1)
        have HE2 : Hid (∀ r, repF l grp a' m' = r → catF l grp a m = match r with | .bad pl c => .bad pl c | .ok a1 m1 p => catL l grp k' a1 (chainM m1 ⟨pe, pf, pl⟩ p) (chainP ⟨pe, pf, pl⟩ p)) := fun r h => by
          rw [HE.out]; conv => lhs; unfold catL
          rw [if_pos ⟨hlt1, hs⟩, h]
          cases r <;> rfl
        clear hs HE
        go_wp2_with fail
        refine (HEN.out).mono ?_
        rintro e w3 ⟨rfl, n3, rfl⟩
        go_wp2_with fail
        refine (HS.out n3).mono ?_
        rintro e w4 ⟨rfl, n4, rfl⟩
        have HR3 := Lib.hid ((HRr.out.drewN n3).drewN n4)
        have HM3 := Lib.hid ((HMr.out.drewN n3).drewN n4)
        have J3 := Lib.hid ((Jr.out.drewN n3).drewN n4)
        have HT3 : Hid (TzT ((wr.drewN n3).drewN n4)) := HTr.out
        generalize hW : (wr.drewN n3).drewN n4 = W3 at *
        clear hW HRr HMr Jr HTr HS HEN
        go_wp2_with fail
        refine (HRE.out W3 HR3.out HT3.out).mono ?_
        rintro e w4 ⟨T2, F2, hm4, hrest⟩
        have HM4 := Lib.hid (HM3.out.trans hm4)
        have J4 := Lib.hid (J3.out.moves hm4 (HR3.out.off J3.out (by decide) (by decide)))
        have B4 := Lib.hid (B0.out.moves HM4.out (HFT.out _ (Nat.le_refl _)))
        have HT4 : Hid (TzT w4) := hm4.tz HR3.out HT3.out
        have hj1 : W.heap.size < w4.heap.size := J4.out.lt
        clear hm4 HRE HR3 HM3 J3 HT3
        cases hA : repF l grp a' m' with
        | bad plc cc =>
          rw [hA] at hrest
          obtain ⟨p0, err, rfl, f, rfl, hB⟩ := hrest
          have HX1 := Lib.hid (HE2.out _ hA)
          have HF := Lib.hid (hB.alloc (.cells (pcC p0) 85))
          have BB := Lib.hid (B4.out.alloc (.cells (pcC p0) 85))
          have MM := Lib.hid (HM4.out.alloc (.cells (pcC p0) 85))
          clear hA hB HE2 HFI
          obtain ⟨pe0, pf0, pl0⟩ := p0
          go_upto_region 4 with fail
          generalize hW : w4.alloc (.cells (pcC _) 85) = W5 at *
          clear hW
          obtain ⟨r0, r1, r2, r3, r4, r5, r6, r7, r8⟩ := cells9 BB.out
          obtain ⟨g0, g1, g2, g3, g4, g5, g6, g7, g8⟩ := frozen9 BB.out
          go_wp2
          exact bodyPost_ret (v := .tuple #[.agg zero9, .iface 70 (.pointer (some ⟨f, 0, none⟩))]) (by simp [results, Tryd.results50, go_sem, r0, r1, r2, r3, r4, r5, r6, r7, r8]) rfl (pp_bad HX1.out ((HM.out.trans MM.out).set9 (Nat.le_refl _) _ _ _ _ _ _ _ _ _) pc0_eq (HF.out.set9_other (blk_ne HF.out BB.out (by decide)) _ _ _ _ _ _ _ _ _))
        | ok a2 m2 q2 =>
          rw [hA] at hrest
          obtain ⟨rfl, hR4⟩ := hrest
          obtain ⟨f1, f2, f3, f4, f5, f6⟩ := HFI.out a2 m2 q2 hA
          have HX1 : Hid (catF l grp a m = catL l grp k' a2 (chainM m2 ⟨pe, pf, pl⟩ q2) (chainP ⟨pe, pf, pl⟩ q2)) := HE2.out _ hA
          have hgc := f3.chain (HQr.out.2.1.mono f5) f4
          have HQ2 : Hid (Rx.Good (chainM m2 ⟨pe, pf, pl⟩ q2) ∧ PcIn (chainM m2 ⟨pe, pf, pl⟩ q2).takes.length (chainP ⟨pe, pf, pl⟩ q2) ∧ (chainM m2 ⟨pe, pf, pl⟩ q2).takes.length ≤ a2) := ⟨hgc.1, hgc.2, by have e : (chainM m2 ⟨pe, pf, pl⟩ q2).takes.length = m2.takes.length := rfl; have := HQr.out.2.2; omega⟩
          have HCH : Hid (∀ X, Rdr X b T2 F2 l m2 a2 o → TzT X → Calls Tryd.prog 64 #[.pointer (some ⟨b, 0, none⟩), pcV ⟨pe, pf, pl⟩, pcV q2] X (ChainP b T2 F2 l a2 o X (chainM m2 ⟨pe, pf, pl⟩ q2) (chainP ⟨pe, pf, pl⟩ q2))) := fun X h1 h2 => chain_any b a2 o ⟨pe, pf, pl⟩ q2 T2 F2 l m2 X h1 h2 (by rw [f3.1]; exact (HQr.out.2.1.mono f5).2) (by rw [f3.1]; have := HQr.out.2.2; omega)
          have HR5 := Lib.hid (hR4.alloc (.cells (pcC q2) 85))
          have HM5 := Lib.hid (HM4.out.alloc (.cells (pcC q2) 85))
          have J5 := Lib.hid (J4.out.alloc (.cells (pcC q2) 85))
          have K5 := Lib.hid (Blk.new w4 85 (pcC q2))
          have HT5 : Hid (TzT (w4.alloc (.cells (pcC q2) 85))) := HT4.out.below ((Below.refl _ _).alloc (Nat.le_refl _) _)
          clear hA HE2 HFI hgc f3 f4 f5 f6 hR4 HM4 J4 B4 HT4 HQr
          generalize hcm : chainM m2 ⟨pe, pf, pl⟩ q2 = cm at *
          generalize hcp : chainP ⟨pe, pf, pl⟩ q2 = q at *
          clear hcm hcp
          obtain ⟨xe, xf, xl⟩ := q2
          obtain ⟨qe, qf, ql⟩ := q
          go_upto_region 4 with fail
          generalize hW : w4.alloc (.cells (pcC _) 85) = W5 at *
          clear hW
          have HNJ : Hid (w4.heap.size ≠ W.heap.size) := by show _ ≠ _; omega
          have HNB : Hid (b ≠ W.heap.size) := fun e => HR5.out.off J5.out (by decide) (by decide) (.inl e.symm)
          have HFJ : Hid (¬ Foot b T2 F2 W.heap.size) := HR5.out.off J5.out (by decide) (by decide)
          have HFK : Hid (¬ Foot b T2 F2 w4.heap.size) := HR5.out.off K5.out (by decide) (by decide)
          have HR5d : Hid (Rdr W5.drew b T2 F2 l m2 a2 o) := HR5.out.below (below_drew _)
          have HT5d : Hid (TzT W5.drew) := HT5.out
          obtain ⟨x0, x1, x2, x3, x4, x5, x6, x7, x8⟩ := cells9 J5.out
          obtain ⟨y0, y1, y2, y3, y4, y5, y6, y7, y8⟩ := cells9 K5.out
          go_upto_region 6 with fail
          go_region_with
              (first
                | (go_at_call 64; refine (HCH.out W5.drew HR5d.out HT5d.out).mono ?_; rintro e w6 ⟨rfl, hr6, hm6⟩
                   have HR6 := Lib.hid hr6
                   have HM6 := Lib.hid (HM5.out.drew.trans hm6)
                   have J6 := Lib.hid (Blk.moves (w := W5.drew) (by exact J5.out) hm6 HFJ.out)
                   have K6 := Lib.hid (Blk.moves (w := W5.drew) (by exact K5.out) hm6 HFK.out)
                   obtain ⟨k0, k1, k2, k3, k4, k5, k6, k7, k8⟩ := cells9 K6.out
                   obtain ⟨z0, z1, z2, z3, z4, z5, z6, z7, z8⟩ := cells9 J6.out
                   obtain ⟨g0, g1, g2, g3, g4, g5, g6, g7, g8⟩ := frozen9 J6.out
                   clear hr6 hm6))
          all_goals
            have J7 := Lib.hid (J6.out.set9 (.bool qe) (wv qf 0) (wv qf 1) (wv qf 2) (wv qf 3) (wv ql 0) (wv ql 1) (wv ql 2) (wv ql 3))
            have HR7 := Lib.hid (HR6.out.set9 HFJ.out (.bool qe) (wv qf 0) (wv qf 1) (wv qf 2) (wv qf 3) (wv ql 0) (wv ql 1) (wv ql 2) (wv ql 3))
            have HM7 := Lib.hid (HM6.out.set9 (Nat.le_refl _) (.bool qe) (wv qf 0) (wv qf 1) (wv qf 2) (wv qf 3) (wv ql 0) (wv ql 1) (wv ql 2) (wv ql 3))
            unfold put9 at J7 HR7 HM7
            generalize hW : (((((((((w6.setCell ⟨W.heap.size, 0, none⟩ (.bool qe)).setCell ⟨W.heap.size, 1, none⟩ (wv qf 0)).setCell ⟨W.heap.size, 2, none⟩ (wv qf 1)).setCell ⟨W.heap.size, 3, none⟩ (wv qf 2)).setCell ⟨W.heap.size, 4, none⟩ (wv qf 3)).setCell ⟨W.heap.size, 5, none⟩ (wv ql 0)).setCell ⟨W.heap.size, 6, none⟩ (wv ql 1)).setCell ⟨W.heap.size, 7, none⟩ (wv ql 2)).setCell ⟨W.heap.size, 8, none⟩ (wv ql 3)) = W6 at *
            clear hW J6 HR6 HM6 K6 J5 HR5 HM5 HR5d HT5d HT5 K5 x0 x1 x2 x3 x4 x5 x6 x7 x8 y0 y1 y2 y3 y4 y5 y6 y7 y8 z0 z1 z2 z3 z4 z5 z6 z7 z8 g0 g1 g2 g3 g4 g5 g6 g7 g8 k0 k1 k2 k3 k4 k5 k6 k7 k8 HCH
            have HA7 : Hid (atOf W6 b = a2) := HR7.out.at_of
            go_wp2
            go_roundw
            case rel => exact ⟨k', a2, cm, ⟨qe, qf, ql⟩, T2, F2, by omega, f2, HR7, HM7, J7, HQ2, HX1⟩
            case measure =>
              rw [HA7.out, HMEAS.out]
              omega
    · obtain rfl : a' = l.size := by omega
      have HEN := Lib.hid (ended_any b l.size l true (by simp) wr hl (rd_cells HRr.out).2.2.1 (rd_cells HRr.out).2.2.2.1)
      have HE2 : Hid (catF l grp a m = .ok l.size m' ⟨pe, pf, pl⟩) := by
        show catF l grp a m = _
        rw [HE.out]; unfold catL; rw [if_neg (by omega)]
      clear HE
      go_wp2_with fail
      refine (HEN.out).mono ?_
      rintro e w3 ⟨rfl, n3, rfl⟩
      have HR3 := Lib.hid (HRr.out.drewN n3)
      have HM3 := Lib.hid (HMr.out.drewN n3)
      have J3 := Lib.hid (Jr.out.drewN n3)
      have B3 := Lib.hid (B0.out.moves HM3.out (HFT.out _ (Nat.le_refl _)))
      generalize hW : wr.drewN n3 = W3 at *
      clear hW HRr HMr Jr HTr HEN
      obtain ⟨x0, x1, x2, x3, x4, x5, x6, x7, x8⟩ := cells9 J3.out
      obtain ⟨r0, r1, r2, r3, r4, r5, r6, r7, r8⟩ := cells9 B3.out
      obtain ⟨g0, g1, g2, g3, g4, g5, g6, g7, g8⟩ := frozen9 B3.out
      go_wp2
      exact bodyPost_ret (v := .tuple #[pcV ⟨pe, pf, pl⟩, .nilIface]) (by simp [results, Tryd.results50, go_sem, r0, r1, r2, r3, r4, r5, r6, r7, r8]) rfl (pp_ok HE2.out ((HM.out.trans HM3.out).set9 (Nat.le_refl _) _ _ _ _ _ _ _ _ _) rfl (HR3.out.set9 (HR3.out.off B3.out (by decide) (by decide)) _ _ _ _ _ _ _ _ _))
end Go.Proofs.YtahphjaelpgjdaaDoor

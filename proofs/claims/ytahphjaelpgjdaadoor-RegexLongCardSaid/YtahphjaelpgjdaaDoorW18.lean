import Derived.Test.YtahphjaelpgjdaaDoorW17
namespace Go.Proofs.YtahphjaelpgjdaaDoor
open Go.RowKit Rx
set_option linter.unusedVariables false

/-! a part of a pattern, repeated or not -/
theorem PP.shape {b : Nat} {T F : Value} {l : ByteArray} {o : Nat} {w w' : World} {r : Res} {e : Ending} (h : PP b T F l o w r e w') : ∃ p err, e = .returned (.tuple #[pcV p, err]) := by
  obtain ⟨T', F', hm, hr⟩ := h
  cases r with
  | bad pl c => obtain ⟨p, err, he, _⟩ := hr; exact ⟨p, err, he⟩
  | ok a m p => exact ⟨p, _, hr.1⟩
theorem Blk.pc_of (w : World) (p : Pc) : Blk (put9 (w.alloc (.cells zero9 85)) w.heap.size (.bool p.empty) (wv p.first 0) (wv p.first 1) (wv p.first 2) (wv p.first 3) (wv p.last 0) (wv p.last 1) (wv p.last 2) (wv p.last 3)) w.heap.size 85 (pcC p) := (Blk.new w 85 zero9).set9 _ _ _ _ _ _ _ _ _
def nest9 (w : World) (j : Nat) (p : Pc) : World := put9 w j (.bool p.empty) (wv p.first 0) (wv p.first 1) (wv p.first 2) (wv p.first 3) (wv p.last 0) (wv p.last 1) (wv p.last 2) (wv p.last 3)
set_option maxRecDepth 100000 in
set_option maxHeartbeats 8000000 in
theorem rep_any (b a o : Nat) (T F : Value) (l : ByteArray) (grp : Nat → Mach → Res) (m : Mach) (w : World) (hr : Rdr w b T F l m a o) (hT : TzT w) (hl : l.size ≤ 200) (ha : a < l.size) (hm : Rx.Good m) (hn : m.takes.length ≤ a) (hg : GC b l o grp) (hf : FineG l grp) :
    Calls Tryd.prog 63 #[.pointer (some ⟨b, 0, none⟩)] w (PP b T F l o w (repF l grp a m)) := by
  have HR := Lib.hid (hr.alloc (.cells zero9 85))
  have HM := Lib.hid ((Moves.refl b T F w).alloc (.cells zero9 85))
  have B0 := Lib.hid (Blk.new w 85 zero9)
  have HFT : Hid (∀ j, w.heap.size ≤ j → ¬ Foot b T F j) := fun j hj hf => by have := (hr.lt_foot hf).1; omega
  have HT := Lib.hid (HM.out.tz hr hT)
  have HA := Lib.hid (atom_any b a o T F l grp m _ HR.out HT.out hl ha hm hn hg)
  have HFI := Lib.hid (atom_fine hf ha hm)
  have HX : Hid (∀ r, atomF l grp a m = r → repF l grp a m = match r with | .bad pl c => .bad pl c | .ok a1 m1 p => repL l (l.size + 1) a1 m1 p) := fun r h => by subst h; unfold repF; cases atomF l grp a m <;> rfl
  clear hr hT hg hm hf
  go_enter Tryd.func63, Tryd.ntmps63
  go_wp2_with fail
  refine (HA.out).mono ?_
  rintro e w1 ⟨T1, F1, hm1, hrest⟩
  have HM1 := Lib.hid (HM.out.trans hm1)
  have B1 := Lib.hid (B0.out.moves hm1 (HFT.out _ (Nat.le_refl _)))
  have hlt : w.heap.size < w1.heap.size := B1.out.lt
  have HT1 : Hid (TzT w1) := hm1.tz HR.out HT.out
  have hne : w.heap.size ≠ w1.heap.size := by omega
  clear hm1 HA HR HM B0 HT
  cases hA : atomF l grp a m with
  | bad pl c =>
    rw [hA] at hrest
    obtain ⟨p0, err, rfl, f, rfl, hB⟩ := hrest
    have J1 := Lib.hid (Blk.new w1 85 (pcC p0))
    have JR := Lib.hid (B1.out.alloc (.cells (pcC p0) 85))
    have JM := Lib.hid ((Moves.refl b T1 F1 w1).alloc (.cells (pcC p0) 85))
    have HF := Lib.hid (hB.alloc (.cells (pcC p0) 85))
    have HX1 := Lib.hid (HX.out _ hA)
    clear hA HX HFI hB
    obtain ⟨pe0, pf0, pl0⟩ := p0
    go_upto_region 2 with fail
    generalize hW : w1.alloc (.cells (pcC _) 85) = W2 at *
    clear hW
    refine wp_loop_rounds 1 ?_
    rw [rounds_succ]
    obtain ⟨x0, x1, x2, x3, x4, x5, x6, x7, x8⟩ := cells9 J1.out
    obtain ⟨r0, r1, r2, r3, r4, r5, r6, r7, r8⟩ := cells9 JR.out
    obtain ⟨g0, g1, g2, g3, g4, g5, g6, g7, g8⟩ := frozen9 JR.out
    go_wp2
    exact bodyPost_ret (v := .tuple #[pcV ⟨pe0, pf0, pl0⟩, .iface 70 (.pointer (some ⟨f, 0, none⟩))]) (by simp [results, Tryd.results63, go_sem, r0, r1, r2, r3, r4, r5, r6, r7, r8]) rfl (pp_bad HX1.out ((HM1.out.trans JM.out).set9 (Nat.le_refl _) _ _ _ _ _ _ _ _ _) rfl (HF.out.set9_other (blk_ne HF.out JR.out (by decide)) _ _ _ _ _ _ _ _ _))
  | ok a1 m1 p1 =>
    rw [hA] at hrest
    obtain ⟨rfl, hR1⟩ := hrest
    obtain ⟨f1, f2, f3, f4, f5, f6⟩ := HFI.out a1 m1 p1 hA
    have HX1 := Lib.hid (HX.out _ hA)
    have J1 := Lib.hid (Blk.new w1 85 (pcC p1))
    have HR2 := Lib.hid (hR1.alloc (.cells (pcC p1) 85))
    have JM := Lib.hid ((Moves.refl b T1 F1 w1).alloc (.cells (pcC p1) 85))
    have HFU : Hid (∀ j, w1.heap.size ≤ j → ¬ Foot b T1 F1 j) := fun j hj hf => by have := (hR1.lt_foot hf).1; omega
    have HFB : Hid (¬ Foot b T1 F1 w.heap.size) := hR1.off B1.out (by decide) (by decide)
    have HQ1 : Hid (Rx.Good m1 ∧ PcIn m1.takes.length p1 ∧ m1.takes.length ≤ a1) := ⟨f3, f4, by omega⟩
    clear hA HX HFI f3 f4 f5 f6
    have HR1 := Lib.hid hR1
    clear hR1
    have HJ1 : Hid (∃ p : Pc, p = p1) := ⟨_, rfl⟩
    obtain ⟨pe0, pf0, pl0⟩ := p1
    go_upto_region 2 with fail
    generalize hW : w1.alloc (.cells (pcC _) 85) = W2 at *
    clear hW
    go_loopw [11, 12] (fun s11 s12 wr => ∃ (k a' : Nat) (m' : Mach) (p' : Pc), l.size < k + a' ∧ a' ≤ l.size ∧ Hid (Rdr wr b T1 F1 l m' a' o) ∧ Hid (Moves b T1 F1 w1 T1 F1 wr) ∧ Hid (Blk wr w1.heap.size 85 (pcC p')) ∧ Hid (Rx.Good m' ∧ PcIn m'.takes.length p' ∧ m'.takes.length ≤ a') ∧ Hid (repF l grp a m = repL l k a' m' p')) (fun s11 s12 wr => l.size - atOf wr b)
    case atStart => exact ⟨l.size + 1, a1, m1, ⟨pe0, pf0, pl0⟩, by omega, f2, HR2, JM, J1, HQ1, HX1⟩
    case round =>
      obtain ⟨k, a', m', p', hk, ha', HRr, HMr, Jr, HQr, HE⟩ := hrel
      have HMEAS : Hid (atOf wr b = a') := HRr.out.at_of
      have HTr : Hid (TzT wr) := HMr.out.tz HR1.out HT1.out
      have HS := Lib.hid (sees_is b a' l ⟨#[42, 43, 63]⟩ [42, 43, 63] sg_rep wr hl ha' (rd_cells HRr.out).2.2.1 (rd_cells HRr.out).2.2.2.1)
      obtain ⟨k', rfl⟩ : ∃ k', k = k' + 1 := ⟨k - 1, by omega⟩
      obtain ⟨pe, pf, pl⟩ := p'
      cases hs : seesAny l a' [42, 43, 63] with
      | false =>
        rw [hs] at HS
        have HE2 : Hid (repF l grp a m = .ok a' m' ⟨pe, pf, pl⟩) := by
          show repF l grp a m = _
          rw [HE.out]; unfold repL; rw [hs]; rfl
        clear hs HE HX1
        go_wp2_with fail
        refine (HS.out).mono ?_
        rintro e w3 ⟨rfl, n3, rfl⟩
        have HR3 := Lib.hid (HRr.out.drewN n3)
        have HM3 := Lib.hid (HMr.out.drewN n3)
        have J3 := Lib.hid (Jr.out.drewN n3)
        have B3 := Lib.hid (B1.out.moves HM3.out HFB.out)
        generalize hW : wr.drewN n3 = W3 at *
        clear hW HRr HMr Jr HTr HS
        obtain ⟨x0, x1, x2, x3, x4, x5, x6, x7, x8⟩ := cells9 J3.out
        obtain ⟨r0, r1, r2, r3, r4, r5, r6, r7, r8⟩ := cells9 B3.out
        obtain ⟨g0, g1, g2, g3, g4, g5, g6, g7, g8⟩ := frozen9 B3.out
        go_wp2
        exact bodyPost_ret (v := .tuple #[pcV ⟨pe, pf, pl⟩, .nilIface]) (by simp [results, Tryd.results63, go_sem, r0, r1, r2, r3, r4, r5, r6, r7, r8]) rfl (pp_ok HE2.out ((HM1.out.trans HM3.out).set9 (Nat.le_refl _) _ _ _ _ _ _ _ _ _) rfl (HR3.out.set9 (HR3.out.off B3.out (by decide) (by decide)) _ _ _ _ _ _ _ _ _))
      | true =>
        rw [hs] at HS
        have hlt1 := seesAny_lt hs
        have HE2 : Hid (repF l grp a m = repL l k' (a' + 1) (repM m' ⟨pe, pf, pl⟩ (by_ l a')) (repP ⟨pe, pf, pl⟩ (by_ l a'))) := by
          show repF l grp a m = _
          rw [HE.out]; conv => lhs; unfold repL
          rw [hs]; rfl
        have HQ2 : Hid (Rx.Good (repM m' ⟨pe, pf, pl⟩ (by_ l a')) ∧ PcIn (repM m' ⟨pe, pf, pl⟩ (by_ l a')).takes.length (repP ⟨pe, pf, pl⟩ (by_ l a')) ∧ (repM m' ⟨pe, pf, pl⟩ (by_ l a')).takes.length ≤ a' + 1) := by
          have q := HQr.out.1.rep HQr.out.2.1 (by_ l a')
          refine ⟨q.1, by rw [q.2.2]; exact q.2.1, by rw [q.2.2]; have := HQr.out.2.2; omega⟩
        clear hs HE HX1
        go_wp2_with fail
        refine (HS.out).mono ?_
        rintro e w3 ⟨rfl, n3, rfl⟩
        have HR3 := Lib.hid (HRr.out.drewN n3)
        have HM3 := Lib.hid (HMr.out.drewN n3)
        have J3 := Lib.hid (Jr.out.drewN n3)
        have HT3 : Hid (TzT (wr.drewN n3)) := HTr.out
        generalize hW : wr.drewN n3 = W3 at *
        clear hW HRr HMr Jr HTr HS
        obtain ⟨c, hc⟩ : ∃ c, c = l[a'].toNat := ⟨_, rfl⟩
        have hc' : l[a'].toNat = c := hc.symm
        have HCB : Hid (by_ l a' = c) := by show by_ l a' = c; rw [hc, by_eq]
        have hb0 : (0 : Int) ≤ (a' : Int) := by omega
        have hb1 : (a' : Int) < (l.size : Int) := by omega
        rw [HCB.out] at HE2 HQ2
        have HRP : Hid (∀ X, Rdr X b T1 F1 l m' a' o → TzT X → Calls Tryd.prog 72 #[.pointer (some ⟨b, 0, none⟩), pcV ⟨pe, pf, pl⟩, .int .u8 c] X (ChainP b T1 F1 l a' o X (repM m' ⟨pe, pf, pl⟩ c) (repP ⟨pe, pf, pl⟩ c))) := fun X h1 h2 => repeat_any b a' o c ⟨pe, pf, pl⟩ T1 F1 l m' X h1 h2 (by rw [HQr.out.1.1]; exact HQr.out.2.1.2) (by rw [HQr.out.1.1]; have := HQr.out.2.2; omega)
        have c3 := (rd_cells HR3.out).2.2.1
        have c4 := (rd_cells HR3.out).2.2.2.1
        obtain ⟨x0, x1, x2, x3, x4, x5, x6, x7, x8⟩ := cells9 J3.out
        have HNJ : Hid (b ≠ w1.heap.size) := fun e => HFU.out _ (Nat.le_refl _) (.inl e.symm)
        have HR3d : Hid (Rdr W3.drew b T1 F1 l m' a' o) := HR3.out.below (below_drew _)
        have HT3d : Hid (TzT W3.drew) := HT3.out
        clear hc
        generalize hmq : repM m' ⟨pe, pf, pl⟩ c = mq at *
        generalize hq : repP ⟨pe, pf, pl⟩ c = q at *
        obtain ⟨qe, qf, ql⟩ := q
        clear hq hmq
        go_upto_region 3 with fail
        go_cut [] from 17 to 30 (fun wx => ∃ W6 : World, W6 = wx ∧ Hid (Rdr W6 b T1 F1 l mq a' o) ∧ Hid (Moves b T1 F1 w1 T1 F1 W6) ∧ Hid (Blk W6 w1.heap.size 85 (pcC ⟨qe, qf, ql⟩)))
        case first =>
          clear HE2 HQ2 HQr
          refine wp_region_noPanic ?_
          go_region_with
            (first
              | (go_at_call 72; refine (HRP.out W3.drew HR3d.out HT3d.out).mono ?_; rintro e w5 ⟨rfl, hr5, hm5⟩
                 have HR5 := Lib.hid hr5
                 have k3 := (rd_cells hr5).2.2.1
                 have k4 := (rd_cells hr5).2.2.2.1
                 have HM5 := Lib.hid (HM3.out.drew.trans hm5)
                 have J5 := Lib.hid (Blk.moves (w := W3.drew) (by exact J3.out) hm5 (HFU.out _ (Nat.le_refl _)))
                 obtain ⟨z0, z1, z2, z3, z4, z5, z6, z7, z8⟩ := cells9 J5.out
                 obtain ⟨g0, g1, g2, g3, g4, g5, g6, g7, g8⟩ := frozen9 J5.out
                 clear hr5 hm5))
          all_goals
            have J6 := Lib.hid (J5.out.set9 (.bool qe) (wv qf 0) (wv qf 1) (wv qf 2) (wv qf 3) (wv ql 0) (wv ql 1) (wv ql 2) (wv ql 3))
            have HR6 := Lib.hid (HR5.out.set9 (HFU.out _ (Nat.le_refl _)) (.bool qe) (wv qf 0) (wv qf 1) (wv qf 2) (wv qf 3) (wv ql 0) (wv ql 1) (wv ql 2) (wv ql 3))
            have HM6 := Lib.hid (HM5.out.set9 (Nat.le_refl _) (.bool qe) (wv qf 0) (wv qf 1) (wv qf 2) (wv qf 3) (wv ql 0) (wv ql 1) (wv ql 2) (wv ql 3))
            unfold put9 at J6 HR6 HM6
            refine NoPanic.normal ?_
            generalize hW : (((((((((w5.setCell ⟨w1.heap.size, 0, none⟩ (.bool qe)).setCell ⟨w1.heap.size, 1, none⟩ (wv qf 0)).setCell ⟨w1.heap.size, 2, none⟩ (wv qf 1)).setCell ⟨w1.heap.size, 3, none⟩ (wv qf 2)).setCell ⟨w1.heap.size, 4, none⟩ (wv qf 3)).setCell ⟨w1.heap.size, 5, none⟩ (wv ql 0)).setCell ⟨w1.heap.size, 6, none⟩ (wv ql 1)).setCell ⟨w1.heap.size, 7, none⟩ (wv ql 2)).setCell ⟨w1.heap.size, 8, none⟩ (wv ql 3)) = W6 at *
            clear hW J5 HR5 HM5 k3 k4 c3 c4 x0 x1 x2 x3 x4 x5 x6 x7 x8 z0 z1 z2 z3 z4 z5 z6 z7 z8 g0 g1 g2 g3 g4 g5 g6 g7 g8
            go_wp2_with fail
            go_meet
            exact ⟨_, rfl, HR6, HM6, J6⟩
        case rest =>
          obtain ⟨W6, rfl, HR6, HM6, J6⟩ := hcut
          clear J3 HR3 HM3 HR3d HT3d HT3 c3 c4 x0 x1 x2 x3 x4 x5 x6 x7 x8 hc' HRP
          have c4 := (rd_cells HR6.out).2.2.2.1
          have cf := HR6.out.blk.frozen 12
          go_wp2
          have HR7 := Lib.hid (HR6.out.set_at (a' + 1) (.int .i64 ((a' : Int) + 1)) (by rfl))
          have HM7 := Lib.hid (HM6.out.set_foot (foot_self b T1 F1) 12 (.int .i64 ((a' : Int) + 1)))
          have J7 := Lib.hid (J6.out.other (k := b) (fun e => HNJ.out e.symm) 12 (.int .i64 ((a' : Int) + 1)))
          have HA7 : Hid (atOf (W6.setCell ⟨b, 12, none⟩ (.int .i64 ((a' : Int) + 1))) b = a' + 1) := HR7.out.at_of
          go_roundw
          case rel => exact ⟨k', a' + 1, mq, ⟨qe, qf, ql⟩, by omega, by omega, HR7, HM7, J7, HQ2, HE2⟩
          case measure =>
            rw [HA7.out, HMEAS.out]
            omega
end Go.Proofs.YtahphjaelpgjdaaDoor

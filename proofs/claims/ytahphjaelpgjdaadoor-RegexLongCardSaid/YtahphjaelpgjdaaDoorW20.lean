import Derived.Test.YtahphjaelpgjdaaDoorW19
namespace Go.Proofs.YtahphjaelpgjdaaDoor
open Go.RowKit Rx
set_option linter.unusedVariables false

/-! one part or another -/
def altMeas (s : Value) (n : Nat) : Nat := match s with | .nilIface => n | _ => 0
def AltRel (b : Nat) (l : ByteArray) (o : Nat) (grp : Nat → Mach → Res) (target : Res) (p' : Pc) (T' F' s5 : Value) (wr : World) : Prop :=
  (∃ (k a' : Nat) (m' : Mach), s5 = .nilIface ∧ l.size < k + a' ∧ a' ≤ l.size ∧ Rdr wr b T' F' l m' a' o ∧ (Rx.Good m' ∧ PcIn m'.takes.length p' ∧ m'.takes.length ≤ a') ∧ target = altL l grp k a' m' p') ∨
  (∃ (f pl c : Nat), s5 = .iface 70 (.pointer (some ⟨f, 0, none⟩)) ∧ Blk wr f 74 #[.int .i64 pl, .iface 55 (.int .i64 c)] ∧ target = .bad pl c)
set_option maxRecDepth 100000 in
set_option maxHeartbeats 8000000 in
/-- the loop of an alternative, from what its first part has left on -/
theorem alt_any (b a o : Nat) (T F : Value) (l : ByteArray) (grp : Nat → Mach → Res) (m : Mach) (w : World) (hr : Rdr w b T F l m a o) (hT : TzT w) (hl : l.size ≤ 200) (ha : a ≤ l.size) (hm : Rx.Good m) (hn : m.takes.length ≤ a) (hg : GC b l o grp) (hf : FineG l grp) :
    Calls Tryd.prog 32 #[.pointer (some ⟨b, 0, none⟩)] w (PP b T F l o w (altF l grp a m)) := by
  have HR := Lib.hid (hr.alloc (.cells zero9 85))
  have HM := Lib.hid ((Moves.refl b T F w).alloc (.cells zero9 85))
  have B0 := Lib.hid (Blk.new w 85 zero9)
  have HT := Lib.hid (HM.out.tz hr hT)
  have HFT : Hid (∀ j, w.heap.size ≤ j → ¬ Foot b T F j) := fun j hj hf => by have := (hr.lt_foot hf).1; omega
  have HG := Lib.hid hg
  have HFG := Lib.hid hf
  have HFI := Lib.hid (cat_fine hf ha hm)
  have HCA := Lib.hid (cat_any b a o T F l grp m _ HR.out HT.out hl ha hm hn hg hf)
  have HX : Hid (∀ r, catF l grp a m = r → altF l grp a m = match r with | .bad pl c => .bad pl c | .ok a1 m1 p => altL l grp (l.size + 1) a1 m1 p) := fun r h => by subst h; unfold altF; cases catF l grp a m <;> rfl
  have HNN := Lib.hid hn
  clear hr hT hg hm hf hn
  go_enter Tryd.func32, Tryd.ntmps32
  go_upto_region 1 with fail
  generalize hW : w.alloc (.cells zero9 85) = W at *
  clear hW
  have hlt : w.heap.size < W.heap.size := B0.out.lt
  go_wp2_with fail
  refine (HCA.out).mono ?_
  rintro e w1 ⟨T1, F1, hm1, hrest⟩
  have HM1 := Lib.hid hm1
  have HSH : Hid (∃ p s5, e = .returned (.tuple #[pcV p, s5]) ∧ AltRel b l o grp (altF l grp a m) p T1 F1 s5 (w1.alloc (.cells (pcC p) 85))) := by
    cases hA : catF l grp a m with
    | bad pl c =>
      rw [hA] at hrest
      obtain ⟨p, err, he, f, hf, hB⟩ := hrest
      exact ⟨p, err, he, .inr ⟨f, pl, c, hf, hB.alloc _, HX.out _ hA⟩⟩
    | ok a1 m1 p1 =>
      rw [hA] at hrest
      obtain ⟨f1, f2, f3, f4, f5, f6⟩ := HFI.out a1 m1 p1 hA
      exact ⟨p1, .nilIface, hrest.1, .inl ⟨l.size + 1, a1, m1, rfl, by omega, f2, hrest.2.alloc _, ⟨f3, f4, by have := HNN.out; omega⟩, HX.out _ hA⟩⟩
  obtain ⟨p1, s5, rfl, hrel1⟩ := HSH.out
  have HREL1 := Lib.hid hrel1
  have J1 := Lib.hid (Blk.new w1 85 (pcC p1))
  have JM := Lib.hid (hm1.alloc (.cells (pcC p1) 85))
  have hj1 : W.heap.size ≤ w1.heap.size := hm1.size
  clear hrel1 hrest HSH HCA HFI HX hm1 HNN
  obtain ⟨pe0, pf0, pl0⟩ := p1
  go_upto_region 2 with fail
  generalize hW : w1.alloc (.cells (pcC _) 85) = W2 at *
  generalize hj : w1.heap.size = j1 at *
  clear hW hj
  go_loopw [5, 6] (fun s5 s6 wr => ∃ (p' : Pc) (T' F' : Value), Hid (Moves b T F W T' F' wr) ∧ Hid (Blk wr j1 85 (pcC p')) ∧ Hid (AltRel b l o grp (altF l grp a m) p' T' F' s5 wr)) (fun s5 s6 wr => altMeas s5 (l.size + 1 - atOf wr b))
  case atStart => exact ⟨⟨pe0, pf0, pl0⟩, T1, F1, JM, J1, HREL1⟩
  case round =>
    obtain ⟨p', T1, F1, HMr, Jr, HREL⟩ := hrel
    obtain ⟨pe, pf, pl⟩ := p'
    rcases HREL.out with ⟨k, a', m', rfl, hk, ha', hRr, hQr, hEr⟩ | ⟨f, plc, cc, rfl, hB, hEr⟩
    · have HRr := Lib.hid hRr
      have HQr := Lib.hid hQr
      have HE := Lib.hid hEr
      have HMEAS : Hid (atOf wr b = a') := hRr.at_of
      have HTr : Hid (TzT wr) := HMr.out.tz HR.out HT.out
      clear hRr hQr hEr HREL
      obtain ⟨k', rfl⟩ : ∃ k', k = k' + 1 := ⟨k - 1, by omega⟩
      have HS := Lib.hid (sees_is b a' l ⟨#[124]⟩ [124] sg_bar wr hl ha' (rd_cells HRr.out).2.2.1 (rd_cells HRr.out).2.2.2.1)
      rw [sees_one] at HS
      cases hs : sees l a' 124 with
      | false =>
        rw [hs] at HS
        have HE2 : Hid (altF l grp a m = .ok a' m' ⟨pe, pf, pl⟩) := by
          show altF l grp a m = _
          rw [HE.out]; unfold altL; rw [hs]; rfl
        clear hs HE
        go_wp2_with fail
        refine (HS.out).mono ?_
        rintro e w3 ⟨rfl, n3, rfl⟩
        have HR3 := Lib.hid (HRr.out.drewN n3)
        have HM3 := Lib.hid (HMr.out.drewN n3)
        have J3 := Lib.hid (Jr.out.drewN n3)
        have B3 := Lib.hid (B0.out.moves HM3.out (HFT.out _ (Nat.le_refl _)))
        generalize hW : wr.drewN n3 = W3 at *
        clear hW HRr HMr Jr HTr HS
        obtain ⟨x0, x1, x2, x3, x4, x5, x6, x7, x8⟩ := cells9 J3.out
        obtain ⟨r0, r1, r2, r3, r4, r5, r6, r7, r8⟩ := cells9 B3.out
        obtain ⟨g0, g1, g2, g3, g4, g5, g6, g7, g8⟩ := frozen9 B3.out
        have hne : w.heap.size ≠ j1 := by omega
        go_wp2
        exact bodyPost_ret (v := .tuple #[pcV ⟨pe, pf, pl⟩, .nilIface]) (by simp [results, Tryd.results32, go_sem, r0, r1, r2, r3, r4, r5, r6, r7, r8]) rfl (pp_ok HE2.out ((HM.out.trans HM3.out).set9 (Nat.le_refl _) _ _ _ _ _ _ _ _ _) rfl (HR3.out.set9 (HR3.out.off B3.out (by decide) (by decide)) _ _ _ _ _ _ _ _ _))
      | true =>
        rw [hs] at HS
        have hlt1 := sees_lt hs
        have HCA := Lib.hid (fun X (hX : Rdr X b T1 F1 l m' (a' + 1) o) (hT : TzT X) => cat_any b (a' + 1) o T1 F1 l grp m' X hX hT hl hlt1 HQr.out.1 (by have := HQr.out.2.2; omega) HG.out HFG.out)
        have HFI := Lib.hid (cat_fine HFG.out (show a' + 1 ≤ l.size from hlt1) HQr.out.1)
        have HE2 : Hid (∀ r, catF l grp (a' + 1) m' = r → altF l grp a m = match r with | .bad pl c => .bad pl c | .ok a1 m1 p => altL l grp k' a1 m1 (eitherP ⟨pe, pf, pl⟩ p)) := fun r h => by
          rw [HE.out]; conv => lhs; unfold altL
          rw [if_pos hs, h]
          cases r <;> rfl
        clear hs HE
        go_wp2_with fail
        refine (HS.out).mono ?_
        rintro e w3 ⟨rfl, n3, rfl⟩
        have HR3 := Lib.hid (HRr.out.drewN n3)
        have HM3 := Lib.hid (HMr.out.drewN n3)
        have J3 := Lib.hid (Jr.out.drewN n3)
        have HT3 : Hid (TzT (wr.drewN n3)) := HTr.out
        generalize hW : wr.drewN n3 = W3 at *
        clear hW HRr HMr Jr HTr HS
        have c4 := (rd_cells HR3.out).2.2.2.1
        have cf := HR3.out.blk.frozen 12
        have HNB : Hid (j1 ≠ b) := fun e => HR3.out.off J3.out (by decide) (by decide) (.inl e)
        go_upto_region 4 with fail
        have HR3a := Lib.hid ((HR3.out.set_at (a' + 1) (.int .i64 ((a' : Int) + 1)) (by rfl)).alloc (.cells zero9 85))
        have HM3a := Lib.hid ((HM3.out.set_foot (foot_self b T1 F1) 12 (.int .i64 ((a' : Int) + 1))).alloc (.cells zero9 85))
        have J3a := Lib.hid ((J3.out.other HNB.out 12 (.int .i64 ((a' : Int) + 1))).alloc (.cells zero9 85))
        have K3 := Lib.hid (Blk.new (W3.setCell ⟨b, 12, none⟩ (.int .i64 ((a' : Int) + 1))) 85 zero9)
        have HT3a : Hid (TzT ((W3.setCell ⟨b, 12, none⟩ (.int .i64 ((a' : Int) + 1))).alloc (.cells zero9 85))) := HM3a.out.tz HR.out HT.out
        have hj2 : W.heap.size ≤ (W3.setCell ⟨b, 12, none⟩ (.int .i64 ((a' : Int) + 1))).heap.size := (HM3.out.set_foot (foot_self b T1 F1) 12 (.int .i64 ((a' : Int) + 1))).size
        have hjk : j1 ≠ (W3.setCell ⟨b, 12, none⟩ (.int .i64 ((a' : Int) + 1))).heap.size := fun e => by have := (J3.out.other HNB.out 12 (.int .i64 ((a' : Int) + 1))).lt; omega
        clear HR3 HM3 J3 HT3 c4 cf
        generalize hW : W3.setCell ⟨b, 12, none⟩ (.int .i64 ((a' : Int) + 1)) = W4 at *
        clear hW
        go_upto_region 5 with fail
        generalize hW : W4.alloc (.cells zero9 85) = W4a at *
        generalize hj : W4.heap.size = j2 at *
        clear hW hj
        go_wp2_with fail
        refine (HCA.out W4a HR3a.out HT3a.out).mono ?_
        rintro e w4 ⟨T2, F2, hm4, hrest⟩
        have HM4 := Lib.hid (HM3a.out.trans hm4)
        have J4 := Lib.hid (J3a.out.moves hm4 (HR3a.out.off J3a.out (by decide) (by decide)))
        have K4 := Lib.hid (K3.out.moves hm4 (HR3a.out.off K3.out (by decide) (by decide)))
        clear hm4 HCA HR3a HM3a J3a K3 HT3a
        cases hA : catF l grp (a' + 1) m' with
        | bad plc cc =>
          rw [hA] at hrest
          obtain ⟨p0, err, rfl, f, rfl, hB⟩ := hrest
          have HX1 : Hid (altF l grp a m = .bad plc cc) := HE2.out _ hA
          have F4 := Lib.hid hB
          clear hA hB HE2 HFI HQr
          have HEI : Hid (∀ X, Calls Tryd.prog 52 #[.pointer (some ⟨b, 0, none⟩), pcV ⟨pe, pf, pl⟩, pcV p0] X fun e w' => e = .returned (pcV (eitherP ⟨pe, pf, pl⟩ p0)) ∧ Below X.heap.size X w') := fun X => either_any b ⟨pe, pf, pl⟩ p0 X
          obtain ⟨xe, xf, xl⟩ := p0
          generalize hcp : eitherP ⟨pe, pf, pl⟩ ⟨xe, xf, xl⟩ = q at *
          obtain ⟨qe, qf, ql⟩ := q
          obtain ⟨x0, x1, x2, x3, x4, x5, x6, x7, x8⟩ := cells9 K4.out
          obtain ⟨g0, g1, g2, g3, g4, g5, g6, g7, g8⟩ := frozen9 K4.out
          have K5 := Lib.hid (K4.out.set9 (.bool xe) (wv xf 0) (wv xf 1) (wv xf 2) (wv xf 3) (wv xl 0) (wv xl 1) (wv xl 2) (wv xl 3))
          have J5 := Lib.hid (J4.out.set9_other hjk (.bool xe) (wv xf 0) (wv xf 1) (wv xf 2) (wv xf 3) (wv xl 0) (wv xl 1) (wv xl 2) (wv xl 3))
          have HM5 := Lib.hid (HM4.out.set9 (j := j2) hj2 (.bool xe) (wv xf 0) (wv xf 1) (wv xf 2) (wv xf 3) (wv xl 0) (wv xl 1) (wv xl 2) (wv xl 3))
          have F5 := Lib.hid (F4.out.set9_other (blk_ne F4.out K4.out (by decide)) (.bool xe) (wv xf 0) (wv xf 1) (wv xf 2) (wv xf 3) (wv xl 0) (wv xl 1) (wv xl 2) (wv xl 3))
          unfold put9 at K5 J5 HM5 F5
          go_upto_region 6 with fail
          generalize hW : (((((((((w4.setCell ⟨j2, 0, none⟩ (.bool xe)).setCell ⟨j2, 1, none⟩ (wv xf 0)).setCell ⟨j2, 2, none⟩ (wv xf 1)).setCell ⟨j2, 3, none⟩ (wv xf 2)).setCell ⟨j2, 4, none⟩ (wv xf 3)).setCell ⟨j2, 5, none⟩ (wv xl 0)).setCell ⟨j2, 6, none⟩ (wv xl 1)).setCell ⟨j2, 7, none⟩ (wv xl 2)).setCell ⟨j2, 8, none⟩ (wv xl 3)) = W5 at *
          clear hW hcp K4 J4 HM4 x0 x1 x2 x3 x4 x5 x6 x7 x8 g0 g1 g2 g3 g4 g5 g6 g7 g8
          obtain ⟨x0, x1, x2, x3, x4, x5, x6, x7, x8⟩ := cells9 J5.out
          obtain ⟨y0, y1, y2, y3, y4, y5, y6, y7, y8⟩ := cells9 K5.out
          have HNJ : Hid (j2 ≠ j1) := fun e => hjk e.symm
          go_region_with
            (first
              | (go_at_call 52; refine (HEI.out W5.drew).mono ?_; rintro e w6 ⟨rfl, hb6⟩
                 have HM6 := Lib.hid (HM5.out.drew.below hb6)
                 have J6 := Lib.hid (Blk.below (w := W5.drew) (by exact J5.out) hb6)
                 have K6 := Lib.hid (Blk.below (w := W5.drew) (by exact K5.out) hb6)
                 have F6 := Lib.hid (Blk.below (w := W5.drew) (by exact F5.out) hb6)
                 obtain ⟨k0, k1, k2, k3, k4, k5, k6, k7, k8⟩ := cells9 K6.out
                 obtain ⟨z0, z1, z2, z3, z4, z5, z6, z7, z8⟩ := cells9 J6.out
                 obtain ⟨g0, g1, g2, g3, g4, g5, g6, g7, g8⟩ := frozen9 J6.out
                 clear hb6))
          all_goals
            have J8 := Lib.hid (J6.out.set9 (.bool qe) (wv qf 0) (wv qf 1) (wv qf 2) (wv qf 3) (wv ql 0) (wv ql 1) (wv ql 2) (wv ql 3))
            have HM8 := Lib.hid (HM6.out.set9 hj1 (.bool qe) (wv qf 0) (wv qf 1) (wv qf 2) (wv qf 3) (wv ql 0) (wv ql 1) (wv ql 2) (wv ql 3))
            have F8 := Lib.hid (F6.out.set9_other (blk_ne F6.out J6.out (by decide)) (.bool qe) (wv qf 0) (wv qf 1) (wv qf 2) (wv qf 3) (wv ql 0) (wv ql 1) (wv ql 2) (wv ql 3))
            unfold put9 at J8 HM8 F8
            generalize hW : (((((((((w6.setCell ⟨j1, 0, none⟩ (.bool qe)).setCell ⟨j1, 1, none⟩ (wv qf 0)).setCell ⟨j1, 2, none⟩ (wv qf 1)).setCell ⟨j1, 3, none⟩ (wv qf 2)).setCell ⟨j1, 4, none⟩ (wv qf 3)).setCell ⟨j1, 5, none⟩ (wv ql 0)).setCell ⟨j1, 6, none⟩ (wv ql 1)).setCell ⟨j1, 7, none⟩ (wv ql 2)).setCell ⟨j1, 8, none⟩ (wv ql 3)) = W8 at *
            clear hW J6 HM6 K6 J5 HM5 K5 x0 x1 x2 x3 x4 x5 x6 x7 x8 y0 y1 y2 y3 y4 y5 y6 y7 y8 z0 z1 z2 z3 z4 z5 z6 z7 z8 g0 g1 g2 g3 g4 g5 g6 g7 g8 k0 k1 k2 k3 k4 k5 k6 k7 k8 HEI
            have HREL : Hid (AltRel b l o grp (altF l grp a m) ⟨qe, qf, ql⟩ T2 F2 (.iface 70 (.pointer (some ⟨f, 0, none⟩))) W8) := .inr ⟨f, plc, cc, rfl, F8.out, HX1.out⟩
            go_wp2
            go_roundw
            case rel => exact ⟨⟨qe, qf, ql⟩, T2, F2, HM8, J8, HREL⟩
            case measure =>
              unfold altMeas
              rw [HMEAS.out]
              show 0 < l.size + 1 - a'
              omega
        | ok a2 m2 q2 =>
          rw [hA] at hrest
          obtain ⟨rfl, hR4⟩ := hrest
          obtain ⟨f1, f2, f3, f4, f5, f6⟩ := HFI.out a2 m2 q2 hA
          have HX1 : Hid (altF l grp a m = altL l grp k' a2 m2 (eitherP ⟨pe, pf, pl⟩ q2)) := HE2.out _ hA
          have HQ2 : Hid (Rx.Good m2 ∧ PcIn m2.takes.length (eitherP ⟨pe, pf, pl⟩ q2) ∧ m2.takes.length ≤ a2) := ⟨f3, either_in (HQr.out.2.1.mono f5) f4, by have := HQr.out.2.2; omega⟩
          have HR4 := Lib.hid hR4
          clear hA HE2 HFI f3 f4 f5 f6 hR4 HQr
          have HEI : Hid (∀ X, Calls Tryd.prog 52 #[.pointer (some ⟨b, 0, none⟩), pcV ⟨pe, pf, pl⟩, pcV q2] X fun e w' => e = .returned (pcV (eitherP ⟨pe, pf, pl⟩ q2)) ∧ Below X.heap.size X w') := fun X => either_any b ⟨pe, pf, pl⟩ q2 X
          obtain ⟨xe, xf, xl⟩ := q2
          generalize hcp : eitherP ⟨pe, pf, pl⟩ ⟨xe, xf, xl⟩ = q at *
          obtain ⟨qe, qf, ql⟩ := q
          obtain ⟨x0, x1, x2, x3, x4, x5, x6, x7, x8⟩ := cells9 K4.out
          obtain ⟨g0, g1, g2, g3, g4, g5, g6, g7, g8⟩ := frozen9 K4.out
          have K5 := Lib.hid (K4.out.set9 (.bool xe) (wv xf 0) (wv xf 1) (wv xf 2) (wv xf 3) (wv xl 0) (wv xl 1) (wv xl 2) (wv xl 3))
          have J5 := Lib.hid (J4.out.set9_other hjk (.bool xe) (wv xf 0) (wv xf 1) (wv xf 2) (wv xf 3) (wv xl 0) (wv xl 1) (wv xl 2) (wv xl 3))
          have HM5 := Lib.hid (HM4.out.set9 (j := j2) hj2 (.bool xe) (wv xf 0) (wv xf 1) (wv xf 2) (wv xf 3) (wv xl 0) (wv xl 1) (wv xl 2) (wv xl 3))
          have HR5 := Lib.hid (HR4.out.set9 (HR4.out.off K4.out (by decide) (by decide)) (.bool xe) (wv xf 0) (wv xf 1) (wv xf 2) (wv xf 3) (wv xl 0) (wv xl 1) (wv xl 2) (wv xl 3))
          unfold put9 at K5 J5 HM5 HR5
          go_upto_region 6 with fail
          generalize hW : (((((((((w4.setCell ⟨j2, 0, none⟩ (.bool xe)).setCell ⟨j2, 1, none⟩ (wv xf 0)).setCell ⟨j2, 2, none⟩ (wv xf 1)).setCell ⟨j2, 3, none⟩ (wv xf 2)).setCell ⟨j2, 4, none⟩ (wv xf 3)).setCell ⟨j2, 5, none⟩ (wv xl 0)).setCell ⟨j2, 6, none⟩ (wv xl 1)).setCell ⟨j2, 7, none⟩ (wv xl 2)).setCell ⟨j2, 8, none⟩ (wv xl 3)) = W5 at *
          clear hW hcp K4 J4 HM4 x0 x1 x2 x3 x4 x5 x6 x7 x8 g0 g1 g2 g3 g4 g5 g6 g7 g8
          obtain ⟨x0, x1, x2, x3, x4, x5, x6, x7, x8⟩ := cells9 J5.out
          obtain ⟨y0, y1, y2, y3, y4, y5, y6, y7, y8⟩ := cells9 K5.out
          have HNJ : Hid (j2 ≠ j1) := fun e => hjk e.symm
          go_region_with
            (first
              | (go_at_call 52; refine (HEI.out W5.drew).mono ?_; rintro e w6 ⟨rfl, hb6⟩
                 have HM6 := Lib.hid (HM5.out.drew.below hb6)
                 have J6 := Lib.hid (Blk.below (w := W5.drew) (by exact J5.out) hb6)
                 have K6 := Lib.hid (Blk.below (w := W5.drew) (by exact K5.out) hb6)
                 have HR6 := Lib.hid (Rdr.below (w := W5.drew) (by exact HR5.out.below (below_drew _)) hb6)
                 obtain ⟨k0, k1, k2, k3, k4, k5, k6, k7, k8⟩ := cells9 K6.out
                 obtain ⟨z0, z1, z2, z3, z4, z5, z6, z7, z8⟩ := cells9 J6.out
                 obtain ⟨g0, g1, g2, g3, g4, g5, g6, g7, g8⟩ := frozen9 J6.out
                 clear hb6))
          all_goals
            have J8 := Lib.hid (J6.out.set9 (.bool qe) (wv qf 0) (wv qf 1) (wv qf 2) (wv qf 3) (wv ql 0) (wv ql 1) (wv ql 2) (wv ql 3))
            have HM8 := Lib.hid (HM6.out.set9 hj1 (.bool qe) (wv qf 0) (wv qf 1) (wv qf 2) (wv qf 3) (wv ql 0) (wv ql 1) (wv ql 2) (wv ql 3))
            have HR8 := Lib.hid (HR6.out.set9 (HR6.out.off J6.out (by decide) (by decide)) (.bool qe) (wv qf 0) (wv qf 1) (wv qf 2) (wv qf 3) (wv ql 0) (wv ql 1) (wv ql 2) (wv ql 3))
            unfold put9 at J8 HM8 HR8
            generalize hW : (((((((((w6.setCell ⟨j1, 0, none⟩ (.bool qe)).setCell ⟨j1, 1, none⟩ (wv qf 0)).setCell ⟨j1, 2, none⟩ (wv qf 1)).setCell ⟨j1, 3, none⟩ (wv qf 2)).setCell ⟨j1, 4, none⟩ (wv qf 3)).setCell ⟨j1, 5, none⟩ (wv ql 0)).setCell ⟨j1, 6, none⟩ (wv ql 1)).setCell ⟨j1, 7, none⟩ (wv ql 2)).setCell ⟨j1, 8, none⟩ (wv ql 3)) = W8 at *
            clear hW J6 HM6 K6 J5 HM5 K5 x0 x1 x2 x3 x4 x5 x6 x7 x8 y0 y1 y2 y3 y4 y5 y6 y7 y8 z0 z1 z2 z3 z4 z5 z6 z7 z8 g0 g1 g2 g3 g4 g5 g6 g7 g8 k0 k1 k2 k3 k4 k5 k6 k7 k8 HEI
            have HREL : Hid (AltRel b l o grp (altF l grp a m) ⟨qe, qf, ql⟩ T2 F2 .nilIface W8) := .inl ⟨k', a2, m2, rfl, by omega, f2, HR8.out, HQ2.out, HX1.out⟩
            have HA8 : Hid (atOf W8 b = a2) := HR8.out.at_of
            go_wp2
            go_roundw
            case rel => exact ⟨⟨qe, qf, ql⟩, T2, F2, HM8, J8, HREL⟩
            case measure =>
              unfold altMeas
              rw [HA8.out, HMEAS.out]
              show l.size + 1 - a2 < l.size + 1 - a'
              omega
    · have HE2 := Lib.hid hEr
      have HF := Lib.hid hB
      have B3 := Lib.hid (B0.out.moves HMr.out (HFT.out _ (Nat.le_refl _)))
      clear hB hEr HREL
      obtain ⟨x0, x1, x2, x3, x4, x5, x6, x7, x8⟩ := cells9 Jr.out
      obtain ⟨r0, r1, r2, r3, r4, r5, r6, r7, r8⟩ := cells9 B3.out
      obtain ⟨g0, g1, g2, g3, g4, g5, g6, g7, g8⟩ := frozen9 B3.out
      have hne : w.heap.size ≠ j1 := by omega
      go_wp2
      exact bodyPost_ret (v := .tuple #[pcV ⟨pe, pf, pl⟩, .iface 70 (.pointer (some ⟨f, 0, none⟩))]) (by simp [results, Tryd.results32, go_sem, r0, r1, r2, r3, r4, r5, r6, r7, r8]) rfl (pp_bad HE2.out ((HM.out.trans HMr.out).set9 (Nat.le_refl _) _ _ _ _ _ _ _ _ _) rfl (HF.out.set9_other (blk_ne HF.out B3.out (by decide)) _ _ _ _ _ _ _ _ _))
end Go.Proofs.YtahphjaelpgjdaaDoor

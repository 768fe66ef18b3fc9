/- The document's reader: a class that is not turned. Condition: a text of at most 200 bytes. -/
import Derived.Test.YtahphjaelpgjdaaDoorRa
namespace Go.Proofs.YtahphjaelpgjdaaDoor
open Go.RowKit Rx
set_option linter.unusedVariables false

set_option maxRecDepth 100000 in
set_option maxHeartbeats 16000000 in
theorem refclass_no (b a o : Nat) (l : ByteArray) (m : Mach) (w : World) (hp : Par w b l a o 0) (hl : l.size ≤ 200) (ha : a < l.size) (hs : sees l (a + 1) 94 = false) :
    Calls Tryd.prog 66 #[.pointer (some ⟨b, 0, none⟩)] w (RN b l o w (classF l a m)) := by
  have hC : ∀ r, itemsF l (l.size + 1) (a + 1) 0 = r → classF l a m = match r with | .bad pl => .bad pl 2 | .ok a1 t => .ok (a1 + 1) (placeM m (t)) (placeP m) := fun r h => by unfold classF; rw [hs]; simp only [Bool.false_eq_true, if_false]; rw [h]; cases r <;> rfl
  have HC := Lib.hid hC
  have hmk := make256
  have HB0 := fun W => Lib.hid (BB.new W)
  have HIN := Lib.hid (fun W hW => is_any b (a + 1) o 94 l false hs W hW hl ha)
  have HEND := Lib.hid (fun a1 r (hr : sees l a1 93 = r) (h : a1 ≤ l.size) W hW => is_any b a1 o 93 l r hr W hW hl h)
  have HP := Lib.hid (hp.alloc (.cells zero3 30))
  have HR := Lib.hid (Blk.new w 30 zero3)
  have HG := Lib.hid (gr_alloc (gr_refl w (some b)) (.cells zero3 30))
  have hbl : b < w.heap.size := Blk.lt hp

  generalize mc256 = mc at *
  clear hC hp hs
  go_enter Tryd.func66, Tryd.ntmps66
  go_upto_region 1 with fail
  generalize hW : w.alloc (.cells zero3 30) = W at *
  have hWs : W.heap.size = (w.heap.size) + 1 := by rw [← hW, World.size_alloc]
  clear hW
  have c1 := HP.out.cells.2.1
  have f1 := Blk.frozen HP.out 1
  go_upto_region 2 with fail
  have HP1 := Lib.hid (HP.out.at_ (a + 1) (.int .i64 ((a : Int) + 1)) (by rfl))
  have HR1 := Lib.hid (HR.out.other (k := b) (by omega) 1 (.int .i64 ((a : Int) + 1)))
  have HG1 := Lib.hid (gr_set HG.out 1 (.int .i64 ((a : Int) + 1)))
  have hWs1 : (W.setCell ⟨b, 1, none⟩ (.int .i64 ((a : Int) + 1))).heap.size = (w.heap.size) + 1 := by rw [← hWs]; simp [World.setCell]
  generalize W.setCell ⟨b, 1, none⟩ (.int .i64 ((a : Int) + 1)) = W1 at *
  clear HP HR HG c1 f1 hWs
  go_wp2_with fail
  refine (HIN.out _ HP1.out).mono ?_
  rintro e w2 ⟨rfl, n2, rfl⟩
  have HP2 := Lib.hid (HP1.out.drewN n2)
  have HR2 := Lib.hid (HR1.out.drewN n2)
  have HG2 := Lib.hid (gr_drewN HG1.out n2)
  have hWs2 : (W1.drewN n2).heap.size = (w.heap.size) + 1 := hWs1
  generalize W1.drewN n2 = W2 at *
  clear HP1 HR1 HG1 HIN hWs1
  go_upto_region 5 with fail
  have HP3 := HP2
  have HR3 := HR2
  have HG3 := HG2
  have hWs3 := hWs2
  clear HP2 HR2 HG2 hWs2
  generalize W2 = W3 at *
  obtain ⟨q, hq⟩ : ∃ q, q = a + 1 := ⟨_, rfl⟩
  rw [← hq] at HC HP3
  have hql : q ≤ l.size := by omega
  have HB4 := Lib.hid ((HB0 W3).out.alloc (.cells (clN (w.heap.size + 1)) 30))
  have HR4 := Lib.hid ((HR3.out.alloc (.cells mc 4)).alloc (.cells (clN (w.heap.size + 1)) 30))
  have HN4 := Lib.hid (Blk.new (W3.alloc (.cells mc 4)) 30 (clN (w.heap.size + 1)))
  have HP4 := Lib.hid ((HP3.out.alloc (.cells mc 4)).alloc (.cells (clN (w.heap.size + 1)) 30))
  have HG4 := Lib.hid (gr_alloc (gr_alloc HG3.out (.cells mc 4)) (.cells (clN (w.heap.size + 1)) 30))
  rw [World.size_alloc, hWs3] at HN4
  rw [hWs3] at HB4
  go_upto_region 6 with fail
  generalize hW : (W3.alloc (.cells mc 4)).alloc (.cells #[.int .u8 91, .slice (some ⟨(w.heap.size + 1), 0, none⟩) 256 256, .slice none 0 0] 30) = W4 at *
  have hg0 : w.heap.size ≤ (w.heap.size + 1) := by omega
  have hgb : (w.heap.size + 1) ≠ b := by omega
  have hg2 : (w.heap.size + 1) ≠ (w.heap.size) := by omega
  have hg4 : (w.heap.size + 1) ≠ (w.heap.size + 1 + 1) := by omega
  have h42 : (w.heap.size + 1 + 1) ≠ (w.heap.size) := by omega
  have h4b : (w.heap.size + 1 + 1) ≠ b := by omega
  have h2b : (w.heap.size) ≠ b := by omega
  clear hW hmk HB0 HP3 HR3 HG3 hWs3
  go_wp2_with fail
  go_loopw [5, 6, 7, 8] (fun s5 s6 s7 s8 wr => Hid (ClS b l o q (w.heap.size + 1) (w.heap.size) (w.heap.size + 1 + 1) w s5 wr)) (fun s5 s6 s7 s8 wr => parM wr b l.size)
  case atStart => exact (cls_ok (mn := 0) (k := l.size + 1) (a1 := q) (t := 0) rfl HB4.out HR4.out HN4.out HG4.out (by omega) (by omega) hql (by decide) HP4.out (if_pos rfl).symm)
  case round =>
    obtain ⟨hBr, h2r, h4r, hGr, hst⟩ := hrel.out
    have HBr := Lib.hid hBr
    have H2r := Lib.hid h2r
    have H4r := Lib.hid h4r
    have HGr := Lib.hid hGr
    rcases hst with ⟨mn, k, a1, t, rfl, hmn, hk, ha1, ht, hPr, hQ⟩ | ⟨mn, pl, rfl, hPr, hQ⟩
    · have HPr := Lib.hid hPr
      have HIQ := Lib.hid hQ
      have HMr : Hid (parM wr b l.size = l.size + 1 - a1) := parM_ok hPr _
      clear hrel hBr h2r h4r hGr hPr hQ HB4 HR4 HN4 HG4 HP4
      obtain ⟨k', rfl⟩ : ∃ k', k = k' + 1 := ⟨k - 1, by omega⟩
      have c3 := HPr.out.cells.2.2.2
      by_cases hm0 : mn = 0
      · have he : ((mn : Int) == 0) = true := by simp [hm0]
        rw [if_pos hm0] at HIQ
        clear HC
        generalize wr = Wr at *
        have HLT := Lib.hid (letter_any b a1 o l Wr HPr.out hl ha1)
        cases hc : ccharF l a1 with
        | bad pl =>
          rw [hc] at HLT
          have HIX : Hid (itemsF l (l.size + 1) q 0 = .bad pl) := HIQ.out.trans (itemsF_stop (by unfold itemF; rw [hc]))
          clear hc HIQ
          go_wp2_with fail
          refine (HLT.out).mono ?_
          rintro e Wx ⟨hgx, rfl, hpx⟩
          have HPx := Lib.hid hpx
          have HBx := Lib.hid (HBr.out.grown hgx (by intro e; injection e; omega))
          have H2x := Lib.hid (H2r.out.grown hgx (by intro e; injection e; omega))
          have H4x := Lib.hid (H4r.out.grown hgx (by intro e; injection e; omega))
          have HGx := Lib.hid (gr_trans HGr.out hgx)
          clear hgx hpx HLT
          have c3 := HPx.out.cells.2.2.2
          have HMx : Hid (parM Wx b l.size = 0) := parM_bad HPx.out (.inl rfl) _
          go_wp2_with fail
          refine wp_loop_rounds 1 ?_
          rw [rounds_succ]
          go_wp2
          go_roundw
          case rel => exact (cls_bad (mn := mn + 1) (by go_num) HBx.out H2x.out H4x.out HGx.out HPx.out HIX.out)
          case measure => rw [HMx.out, HMr.out]; omega
        | ok a2 lo =>
          rw [hc] at HLT
          obtain ⟨k1, k2, k3⟩ := ccharF_ok hc
          cases hs : sees l a2 45 with
          | false =>
            have hit : itemF l a1 t = .ok a2 (addR t lo 1) := by unfold itemF; rw [hc]; dsimp only; rw [hs]; rfl
            have HIX := Lib.hid (HIQ.out.trans (itemsF_next hit))
            have HT2 := Lib.hid (itemF_ok ht hit).2.2
            have HIS := Lib.hid (fun W hW => is_any b a2 o 45 l false hs W hW hl k2)
            clear hc hs HIQ hit
            go_wp2_with fail
            refine (HLT.out).mono ?_
            rintro e W2 ⟨hgx, rfl, hpx⟩
            have HP2 := Lib.hid hpx
            have HB2 := Lib.hid (HBr.out.grown hgx (by intro e; injection e; omega))
            have H22 := Lib.hid (H2r.out.grown hgx (by intro e; injection e; omega))
            have H42 := Lib.hid (H4r.out.grown hgx (by intro e; injection e; omega))
            have HG2 := Lib.hid (gr_trans HGr.out hgx)
            clear hgx hpx HLT
            have c3 := HP2.out.cells.2.2.2
            go_wp2_with fail
            refine (HIS.out _ HP2.out).mono ?_
            rintro e w3 ⟨rfl, n3, rfl⟩
            have HP3 := Lib.hid (HP2.out.drewN n3)
            have HB3 := Lib.hid (HB2.out.drewN n3)
            have H23 := Lib.hid (H22.out.drewN n3)
            have H43 := Lib.hid (H42.out.drewN n3)
            have HG3 := Lib.hid (gr_drewN HG2.out n3)
            generalize W2.drewN n3 = W3 at *
            clear HP2 HB2 H22 H42 HG2 HIS c3
            have c3 := HP3.out.cells.2.2.2
            have hcmp : decide ((lo : Int) < (lo : Int)) = false := by simp
            go_wp2_with fail
            go_loopw [8] (fun s8 wq => ∃ kk : Nat, s8 = .int .i64 kk ∧ lo ≤ kk ∧ kk ≤ lo + 1 ∧ Hid (BB wq (w.heap.size + 1)) ∧ Hid (Blk wq (w.heap.size) 30 zero3) ∧ Hid (Blk wq (w.heap.size + 1 + 1) 30 (clN (w.heap.size + 1))) ∧ Hid (w.grownBy wq (some b)) ∧ Hid (Par wq b l a2 o 0)) (fun s8 _ => (lo + 1 - intOf s8).toNat)
            case atStart => exact ⟨lo, rfl, Nat.le_refl _, by omega, HB3, H23, H43, HG3, HP3⟩
            case round =>
              obtain ⟨kk, rfl, hkk1, hkk2, HBq, H2q, H4q, HGq, HPq⟩ := hrel
              have c3 := HPq.out.cells.2.2.2
              by_cases hkk : kk ≤ lo
              · have hd : decide ((kk : Int) ≤ (lo : Int)) = true := by simp; omega
                have q0 : (0 : Int) ≤ (kk : Int) := by omega
                have q1 : (kk : Int) < 256 := by omega
                obtain ⟨bv, hbv⟩ := HBq.out.cell (i := kk) (by omega)
                have hbf := HBq.out.frozen kk
                obtain ⟨n0, n1, n2⟩ := cells3 H4q.out
                have HBs := Lib.hid (HBq.out.set kk true)
                have H2s := Lib.hid (H2q.out.other (k := (w.heap.size + 1)) (by omega) kk (.bool true))
                have H4s := Lib.hid (H4q.out.other (k := (w.heap.size + 1)) (by omega) kk (.bool true))
                have HGs := Lib.hid (gr_set_new HGq.out hg0 kk (.bool true))
                have HPs := Lib.hid (HPq.out.other (k := (w.heap.size + 1)) (by omega) kk (.bool true))
                go_wp2
                go_roundw
                case rel => exact ⟨kk + 1, by go_num, by omega, by omega, HBs, H2s, H4s, HGs, HPs⟩
                case measure => simp [intOf]; omega
              · have hd : decide ((kk : Int) ≤ (lo : Int)) = false := by simp; omega
                have HMq : Hid (parM wr b l.size = l.size + 1 - a2) := parM_ok HPq.out _
                go_wp2
                go_roundw
                case rel => exact (cls_ok (mn := mn + 1) (k := k') (by go_num) HBq.out H2q.out H4q.out HGq.out (by omega) (by omega) (by omega) HT2.out HPq.out (HIX.out.trans (if_neg (by omega)).symm))
                case measure => rw [HMq.out, HMr.out]; omega
          | true =>
            have HIS := Lib.hid (fun W hW => is_any b a2 o 45 l true hs W hW hl k2)
            have hlt2 := sees_lt hs
            have HLT2 := Lib.hid (fun W hW => letter_any b (a2 + 1) o l W hW hl hlt2)
            cases hc2 : ccharF l (a2 + 1) with
            | bad pl =>
              rw [hc2] at HLT2
              have HIX : Hid (itemsF l (l.size + 1) q 0 = .bad pl) := HIQ.out.trans (itemsF_stop (by unfold itemF; simp [hc, hs, hc2]))
              clear hc hs HIQ hc2
              go_wp2_with fail
              refine (HLT.out).mono ?_
              rintro e W2 ⟨hgx, rfl, hpx⟩
              have HP2 := Lib.hid hpx
              have HB2 := Lib.hid (HBr.out.grown hgx (by intro e; injection e; omega))
              have H22 := Lib.hid (H2r.out.grown hgx (by intro e; injection e; omega))
              have H42 := Lib.hid (H4r.out.grown hgx (by intro e; injection e; omega))
              have HG2 := Lib.hid (gr_trans HGr.out hgx)
              clear hgx hpx HLT
              have c3 := HP2.out.cells.2.2.2
              go_wp2_with fail
              refine (HIS.out _ HP2.out).mono ?_
              rintro e w3 ⟨rfl, n3, rfl⟩
              have HP3 := Lib.hid (HP2.out.drewN n3)
              have HB3 := Lib.hid (HB2.out.drewN n3)
              have H23 := Lib.hid (H22.out.drewN n3)
              have H43 := Lib.hid (H42.out.drewN n3)
              have HG3 := Lib.hid (gr_drewN HG2.out n3)
              generalize W2.drewN n3 = W3 at *
              clear HP2 HB2 H22 H42 HG2 HIS c3
              have c1 := HP3.out.cells.2.1
              have f1 := Blk.frozen HP3.out 1
              go_upto_region 13 with fail
              have HP4 := Lib.hid (HP3.out.at_ (a2 + 1) (.int .i64 ((a2 : Int) + 1)) (by rfl))
              have HB4 := Lib.hid (HB3.out.other (k := b) (by omega) 1 (.int .i64 ((a2 : Int) + 1)))
              have H24 := Lib.hid (H23.out.other (k := b) (by omega) 1 (.int .i64 ((a2 : Int) + 1)))
              have H44 := Lib.hid (H43.out.other (k := b) (by omega) 1 (.int .i64 ((a2 : Int) + 1)))
              have HG4 := Lib.hid (gr_set HG3.out 1 (.int .i64 ((a2 : Int) + 1)))
              generalize W3.setCell ⟨b, 1, none⟩ (.int .i64 ((a2 : Int) + 1)) = W4 at *
              clear HP3 HB3 H23 H43 HG3 c1 f1
              go_wp2_with fail
              refine (HLT2.out _ HP4.out).mono ?_
              rintro e Wx ⟨hgx, rfl, hpx⟩
              have HPx := Lib.hid hpx
              have HBx := Lib.hid (HB4.out.grown hgx (by intro e; injection e; omega))
              have H2x := Lib.hid (H24.out.grown hgx (by intro e; injection e; omega))
              have H4x := Lib.hid (H44.out.grown hgx (by intro e; injection e; omega))
              have HGx := Lib.hid (gr_trans HG4.out hgx)
              clear hgx hpx HLT2
              have c3 := HPx.out.cells.2.2.2
              have HMx : Hid (parM Wx b l.size = 0) := parM_bad HPx.out (.inl rfl) _
              go_wp2_with fail
              refine wp_loop_rounds 1 ?_
              rw [rounds_succ]
              go_wp2
              go_roundw
              case rel => exact (cls_bad (mn := mn + 1) (by go_num) HBx.out H2x.out H4x.out HGx.out HPx.out HIX.out)
              case measure => rw [HMx.out, HMr.out]; omega
            | ok a3 hi =>
              rw [hc2] at HLT2
              obtain ⟨y1, y2, y3⟩ := ccharF_ok hc2
              by_cases hlh : hi < lo
              · have HIX : Hid (itemsF l (l.size + 1) q 0 = .bad (a3 - 1)) := HIQ.out.trans (itemsF_stop (by unfold itemF; simp [hc, hs, hc2, hlh]))
                clear hc hs HIQ hc2
                go_wp2_with fail
                refine (HLT.out).mono ?_
                rintro e W2 ⟨hgx, rfl, hpx⟩
                have HP2 := Lib.hid hpx
                have HB2 := Lib.hid (HBr.out.grown hgx (by intro e; injection e; omega))
                have H22 := Lib.hid (H2r.out.grown hgx (by intro e; injection e; omega))
                have H42 := Lib.hid (H4r.out.grown hgx (by intro e; injection e; omega))
                have HG2 := Lib.hid (gr_trans HGr.out hgx)
                clear hgx hpx HLT
                have c3 := HP2.out.cells.2.2.2
                go_wp2_with fail
                refine (HIS.out _ HP2.out).mono ?_
                rintro e w3 ⟨rfl, n3, rfl⟩
                have HP3 := Lib.hid (HP2.out.drewN n3)
                have HB3 := Lib.hid (HB2.out.drewN n3)
                have H23 := Lib.hid (H22.out.drewN n3)
                have H43 := Lib.hid (H42.out.drewN n3)
                have HG3 := Lib.hid (gr_drewN HG2.out n3)
                generalize W2.drewN n3 = W3 at *
                clear HP2 HB2 H22 H42 HG2 HIS c3
                have c1 := HP3.out.cells.2.1
                have f1 := Blk.frozen HP3.out 1
                go_upto_region 13 with fail
                have HP4 := Lib.hid (HP3.out.at_ (a2 + 1) (.int .i64 ((a2 : Int) + 1)) (by rfl))
                have HB4 := Lib.hid (HB3.out.other (k := b) (by omega) 1 (.int .i64 ((a2 : Int) + 1)))
                have H24 := Lib.hid (H23.out.other (k := b) (by omega) 1 (.int .i64 ((a2 : Int) + 1)))
                have H44 := Lib.hid (H43.out.other (k := b) (by omega) 1 (.int .i64 ((a2 : Int) + 1)))
                have HG4 := Lib.hid (gr_set HG3.out 1 (.int .i64 ((a2 : Int) + 1)))
                generalize W3.setCell ⟨b, 1, none⟩ (.int .i64 ((a2 : Int) + 1)) = W4 at *
                clear HP3 HB3 H23 H43 HG3 c1 f1
                go_wp2_with fail
                refine (HLT2.out _ HP4.out).mono ?_
                rintro e W5 ⟨hgx, rfl, hpx⟩
                have HP5 := Lib.hid hpx
                have HB5 := Lib.hid (HB4.out.grown hgx (by intro e; injection e; omega))
                have H25 := Lib.hid (H24.out.grown hgx (by intro e; injection e; omega))
                have H45 := Lib.hid (H44.out.grown hgx (by intro e; injection e; omega))
                have HG5 := Lib.hid (gr_trans HG4.out hgx)
                clear hgx hpx HLT2
                have hcmp : decide ((hi : Int) < (lo : Int)) = true := by simp; omega
                have c1 := HP5.out.cells.2.1
                have c3 := HP5.out.cells.2.2.2
                have f1 := Blk.frozen HP5.out 1
                go_upto_region 16 with fail
                have HP6 : Hid (Par (W5.setCell ⟨b, 1, none⟩ (.int .i64 ((a3 : Int) - 1))) b l (a3 - 1) o 0) := HP5.out.at_ (a3 - 1) _ (by rw [show ((a3 - 1 : Nat) : Int) = (a3 : Int) - 1 by omega])
                have HB6 := Lib.hid (HB5.out.other (k := b) (by omega) 1 (.int .i64 ((a3 : Int) - 1)))
                have H26 := Lib.hid (H25.out.other (k := b) (by omega) 1 (.int .i64 ((a3 : Int) - 1)))
                have H46 := Lib.hid (H45.out.other (k := b) (by omega) 1 (.int .i64 ((a3 : Int) - 1)))
                have HG6 := Lib.hid (gr_set HG5.out 1 (.int .i64 ((a3 : Int) - 1)))
                generalize W5.setCell ⟨b, 1, none⟩ (.int .i64 ((a3 : Int) - 1)) = W6 at *
                clear HP5 HB5 H25 H45 HG5 c1 c3 f1
                have c3 := HP6.out.cells.2.2.2
                have f3 := Blk.frozen HP6.out 3
                go_upto_region 17 with fail
                have HPx := Lib.hid (HP6.out.wr_ 2 (.int .i64 2) rfl)
                have HBx := Lib.hid (HB6.out.other (k := b) (by omega) 3 (.int .i64 2))
                have H2x := Lib.hid (H26.out.other (k := b) (by omega) 3 (.int .i64 2))
                have H4x := Lib.hid (H46.out.other (k := b) (by omega) 3 (.int .i64 2))
                have HGx := Lib.hid (gr_set HG6.out 3 (.int .i64 2))
                generalize W6.setCell ⟨b, 3, none⟩ (.int .i64 2) = Wx at *
                clear HP6 HB6 H26 H46 HG6 c3 f3
                have c3 := HPx.out.cells.2.2.2
                have HMx : Hid (parM Wx b l.size = 0) := parM_bad HPx.out (.inl rfl) _
                go_wp2_with fail
                refine wp_loop_rounds 1 ?_
                rw [rounds_succ]
                go_wp2
                go_roundw
                case rel => exact (cls_bad (mn := mn + 1) (by go_num) HBx.out H2x.out H4x.out HGx.out HPx.out HIX.out)
                case measure => rw [HMx.out, HMr.out]; omega
              · have hit : itemF l a1 t = .ok a3 (addR t lo (hi + 1 - lo)) := by unfold itemF; simp [hc, hs, hc2, hlh]
                have HIX := Lib.hid (HIQ.out.trans (itemsF_next hit))
                have HT2 := Lib.hid (itemF_ok ht hit).2.2
                clear hc hs HIQ hc2 hit
                go_wp2_with fail
                refine (HLT.out).mono ?_
                rintro e W2 ⟨hgx, rfl, hpx⟩
                have HP2 := Lib.hid hpx
                have HB2 := Lib.hid (HBr.out.grown hgx (by intro e; injection e; omega))
                have H22 := Lib.hid (H2r.out.grown hgx (by intro e; injection e; omega))
                have H42 := Lib.hid (H4r.out.grown hgx (by intro e; injection e; omega))
                have HG2 := Lib.hid (gr_trans HGr.out hgx)
                clear hgx hpx HLT
                have c3 := HP2.out.cells.2.2.2
                go_wp2_with fail
                refine (HIS.out _ HP2.out).mono ?_
                rintro e w3 ⟨rfl, n3, rfl⟩
                have HP3 := Lib.hid (HP2.out.drewN n3)
                have HB3 := Lib.hid (HB2.out.drewN n3)
                have H23 := Lib.hid (H22.out.drewN n3)
                have H43 := Lib.hid (H42.out.drewN n3)
                have HG3 := Lib.hid (gr_drewN HG2.out n3)
                generalize W2.drewN n3 = W3 at *
                clear HP2 HB2 H22 H42 HG2 HIS c3
                have c1 := HP3.out.cells.2.1
                have f1 := Blk.frozen HP3.out 1
                go_upto_region 13 with fail
                have HP4 := Lib.hid (HP3.out.at_ (a2 + 1) (.int .i64 ((a2 : Int) + 1)) (by rfl))
                have HB4 := Lib.hid (HB3.out.other (k := b) (by omega) 1 (.int .i64 ((a2 : Int) + 1)))
                have H24 := Lib.hid (H23.out.other (k := b) (by omega) 1 (.int .i64 ((a2 : Int) + 1)))
                have H44 := Lib.hid (H43.out.other (k := b) (by omega) 1 (.int .i64 ((a2 : Int) + 1)))
                have HG4 := Lib.hid (gr_set HG3.out 1 (.int .i64 ((a2 : Int) + 1)))
                generalize W3.setCell ⟨b, 1, none⟩ (.int .i64 ((a2 : Int) + 1)) = W4 at *
                clear HP3 HB3 H23 H43 HG3 c1 f1
                go_wp2_with fail
                refine (HLT2.out _ HP4.out).mono ?_
                rintro e W3 ⟨hgx, rfl, hpx⟩
                have HP3 := Lib.hid hpx
                have HB3 := Lib.hid (HB4.out.grown hgx (by intro e; injection e; omega))
                have H23 := Lib.hid (H24.out.grown hgx (by intro e; injection e; omega))
                have H43 := Lib.hid (H44.out.grown hgx (by intro e; injection e; omega))
                have HG3 := Lib.hid (gr_trans HG4.out hgx)
                clear hgx hpx HLT2
                have hcmp : decide ((hi : Int) < (lo : Int)) = false := by simp; omega
                have c3 := HP3.out.cells.2.2.2
                go_wp2_with fail
                go_loopw [8] (fun s8 wq => ∃ kk : Nat, s8 = .int .i64 kk ∧ lo ≤ kk ∧ kk ≤ hi + 1 ∧ Hid (BB wq (w.heap.size + 1)) ∧ Hid (Blk wq (w.heap.size) 30 zero3) ∧ Hid (Blk wq (w.heap.size + 1 + 1) 30 (clN (w.heap.size + 1))) ∧ Hid (w.grownBy wq (some b)) ∧ Hid (Par wq b l a3 o 0)) (fun s8 _ => (hi + 1 - intOf s8).toNat)
                case atStart => exact ⟨lo, rfl, Nat.le_refl _, by omega, HB3, H23, H43, HG3, HP3⟩
                case round =>
                  obtain ⟨kk, rfl, hkk1, hkk2, HBq, H2q, H4q, HGq, HPq⟩ := hrel
                  have c3 := HPq.out.cells.2.2.2
                  by_cases hkk : kk ≤ hi
                  · have hd : decide ((kk : Int) ≤ (hi : Int)) = true := by simp; omega
                    have q0 : (0 : Int) ≤ (kk : Int) := by omega
                    have q1 : (kk : Int) < 256 := by omega
                    obtain ⟨bv, hbv⟩ := HBq.out.cell (i := kk) (by omega)
                    have hbf := HBq.out.frozen kk
                    obtain ⟨n0, n1, n2⟩ := cells3 H4q.out
                    have HBs := Lib.hid (HBq.out.set kk true)
                    have H2s := Lib.hid (H2q.out.other (k := (w.heap.size + 1)) (by omega) kk (.bool true))
                    have H4s := Lib.hid (H4q.out.other (k := (w.heap.size + 1)) (by omega) kk (.bool true))
                    have HGs := Lib.hid (gr_set_new HGq.out hg0 kk (.bool true))
                    have HPs := Lib.hid (HPq.out.other (k := (w.heap.size + 1)) (by omega) kk (.bool true))
                    go_wp2
                    go_roundw
                    case rel => exact ⟨kk + 1, by go_num, by omega, by omega, HBs, H2s, H4s, HGs, HPs⟩
                    case measure => simp [intOf]; omega
                  · have hd : decide ((kk : Int) ≤ (hi : Int)) = false := by simp; omega
                    have HMq : Hid (parM wr b l.size = l.size + 1 - a3) := parM_ok HPq.out _
                    go_wp2
                    go_roundw
                    case rel => exact (cls_ok (mn := mn + 1) (k := k') (by go_num) HBq.out H2q.out H4q.out HGq.out (by omega) (by omega) (by omega) HT2.out HPq.out (HIX.out.trans (if_neg (by omega)).symm))
                    case measure => rw [HMq.out, HMr.out]; omega

      · have he : ((mn : Int) == 0) = false := by simp; omega
        rw [if_neg hm0] at HIQ
        cases hse : sees l a1 93 with
        | false =>
          have HE := Lib.hid (HEND.out a1 false hse ha1 wr HPr.out)
          rw [if_neg (by rw [hse]; simp)] at HIQ
          clear hse HC
          go_wp2_with fail
          refine (HE.out).mono ?_
          rintro e w4 ⟨rfl, n4, rfl⟩
          have HPd := Lib.hid (HPr.out.drewN n4)
          have HBd := Lib.hid (HBr.out.drewN n4)
          have H2d := Lib.hid (H2r.out.drewN n4)
          have H4d := Lib.hid (H4r.out.drewN n4)
          have HGd := Lib.hid (gr_drewN HGr.out n4)
          clear HPr HBr H2r H4r HGr HE c3
          have HPr := HPd
          have HBr := HBd
          have H2r := H2d
          have H4r := H4d
          have HGr := HGd
          clear HPd HBd H2d H4d HGd
          generalize wr.drewN n4 = Wr at *
          have HLT := Lib.hid (letter_any b a1 o l Wr HPr.out hl ha1)
          cases hc : ccharF l a1 with
          | bad pl =>
            rw [hc] at HLT
            have HIX : Hid (itemsF l (l.size + 1) q 0 = .bad pl) := HIQ.out.trans (itemsF_stop (by unfold itemF; rw [hc]))
            clear hc HIQ
            go_wp2_with fail
            refine (HLT.out).mono ?_
            rintro e Wx ⟨hgx, rfl, hpx⟩
            have HPx := Lib.hid hpx
            have HBx := Lib.hid (HBr.out.grown hgx (by intro e; injection e; omega))
            have H2x := Lib.hid (H2r.out.grown hgx (by intro e; injection e; omega))
            have H4x := Lib.hid (H4r.out.grown hgx (by intro e; injection e; omega))
            have HGx := Lib.hid (gr_trans HGr.out hgx)
            clear hgx hpx HLT
            have c3 := HPx.out.cells.2.2.2
            have HMx : Hid (parM Wx b l.size = 0) := parM_bad HPx.out (.inl rfl) _
            go_wp2_with fail
            refine wp_loop_rounds 1 ?_
            rw [rounds_succ]
            go_wp2
            go_roundw
            case rel => exact (cls_bad (mn := mn + 1) (by go_num) HBx.out H2x.out H4x.out HGx.out HPx.out HIX.out)
            case measure => rw [HMx.out, HMr.out]; omega
          | ok a2 lo =>
            rw [hc] at HLT
            obtain ⟨k1, k2, k3⟩ := ccharF_ok hc
            cases hs : sees l a2 45 with
            | false =>
              have hit : itemF l a1 t = .ok a2 (addR t lo 1) := by unfold itemF; rw [hc]; dsimp only; rw [hs]; rfl
              have HIX := Lib.hid (HIQ.out.trans (itemsF_next hit))
              have HT2 := Lib.hid (itemF_ok ht hit).2.2
              have HIS := Lib.hid (fun W hW => is_any b a2 o 45 l false hs W hW hl k2)
              clear hc hs HIQ hit
              go_wp2_with fail
              refine (HLT.out).mono ?_
              rintro e W2 ⟨hgx, rfl, hpx⟩
              have HP2 := Lib.hid hpx
              have HB2 := Lib.hid (HBr.out.grown hgx (by intro e; injection e; omega))
              have H22 := Lib.hid (H2r.out.grown hgx (by intro e; injection e; omega))
              have H42 := Lib.hid (H4r.out.grown hgx (by intro e; injection e; omega))
              have HG2 := Lib.hid (gr_trans HGr.out hgx)
              clear hgx hpx HLT
              have c3 := HP2.out.cells.2.2.2
              go_wp2_with fail
              refine (HIS.out _ HP2.out).mono ?_
              rintro e w3 ⟨rfl, n3, rfl⟩
              have HP3 := Lib.hid (HP2.out.drewN n3)
              have HB3 := Lib.hid (HB2.out.drewN n3)
              have H23 := Lib.hid (H22.out.drewN n3)
              have H43 := Lib.hid (H42.out.drewN n3)
              have HG3 := Lib.hid (gr_drewN HG2.out n3)
              generalize W2.drewN n3 = W3 at *
              clear HP2 HB2 H22 H42 HG2 HIS c3
              have c3 := HP3.out.cells.2.2.2
              have hcmp : decide ((lo : Int) < (lo : Int)) = false := by simp
              go_wp2_with fail
              go_loopw [8] (fun s8 wq => ∃ kk : Nat, s8 = .int .i64 kk ∧ lo ≤ kk ∧ kk ≤ lo + 1 ∧ Hid (BB wq (w.heap.size + 1)) ∧ Hid (Blk wq (w.heap.size) 30 zero3) ∧ Hid (Blk wq (w.heap.size + 1 + 1) 30 (clN (w.heap.size + 1))) ∧ Hid (w.grownBy wq (some b)) ∧ Hid (Par wq b l a2 o 0)) (fun s8 _ => (lo + 1 - intOf s8).toNat)
              case atStart => exact ⟨lo, rfl, Nat.le_refl _, by omega, HB3, H23, H43, HG3, HP3⟩
              case round =>
                obtain ⟨kk, rfl, hkk1, hkk2, HBq, H2q, H4q, HGq, HPq⟩ := hrel
                have c3 := HPq.out.cells.2.2.2
                by_cases hkk : kk ≤ lo
                · have hd : decide ((kk : Int) ≤ (lo : Int)) = true := by simp; omega
                  have q0 : (0 : Int) ≤ (kk : Int) := by omega
                  have q1 : (kk : Int) < 256 := by omega
                  obtain ⟨bv, hbv⟩ := HBq.out.cell (i := kk) (by omega)
                  have hbf := HBq.out.frozen kk
                  obtain ⟨n0, n1, n2⟩ := cells3 H4q.out
                  have HBs := Lib.hid (HBq.out.set kk true)
                  have H2s := Lib.hid (H2q.out.other (k := (w.heap.size + 1)) (by omega) kk (.bool true))
                  have H4s := Lib.hid (H4q.out.other (k := (w.heap.size + 1)) (by omega) kk (.bool true))
                  have HGs := Lib.hid (gr_set_new HGq.out hg0 kk (.bool true))
                  have HPs := Lib.hid (HPq.out.other (k := (w.heap.size + 1)) (by omega) kk (.bool true))
                  go_wp2
                  go_roundw
                  case rel => exact ⟨kk + 1, by go_num, by omega, by omega, HBs, H2s, H4s, HGs, HPs⟩
                  case measure => simp [intOf]; omega
                · have hd : decide ((kk : Int) ≤ (lo : Int)) = false := by simp; omega
                  have HMq : Hid (parM wr b l.size = l.size + 1 - a2) := parM_ok HPq.out _
                  go_wp2
                  go_roundw
                  case rel => exact (cls_ok (mn := mn + 1) (k := k') (by go_num) HBq.out H2q.out H4q.out HGq.out (by omega) (by omega) (by omega) HT2.out HPq.out (HIX.out.trans (if_neg (by omega)).symm))
                  case measure => rw [HMq.out, HMr.out]; omega
            | true =>
              have HIS := Lib.hid (fun W hW => is_any b a2 o 45 l true hs W hW hl k2)
              have hlt2 := sees_lt hs
              have HLT2 := Lib.hid (fun W hW => letter_any b (a2 + 1) o l W hW hl hlt2)
              cases hc2 : ccharF l (a2 + 1) with
              | bad pl =>
                rw [hc2] at HLT2
                have HIX : Hid (itemsF l (l.size + 1) q 0 = .bad pl) := HIQ.out.trans (itemsF_stop (by unfold itemF; simp [hc, hs, hc2]))
                clear hc hs HIQ hc2
                go_wp2_with fail
                refine (HLT.out).mono ?_
                rintro e W2 ⟨hgx, rfl, hpx⟩
                have HP2 := Lib.hid hpx
                have HB2 := Lib.hid (HBr.out.grown hgx (by intro e; injection e; omega))
                have H22 := Lib.hid (H2r.out.grown hgx (by intro e; injection e; omega))
                have H42 := Lib.hid (H4r.out.grown hgx (by intro e; injection e; omega))
                have HG2 := Lib.hid (gr_trans HGr.out hgx)
                clear hgx hpx HLT
                have c3 := HP2.out.cells.2.2.2
                go_wp2_with fail
                refine (HIS.out _ HP2.out).mono ?_
                rintro e w3 ⟨rfl, n3, rfl⟩
                have HP3 := Lib.hid (HP2.out.drewN n3)
                have HB3 := Lib.hid (HB2.out.drewN n3)
                have H23 := Lib.hid (H22.out.drewN n3)
                have H43 := Lib.hid (H42.out.drewN n3)
                have HG3 := Lib.hid (gr_drewN HG2.out n3)
                generalize W2.drewN n3 = W3 at *
                clear HP2 HB2 H22 H42 HG2 HIS c3
                have c1 := HP3.out.cells.2.1
                have f1 := Blk.frozen HP3.out 1
                go_upto_region 13 with fail
                have HP4 := Lib.hid (HP3.out.at_ (a2 + 1) (.int .i64 ((a2 : Int) + 1)) (by rfl))
                have HB4 := Lib.hid (HB3.out.other (k := b) (by omega) 1 (.int .i64 ((a2 : Int) + 1)))
                have H24 := Lib.hid (H23.out.other (k := b) (by omega) 1 (.int .i64 ((a2 : Int) + 1)))
                have H44 := Lib.hid (H43.out.other (k := b) (by omega) 1 (.int .i64 ((a2 : Int) + 1)))
                have HG4 := Lib.hid (gr_set HG3.out 1 (.int .i64 ((a2 : Int) + 1)))
                generalize W3.setCell ⟨b, 1, none⟩ (.int .i64 ((a2 : Int) + 1)) = W4 at *
                clear HP3 HB3 H23 H43 HG3 c1 f1
                go_wp2_with fail
                refine (HLT2.out _ HP4.out).mono ?_
                rintro e Wx ⟨hgx, rfl, hpx⟩
                have HPx := Lib.hid hpx
                have HBx := Lib.hid (HB4.out.grown hgx (by intro e; injection e; omega))
                have H2x := Lib.hid (H24.out.grown hgx (by intro e; injection e; omega))
                have H4x := Lib.hid (H44.out.grown hgx (by intro e; injection e; omega))
                have HGx := Lib.hid (gr_trans HG4.out hgx)
                clear hgx hpx HLT2
                have c3 := HPx.out.cells.2.2.2
                have HMx : Hid (parM Wx b l.size = 0) := parM_bad HPx.out (.inl rfl) _
                go_wp2_with fail
                refine wp_loop_rounds 1 ?_
                rw [rounds_succ]
                go_wp2
                go_roundw
                case rel => exact (cls_bad (mn := mn + 1) (by go_num) HBx.out H2x.out H4x.out HGx.out HPx.out HIX.out)
                case measure => rw [HMx.out, HMr.out]; omega
              | ok a3 hi =>
                rw [hc2] at HLT2
                obtain ⟨y1, y2, y3⟩ := ccharF_ok hc2
                by_cases hlh : hi < lo
                · have HIX : Hid (itemsF l (l.size + 1) q 0 = .bad (a3 - 1)) := HIQ.out.trans (itemsF_stop (by unfold itemF; simp [hc, hs, hc2, hlh]))
                  clear hc hs HIQ hc2
                  go_wp2_with fail
                  refine (HLT.out).mono ?_
                  rintro e W2 ⟨hgx, rfl, hpx⟩
                  have HP2 := Lib.hid hpx
                  have HB2 := Lib.hid (HBr.out.grown hgx (by intro e; injection e; omega))
                  have H22 := Lib.hid (H2r.out.grown hgx (by intro e; injection e; omega))
                  have H42 := Lib.hid (H4r.out.grown hgx (by intro e; injection e; omega))
                  have HG2 := Lib.hid (gr_trans HGr.out hgx)
                  clear hgx hpx HLT
                  have c3 := HP2.out.cells.2.2.2
                  go_wp2_with fail
                  refine (HIS.out _ HP2.out).mono ?_
                  rintro e w3 ⟨rfl, n3, rfl⟩
                  have HP3 := Lib.hid (HP2.out.drewN n3)
                  have HB3 := Lib.hid (HB2.out.drewN n3)
                  have H23 := Lib.hid (H22.out.drewN n3)
                  have H43 := Lib.hid (H42.out.drewN n3)
                  have HG3 := Lib.hid (gr_drewN HG2.out n3)
                  generalize W2.drewN n3 = W3 at *
                  clear HP2 HB2 H22 H42 HG2 HIS c3
                  have c1 := HP3.out.cells.2.1
                  have f1 := Blk.frozen HP3.out 1
                  go_upto_region 13 with fail
                  have HP4 := Lib.hid (HP3.out.at_ (a2 + 1) (.int .i64 ((a2 : Int) + 1)) (by rfl))
                  have HB4 := Lib.hid (HB3.out.other (k := b) (by omega) 1 (.int .i64 ((a2 : Int) + 1)))
                  have H24 := Lib.hid (H23.out.other (k := b) (by omega) 1 (.int .i64 ((a2 : Int) + 1)))
                  have H44 := Lib.hid (H43.out.other (k := b) (by omega) 1 (.int .i64 ((a2 : Int) + 1)))
                  have HG4 := Lib.hid (gr_set HG3.out 1 (.int .i64 ((a2 : Int) + 1)))
                  generalize W3.setCell ⟨b, 1, none⟩ (.int .i64 ((a2 : Int) + 1)) = W4 at *
                  clear HP3 HB3 H23 H43 HG3 c1 f1
                  go_wp2_with fail
                  refine (HLT2.out _ HP4.out).mono ?_
                  rintro e W5 ⟨hgx, rfl, hpx⟩
                  have HP5 := Lib.hid hpx
                  have HB5 := Lib.hid (HB4.out.grown hgx (by intro e; injection e; omega))
                  have H25 := Lib.hid (H24.out.grown hgx (by intro e; injection e; omega))
                  have H45 := Lib.hid (H44.out.grown hgx (by intro e; injection e; omega))
                  have HG5 := Lib.hid (gr_trans HG4.out hgx)
                  clear hgx hpx HLT2
                  have hcmp : decide ((hi : Int) < (lo : Int)) = true := by simp; omega
                  have c1 := HP5.out.cells.2.1
                  have c3 := HP5.out.cells.2.2.2
                  have f1 := Blk.frozen HP5.out 1
                  go_upto_region 16 with fail
                  have HP6 : Hid (Par (W5.setCell ⟨b, 1, none⟩ (.int .i64 ((a3 : Int) - 1))) b l (a3 - 1) o 0) := HP5.out.at_ (a3 - 1) _ (by rw [show ((a3 - 1 : Nat) : Int) = (a3 : Int) - 1 by omega])
                  have HB6 := Lib.hid (HB5.out.other (k := b) (by omega) 1 (.int .i64 ((a3 : Int) - 1)))
                  have H26 := Lib.hid (H25.out.other (k := b) (by omega) 1 (.int .i64 ((a3 : Int) - 1)))
                  have H46 := Lib.hid (H45.out.other (k := b) (by omega) 1 (.int .i64 ((a3 : Int) - 1)))
                  have HG6 := Lib.hid (gr_set HG5.out 1 (.int .i64 ((a3 : Int) - 1)))
                  generalize W5.setCell ⟨b, 1, none⟩ (.int .i64 ((a3 : Int) - 1)) = W6 at *
                  clear HP5 HB5 H25 H45 HG5 c1 c3 f1
                  have c3 := HP6.out.cells.2.2.2
                  have f3 := Blk.frozen HP6.out 3
                  go_upto_region 17 with fail
                  have HPx := Lib.hid (HP6.out.wr_ 2 (.int .i64 2) rfl)
                  have HBx := Lib.hid (HB6.out.other (k := b) (by omega) 3 (.int .i64 2))
                  have H2x := Lib.hid (H26.out.other (k := b) (by omega) 3 (.int .i64 2))
                  have H4x := Lib.hid (H46.out.other (k := b) (by omega) 3 (.int .i64 2))
                  have HGx := Lib.hid (gr_set HG6.out 3 (.int .i64 2))
                  generalize W6.setCell ⟨b, 3, none⟩ (.int .i64 2) = Wx at *
                  clear HP6 HB6 H26 H46 HG6 c3 f3
                  have c3 := HPx.out.cells.2.2.2
                  have HMx : Hid (parM Wx b l.size = 0) := parM_bad HPx.out (.inl rfl) _
                  go_wp2_with fail
                  refine wp_loop_rounds 1 ?_
                  rw [rounds_succ]
                  go_wp2
                  go_roundw
                  case rel => exact (cls_bad (mn := mn + 1) (by go_num) HBx.out H2x.out H4x.out HGx.out HPx.out HIX.out)
                  case measure => rw [HMx.out, HMr.out]; omega
                · have hit : itemF l a1 t = .ok a3 (addR t lo (hi + 1 - lo)) := by unfold itemF; simp [hc, hs, hc2, hlh]
                  have HIX := Lib.hid (HIQ.out.trans (itemsF_next hit))
                  have HT2 := Lib.hid (itemF_ok ht hit).2.2
                  clear hc hs HIQ hc2 hit
                  go_wp2_with fail
                  refine (HLT.out).mono ?_
                  rintro e W2 ⟨hgx, rfl, hpx⟩
                  have HP2 := Lib.hid hpx
                  have HB2 := Lib.hid (HBr.out.grown hgx (by intro e; injection e; omega))
                  have H22 := Lib.hid (H2r.out.grown hgx (by intro e; injection e; omega))
                  have H42 := Lib.hid (H4r.out.grown hgx (by intro e; injection e; omega))
                  have HG2 := Lib.hid (gr_trans HGr.out hgx)
                  clear hgx hpx HLT
                  have c3 := HP2.out.cells.2.2.2
                  go_wp2_with fail
                  refine (HIS.out _ HP2.out).mono ?_
                  rintro e w3 ⟨rfl, n3, rfl⟩
                  have HP3 := Lib.hid (HP2.out.drewN n3)
                  have HB3 := Lib.hid (HB2.out.drewN n3)
                  have H23 := Lib.hid (H22.out.drewN n3)
                  have H43 := Lib.hid (H42.out.drewN n3)
                  have HG3 := Lib.hid (gr_drewN HG2.out n3)
                  generalize W2.drewN n3 = W3 at *
                  clear HP2 HB2 H22 H42 HG2 HIS c3
                  have c1 := HP3.out.cells.2.1
                  have f1 := Blk.frozen HP3.out 1
                  go_upto_region 13 with fail
                  have HP4 := Lib.hid (HP3.out.at_ (a2 + 1) (.int .i64 ((a2 : Int) + 1)) (by rfl))
                  have HB4 := Lib.hid (HB3.out.other (k := b) (by omega) 1 (.int .i64 ((a2 : Int) + 1)))
                  have H24 := Lib.hid (H23.out.other (k := b) (by omega) 1 (.int .i64 ((a2 : Int) + 1)))
                  have H44 := Lib.hid (H43.out.other (k := b) (by omega) 1 (.int .i64 ((a2 : Int) + 1)))
                  have HG4 := Lib.hid (gr_set HG3.out 1 (.int .i64 ((a2 : Int) + 1)))
                  generalize W3.setCell ⟨b, 1, none⟩ (.int .i64 ((a2 : Int) + 1)) = W4 at *
                  clear HP3 HB3 H23 H43 HG3 c1 f1
                  go_wp2_with fail
                  refine (HLT2.out _ HP4.out).mono ?_
                  rintro e W3 ⟨hgx, rfl, hpx⟩
                  have HP3 := Lib.hid hpx
                  have HB3 := Lib.hid (HB4.out.grown hgx (by intro e; injection e; omega))
                  have H23 := Lib.hid (H24.out.grown hgx (by intro e; injection e; omega))
                  have H43 := Lib.hid (H44.out.grown hgx (by intro e; injection e; omega))
                  have HG3 := Lib.hid (gr_trans HG4.out hgx)
                  clear hgx hpx HLT2
                  have hcmp : decide ((hi : Int) < (lo : Int)) = false := by simp; omega
                  have c3 := HP3.out.cells.2.2.2
                  go_wp2_with fail
                  go_loopw [8] (fun s8 wq => ∃ kk : Nat, s8 = .int .i64 kk ∧ lo ≤ kk ∧ kk ≤ hi + 1 ∧ Hid (BB wq (w.heap.size + 1)) ∧ Hid (Blk wq (w.heap.size) 30 zero3) ∧ Hid (Blk wq (w.heap.size + 1 + 1) 30 (clN (w.heap.size + 1))) ∧ Hid (w.grownBy wq (some b)) ∧ Hid (Par wq b l a3 o 0)) (fun s8 _ => (hi + 1 - intOf s8).toNat)
                  case atStart => exact ⟨lo, rfl, Nat.le_refl _, by omega, HB3, H23, H43, HG3, HP3⟩
                  case round =>
                    obtain ⟨kk, rfl, hkk1, hkk2, HBq, H2q, H4q, HGq, HPq⟩ := hrel
                    have c3 := HPq.out.cells.2.2.2
                    by_cases hkk : kk ≤ hi
                    · have hd : decide ((kk : Int) ≤ (hi : Int)) = true := by simp; omega
                      have q0 : (0 : Int) ≤ (kk : Int) := by omega
                      have q1 : (kk : Int) < 256 := by omega
                      obtain ⟨bv, hbv⟩ := HBq.out.cell (i := kk) (by omega)
                      have hbf := HBq.out.frozen kk
                      obtain ⟨n0, n1, n2⟩ := cells3 H4q.out
                      have HBs := Lib.hid (HBq.out.set kk true)
                      have H2s := Lib.hid (H2q.out.other (k := (w.heap.size + 1)) (by omega) kk (.bool true))
                      have H4s := Lib.hid (H4q.out.other (k := (w.heap.size + 1)) (by omega) kk (.bool true))
                      have HGs := Lib.hid (gr_set_new HGq.out hg0 kk (.bool true))
                      have HPs := Lib.hid (HPq.out.other (k := (w.heap.size + 1)) (by omega) kk (.bool true))
                      go_wp2
                      go_roundw
                      case rel => exact ⟨kk + 1, by go_num, by omega, by omega, HBs, H2s, H4s, HGs, HPs⟩
                      case measure => simp [intOf]; omega
                    · have hd : decide ((kk : Int) ≤ (hi : Int)) = false := by simp; omega
                      have HMq : Hid (parM wr b l.size = l.size + 1 - a3) := parM_ok HPq.out _
                      go_wp2
                      go_roundw
                      case rel => exact (cls_ok (mn := mn + 1) (k := k') (by go_num) HBq.out H2q.out H4q.out HGq.out (by omega) (by omega) (by omega) HT2.out HPq.out (HIX.out.trans (if_neg (by omega)).symm))
                      case measure => rw [HMq.out, HMr.out]; omega

        | true =>
          have HE := Lib.hid (HEND.out a1 true hse ha1 wr HPr.out)
          have hlt1 := sees_lt hse
          rw [if_pos hse] at HIQ
          have HX := Lib.hid (HC.out _ HIQ.out)
          clear hse HC HIQ
          go_wp2_with fail
          refine (HE.out).mono ?_
          rintro e w4 ⟨rfl, n4, rfl⟩
          have HP5 := Lib.hid (HPr.out.drewN n4)
          have HB5 := Lib.hid (HBr.out.drewN n4)
          have H25 := Lib.hid (H2r.out.drewN n4)
          have H45 := Lib.hid (H4r.out.drewN n4)
          have HG5 := Lib.hid (gr_drewN HGr.out n4)
          clear HPr HBr H2r H4r HGr HE c3
          generalize wr.drewN n4 = W5 at *
          have c1 := HP5.out.cells.2.1
          have c3 := HP5.out.cells.2.2.2
          have f1 := Blk.frozen HP5.out 1
          go_upto_region 24 with fail
          have HP6 := Lib.hid (HP5.out.at_ (a1 + 1) (.int .i64 ((a1 : Int) + 1)) (by rfl))
          have HB6 := Lib.hid (HB5.out.other (k := b) hgb 1 (.int .i64 ((a1 : Int) + 1)))
          have H26 := Lib.hid (H25.out.other (k := b) h2b 1 (.int .i64 ((a1 : Int) + 1)))
          have H46 := Lib.hid (H45.out.other (k := b) h4b 1 (.int .i64 ((a1 : Int) + 1)))
          have HG6 := Lib.hid (gr_set HG5.out 1 (.int .i64 ((a1 : Int) + 1)))
          generalize W5.setCell ⟨b, 1, none⟩ (.int .i64 ((a1 : Int) + 1)) = W6 at *
          clear HP5 HB5 H25 H45 HG5 c1 c3 f1
          go_wp2_with fail
          refine wp_loop_rounds 1 ?_
          rw [rounds_succ]
          obtain ⟨n0, n1, n2⟩ := cells3 H46.out
          obtain ⟨r0, r1, r2⟩ := cells3 H26.out
          obtain ⟨z0, z1, z2⟩ := frozen3 H26.out
          go_wp2
          exact bodyPost_ret (v := ndV 91 (some ⟨(w.heap.size + 1), 0, none⟩) 256 256 none 0 0) (by simp [results, Tryd.results66, go_sem, r0, r1, r2]) rfl (rn_ok HX.out ⟨91, _, _, _, _, _, _, rfl⟩ (gr_set3 HG6.out (by omega) _ _ _) (Blk.set3_other HP6.out h2b.symm _ _ _))
    · have HPr := Lib.hid hPr
      have HX := Lib.hid (HC.out _ hQ)
      clear hrel hBr h2r h4r hGr hPr hQ HB4 HR4 HN4 HG4 HP4 HC
      have c3 := HPr.out.cells.2.2.2
      obtain ⟨n0, n1, n2⟩ := cells3 H4r.out
      obtain ⟨r0, r1, r2⟩ := cells3 H2r.out
      obtain ⟨z0, z1, z2⟩ := frozen3 H2r.out
      go_wp2
      exact bodyPost_ret (v := ndV 91 (some ⟨(w.heap.size + 1), 0, none⟩) 256 256 none 0 0) (by simp [results, Tryd.results66, go_sem, r0, r1, r2]) rfl (rn_bad HX.out ⟨91, _, _, _, _, _, _, rfl⟩ (gr_set3 HGr.out (by omega) _ _ _) (Blk.set3_other HPr.out h2b.symm _ _ _) (.inl rfl))
end Go.Proofs.YtahphjaelpgjdaaDoor

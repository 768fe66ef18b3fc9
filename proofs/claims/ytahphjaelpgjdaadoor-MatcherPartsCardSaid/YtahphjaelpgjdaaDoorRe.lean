/- The document's reader: a row of parts. Condition: a text of at most 200 bytes. -/
import Derived.Test.YtahphjaelpgjdaaDoorRd
namespace Go.Proofs.YtahphjaelpgjdaaDoor
open Go.RowKit Rx
set_option linter.unusedVariables false

set_option maxRecDepth 100000 in
set_option maxHeartbeats 16000000 in
theorem refrow_any (b a o d : Nat) (l : ByteArray) (m : Mach) (w : World) (hA : ∀ d', d = d' + 1 → RA b l (o + 1) d') (hod : o + d = 32) (hm : Rx.Good m) (hp : Par w b l a o 0) (hl : l.size ≤ 200) (ha : a ≤ l.size) :
    Calls Tryd.prog 41 #[.pointer (some ⟨b, 0, none⟩)] w (RN b l o w (catF l (grpF l d) a m)) := by
  have hbl : b < w.heap.size := Blk.lt hp
  obtain ⟨i0, hi0, hz0, hz1, hz2⟩ := info_parts node_info
  have HAT := Lib.hid (fun (a' : Nat) (m' : Mach) (W : World) hgm hW hlt h41 h124 => refatom_any b a' o d l m' W hA hod hgm hW hl hlt h41 h124)
  have HRF := Lib.hid (fun (a' : Nat) (m' : Mach) (h1 : a' < l.size) (h2 : Rx.Good m') => rep_fine (grp_fine l d) h1 h2)
  have HP := Lib.hid ((hp.alloc (.cells zero3 30)).alloc (.cells (rwC 44 (.slice none 0 0)) 30))
  have B2 := Lib.hid ((Blk.new w 30 zero3).alloc (.cells (rwC 44 (.slice none 0 0)) 30))
  have B3 : Hid (Blk ((w.alloc (.cells zero3 30)).alloc (.cells (rwC 44 (.slice none 0 0)) 30)) (w.heap.size + 1) 30 (rwC 44 (.slice none 0 0))) := by
    have := Blk.new (w.alloc (.cells zero3 30)) 30 (rwC 44 (.slice none 0 0))
    rw [World.size_alloc] at this
    exact this
  have HG := Lib.hid (gr_alloc (gr_alloc (gr_refl w (some b)) (.cells zero3 30)) (.cells (rwC 44 (.slice none 0 0)) 30))
  have HGM := Lib.hid hm
  clear hp hA hm
  go_enter Tryd.func41, Tryd.ntmps41
  go_wp2_with fail
  generalize (w.alloc (.cells _ 30)).alloc (.cells _ 30) = W at *
  go_loopw [4, 5, 6] (fun s4 s5 s6 wr => Hid (RowS w b w.heap.size (w.heap.size + 1) l o d (catF l (grpF l d) a m) wr)) (fun s4 s5 s6 wr => parM wr b l.size + (if parM wr b l.size = 0 then 0 else 1))
  case atStart => exact ⟨.slice none 0 0, 0, [], B3.out, row_own_nil _ _, B2.out, HG.out, .inl ⟨l.size + 1, a, m, unit, by omega, ha, Nat.zero_le _, HP.out, HGM.out, unit_in _, rfl⟩⟩
  case round =>
    obtain ⟨K, n, xs, h3r, hor, h2r, hgr, hat⟩ := hrel.out
    have H3r := Lib.hid h3r
    have HOr := Lib.hid hor
    have H2r := Lib.hid h2r
    have HGr := Lib.hid hgr
    clear hrel h3r hor h2r hgr HP B2 B3 HG HGM
    rcases hat with ⟨k, a', m', p', hk, ha', hn, hPr, hgm, hpi, hE⟩ | ⟨pl, c, hPr, hc, hn, hE⟩
    · have HPr := Lib.hid hPr
      have HGm := Lib.hid hgm
      have HIr := Lib.hid hpi
      have HEq := Lib.hid hE
      have HMr : Hid (parM wr b l.size + (if parM wr b l.size = 0 then 0 else 1) = l.size + 1 - a' + 1) := by
        show _ = _
        rw [parM_ok hPr l.size, if_neg (by omega)]
      clear hPr hgm hpi hE
      obtain ⟨k, rfl⟩ : ∃ k', k = k' + 1 := ⟨k - 1, by omega⟩
      by_cases hlt1 : a' < l.size
      · have HK := Lib.hid (peek_in b a' o l wr HPr.out hl hlt1)
        cases hs : seesAny l a' [124, 41] with
        | true =>
          have HX := Lib.hid (HEq.out.trans (catL_stop (by rw [hs]; simp)))
          have hx : by_ l a' = 124 ∨ by_ l a' = 41 := by
            unfold seesAny at hs
            rw [decide_eq_true hlt1, Bool.true_and] at hs
            simpa using hs
          obtain ⟨KA, Kc, rfl⟩ := own_shape HOr.out
          clear hs HEq
          rcases hx with hx | hx
          all_goals
            rw [hx] at HK
            go_wp2_with fail
            refine (HK.out).mono ?_
            rintro e w3 ⟨rfl, x3, rfl⟩
            have HP3 := Lib.hid (HPr.out.drewN x3)
            have B33 := Lib.hid (H3r.out.drewN x3)
            have B23 := Lib.hid (H2r.out.drewN x3)
            have HG3 := Lib.hid (gr_drewN HGr.out x3)
            generalize wr.drewN x3 = W3 at *
            clear HPr H3r H2r HGr HK HOr
            obtain ⟨n0, n1, n2⟩ := cells3 B33.out
            obtain ⟨r0, r1, r2⟩ := cells3 B23.out
            obtain ⟨z0, z1, z2⟩ := frozen3 B23.out
            go_wp2
            exact bodyPost_ret (v := ndV 44 none 0 0 KA n Kc) (by simp [results, Tryd.results41, go_sem, r0, r1, r2]) rfl (rn_ok HX.out (nd_mk _ _ _ _ _ _ _) (gr_set3 HG3.out (Nat.le_refl _) _ _ _) (Blk.set3_other HP3.out (by omega) _ _ _))

        | false =>
          have hnot : seesAny l a' [124, 41] = false := hs
          have hx : by_ l a' ≠ 124 ∧ by_ l a' ≠ 41 := by
            unfold seesAny at hs
            rw [decide_eq_true hlt1, Bool.true_and] at hs
            simpa using hs
          have HEr := HEq
          have HA1 := Lib.hid (fun W hW => HAT.out a' m' W HGm.out hW hlt1 hx.2 hx.1)
          have HF1 := Lib.hid (HRF.out a' m' hlt1 HGm.out)
          have HREP : Hid (∀ r, atomF l (grpF l d) a' m' = r → repF l (grpF l d) a' m' = match r with | .bad pl c => .bad pl c | .ok a1 m1 p => repL l (l.size + 1) a1 m1 p) := fun r h => by
            subst h; unfold repF; cases atomF l (grpF l d) a' m' <;> rfl
          have HAF := Lib.hid (atom_fine (grp_fine l d) hlt1 HGm.out)
          have hlx := by_lt l a'
          obtain ⟨x, hxx⟩ : ∃ x, by_ l a' = x := ⟨_, rfl⟩
          rw [hxx] at HK hx hlx
          have e124 : ((x : Int) == 124) = false := by simp; omega
          have e41 : ((x : Int) == 41) = false := by simp; omega
          clear hs HEq HAT HRF hxx
          go_wp2_with fail
          refine (HK.out).mono ?_
          rintro e w3 ⟨rfl, x3, rfl⟩
          have HP3 := Lib.hid (HPr.out.drewN x3)
          have H33 := Lib.hid (H3r.out.drewN x3)
          have HO3 : Hid ((wr.drewN x3).ownsRow (w.heap.size + 1 + 1) 30 3 K n xs) := HOr.out
          have H23 := Lib.hid (H2r.out.drewN x3)
          have HG3 := Lib.hid (gr_drewN HGr.out x3)
          have hg3 : w.heap.size + 1 < (wr.drewN x3).heap.size := H33.out.lt
          generalize wr.drewN x3 = W3 at *
          clear HPr H3r HOr H2r HGr HK
          have HA2 := Lib.hid (HA1.out W3 HP3.out)
          clear HA1
          go_wp2_with fail
          refine (HA2.out).mono ?_
          rintro e W4 hrn
          obtain ⟨nk, nA, nn, nc, nB, nn', nc', rfl⟩ := hrn.shape
          obtain ⟨hv4, hg4, hres⟩ := hrn
          have H34 := Lib.hid ((H33.out.grown hg4 (by intro e; injection e; omega)).alloc (.cells #[.int .u8 nk, .slice nA nn nc, .slice nB nn' nc'] 30))
          have H24 := Lib.hid ((H23.out.grown hg4 (by intro e; injection e; omega)).alloc (.cells #[.int .u8 nk, .slice nA nn nc, .slice nB nn' nc'] 30))
          have HO4 := Lib.hid (own_grown HO3.out hg4 (own_far HO3.out (by omega)))
          have HO5 := Lib.hid (own_below HO4.out ((Below.refl _ _).alloc (Nat.le_refl _) (.cells #[.int .u8 nk, .slice nA nn nc, .slice nB nn' nc'] 30)))
          have HG4 := Lib.hid (gr_alloc (gr_trans HG3.out hg4) (.cells #[.int .u8 nk, .slice nA nn nc, .slice nB nn' nc'] 30))
          have BN4 := Lib.hid (Blk.new W4 30 #[.int .u8 nk, .slice nA nn nc, .slice nB nn' nc'])
          have HK6 := Lib.hid (own_new HO4.out (Nat.le_refl W4.heap.size))
          have hsz4 : w.heap.size + 1 < W4.heap.size := Nat.lt_of_lt_of_le hg3 hg4.size
          have HAT4 : Hid (RepAt b l o m' a' (repF l (grpF l d) a' m') (W4.alloc (.cells #[.int .u8 nk, .slice nA nn nc, .slice nB nn' nc'] 30))) := by
            show RepAt _ _ _ _ _ _ _
            cases hr : atomF l (grpF l d) a' m' with
            | bad pl c =>
              rw [hr] at hres
              exact .inr ⟨pl, c, Par.alloc hres.1 _, hres.2, HREP.out _ hr⟩
            | ok a1 m1 p1 =>
              rw [hr] at hres
              obtain ⟨f1, f2, f3, f4, f5, f6⟩ := HAF.out a1 m1 p1 hr
              exact .inl ⟨l.size + 1, a1, m1, p1, by omega, f2, f1, Par.alloc hres _, f3, f4, f5, HREP.out _ hr⟩
          have HBD4 : Hid (Bd w b w.heap.size (w.heap.size + 1) W4.heap.size 44 K n xs (W4.alloc (.cells #[.int .u8 nk, .slice nA nn nc, .slice nB nn' nc'] 30))) := ⟨⟨_, _, _, _, _, _, _, BN4.out⟩, H34.out, HO5.out, H24.out, HG4.out⟩
          clear hv4 hg4 hres HA2 H34 H24 HO4 HO5 HG4 BN4 HP3 H33 HO3 H23 HG3 HREP HAF
          go_wp2_with fail
          generalize hW : W4.alloc (.cells #[.int .u8 nk, .slice nA nn nc, .slice nB nn' nc'] 30) = W5 at *
          generalize hj : W4.heap.size = j6 at *
          have h6 : w.heap.size ≤ j6 := by omega
          have h26 : w.heap.size ≠ j6 := by omega
          have h36 : w.heap.size + 1 ≠ j6 := by omega
          clear hW hj
          go_loopw [26] (fun s26 wr => Hid (Bd w b w.heap.size (w.heap.size + 1) j6 44 K n xs wr) ∧ Hid (RepAt b l o m' a' (repF l (grpF l d) a' m') wr)) (fun s26 wr => parM wr b l.size)
          case atStart => exact ⟨HBD4, HAT4⟩
          case round =>
            clear HBD4 HAT4
            obtain ⟨hbd, hat⟩ := hrel
            have HBr := Lib.hid hbd.out
            clear hbd
            rcases hat.out with ⟨kk, a2, m2, p2, hkk, ha2, haa, hPr, hg2, hp2, hmm, hE⟩ | ⟨pl, c, hPr, hc, hE⟩
            · have HPr := Lib.hid hPr
              have HG2 := Lib.hid hg2
              have HI2 := Lib.hid hp2
              have HE2 := Lib.hid hE
              have HMi : Hid (parM wr b l.size = l.size + 1 - a2) := parM_ok hPr _
              clear hat hPr hg2 hp2 hE
              obtain ⟨kk', rfl⟩ : ∃ kk', kk = kk' + 1 := ⟨kk - 1, by omega⟩
              have HQ := Lib.hid (fun s n => three_ok b a2 o l wr HPr.out hl ha2 s n)
              go_upto_region 6 with fail
              go_cut [35] (fun s35 wx => s35 = .bool (seesAny l a2 [42, 43, 63]) ∧ Hid (∃ n, wx = wr.drewN n))
              case first =>
                have HQ0 := Lib.hid (HQ.out 42 0)
                cases h1 : sees l a2 42 with
                | true =>
                  have e := any_of_sees (.inl h1)
                  have HEE := Lib.hid e
                  rw [h1] at HQ0
                  clear h1 e
                  go_wp2_with fail
                  refine (HQ0.out).mono ?_
                  rintro e w3 ⟨rfl, x3, rfl⟩
                  go_wp2_with fail
                  go_meet
                  exact ⟨by rw [HEE.out], _, rfl⟩
                | false =>
                  rw [h1] at HQ0
                  cases h2 : sees l a2 43 with
                  | true =>
                    have e := any_of_sees (.inr (.inl h2))
                    have HEE := Lib.hid e
                    have HQ1 := Lib.hid (fun n => HQ.out 43 n)
                    rw [h2] at HQ1
                    clear h1 h2 e
                    go_wp2_with fail
                    refine (HQ0.out).mono ?_
                    rintro e w3 ⟨rfl, x3, rfl⟩
                    go_wp2_with fail
                    refine (HQ1.out x3).mono ?_
                    rintro e w4 ⟨rfl, x4, rfl⟩
                    go_wp2_with fail
                    go_meet
                    exact ⟨by rw [HEE.out], _, rfl⟩
                  | false =>
                    have HQ1 := Lib.hid (fun n => HQ.out 43 n)
                    have HQ2 := Lib.hid (fun n => HQ.out 63 n)
                    rw [h2] at HQ1
                    cases h3 : sees l a2 63 with
                    | true =>
                      have e := any_of_sees (.inr (.inr h3))
                      have HEE := Lib.hid e
                      rw [h3] at HQ2
                      clear h1 h2 h3 e
                      go_wp2_with fail
                      refine (HQ0.out).mono ?_
                      rintro e w3 ⟨rfl, x3, rfl⟩
                      go_wp2_with fail
                      refine (HQ1.out x3).mono ?_
                      rintro e w4 ⟨rfl, x4, rfl⟩
                      go_wp2_with fail
                      refine (HQ2.out x4).mono ?_
                      rintro e w5 ⟨rfl, x5, rfl⟩
                      go_wp2_with fail
                      go_meet
                      exact ⟨by rw [HEE.out], _, rfl⟩
                    | false =>
                      have e := any_not h1 h2 h3
                      have HEE := Lib.hid e
                      rw [h3] at HQ2
                      clear h1 h2 h3 e
                      go_wp2_with fail
                      refine (HQ0.out).mono ?_
                      rintro e w3 ⟨rfl, x3, rfl⟩
                      go_wp2_with fail
                      refine (HQ1.out x3).mono ?_
                      rintro e w4 ⟨rfl, x4, rfl⟩
                      go_wp2_with fail
                      refine (HQ2.out x4).mono ?_
                      rintro e w5 ⟨rfl, x5, rfl⟩
                      go_wp2_with fail
                      go_meet
                      exact ⟨by rw [HEE.out], _, rfl⟩
              case rest =>
                obtain ⟨rfl, hwx⟩ := hcut
                obtain ⟨x3, rfl⟩ := hwx.out
                have HPd := Lib.hid (HPr.out.drewN x3)
                have HBd := Lib.hid (HBr.out.drewN x3)
                clear hwx HPr HBr HQ
                generalize wr.drewN x3 = Wx at *
                cases hs : seesAny l a2 [42, 43, 63] with
                | true =>
                  have hlt2 := seesAny_lt hs
                  have HE3 := Lib.hid (HE2.out.trans (repL_next hs))
                  have HG3 := Lib.hid (HG2.out.rep HI2.out (by_ l a2))
                  clear hs HE2
                  obtain ⟨⟨vk, vA, vq, vc, vB, vq', vc', bN⟩, _⟩ := HBd.out
                  have BN := Lib.hid bN
                  clear bN
                  have g0 : (0 : Int) ≤ (a2 : Int) := by omega
                  have g1 : (a2 : Int) < (l.size : Int) := by omega
                  obtain ⟨ch, hch⟩ : ∃ ch, l[a2].toNat = ch := ⟨_, rfl⟩
                  obtain ⟨c0, c1, c2, c3⟩ := HPd.out.cells
                  obtain ⟨n0, n1, n2⟩ := cells3 BN.out
                  obtain ⟨t0, t1, t2⟩ := frozen3 BN.out
                  have h6x : j6 < Wx.heap.size := BN.out.lt
                  have HB7 := Lib.hid (HBd.out.node2 h6 h26 h36 HK6.out (.cells #[.int .u8 vk, .slice vA vq vc, .slice vB vq' vc'] 30) ch none 0 0 (some ⟨Wx.heap.size, 0, none⟩) 1 1)
                  have HP7 := Lib.hid (Par.alloc (Blk.set3_other (j := j6) HPd.out (by omega) (.int .u8 ch) (.slice none 0 0) (.slice (some ⟨Wx.heap.size, 0, none⟩) 1 1)) (.cells #[.int .u8 vk, .slice vA vq vc, .slice vB vq' vc'] 30))
                  obtain ⟨d0, d1, d2, d3⟩ := (Par.alloc HPd.out (.cells #[.int .u8 vk, .slice vA vq vc, .slice vB vq' vc'] 30)).cells
                  obtain ⟨e0, e1, e2⟩ := cells3 (BN.out.alloc (.cells #[.int .u8 vk, .slice vA vq vc, .slice vB vq' vc'] 30))
                  unfold put3 at HB7 HP7
                  go_upto_region 7 with fail
                  go_cut [] (fun wx => ∃ W7 : World, W7 = wx ∧ Hid (Bd w b w.heap.size (w.heap.size + 1) j6 44 K n xs W7) ∧ Hid (Par W7 b l a2 o 0))
                  case first =>
                    go_region
                    all_goals
                      generalize World.alloc (World.setCell _ ⟨j6, 2, none⟩ _) _ = W8 at *
                      go_wp2_with fail
                      go_meet
                      exact ⟨_, rfl, (by exact HB7.out.drewN 1), (by exact HP7.out)⟩
                  case rest =>
                    obtain ⟨W7, rfl, HB8, HP8⟩ := hcut
                    clear HB7 HP7 HPd HBd BN c0 c1 c2 c3 n0 n1 n2 t0 t1 t2 d0 d1 d2 d3 e0 e1 e2
                    have c1 := HP8.out.cells.2.1
                    have f1 := Blk.frozen HP8.out 1
                    have HP9 := Lib.hid (HP8.out.at_ (a2 + 1) (.int .i64 ((a2 : Int) + 1)) (by rfl))
                    have HB9 := Lib.hid (HB8.out.at_ hbl (Nat.le_refl _) (by omega) h6 1 (.int .i64 ((a2 : Int) + 1)))
                    have HM9 : Hid (parM (W7.setCell ⟨b, 1, none⟩ (.int .i64 ((a2 : Int) + 1))) b l.size = l.size + 1 - (a2 + 1)) := parM_ok HP9.out _
                    go_wp2
                    go_roundw
                    case rel => exact ⟨HB9, .inl ⟨kk', a2 + 1, _, _, by omega, by omega, by omega, HP9.out, HG3.out.1, by rw [HG3.out.2.2]; exact HG3.out.2.1, by rw [HG3.out.2.2]; exact hmm, HE3.out⟩⟩
                    case measure => rw [HM9.out, HMi.out]; omega
                | false =>
                  have HE3 := Lib.hid (HE2.out.trans (repL_stop hs))
                  have HGC := Lib.hid (HG2.out.chain (HIr.out.mono hmm) HI2.out)
                  have HEC := Lib.hid (HEr.out.trans (catL_ok hlt1 hnot HE3.out))
                  have HPx := HPd
                  have HBx := HBd
                  clear hs HE2 HE3 HPd HBd
                  obtain ⟨⟨vk, vA, vq, vc, vB, vq', vc', bN⟩, b3, bO, b2, bG⟩ := HBx.out
                  have BN := Lib.hid bN
                  have B3 := Lib.hid b3
                  have BO := Lib.hid bO
                  have B2 := Lib.hid b2
                  have BG := Lib.hid bG
                  clear bN b3 bO b2 bG HBx
                  have h3x : w.heap.size + 1 < Wx.heap.size := B3.out.lt
                  obtain ⟨KA, Kc, hK⟩ := own_shape BO.out
                  subst hK
                  have HOA := Lib.hid (own_below BO.out ((Below.refl _ _).alloc (Nat.le_refl _) (.cells #[.int .u8 vk, .slice vA vq vc, .slice vB vq' vc'] 30)))
                  have B3A := Lib.hid (B3.out.alloc (.cells #[.int .u8 vk, .slice vA vq vc, .slice vB vq' vc'] 30))
                  have B2A := Lib.hid (B2.out.alloc (.cells #[.int .u8 vk, .slice vA vq vc, .slice vB vq' vc'] 30))
                  have BGA := Lib.hid (gr_alloc BG.out (.cells #[.int .u8 vk, .slice vA vq vc, .slice vB vq' vc'] 30))
                  have HPA := Lib.hid (Par.alloc HPx.out (.cells #[.int .u8 vk, .slice vA vq vc, .slice vB vq' vc'] 30))
                  have HTR := Lib.hid (triple_at Wx (.int .u8 vk) (.slice vA vq vc) (.slice vB vq' vc') Wx.heap.size rfl 30)
                  have HBs : Hid (w.heap.size + 1 + 1 ≤ (Wx.alloc (.cells #[.int .u8 vk, .slice vA vq vc, .slice vB vq' vc'] 30)).heap.size) := by show _ ≤ _; simp; omega
                  obtain ⟨n0, n1, n2⟩ := cells3 BN.out
                  obtain ⟨k0, k1, k2⟩ := cells3 B3.out
                  obtain ⟨q0, q1, q2⟩ := cells3 B3A.out
                  go_wp2_with (at_builtin; refine wpList_append_own _ rfl _ _ 28 rfl (w.heap.size + 1 + 1) 30 i0 _ 3 56 Tryd.underlying28 hi0 hz0 hz1 hz2 rfl (by decide) _ _ _ rfl HOA.out _ 1 1 [.int .u8 vk, .slice vA vq vc, .slice vB vq' vc'] rfl rfl ?c1 ?c2 ?c3 ?c4 ?c5 ?_)
                  case c1 => exact HTR.out
                  case c2 => intro u hu; simp at hu; rcases hu with rfl | rfl | rfl <;> rfl
                  case c3 => unfold maxLen; omega
                  case c4 => omega
                  case c5 => exact HBs.out
                  intro v' w' hown hgr hnil
                  obtain ⟨KA2, Kc2, hv2⟩ := own_shape hown
                  subst hv2
                  have HOW := Lib.hid hown
                  have B3W := Lib.hid (B3A.out.grown hgr (own_far HOA.out (by omega)))
                  have B2W := Lib.hid (B2A.out.grown hgr (own_far HOA.out (by omega)))
                  have BGW := Lib.hid (gr_own BGA.out HOA.out hgr (by omega))
                  have HPW := Lib.hid (Blk.grown HPA.out hgr (own_far HOA.out (by omega)))
                  clear hown hgr hnil BO B3 B2 BG HOA B3A B2A BGA HPA HPx HTR
                  obtain ⟨s0, s1, s2⟩ := cells3 B3W.out
                  obtain ⟨t0, t1, t2⟩ := frozen3 B3W.out
                  have B3S := Lib.hid (B3W.out.set_ 2 (Value.slice KA2 (n + 1) Kc2))
                  have HOS := Lib.hid (own_ne HOW.out (own_far HOW.out (show w.heap.size + 1 < w.heap.size + 1 + 1 by omega)) 2 (Value.slice KA2 (n + 1) Kc2))
                  have B2S := Lib.hid (B2W.out.other (k := w.heap.size + 1) (by omega) 2 (Value.slice KA2 (n + 1) Kc2))
                  have BGS := Lib.hid (gr_set_new BGW.out (show w.heap.size ≤ w.heap.size + 1 by omega) 2 (Value.slice KA2 (n + 1) Kc2))
                  have HPS := Lib.hid (Blk.other HPW.out (k := w.heap.size + 1) (by omega) 2 (Value.slice KA2 (n + 1) Kc2))
                  have HMS : Hid (parM (w'.setCell ⟨w.heap.size + 1, 2, none⟩ (Value.slice KA2 (n + 1) Kc2)) b l.size = l.size + 1 - a2) := parM_ok HPS.out _
                  go_wp2
                  go_roundw
                  case rel => exact ⟨(Value.slice KA2 (n + 1) Kc2), n + 1, _, B3S.out, HOS.out, B2S.out, BGS.out, .inl ⟨k, a2, _, _, by omega, ha2, by omega, HPS.out, HGC.out.1, HGC.out.2, HEC.out⟩⟩
                  case measure => rw [HMS.out, HMr.out]; split <;> omega

            · have HPr := Lib.hid hPr
              have HEC := Lib.hid (HEr.out.trans (catL_bad hlt1 hnot hE))
              clear hat hPr hE
              have HQ := Lib.hid (fun s n => three_bad b pl o c l wr HPr.out hc s n)
              go_wp2_with fail
              refine (HQ.out 42 0).mono ?_
              rintro e w3 ⟨rfl, x3, rfl⟩
              go_wp2_with fail
              refine (HQ.out 43 x3).mono ?_
              rintro e w4 ⟨rfl, x4, rfl⟩
              go_wp2_with fail
              refine (HQ.out 63 x4).mono ?_
              rintro e w5 ⟨rfl, x5, rfl⟩
              have HPx := Lib.hid (HPr.out.drewN x5)
              have HBx := Lib.hid (HBr.out.drewN x5)
              clear HPr HBr HQ
              generalize wr.drewN x5 = Wx at *
              obtain ⟨⟨vk, vA, vq, vc, vB, vq', vc', bN⟩, b3, bO, b2, bG⟩ := HBx.out
              have BN := Lib.hid bN
              have B3 := Lib.hid b3
              have BO := Lib.hid bO
              have B2 := Lib.hid b2
              have BG := Lib.hid bG
              clear bN b3 bO b2 bG HBx
              have h3x : w.heap.size + 1 < Wx.heap.size := B3.out.lt
              obtain ⟨KA, Kc, hK⟩ := own_shape BO.out
              subst hK
              have HOA := Lib.hid (own_below BO.out ((Below.refl _ _).alloc (Nat.le_refl _) (.cells #[.int .u8 vk, .slice vA vq vc, .slice vB vq' vc'] 30)))
              have B3A := Lib.hid (B3.out.alloc (.cells #[.int .u8 vk, .slice vA vq vc, .slice vB vq' vc'] 30))
              have B2A := Lib.hid (B2.out.alloc (.cells #[.int .u8 vk, .slice vA vq vc, .slice vB vq' vc'] 30))
              have BGA := Lib.hid (gr_alloc BG.out (.cells #[.int .u8 vk, .slice vA vq vc, .slice vB vq' vc'] 30))
              have HPA := Lib.hid (Par.alloc HPx.out (.cells #[.int .u8 vk, .slice vA vq vc, .slice vB vq' vc'] 30))
              have HTR := Lib.hid (triple_at Wx (.int .u8 vk) (.slice vA vq vc) (.slice vB vq' vc') Wx.heap.size rfl 30)
              have HBs : Hid (w.heap.size + 1 + 1 ≤ (Wx.alloc (.cells #[.int .u8 vk, .slice vA vq vc, .slice vB vq' vc'] 30)).heap.size) := by show _ ≤ _; simp; omega
              obtain ⟨n0, n1, n2⟩ := cells3 BN.out
              obtain ⟨k0, k1, k2⟩ := cells3 B3.out
              obtain ⟨q0, q1, q2⟩ := cells3 B3A.out
              go_wp2_with (at_builtin; refine wpList_append_own _ rfl _ _ 28 rfl (w.heap.size + 1 + 1) 30 i0 _ 3 56 Tryd.underlying28 hi0 hz0 hz1 hz2 rfl (by decide) _ _ _ rfl HOA.out _ 1 1 [.int .u8 vk, .slice vA vq vc, .slice vB vq' vc'] rfl rfl ?c1 ?c2 ?c3 ?c4 ?c5 ?_)
              case c1 => exact HTR.out
              case c2 => intro u hu; simp at hu; rcases hu with rfl | rfl | rfl <;> rfl
              case c3 => unfold maxLen; omega
              case c4 => omega
              case c5 => exact HBs.out
              intro v' w' hown hgr hnil
              obtain ⟨KA2, Kc2, hv2⟩ := own_shape hown
              subst hv2
              have HOW := Lib.hid hown
              have B3W := Lib.hid (B3A.out.grown hgr (own_far HOA.out (by omega)))
              have B2W := Lib.hid (B2A.out.grown hgr (own_far HOA.out (by omega)))
              have BGW := Lib.hid (gr_own BGA.out HOA.out hgr (by omega))
              have HPW := Lib.hid (Blk.grown HPA.out hgr (own_far HOA.out (by omega)))
              clear hown hgr hnil BO B3 B2 BG HOA B3A B2A BGA HPA HPx HTR
              obtain ⟨s0, s1, s2⟩ := cells3 B3W.out
              obtain ⟨t0, t1, t2⟩ := frozen3 B3W.out
              have B3S := Lib.hid (B3W.out.set_ 2 (Value.slice KA2 (n + 1) Kc2))
              have HOS := Lib.hid (own_ne HOW.out (own_far HOW.out (show w.heap.size + 1 < w.heap.size + 1 + 1 by omega)) 2 (Value.slice KA2 (n + 1) Kc2))
              have B2S := Lib.hid (B2W.out.other (k := w.heap.size + 1) (by omega) 2 (Value.slice KA2 (n + 1) Kc2))
              have BGS := Lib.hid (gr_set_new BGW.out (show w.heap.size ≤ w.heap.size + 1 by omega) 2 (Value.slice KA2 (n + 1) Kc2))
              have HPS := Lib.hid (Blk.other HPW.out (k := w.heap.size + 1) (by omega) 2 (Value.slice KA2 (n + 1) Kc2))
              have HMS : Hid (parM (w'.setCell ⟨w.heap.size + 1, 2, none⟩ (Value.slice KA2 (n + 1) Kc2)) b l.size = 0) := parM_bad HPS.out hc _
              go_wp2
              go_roundw
              case rel => exact ⟨(Value.slice KA2 (n + 1) Kc2), n + 1, _, B3S.out, HOS.out, B2S.out, BGS.out, .inr ⟨pl, c, HPS.out, hc, by omega, HEC.out⟩⟩
              case measure => rw [HMS.out, HMr.out]; split <;> omega

      · obtain rfl : a' = l.size := by omega
        have HK := Lib.hid (peek_out b o l wr HPr.out hl)
        have HX := Lib.hid (HEq.out.trans (catL_stop (by omega)))
        obtain ⟨KA, Kc, rfl⟩ := own_shape HOr.out
        clear HEq
        go_wp2_with fail
        refine (HK.out).mono ?_
        rintro e w3 ⟨rfl, x3, rfl⟩
        have HP3 := Lib.hid (HPr.out.drewN x3)
        have B33 := Lib.hid (H3r.out.drewN x3)
        have B23 := Lib.hid (H2r.out.drewN x3)
        have HG3 := Lib.hid (gr_drewN HGr.out x3)
        generalize wr.drewN x3 = W3 at *
        clear HPr H3r H2r HGr HK HOr
        obtain ⟨n0, n1, n2⟩ := cells3 B33.out
        obtain ⟨r0, r1, r2⟩ := cells3 B23.out
        obtain ⟨z0, z1, z2⟩ := frozen3 B23.out
        go_wp2
        exact bodyPost_ret (v := ndV 44 none 0 0 KA n Kc) (by simp [results, Tryd.results41, go_sem, r0, r1, r2]) rfl (rn_ok HX.out (nd_mk _ _ _ _ _ _ _) (gr_set3 HG3.out (Nat.le_refl _) _ _ _) (Blk.set3_other HP3.out (by omega) _ _ _))

    · have HPr := Lib.hid hPr
      have HX := Lib.hid hE
      have HK := Lib.hid (peek_bad b pl o c l wr hPr hc)
      obtain ⟨KA, Kc, rfl⟩ := own_shape HOr.out
      clear hPr hE
      go_wp2_with fail
      refine (HK.out).mono ?_
      rintro e w3 ⟨rfl, x3, rfl⟩
      have HP3 := Lib.hid (HPr.out.drewN x3)
      have B33 := Lib.hid (H3r.out.drewN x3)
      have B23 := Lib.hid (H2r.out.drewN x3)
      have HG3 := Lib.hid (gr_drewN HGr.out x3)
      generalize wr.drewN x3 = W3 at *
      clear HPr H3r H2r HGr HK HOr
      obtain ⟨n0, n1, n2⟩ := cells3 B33.out
      obtain ⟨r0, r1, r2⟩ := cells3 B23.out
      obtain ⟨z0, z1, z2⟩ := frozen3 B23.out
      go_wp2
      exact bodyPost_ret (v := ndV 44 none 0 0 KA n Kc) (by simp [results, Tryd.results41, go_sem, r0, r1, r2]) rfl (rn_bad HX.out (nd_mk _ _ _ _ _ _ _) (gr_set3 HG3.out (Nat.le_refl _) _ _ _) (Blk.set3_other HP3.out (by omega) _ _ _) hc)

end Go.Proofs.YtahphjaelpgjdaaDoor

namespace Go.Proofs.YtahphjaelpgjdaaDoor
open Go.RowKit Rx
set_option linter.unusedVariables false

/-- where an alternative's loop stands -/
def AltAt (b : Nat) (l : ByteArray) (o d n : Nat) (target : Res) (wr : World) : Prop :=
  (∃ (k a2 : Nat) (m2 : Mach) (p2 : Pc), l.size < k + a2 ∧ a2 ≤ l.size ∧ n ≤ a2 + 1 ∧ Par wr b l a2 o 0 ∧ Rx.Good m2 ∧ PcIn m2.takes.length p2 ∧ target = altL l (grpF l d) k a2 m2 p2) ∨
  (∃ pl c : Nat, Par wr b l pl o c ∧ (c = 2 ∨ c = 12) ∧ n ≤ l.size + 2 ∧ target = .bad pl c)
def AltS (w : World) (b j2 j3 : Nat) (l : ByteArray) (o d : Nat) (target : Res) (wr : World) : Prop :=
  ∃ (K : Value) (n : Nat) (xs : List Value), Blk wr j3 30 (rwC 124 K) ∧ wr.ownsRow (w.heap.size + 1) 30 3 K n xs ∧ Blk wr j2 30 zero3 ∧ w.grownBy wr (some b) ∧ K.ownBlock ≠ some j3 ∧ AltAt b l o d n target wr
theorem altL_stop {l : ByteArray} {grp : Nat → Mach → Res} {k a : Nat} {m : Mach} {p : Pc} (h : sees l a 124 = false) : altL l grp (k + 1) a m p = .ok a m p := by
  conv => lhs; unfold altL
  rw [if_neg (by rw [h]; simp)]
theorem altL_bad {l : ByteArray} {grp : Nat → Mach → Res} {k a pl c : Nat} {m : Mach} {p : Pc} (h : sees l a 124 = true) (h3 : catF l grp (a + 1) m = .bad pl c) : altL l grp (k + 1) a m p = .bad pl c := by
  conv => lhs; unfold altL
  rw [if_pos h, h3]
theorem altL_ok {l : ByteArray} {grp : Nat → Mach → Res} {k a a1 : Nat} {m m1 : Mach} {p q : Pc} (h : sees l a 124 = true) (h3 : catF l grp (a + 1) m = .ok a1 m1 q) : altL l grp (k + 1) a m p = altL l grp k a1 m1 (eitherP p q) := by
  conv => lhs; unfold altL
  rw [if_pos h, h3]
theorem own_one {w : World} {base g : Nat} {x0 x1 x2 : Value} (h : Blk w g 30 #[x0, x1, x2]) (hb : base ≤ g) : w.ownsRow base 30 3 (.slice (some ⟨g, 0, none⟩) 1 1) 1 [x0, x1, x2] :=
  ⟨rfl, .inr ⟨g, 1, _, rfl, hb, h, Nat.le_refl _, by unfold maxLen; omega, rfl, rfl⟩⟩
set_option maxRecDepth 100000 in
set_option maxHeartbeats 16000000 in
theorem refalt_any (b a o d : Nat) (l : ByteArray) (m : Mach) (w : World) (hA : ∀ d', d = d' + 1 → RA b l (o + 1) d') (hod : o + d = 32) (hm : Rx.Good m) (hp : Par w b l a o 0) (hl : l.size ≤ 200) (ha : a ≤ l.size) :
    Calls Tryd.prog 22 #[.pointer (some ⟨b, 0, none⟩)] w (RN b l o w (altF l (grpF l d) a m)) := by
  have hbl : b < w.heap.size := Blk.lt hp
  obtain ⟨i0, hi0, hz0, hz1, hz2⟩ := info_parts node_info
  have HRO := Lib.hid (fun (a' : Nat) (m' : Mach) (W : World) hgm hW hle => refrow_any b a' o d l m' W hA hod hgm hW hl hle)
  have HCF := Lib.hid (fun (a' : Nat) (m' : Mach) (h1 : a' ≤ l.size) (h2 : Rx.Good m') => cat_fine (grp_fine l d) h1 h2)
  have HAF : Hid (∀ r, catF l (grpF l d) a m = r → altF l (grpF l d) a m = match r with | .bad pl c => .bad pl c | .ok a1 m1 p => altL l (grpF l d) (l.size + 1) a1 m1 p) := fun r h => by
    subst h; unfold altF; cases catF l (grpF l d) a m <;> rfl
  have HP := Lib.hid (hp.alloc (.cells zero3 30))
  have B2 := Lib.hid (Blk.new w 30 zero3)
  have HG := Lib.hid (gr_alloc (gr_refl w (some b)) (.cells zero3 30))
  have HGM := Lib.hid hm
  have HR1 := Lib.hid (HRO.out a m _ hm HP.out ha)
  have HC1 := Lib.hid (HCF.out a m ha hm)
  clear hp hA hm
  go_enter Tryd.func22, Tryd.ntmps22
  go_upto_region 1 with fail
  generalize hW : w.alloc (.cells zero3 30) = W at *
  have hWs : w.heap.size < W.heap.size := B2.out.lt
  clear hW
  go_wp2_with fail
  refine (HR1.out).mono ?_
  rintro e W1 hrn
  obtain ⟨nk, nA, nn, nc, nB, nn', nc', rfl⟩ := hrn.shape
  obtain ⟨hv1, hg1, hres⟩ := hrn
  have B21 := Lib.hid (B2.out.grown hg1 (by intro e; injection e; omega))
  have HG1 := Lib.hid (gr_trans HG.out hg1)
  have hW1 : w.heap.size < W1.heap.size := B21.out.lt
  have hj2 : w.heap.size + 1 ≤ W1.heap.size := hW1
  have N1 := Lib.hid ((Blk.new W1 30 #[.int .u8 nk, .slice nA nn nc, .slice nB nn' nc']).alloc (.cells (rwC 124 (.slice (some ⟨W1.heap.size, 0, none⟩) 1 1)) 30))
  have O1 := Lib.hid (own_one N1.out hj2)
  have B31 : Hid (Blk ((W1.alloc (.cells #[.int .u8 nk, .slice nA nn nc, .slice nB nn' nc'] 30)).alloc (.cells (rwC 124 (.slice (some ⟨W1.heap.size, 0, none⟩) 1 1)) 30)) (W1.heap.size + 1) 30 (rwC 124 (.slice (some ⟨W1.heap.size, 0, none⟩) 1 1))) := by
    have := Blk.new (W1.alloc (.cells #[.int .u8 nk, .slice nA nn nc, .slice nB nn' nc'] 30)) 30 (rwC 124 (.slice (some ⟨W1.heap.size, 0, none⟩) 1 1))
    rw [World.size_alloc] at this
    exact this
  have B22 := Lib.hid ((B21.out.alloc (.cells #[.int .u8 nk, .slice nA nn nc, .slice nB nn' nc'] 30)).alloc (.cells (rwC 124 (.slice (some ⟨W1.heap.size, 0, none⟩) 1 1)) 30))
  have HG2 := Lib.hid (gr_alloc (gr_alloc HG1.out (.cells #[.int .u8 nk, .slice nA nn nc, .slice nB nn' nc'] 30)) (.cells (rwC 124 (.slice (some ⟨W1.heap.size, 0, none⟩) 1 1)) 30))
  have HAT : Hid (AltAt b l o d 1 (altF l (grpF l d) a m) ((W1.alloc (.cells #[.int .u8 nk, .slice nA nn nc, .slice nB nn' nc'] 30)).alloc (.cells (rwC 124 (.slice (some ⟨W1.heap.size, 0, none⟩) 1 1)) 30))) := by
    show AltAt _ _ _ _ _ _ _
    cases hr : catF l (grpF l d) a m with
    | bad pl c =>
      rw [hr] at hres
      exact .inr ⟨pl, c, Par.alloc (Par.alloc hres.1 _) _, hres.2, by omega, HAF.out _ hr⟩
    | ok a1 m1 p1 =>
      rw [hr] at hres
      obtain ⟨f1, f2, f3, f4, f5, f6⟩ := HC1.out a1 m1 p1 hr
      exact .inl ⟨l.size + 1, a1, m1, p1, by omega, f2, by omega, Par.alloc (Par.alloc hres _) _, f3, f4, HAF.out _ hr⟩
  clear hv1 hg1 hres B21 HG1 B2 HG HP HAF HC1 HR1 HGM N1
  go_wp2_with fail
  have HJ := Lib.hid hj2
  generalize hj3 : W1.heap.size = j3 at *
  generalize (W1.alloc (.cells _ 30)).alloc (.cells _ 30) = W2 at *
  clear hj3
  go_loopw [8] (fun s8 wr => Hid (AltS w b w.heap.size (j3 + 1) l o d (altF l (grpF l d) a m) wr)) (fun s8 wr => parM wr b l.size)
  case atStart => exact ⟨_, 1, _, B31.out, O1.out, B22.out, HG2.out, (by intro e; injection e with e; dsimp only at e; omega), HAT.out⟩
  case round =>
    obtain ⟨K, n, xs, h3r, hor, h2r, hgr, hk3, hat⟩ := hrel.out
    have H3r := Lib.hid h3r
    have HOr := Lib.hid hor
    have H2r := Lib.hid h2r
    have HGr := Lib.hid hgr
    have HK3 := Lib.hid hk3
    clear hrel h3r hor h2r hgr hk3 B31 O1 B22 HG2 HAT
    obtain ⟨KA, Kc, rfl⟩ := own_shape HOr.out
    rcases hat with ⟨k, a', m', p', hk, ha', hn, hPr, hgm, hpi, hE⟩ | ⟨pl, c, hPr, hc, hn, hE⟩
    · have HPr := Lib.hid hPr
      have HGm := Lib.hid hgm
      have HIr := Lib.hid hpi
      have HEq := Lib.hid hE
      have HMr : Hid (parM wr b l.size = l.size + 1 - a') := parM_ok hPr _
      clear hPr hgm hpi hE
      obtain ⟨k, rfl⟩ : ∃ k', k = k' + 1 := ⟨k - 1, by omega⟩
      cases hs : sees l a' 124 with
      | false =>
        have HS := Lib.hid (is_any b a' o 124 l false hs wr HPr.out hl ha')
        have HX := Lib.hid (HEq.out.trans (altL_stop hs))
        clear hs HEq
        go_wp2_with fail
        refine (HS.out).mono ?_
        rintro e w3 ⟨rfl, x3, rfl⟩
        have HP3 := Lib.hid (HPr.out.drewN x3)
        have B33 := Lib.hid (H3r.out.drewN x3)
        have B23 := Lib.hid (H2r.out.drewN x3)
        have HG3 := Lib.hid (gr_drewN HGr.out x3)
        generalize wr.drewN x3 = W3 at *
        clear HPr H3r H2r HGr HS HOr
        obtain ⟨n0, n1, n2⟩ := cells3 B33.out
        obtain ⟨r0, r1, r2⟩ := cells3 B23.out
        obtain ⟨z0, z1, z2⟩ := frozen3 B23.out
        go_wp2
        exact bodyPost_ret (v := ndV 124 none 0 0 KA n Kc) (by simp [results, Tryd.results22, go_sem, r0, r1, r2]) rfl (rn_ok HX.out (nd_mk _ _ _ _ _ _ _) (gr_set3 HG3.out (Nat.le_refl _) _ _ _) (Blk.set3_other HP3.out (by omega) _ _ _))
      | true =>
        have HS := Lib.hid (is_any b a' o 124 l true hs wr HPr.out hl ha')
        have hlt1 := sees_lt hs
        have HR2 := Lib.hid (fun W hW => HRO.out (a' + 1) m' W HGm.out hW hlt1)
        have HC2 := Lib.hid (HCF.out (a' + 1) m' hlt1 HGm.out)
        have HSE := Lib.hid hs
        clear hs HRO HCF
        go_wp2_with fail
        refine (HS.out).mono ?_
        rintro e w3 ⟨rfl, x3, rfl⟩
        have HP3 := Lib.hid (HPr.out.drewN x3)
        have B33 := Lib.hid (H3r.out.drewN x3)
        have B23 := Lib.hid (H2r.out.drewN x3)
        have HG3 := Lib.hid (gr_drewN HGr.out x3)
        have HO3 : Hid ((wr.drewN x3).ownsRow (w.heap.size + 1) 30 3 (.slice KA n Kc) n xs) := HOr.out
        generalize wr.drewN x3 = W3 at *
        clear HPr H3r H2r HGr HS HOr
        have c1 := HP3.out.cells.2.1
        have f1 := Blk.frozen HP3.out 1
        go_upto_region 4 with fail
        have HP4 := Lib.hid (HP3.out.at_ (a' + 1) (.int .i64 ((a' : Int) + 1)) (by rfl))
        have B34 := Lib.hid (B33.out.other (k := b) (by omega) 1 (.int .i64 ((a' : Int) + 1)))
        have B24 := Lib.hid (B23.out.other (k := b) (by omega) 1 (.int .i64 ((a' : Int) + 1)))
        have HG4 := Lib.hid (gr_set HG3.out 1 (.int .i64 ((a' : Int) + 1)))
        have HO4 := Lib.hid (own_ne HO3.out (own_far HO3.out (show b < w.heap.size + 1 by omega)) 1 (.int .i64 ((a' : Int) + 1)))
        generalize W3.setCell ⟨b, 1, none⟩ (.int .i64 ((a' : Int) + 1)) = W4 at *
        clear HP3 B33 B23 HG3 HO3 c1 f1
        have HPd : Hid (Par W4.drew b l (a' + 1) o 0) := HP4.out
        have HR3 := Lib.hid (HR2.out W4.drew HPd.out)
        have B3d : Hid (Blk W4.drew (j3 + 1) 30 (rwC 124 (.slice KA n Kc))) := B34.out
        have B2d : Hid (Blk W4.drew w.heap.size 30 zero3) := B24.out
        have HGd : Hid (w.grownBy W4.drew (some b)) := gr_drew HG4.out
        have HOd : Hid (W4.drew.ownsRow (w.heap.size + 1) 30 3 (.slice KA n Kc) n xs) := HO4.out
        have hj3b : j3 + 1 < W4.drew.heap.size := B3d.out.lt
        have hj31 : w.heap.size + 1 ≤ j3 := HJ.out
        have hn2 : n ≤ 202 := by omega
        have HB1 : Hid (n + 1 ≤ maxLen) := by show n + 1 ≤ maxLen; unfold maxLen; omega
        have hb2 : (n + 1) * 56 ≤ 140737488355328 := by omega
        obtain ⟨k0, k1, k2⟩ := cells3 B34.out
        obtain ⟨t0, t1, t2⟩ := frozen3 B34.out
        clear HR2 HP4 B24 HG4 HO4
        refine wp_region_noPanic ?_
        go_region_law
          (first
            | (go_simp; go_at_call 41; refine (HR3.out).mono ?_; rintro e W5 hrn
               obtain ⟨nk, nA, nn, nc, nB, nn', nc', rfl⟩ := hrn.shape
               have HRN := Lib.hid hrn.2.2
               have B35 := Lib.hid (B3d.out.grown hrn.2.1 (by intro e; injection e; omega))
               have B25 := Lib.hid (B2d.out.grown hrn.2.1 (by intro e; injection e; omega))
               have HG5 := Lib.hid (gr_trans HGd.out hrn.2.1)
               have HO5 := Lib.hid (own_grown HOd.out hrn.2.1 (own_far HOd.out (show b < w.heap.size + 1 by omega)))
               have h35 : j3 + 1 < W5.heap.size := B35.out.lt
               have B36 := Lib.hid (B35.out.alloc (.cells #[.int .u8 nk, .slice nA nn nc, .slice nB nn' nc'] 30))
               have B26 := Lib.hid (B25.out.alloc (.cells #[.int .u8 nk, .slice nA nn nc, .slice nB nn' nc'] 30))
               have HG6 := Lib.hid (gr_alloc HG5.out (.cells #[.int .u8 nk, .slice nA nn nc, .slice nB nn' nc'] 30))
               have HO6 := Lib.hid (own_below HO5.out ((Below.refl _ _).alloc (Nat.le_refl _) (.cells #[.int .u8 nk, .slice nA nn nc, .slice nB nn' nc'] 30)))
               have HTR := Lib.hid (triple_at W5 (.int .u8 nk) (.slice nA nn nc) (.slice nB nn' nc') W5.heap.size rfl 30)
               obtain ⟨q0, q1, q2⟩ := cells3 B35.out
               obtain ⟨y0, y1, y2⟩ := cells3 B36.out
               clear hrn)
            | (refine step_append_lies _ (by rfl) (.tmp 18) (.tmp 21) 28 (by rfl) (w.heap.size + 1) 30 i0 _ 3 56 Tryd.underlying28 hi0 hz0 hz1 hz2 rfl (by decide) (.slice KA n Kc) n xs (by rfl) HO6.out ⟨W5.heap.size, 0, none⟩ 1 1 [.int .u8 nk, .slice nA nn nc, .slice nB nn' nc'] (by rfl) (by rfl) HTR.out (by intro u hu; simp at hu; rcases hu with rfl | rfl | rfl <;> rfl) (by decide) HB1.out hb2 (by simp; omega) (W5.heap.size + 1) (by simp) ?_
               intro g cap w7 hown hgrow hat hlt
               have HO7 := Lib.hid hown
               have B37 := Lib.hid (B36.out.grown hgrow HK3.out)
               have B27 := Lib.hid (B26.out.grown hgrow (own_far HO6.out (by omega)))
               have HG7 := Lib.hid (gr_own HG6.out HO6.out hgrow (by omega))
               have HGW := Lib.hid hgrow
               have HK7 : Hid ((Value.slice (some ⟨g, 0, none⟩) (n + 1) cap).ownBlock ≠ some (j3 + 1)) := by
                 intro e
                 injection e with e
                 rcases hat with h | h
                 · exact HK3.out (by rw [h, ← e])
                 · simp only at e; omega
               obtain ⟨z0, z1, z2⟩ := cells3 B37.out
               obtain ⟨v0, v1, v2⟩ := frozen3 B37.out
               clear hown hgrow hat))
        all_goals
          refine NoPanic.normal ?_
          have B38 := Lib.hid (B37.out.set_ 2 (.slice (some ⟨g, 0, none⟩) (n + 1) cap))
          have B28 := Lib.hid (B27.out.other (k := j3 + 1) (by omega) 2 (.slice (some ⟨g, 0, none⟩) (n + 1) cap))
          have HG8 := Lib.hid (gr_set_new HG7.out (show w.heap.size ≤ j3 + 1 by omega) 2 (.slice (some ⟨g, 0, none⟩) (n + 1) cap))
          have HO8 := Lib.hid (own_ne HO7.out HK7.out 2 (.slice (some ⟨g, 0, none⟩) (n + 1) cap))
          have HPT : Hid (∀ a2 c, Par W5 b l a2 o c → Par (w7.setCell ⟨j3 + 1, 2, none⟩ (.slice (some ⟨g, 0, none⟩) (n + 1) cap)) b l a2 o c) := fun a2 c h => Blk.other (Blk.grown (Par.alloc h _) HGW.out (own_far HO6.out (by omega))) (by omega) 2 _
          clear z0 z1 z2 v0 v1 v2 q0 q1 q2 y0 y1 y2 k0 k1 k2 t0 t1 t2 B37 B27 HG7 HO7 HGW B36 B26 HG6 HO6 HTR B35 B25 HG5 HO5 HR3 B3d B2d HGd HOd HPd B34
          generalize w7.setCell ⟨j3 + 1, 2, none⟩ (.slice (some ⟨g, 0, none⟩) (n + 1) cap) = W8 at *
          cases hr : catF l (grpF l d) (a' + 1) m' with
          | bad pl c =>
            have h := HRN.out
            rw [hr] at h
            have HP8 := Lib.hid (HPT.out pl c h.1)
            have hc := h.2
            have HX := Lib.hid (HEq.out.trans (altL_bad HSE.out hr))
            have HM8 : Hid (parM W8 b l.size = 0) := parM_bad HP8.out hc _
            have HM8d : Hid (parM W8.drew b l.size = 0) := parM_bad (by exact HP8.out) hc _
            clear h hr HRN HPT
            go_wp2
            go_roundw
            case rel => exact ⟨_, n + 1, _, (by exact B38.out), (by exact HO8.out), (by exact B28.out), (by first | exact HG8.out | exact gr_drew HG8.out), HK7.out, .inr ⟨pl, c, (by exact HP8.out), hc, by omega, HX.out⟩⟩
            case measure => first | (rw [HM8.out, HMr.out]; omega) | (rw [HM8d.out, HMr.out]; omega)
          | ok a2 m2 p2 =>
            have h := HRN.out
            rw [hr] at h
            have HP8 := Lib.hid (HPT.out a2 0 h)
            obtain ⟨f1, f2, f3, f4, f5, f6⟩ := HC2.out a2 m2 p2 hr
            have HX := Lib.hid (HEq.out.trans (altL_ok HSE.out hr))
            have HGG := Lib.hid f3
            have HEI := Lib.hid (either_in (HIr.out.mono f5) f4)
            have HM8 : Hid (parM W8 b l.size = l.size + 1 - a2) := parM_ok HP8.out _
            have HM8d : Hid (parM W8.drew b l.size = l.size + 1 - a2) := parM_ok (by exact HP8.out) _
            clear h hr HRN HPT f3 f4 f5 f6
            go_wp2
            go_roundw
            case rel => exact ⟨_, n + 1, _, (by exact B38.out), (by exact HO8.out), (by exact B28.out), (by first | exact HG8.out | exact gr_drew HG8.out), HK7.out, .inl ⟨k, a2, m2, _, by omega, f2, by omega, (by exact HP8.out), HGG.out, HEI.out, HX.out⟩⟩
            case measure => first | (rw [HM8.out, HMr.out]; omega) | (rw [HM8d.out, HMr.out]; omega)
    · have HPr := Lib.hid hPr
      have HX := Lib.hid hE
      have HK := Lib.hid (is_bad b pl o c 124 l wr hPr hc)
      clear hPr hE
      go_wp2_with fail
      refine (HK.out).mono ?_
      rintro e w3 ⟨rfl, x3, rfl⟩
      have HP3 := Lib.hid (HPr.out.drewN x3)
      have B33 := Lib.hid (H3r.out.drewN x3)
      have B23 := Lib.hid (H2r.out.drewN x3)
      have HG3 := Lib.hid (gr_drewN HGr.out x3)
      generalize wr.drewN x3 = W3 at *
      clear HPr H3r H2r HGr HK HOr
      obtain ⟨n0, n1, n2⟩ := cells3 B33.out
      obtain ⟨r0, r1, r2⟩ := cells3 B23.out
      obtain ⟨z0, z1, z2⟩ := frozen3 B23.out
      go_wp2
      exact bodyPost_ret (v := ndV 124 none 0 0 KA n Kc) (by simp [results, Tryd.results22, go_sem, r0, r1, r2]) rfl (rn_bad HX.out (nd_mk _ _ _ _ _ _ _) (gr_set3 HG3.out (Nat.le_refl _) _ _ _) (Blk.set3_other HP3.out (by omega) _ _ _) hc)
end Go.Proofs.YtahphjaelpgjdaaDoor

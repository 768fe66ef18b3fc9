/- The document's reader: a row of parts. Condition: a text of at most 200 bytes. -/
import Derived.Test.YtahphjaelpgjdaaDoorR8
namespace Go.Proofs.YtahphjaelpgjdaaDoor
open Go.RowKit Rx
set_option linter.unusedVariables false

set_option maxRecDepth 100000 in
set_option maxHeartbeats 16000000 in
theorem refrow_any (b a o d : Nat) (l : ByteArray) (m : Mach) (w : World) (hA : ∀ d', d = d' + 1 → RA b l (o + 1) d') (hod : o + d = 32) (hm : Rx.Good m) (hp : Par w b l a o 0) (hl : l.size ≤ 200) (ha : a ≤ l.size) :
    Calls Tryd.prog 41 #[.pointer (some ⟨b, 0, none⟩)] w (RN b l o w (catF l (grpF l d) a m)) := by
  have hbl : b < w.heap.size := Blk.lt hp
  obtain ⟨i0, hi0, hz0, hz1, hz2⟩ := info_parts node_info
  have HAT := Lib.hid (fun (a' : Nat) (m' : Mach) (W : World) hgm hW hlt h41 h124 => refatom_any b a' o d l m' W hA hod hgm hW hl hlt h41 h124)
  have HRF := Lib.hid (fun (a' : Nat) (m' : Mach) (h1 : a' < l.size) (h2 : Rx.Good m') => rep_fine (grp_fine l d) h1 h2)
  have HP := Lib.hid ((hp.alloc (.cells zero3 30)).alloc (.cells (rwC 44 (.slice none 0 0)) 30))
  have B2 := Lib.hid ((Blk.new w 30 zero3).alloc (.cells (rwC 44 (.slice none 0 0)) 30))
  have B3 : Hid (Blk ((w.alloc (.cells zero3 30)).alloc (.cells (rwC 44 (.slice none 0 0)) 30)) (w.heap.size + 1) 30 (rwC 44 (.slice none 0 0))) := by
    have := Blk.new (w.alloc (.cells zero3 30)) 30 (rwC 44 (.slice none 0 0))
    rw [World.size_alloc] at this
    exact this
  have HG := Lib.hid (gr_alloc (gr_alloc (gr_refl w (some b)) (.cells zero3 30)) (.cells (rwC 44 (.slice none 0 0)) 30))
  have HGM := Lib.hid hm
  clear hp hA hm
  go_enter Tryd.func41, Tryd.ntmps41
  go_wp2_with fail
  generalize (w.alloc (.cells _ 30)).alloc (.cells _ 30) = W at *
  go_loopw [4, 5, 6] (fun s4 s5 s6 wr => Hid (RowS w b w.heap.size (w.heap.size + 1) l o d (catF l (grpF l d) a m) wr)) (fun s4 s5 s6 wr => parM wr b l.size + (if parM wr b l.size = 0 then 0 else 1))
  case atStart => exact ⟨.slice none 0 0, 0, [], B3.out, row_own_nil _ _, B2.out, HG.out, .inl ⟨l.size + 1, a, m, unit, by omega, ha, Nat.zero_le _, HP.out, HGM.out, unit_in _, rfl⟩⟩
  case round =>
    obtain ⟨K, n, xs, h3r, hor, h2r, hgr, hat⟩ := hrel.out
    have H3r := Lib.hid h3r
    have HOr := Lib.hid hor
    have H2r := Lib.hid h2r
    have HGr := Lib.hid hgr
    clear hrel h3r hor h2r hgr HP B2 B3 HG HGM
    rcases hat with ⟨k, a', m', p', hk, ha', hn, hPr, hgm, hpi, hE⟩ | ⟨pl, c, hPr, hc, hn, hE⟩
    · have HPr := Lib.hid hPr
      have HGm := Lib.hid hgm
      have HIr := Lib.hid hpi
      have HEq := Lib.hid hE
      have HMr : Hid (parM wr b l.size + (if parM wr b l.size = 0 then 0 else 1) = l.size + 1 - a' + 1) := by
        show _ = _
        rw [parM_ok hPr l.size, if_neg (by omega)]
      clear hPr hgm hpi hE
      obtain ⟨k, rfl⟩ : ∃ k', k = k' + 1 := ⟨k - 1, by omega⟩
      by_cases hlt1 : a' < l.size
      · have HK := Lib.hid (peek_in b a' o l wr HPr.out hl hlt1)
        cases hs : seesAny l a' [124, 41] with
        | true =>
          have HX := Lib.hid (HEq.out.trans (catL_stop (by rw [hs]; simp)))
          have hx : by_ l a' = 124 ∨ by_ l a' = 41 := by
            unfold seesAny at hs
            rw [decide_eq_true hlt1, Bool.true_and] at hs
            simpa using hs
          obtain ⟨KA, Kc, rfl⟩ := own_shape HOr.out
          clear hs HEq
          rcases hx with hx | hx
          all_goals
            rw [hx] at HK
            go_wp2_with fail
            refine (HK.out).mono ?_
            rintro e w3 ⟨rfl, x3, rfl⟩
            have HP3 := Lib.hid (HPr.out.drewN x3)
            have B33 := Lib.hid (H3r.out.drewN x3)
            have B23 := Lib.hid (H2r.out.drewN x3)
            have HG3 := Lib.hid (gr_drewN HGr.out x3)
            generalize wr.drewN x3 = W3 at *
            clear HPr H3r H2r HGr HK HOr
            obtain ⟨n0, n1, n2⟩ := cells3 B33.out
            obtain ⟨r0, r1, r2⟩ := cells3 B23.out
            obtain ⟨z0, z1, z2⟩ := frozen3 B23.out
            go_wp2
            exact bodyPost_ret (v := ndV 44 none 0 0 KA n Kc) (by simp [results, Tryd.results41, go_sem, r0, r1, r2]) rfl (rn_ok HX.out (nd_mk _ _ _ _ _ _ _) (gr_set3 HG3.out (Nat.le_refl _) _ _ _) (Blk.set3_other HP3.out (by omega) _ _ _))

        | false =>
          have hnot : seesAny l a' [124, 41] = false := hs
          have hx : by_ l a' ≠ 124 ∧ by_ l a' ≠ 41 := by
            unfold seesAny at hs
            rw [decide_eq_true hlt1, Bool.true_and] at hs
            simpa using hs
          have HEr := HEq
          have HA1 := Lib.hid (fun W hW => HAT.out a' m' W HGm.out hW hlt1 hx.2 hx.1)
          have HF1 := Lib.hid (HRF.out a' m' hlt1 HGm.out)
          have HREP : Hid (∀ r, atomF l (grpF l d) a' m' = r → repF l (grpF l d) a' m' = match r with | .bad pl c => .bad pl c | .ok a1 m1 p => repL l (l.size + 1) a1 m1 p) := fun r h => by
            subst h; unfold repF; cases atomF l (grpF l d) a' m' <;> rfl
          have HAF := Lib.hid (atom_fine (grp_fine l d) hlt1 HGm.out)
          have hlx := by_lt l a'
          obtain ⟨x, hxx⟩ : ∃ x, by_ l a' = x := ⟨_, rfl⟩
          rw [hxx] at HK hx hlx
          have e124 : ((x : Int) == 124) = false := by simp; omega
          have e41 : ((x : Int) == 41) = false := by simp; omega
          clear hs HEq HAT HRF hxx
          go_wp2_with fail
          refine (HK.out).mono ?_
          rintro e w3 ⟨rfl, x3, rfl⟩
          have HP3 := Lib.hid (HPr.out.drewN x3)
          have H33 := Lib.hid (H3r.out.drewN x3)
          have HO3 : Hid ((wr.drewN x3).ownsRow (w.heap.size + 1 + 1) 30 3 K n xs) := HOr.out
          have H23 := Lib.hid (H2r.out.drewN x3)
          have HG3 := Lib.hid (gr_drewN HGr.out x3)
          have hg3 : w.heap.size + 1 < (wr.drewN x3).heap.size := H33.out.lt
          generalize wr.drewN x3 = W3 at *
          clear HPr H3r HOr H2r HGr HK
          have HA2 := Lib.hid (HA1.out W3 HP3.out)
          clear HA1
          go_wp2_with fail
          refine (HA2.out).mono ?_
          rintro e W4 hrn
          obtain ⟨nk, nA, nn, nc, nB, nn', nc', rfl⟩ := hrn.shape
          obtain ⟨hv4, hg4, hres⟩ := hrn
          have H34 := Lib.hid ((H33.out.grown hg4 (by intro e; injection e; omega)).alloc (.cells #[.int .u8 nk, .slice nA nn nc, .slice nB nn' nc'] 30))
          have H24 := Lib.hid ((H23.out.grown hg4 (by intro e; injection e; omega)).alloc (.cells #[.int .u8 nk, .slice nA nn nc, .slice nB nn' nc'] 30))
          have HO4 := Lib.hid (own_grown HO3.out hg4 (own_far HO3.out (by omega)))
          have HO5 := Lib.hid (own_below HO4.out ((Below.refl _ _).alloc (Nat.le_refl _) (.cells #[.int .u8 nk, .slice nA nn nc, .slice nB nn' nc'] 30)))
          have HG4 := Lib.hid (gr_alloc (gr_trans HG3.out hg4) (.cells #[.int .u8 nk, .slice nA nn nc, .slice nB nn' nc'] 30))
          have BN4 := Lib.hid (Blk.new W4 30 #[.int .u8 nk, .slice nA nn nc, .slice nB nn' nc'])
          have HK6 := Lib.hid (own_new HO4.out (Nat.le_refl W4.heap.size))
          have hsz4 : w.heap.size + 1 < W4.heap.size := Nat.lt_of_lt_of_le hg3 hg4.size
          have HAT4 : Hid (RepAt b l o m' a' (repF l (grpF l d) a' m') (W4.alloc (.cells #[.int .u8 nk, .slice nA nn nc, .slice nB nn' nc'] 30))) := by
            show RepAt _ _ _ _ _ _ _
            cases hr : atomF l (grpF l d) a' m' with
            | bad pl c =>
              rw [hr] at hres
              exact .inr ⟨pl, c, Par.alloc hres.1 _, hres.2, HREP.out _ hr⟩
            | ok a1 m1 p1 =>
              rw [hr] at hres
              obtain ⟨f1, f2, f3, f4, f5, f6⟩ := HAF.out a1 m1 p1 hr
              exact .inl ⟨l.size + 1, a1, m1, p1, by omega, f2, f1, Par.alloc hres _, f3, f4, f5, HREP.out _ hr⟩
          have HBD4 : Hid (Bd w b w.heap.size (w.heap.size + 1) W4.heap.size 44 K n xs (W4.alloc (.cells #[.int .u8 nk, .slice nA nn nc, .slice nB nn' nc'] 30))) := ⟨⟨_, _, _, _, _, _, _, BN4.out⟩, H34.out, HO5.out, H24.out, HG4.out⟩
          clear hv4 hg4 hres HA2 H34 H24 HO4 HO5 HG4 BN4 HP3 H33 HO3 H23 HG3 HREP HAF
          go_wp2_with fail
          generalize hW : W4.alloc (.cells #[.int .u8 nk, .slice nA nn nc, .slice nB nn' nc'] 30) = W5 at *
          generalize hj : W4.heap.size = j6 at *
          have h6 : w.heap.size ≤ j6 := by omega
          have h26 : w.heap.size ≠ j6 := by omega
          have h36 : w.heap.size + 1 ≠ j6 := by omega
          clear hW hj
          go_loopw [26] (fun s26 wr => Hid (Bd w b w.heap.size (w.heap.size + 1) j6 44 K n xs wr) ∧ Hid (RepAt b l o m' a' (repF l (grpF l d) a' m') wr)) (fun s26 wr => parM wr b l.size)
          case atStart => exact ⟨HBD4, HAT4⟩
          case round =>
            clear HBD4 HAT4
            obtain ⟨hbd, hat⟩ := hrel
            have HBr := Lib.hid hbd.out
            clear hbd
            rcases hat.out with ⟨kk, a2, m2, p2, hkk, ha2, haa, hPr, hg2, hp2, hmm, hE⟩ | ⟨pl, c, hPr, hc, hE⟩
            · have HPr := Lib.hid hPr
              have HG2 := Lib.hid hg2
              have HI2 := Lib.hid hp2
              have HE2 := Lib.hid hE
              have HMi : Hid (parM wr b l.size = l.size + 1 - a2) := parM_ok hPr _
              clear hat hPr hg2 hp2 hE
              obtain ⟨kk', rfl⟩ : ∃ kk', kk = kk' + 1 := ⟨kk - 1, by omega⟩
              have HQ := Lib.hid (fun s n => three_ok b a2 o l wr HPr.out hl ha2 s n)
              go_upto_region 6 with fail
              go_cut [35] (fun s35 wx => s35 = .bool (seesAny l a2 [42, 43, 63]) ∧ Hid (∃ n, wx = wr.drewN n))
              case first =>
                have HQ0 := Lib.hid (HQ.out 42 0)
                cases h1 : sees l a2 42 with
                | true =>
                  have e := any_of_sees (.inl h1)
                  have HEE := Lib.hid e
                  rw [h1] at HQ0
                  clear h1 e
                  go_wp2_with fail
                  refine (HQ0.out).mono ?_
                  rintro e w3 ⟨rfl, x3, rfl⟩
                  go_wp2_with fail
                  go_meet
                  exact ⟨by rw [HEE.out], _, rfl⟩
                | false =>
                  rw [h1] at HQ0
                  cases h2 : sees l a2 43 with
                  | true =>
                    have e := any_of_sees (.inr (.inl h2))
                    have HEE := Lib.hid e
                    have HQ1 := Lib.hid (fun n => HQ.out 43 n)
                    rw [h2] at HQ1
                    clear h1 h2 e
                    go_wp2_with fail
                    refine (HQ0.out).mono ?_
                    rintro e w3 ⟨rfl, x3, rfl⟩
                    go_wp2_with fail
                    refine (HQ1.out x3).mono ?_
                    rintro e w4 ⟨rfl, x4, rfl⟩
                    go_wp2_with fail
                    go_meet
                    exact ⟨by rw [HEE.out], _, rfl⟩
                  | false =>
                    have HQ1 := Lib.hid (fun n => HQ.out 43 n)
                    have HQ2 := Lib.hid (fun n => HQ.out 63 n)
                    rw [h2] at HQ1
                    cases h3 : sees l a2 63 with
                    | true =>
                      have e := any_of_sees (.inr (.inr h3))
                      have HEE := Lib.hid e
                      rw [h3] at HQ2
                      clear h1 h2 h3 e
                      go_wp2_with fail
                      refine (HQ0.out).mono ?_
                      rintro e w3 ⟨rfl, x3, rfl⟩
                      go_wp2_with fail
                      refine (HQ1.out x3).mono ?_
                      rintro e w4 ⟨rfl, x4, rfl⟩
                      go_wp2_with fail
                      refine (HQ2.out x4).mono ?_
                      rintro e w5 ⟨rfl, x5, rfl⟩
                      go_wp2_with fail
                      go_meet
                      exact ⟨by rw [HEE.out], _, rfl⟩
                    | false =>
                      have e := any_not h1 h2 h3
                      have HEE := Lib.hid e
                      rw [h3] at HQ2
                      clear h1 h2 h3 e
                      go_wp2_with fail
                      refine (HQ0.out).mono ?_
                      rintro e w3 ⟨rfl, x3, rfl⟩
                      go_wp2_with fail
                      refine (HQ1.out x3).mono ?_
                      rintro e w4 ⟨rfl, x4, rfl⟩
                      go_wp2_with fail
                      refine (HQ2.out x4).mono ?_
                      rintro e w5 ⟨rfl, x5, rfl⟩
                      go_wp2_with fail
                      go_meet
                      exact ⟨by rw [HEE.out], _, rfl⟩
              case rest =>
                obtain ⟨rfl, hwx⟩ := hcut
                obtain ⟨x3, rfl⟩ := hwx.out
                have HPd := Lib.hid (HPr.out.drewN x3)
                have HBd := Lib.hid (HBr.out.drewN x3)
                clear hwx HPr HBr HQ
                generalize wr.drewN x3 = Wx at *
                cases hs : seesAny l a2 [42, 43, 63] with
                | true =>
                  have hlt2 := seesAny_lt hs
                  have HE3 := Lib.hid (HE2.out.trans (repL_next hs))
                  have HG3 := Lib.hid (HG2.out.rep HI2.out (by_ l a2))
                  clear hs HE2
                  obtain ⟨⟨vk, vA, vq, vc, vB, vq', vc', bN⟩, _⟩ := HBd.out
                  have BN := Lib.hid bN
                  clear bN
                  have g0 : (0 : Int) ≤ (a2 : Int) := by omega
                  have g1 : (a2 : Int) < (l.size : Int) := by omega
                  obtain ⟨ch, hch⟩ : ∃ ch, l[a2].toNat = ch := ⟨_, rfl⟩
                  obtain ⟨c0, c1, c2, c3⟩ := HPd.out.cells
                  obtain ⟨n0, n1, n2⟩ := cells3 BN.out
                  obtain ⟨t0, t1, t2⟩ := frozen3 BN.out
                  have h6x : j6 < Wx.heap.size := BN.out.lt
                  have HB7 := Lib.hid (HBd.out.node2 h6 h26 h36 HK6.out (.cells #[.int .u8 vk, .slice vA vq vc, .slice vB vq' vc'] 30) ch none 0 0 (some ⟨Wx.heap.size, 0, none⟩) 1 1)
                  have HP7 := Lib.hid (Par.alloc (Blk.set3_other (j := j6) HPd.out (by omega) (.int .u8 ch) (.slice none 0 0) (.slice (some ⟨Wx.heap.size, 0, none⟩) 1 1)) (.cells #[.int .u8 vk, .slice vA vq vc, .slice vB vq' vc'] 30))
                  obtain ⟨d0, d1, d2, d3⟩ := (Par.alloc HPd.out (.cells #[.int .u8 vk, .slice vA vq vc, .slice vB vq' vc'] 30)).cells
                  obtain ⟨e0, e1, e2⟩ := cells3 (BN.out.alloc (.cells #[.int .u8 vk, .slice vA vq vc, .slice vB vq' vc'] 30))
                  unfold put3 at HB7 HP7
                  go_upto_region 7 with fail
                  go_cut [] (fun wx => ∃ W7 : World, W7 = wx ∧ Hid (Bd w b w.heap.size (w.heap.size + 1) j6 44 K n xs W7) ∧ Hid (Par W7 b l a2 o 0))
                  case first =>
                    go_region
                    all_goals
                      generalize World.alloc (World.setCell _ ⟨j6, 2, none⟩ _) _ = W8 at *
                      go_wp2_with fail
                      go_meet
                      exact ⟨_, rfl, (by exact HB7.out.drewN 1), (by exact HP7.out)⟩
                  case rest =>
                    obtain ⟨W7, rfl, HB8, HP8⟩ := hcut
                    clear HB7 HP7 HPd HBd BN c0 c1 c2 c3 n0 n1 n2 t0 t1 t2 d0 d1 d2 d3 e0 e1 e2
                    have c1 := HP8.out.cells.2.1
                    have f1 := Blk.frozen HP8.out 1
                    have HP9 := Lib.hid (HP8.out.at_ (a2 + 1) (.int .i64 ((a2 : Int) + 1)) (by rfl))
                    have HB9 := Lib.hid (HB8.out.at_ hbl (Nat.le_refl _) (by omega) h6 1 (.int .i64 ((a2 : Int) + 1)))
                    have HM9 : Hid (parM (W7.setCell ⟨b, 1, none⟩ (.int .i64 ((a2 : Int) + 1))) b l.size = l.size + 1 - (a2 + 1)) := parM_ok HP9.out _
                    go_wp2
                    go_roundw
                    case rel => exact ⟨HB9, .inl ⟨kk', a2 + 1, _, _, by omega, by omega, by omega, HP9.out, HG3.out.1, by rw [HG3.out.2.2]; exact HG3.out.2.1, by rw [HG3.out.2.2]; exact hmm, HE3.out⟩⟩
                    case measure => rw [HM9.out, HMi.out]; omega
                | false =>
                  have HE3 := Lib.hid (HE2.out.trans (repL_stop hs))
                  have HGC := Lib.hid (HG2.out.chain (HIr.out.mono hmm) HI2.out)
                  have HEC := Lib.hid (HEr.out.trans (catL_ok hlt1 hnot HE3.out))
                  have HPx := HPd
                  have HBx := HBd
                  clear hs HE2 HE3 HPd HBd
                  obtain ⟨⟨vk, vA, vq, vc, vB, vq', vc', bN⟩, b3, bO, b2, bG⟩ := HBx.out
                  have BN := Lib.hid bN
                  have B3 := Lib.hid b3
                  have BO := Lib.hid bO
                  have B2 := Lib.hid b2
                  have BG := Lib.hid bG
                  clear bN b3 bO b2 bG HBx
                  have h3x : w.heap.size + 1 < Wx.heap.size := B3.out.lt
                  obtain ⟨KA, Kc, hK⟩ := own_shape BO.out
                  subst hK
                  have HOA := Lib.hid (own_below BO.out ((Below.refl _ _).alloc (Nat.le_refl _) (.cells #[.int .u8 vk, .slice vA vq vc, .slice vB vq' vc'] 30)))
                  have B3A := Lib.hid (B3.out.alloc (.cells #[.int .u8 vk, .slice vA vq vc, .slice vB vq' vc'] 30))
                  have B2A := Lib.hid (B2.out.alloc (.cells #[.int .u8 vk, .slice vA vq vc, .slice vB vq' vc'] 30))
                  have BGA := Lib.hid (gr_alloc BG.out (.cells #[.int .u8 vk, .slice vA vq vc, .slice vB vq' vc'] 30))
                  have HPA := Lib.hid (Par.alloc HPx.out (.cells #[.int .u8 vk, .slice vA vq vc, .slice vB vq' vc'] 30))
                  have HTR := Lib.hid (triple_at Wx (.int .u8 vk) (.slice vA vq vc) (.slice vB vq' vc') Wx.heap.size rfl 30)
                  have HBs : Hid (w.heap.size + 1 + 1 ≤ (Wx.alloc (.cells #[.int .u8 vk, .slice vA vq vc, .slice vB vq' vc'] 30)).heap.size) := by show _ ≤ _; simp; omega
                  obtain ⟨n0, n1, n2⟩ := cells3 BN.out
                  obtain ⟨k0, k1, k2⟩ := cells3 B3.out
                  obtain ⟨q0, q1, q2⟩ := cells3 B3A.out
                  go_wp2_with (at_builtin; refine wpList_append_own _ rfl _ _ 28 rfl (w.heap.size + 1 + 1) 30 i0 _ 3 56 Tryd.underlying28 hi0 hz0 hz1 hz2 rfl (by decide) _ _ _ rfl HOA.out _ 1 1 [.int .u8 vk, .slice vA vq vc, .slice vB vq' vc'] rfl rfl ?c1 ?c2 ?c3 ?c4 ?c5 ?_)
                  case c1 => exact HTR.out
                  case c2 => intro u hu; simp at hu; rcases hu with rfl | rfl | rfl <;> rfl
                  case c3 => unfold maxLen; omega
                  case c4 => omega
                  case c5 => exact HBs.out
                  intro v' w' hown hgr hnil
                  obtain ⟨KA2, Kc2, hv2⟩ := own_shape hown
                  subst hv2
                  have HOW := Lib.hid hown
                  have B3W := Lib.hid (B3A.out.grown hgr (own_far HOA.out (by omega)))
                  have B2W := Lib.hid (B2A.out.grown hgr (own_far HOA.out (by omega)))
                  have BGW := Lib.hid (gr_own BGA.out HOA.out hgr (by omega))
                  have HPW := Lib.hid (Blk.grown HPA.out hgr (own_far HOA.out (by omega)))
                  clear hown hgr hnil BO B3 B2 BG HOA B3A B2A BGA HPA HPx HTR
                  obtain ⟨s0, s1, s2⟩ := cells3 B3W.out
                  obtain ⟨t0, t1, t2⟩ := frozen3 B3W.out
                  have B3S := Lib.hid (B3W.out.set_ 2 (Value.slice KA2 (n + 1) Kc2))
                  have HOS := Lib.hid (own_ne HOW.out (own_far HOW.out (show w.heap.size + 1 < w.heap.size + 1 + 1 by omega)) 2 (Value.slice KA2 (n + 1) Kc2))
                  have B2S := Lib.hid (B2W.out.other (k := w.heap.size + 1) (by omega) 2 (Value.slice KA2 (n + 1) Kc2))
                  have BGS := Lib.hid (gr_set_new BGW.out (show w.heap.size ≤ w.heap.size + 1 by omega) 2 (Value.slice KA2 (n + 1) Kc2))
                  have HPS := Lib.hid (Blk.other HPW.out (k := w.heap.size + 1) (by omega) 2 (Value.slice KA2 (n + 1) Kc2))
                  have HMS : Hid (parM (w'.setCell ⟨w.heap.size + 1, 2, none⟩ (Value.slice KA2 (n + 1) Kc2)) b l.size = l.size + 1 - a2) := parM_ok HPS.out _
                  go_wp2
                  go_roundw
                  case rel => exact ⟨(Value.slice KA2 (n + 1) Kc2), n + 1, _, B3S.out, HOS.out, B2S.out, BGS.out, .inl ⟨k, a2, _, _, by omega, ha2, by omega, HPS.out, HGC.out.1, HGC.out.2, HEC.out⟩⟩
                  case measure => rw [HMS.out, HMr.out]; split <;> omega

            · have HPr := Lib.hid hPr
              have HEC := Lib.hid (HEr.out.trans (catL_bad hlt1 hnot hE))
              clear hat hPr hE
              have HQ := Lib.hid (fun s n => three_bad b pl o c l wr HPr.out hc s n)
              go_wp2_with fail
              refine (HQ.out 42 0).mono ?_
              rintro e w3 ⟨rfl, x3, rfl⟩
              go_wp2_with fail
              refine (HQ.out 43 x3).mono ?_
              rintro e w4 ⟨rfl, x4, rfl⟩
              go_wp2_with fail
              refine (HQ.out 63 x4).mono ?_
              rintro e w5 ⟨rfl, x5, rfl⟩
              have HPx := Lib.hid (HPr.out.drewN x5)
              have HBx := Lib.hid (HBr.out.drewN x5)
              clear HPr HBr HQ
              generalize wr.drewN x5 = Wx at *
              obtain ⟨⟨vk, vA, vq, vc, vB, vq', vc', bN⟩, b3, bO, b2, bG⟩ := HBx.out
              have BN := Lib.hid bN
              have B3 := Lib.hid b3
              have BO := Lib.hid bO
              have B2 := Lib.hid b2
              have BG := Lib.hid bG
              clear bN b3 bO b2 bG HBx
              have h3x : w.heap.size + 1 < Wx.heap.size := B3.out.lt
              obtain ⟨KA, Kc, hK⟩ := own_shape BO.out
              subst hK
              have HOA := Lib.hid (own_below BO.out ((Below.refl _ _).alloc (Nat.le_refl _) (.cells #[.int .u8 vk, .slice vA vq vc, .slice vB vq' vc'] 30)))
              have B3A := Lib.hid (B3.out.alloc (.cells #[.int .u8 vk, .slice vA vq vc, .slice vB vq' vc'] 30))
              have B2A := Lib.hid (B2.out.alloc (.cells #[.int .u8 vk, .slice vA vq vc, .slice vB vq' vc'] 30))
              have BGA := Lib.hid (gr_alloc BG.out (.cells #[.int .u8 vk, .slice vA vq vc, .slice vB vq' vc'] 30))
              have HPA := Lib.hid (Par.alloc HPx.out (.cells #[.int .u8 vk, .slice vA vq vc, .slice vB vq' vc'] 30))
              have HTR := Lib.hid (triple_at Wx (.int .u8 vk) (.slice vA vq vc) (.slice vB vq' vc') Wx.heap.size rfl 30)
              have HBs : Hid (w.heap.size + 1 + 1 ≤ (Wx.alloc (.cells #[.int .u8 vk, .slice vA vq vc, .slice vB vq' vc'] 30)).heap.size) := by show _ ≤ _; simp; omega
              obtain ⟨n0, n1, n2⟩ := cells3 BN.out
              obtain ⟨k0, k1, k2⟩ := cells3 B3.out
              obtain ⟨q0, q1, q2⟩ := cells3 B3A.out
              go_wp2_with (at_builtin; refine wpList_append_own _ rfl _ _ 28 rfl (w.heap.size + 1 + 1) 30 i0 _ 3 56 Tryd.underlying28 hi0 hz0 hz1 hz2 rfl (by decide) _ _ _ rfl HOA.out _ 1 1 [.int .u8 vk, .slice vA vq vc, .slice vB vq' vc'] rfl rfl ?c1 ?c2 ?c3 ?c4 ?c5 ?_)
              case c1 => exact HTR.out
              case c2 => intro u hu; simp at hu; rcases hu with rfl | rfl | rfl <;> rfl
              case c3 => unfold maxLen; omega
              case c4 => omega
              case c5 => exact HBs.out
              intro v' w' hown hgr hnil
              obtain ⟨KA2, Kc2, hv2⟩ := own_shape hown
              subst hv2
              have HOW := Lib.hid hown
              have B3W := Lib.hid (B3A.out.grown hgr (own_far HOA.out (by omega)))
              have B2W := Lib.hid (B2A.out.grown hgr (own_far HOA.out (by omega)))
              have BGW := Lib.hid (gr_own BGA.out HOA.out hgr (by omega))
              have HPW := Lib.hid (Blk.grown HPA.out hgr (own_far HOA.out (by omega)))
              clear hown hgr hnil BO B3 B2 BG HOA B3A B2A BGA HPA HPx HTR
              obtain ⟨s0, s1, s2⟩ := cells3 B3W.out
              obtain ⟨t0, t1, t2⟩ := frozen3 B3W.out
              have B3S := Lib.hid (B3W.out.set_ 2 (Value.slice KA2 (n + 1) Kc2))
              have HOS := Lib.hid (own_ne HOW.out (own_far HOW.out (show w.heap.size + 1 < w.heap.size + 1 + 1 by omega)) 2 (Value.slice KA2 (n + 1) Kc2))
              have B2S := Lib.hid (B2W.out.other (k := w.heap.size + 1) (by omega) 2 (Value.slice KA2 (n + 1) Kc2))
              have BGS := Lib.hid (gr_set_new BGW.out (show w.heap.size ≤ w.heap.size + 1 by omega) 2 (Value.slice KA2 (n + 1) Kc2))
              have HPS := Lib.hid (Blk.other HPW.out (k := w.heap.size + 1) (by omega) 2 (Value.slice KA2 (n + 1) Kc2))
              have HMS : Hid (parM (w'.setCell ⟨w.heap.size + 1, 2, none⟩ (Value.slice KA2 (n + 1) Kc2)) b l.size = 0) := parM_bad HPS.out hc _
              go_wp2
              go_roundw
              case rel => exact ⟨(Value.slice KA2 (n + 1) Kc2), n + 1, _, B3S.out, HOS.out, B2S.out, BGS.out, .inr ⟨pl, c, HPS.out, hc, by omega, HEC.out⟩⟩
              case measure => rw [HMS.out, HMr.out]; split <;> omega

      · obtain rfl : a' = l.size := by omega
        have HK := Lib.hid (peek_out b o l wr HPr.out hl)
        have HX := Lib.hid (HEq.out.trans (catL_stop (by omega)))
        obtain ⟨KA, Kc, rfl⟩ := own_shape HOr.out
        clear HEq
        go_wp2_with fail
        refine (HK.out).mono ?_
        rintro e w3 ⟨rfl, x3, rfl⟩
        have HP3 := Lib.hid (HPr.out.drewN x3)
        have B33 := Lib.hid (H3r.out.drewN x3)
        have B23 := Lib.hid (H2r.out.drewN x3)
        have HG3 := Lib.hid (gr_drewN HGr.out x3)
        generalize wr.drewN x3 = W3 at *
        clear HPr H3r H2r HGr HK HOr
        obtain ⟨n0, n1, n2⟩ := cells3 B33.out
        obtain ⟨r0, r1, r2⟩ := cells3 B23.out
        obtain ⟨z0, z1, z2⟩ := frozen3 B23.out
        go_wp2
        exact bodyPost_ret (v := ndV 44 none 0 0 KA n Kc) (by simp [results, Tryd.results41, go_sem, r0, r1, r2]) rfl (rn_ok HX.out (nd_mk _ _ _ _ _ _ _) (gr_set3 HG3.out (Nat.le_refl _) _ _ _) (Blk.set3_other HP3.out (by omega) _ _ _))

    · have HPr := Lib.hid hPr
      have HX := Lib.hid hE
      have HK := Lib.hid (peek_bad b pl o c l wr hPr hc)
      obtain ⟨KA, Kc, rfl⟩ := own_shape HOr.out
      clear hPr hE
      go_wp2_with fail
      refine (HK.out).mono ?_
      rintro e w3 ⟨rfl, x3, rfl⟩
      have HP3 := Lib.hid (HPr.out.drewN x3)
      have B33 := Lib.hid (H3r.out.drewN x3)
      have B23 := Lib.hid (H2r.out.drewN x3)
      have HG3 := Lib.hid (gr_drewN HGr.out x3)
      generalize wr.drewN x3 = W3 at *
      clear HPr H3r H2r HGr HK HOr
      obtain ⟨n0, n1, n2⟩ := cells3 B33.out
      obtain ⟨r0, r1, r2⟩ := cells3 B23.out
      obtain ⟨z0, z1, z2⟩ := frozen3 B23.out
      go_wp2
      exact bodyPost_ret (v := ndV 44 none 0 0 KA n Kc) (by simp [results, Tryd.results41, go_sem, r0, r1, r2]) rfl (rn_bad HX.out (nd_mk _ _ _ _ _ _ _) (gr_set3 HG3.out (Nat.le_refl _) _ _ _) (Blk.set3_other HP3.out (by omega) _ _ _) hc)

end Go.Proofs.YtahphjaelpgjdaaDoor

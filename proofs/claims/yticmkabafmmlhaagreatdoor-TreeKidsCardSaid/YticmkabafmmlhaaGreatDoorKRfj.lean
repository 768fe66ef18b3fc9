/- The document's reader: a row of parts. Condition: a text of at most 200 bytes. -/
import Derived.Test.YticmkabafmmlhaaGreatDoorKRdj
set_option linter.unusedVariables false
set_option maxRecDepth 100000
set_option maxHeartbeats 16000000
namespace Go.Proofs.YticmkabafmmlhaaGreatDoor.Rg
open Go.RowKit Rx
open Lib (hid)
theorem refrow_any(b a o d:Nat)(l:ByteArray)(m:Mach)(w:World)(hA:∀d',d=d'+1→RA b l (o+1) d')(hod:o+d=32)(hm:Rx.Good m)(hp:Par w b l a o 0)(hl:l.size≤200)(ha:a≤l.size):
 Calls Tryz.prog 92 #[.pointer (some ⟨b,0,none⟩)] w (RN b l o w (catF l (grpF l d) a m)):=by
 have hbl:b<w.heap.size:=Blk.lt hp;obtain⟨i0,hi0,hz0,hz1,hz2⟩:=info_parts node_info;have HAT:=hid (fun(a':Nat) (m':Mach) (W:World) hgm hW hlt h41 h124=>refatom_any b a' o d l m' W hA hod hgm hW hl hlt h41 h124);have HRF:=hid (fun(a':Nat) (m':Mach) (h1:a'<l.size) (h2:Rx.Good m')=>rep_fine (grp_fine l d) h1 h2);have HP:=hid ((hp.alloc (.cells zero3 84)).alloc (.cells (rwC 44 (.slice none 0 0)) 84));have B2:=hid ((Blk.new w 84 zero3).alloc (.cells (rwC 44 (.slice none 0 0)) 84));have B3:Hid (Blk ((w.alloc (.cells zero3 84)).alloc (.cells (rwC 44 (.slice none 0 0)) 84)) (w.heap.size+1) 84 (rwC 44 (.slice none 0 0))):=by have:=Blk.new (w.alloc (.cells zero3 84)) 84 (rwC 44 (.slice none 0 0));rw[World.size_alloc]at this;exact this
 have HG:=hid (gr_alloc (gr_alloc (gr_refl w (some b)) (.cells zero3 84)) (.cells (rwC 44 (.slice none 0 0)) 84));have HGM:=hid hm;clear hp hA hm;go_enter Tryz.func92,Tryz.ntmps92;go_wp2_with fail;generalize (w.alloc (.cells _ 84)).alloc (.cells _ 84)=W at*
 go_loopw [4,5,6] (fun s4 s5 s6 wr=>Hid (RowS w b w.heap.size (w.heap.size+1) l o d (catF l (grpF l d) a m) wr)) (fun s4 s5 s6 wr=>parM wr b l.size+(if parM wr b l.size=0 then 0 else 1))
 case atStart=>exact⟨.slice none 0 0,0,[],B3.out,row_own_nil _ _,B2.out,HG.out,.inl ⟨l.size+1,a,m,unit,by omega,ha,Nat.zero_le _,HP.out,HGM.out,unit_in _,rfl⟩⟩
 case round=>
  obtain⟨K,n,xs,h3r,hor,h2r,hgr,hat⟩:=hrel.out;have H3r:=hid h3r;have HOr:=hid hor;have H2r:=hid h2r;have HGr:=hid hgr;clear hrel h3r hor h2r hgr HP B2 B3 HG HGM;rcases hat with ⟨k,a',m',p',hk,ha',hn,hPr,hgm,hpi,hE⟩|⟨pl,c,hPr,hc,hn,hE⟩
  ·have HPr:=hid hPr
   have HGm:=hid hgm;have HIr:=hid hpi;have HEq:=hid hE;have HMr:Hid (parM wr b l.size+(if parM wr b l.size=0 then 0 else 1)=l.size+1-a'+1):=by show _=_;rw[parM_ok hPr l.size,if_neg (by omega)]
   clear hPr hgm hpi hE;obtain⟨k,rfl⟩:∃k',k=k'+1:=⟨k-1,by omega⟩
   by_cases hlt1:a'<l.size
   ·have HK:=hid (peek_in b a' o l wr HPr.out hl hlt1)
    cases hs:seesAny l a' [124,41]with
    |true=>
     have HX:=hid (HEq.out.trans (catL_stop (by rw[hs];simp)));have hx:by_ l a'=124∨by_ l a'=41:=by unfold seesAny at hs;rw[decide_eq_true hlt1,Bool.true_and]at hs;simpa using hs
     obtain⟨KA,Kc,rfl⟩:=own_shape HOr.out;clear hs HEq;rcases hx with hx|hx;all_goals
      rw[hx]at HK;go_wp2_with fail;refine(HK.out).mono ?_;rintro e w3⟨rfl,x3,rfl⟩;have HP3:=hid (HPr.out.drewN x3);have B33:=hid (H3r.out.drewN x3);have B23:=hid (H2r.out.drewN x3);have HG3:=hid (gr_drewN HGr.out x3);generalize wr.drewN x3=W3 at*
      clear HPr H3r H2r HGr HK HOr;obtain⟨n0,n1,n2⟩:=cells3 B33.out;obtain⟨r0,r1,r2⟩:=cells3 B23.out;obtain⟨z0,z1,z2⟩:=frozen3 B23.out;go_wp2;exact bodyPost_ret (v:=ndV 44 none 0 0 KA n Kc) (by simp[results,Tryz.results92,go_sem,r0,r1,r2]) rfl (rn_ok HX.out (nd_mk _ _ _ _ _ _ _) (gr_set3 HG3.out (Nat.le_refl _) _ _ _) (Blk.set3_other HP3.out (by omega) _ _ _))
    |false=>
     have hnot:seesAny l a' [124,41]=false:=hs;have hx:by_ l a'≠124∧by_ l a'≠41:=by unfold seesAny at hs;rw[decide_eq_true hlt1,Bool.true_and]at hs;simpa using hs
     have HEr:=HEq;have HA1:=hid (fun W hW=>HAT.out a' m' W HGm.out hW hlt1 hx.2 hx.1);have HF1:=hid (HRF.out a' m' hlt1 HGm.out);have HREP:Hid (∀r,atomF l (grpF l d) a' m'=r→repF l (grpF l d) a' m'=match r with|.bad pl c=>.bad pl c|.ok a1 m1 p=>repL l (l.size+1) a1 m1 p):=fun r h=>by subst h;unfold repF;cases atomF l (grpF l d) a' m'<;>rfl
     have HAF:=hid (atom_fine (grp_fine l d) hlt1 HGm.out);have hlx:=by_lt l a';obtain⟨x,hxx⟩:∃x,by_ l a'=x:=⟨_,rfl⟩
     rw[hxx]at HK hx hlx;have e124:((x:Int)==124)=false:=by simp;omega
     have e41:((x:Int)==41)=false:=by simp;omega
     clear hs HEq HAT HRF hxx;go_wp2_with fail;refine(HK.out).mono ?_;rintro e w3⟨rfl,x3,rfl⟩;have HP3:=hid (HPr.out.drewN x3);have H33:=hid (H3r.out.drewN x3);have HO3:Hid ((wr.drewN x3).ownsRow (w.heap.size+1+1) 84 3 K n xs):=HOr.out;have H23:=hid (H2r.out.drewN x3);have HG3:=hid (gr_drewN HGr.out x3);have hg3:w.heap.size+1<(wr.drewN x3).heap.size:=H33.out.lt;generalize wr.drewN x3=W3 at*
     clear HPr H3r HOr H2r HGr HK;have HA2:=hid (HA1.out W3 HP3.out);clear HA1;go_wp2_with fail;refine(HA2.out).mono ?_;rintro e W4 hrn;obtain⟨nk,nA,nn,nc,nB,nn',nc',rfl⟩:=hrn.shape;obtain⟨hv4,hg4,hres⟩:=hrn;have H34:=hid ((H33.out.grown hg4 (by intro e;injection e;omega)).alloc (.cells #[.int .u8 nk,.slice nA nn nc,.slice nB nn' nc'] 84));have H24:=hid ((H23.out.grown hg4 (by intro e;injection e;omega)).alloc (.cells #[.int .u8 nk,.slice nA nn nc,.slice nB nn' nc'] 84));have HO4:=hid (own_grown HO3.out hg4 (own_far HO3.out (by omega)));have HO5:=hid (own_below HO4.out ((Below.refl _ _).alloc (Nat.le_refl _) (.cells #[.int .u8 nk,.slice nA nn nc,.slice nB nn' nc'] 84)));have HG4:=hid (gr_alloc (gr_trans HG3.out hg4) (.cells #[.int .u8 nk,.slice nA nn nc,.slice nB nn' nc'] 84));have BN4:=hid (Blk.new W4 84 #[.int .u8 nk,.slice nA nn nc,.slice nB nn' nc']);have HK6:=hid (own_new HO4.out (Nat.le_refl W4.heap.size));have hsz4:w.heap.size+1<W4.heap.size:=Nat.lt_of_lt_of_le hg3 hg4.size;have HAT4:Hid (RepAt b l o m' a' (repF l (grpF l d) a' m') (W4.alloc (.cells #[.int .u8 nk,.slice nA nn nc,.slice nB nn' nc'] 84))):=by
      show RepAt _ _ _ _ _ _ _;cases hr:atomF l (grpF l d) a' m' with
      |bad pl c=>rw[hr]at hres;exact .inr ⟨pl,c,Par.alloc hres.1 _,hres.2,HREP.out _ hr⟩
      |ok a1 m1 p1=>rw[hr]at hres;obtain⟨f1,f2,f3,f4,f5,f6⟩:=HAF.out a1 m1 p1 hr;exact .inl ⟨l.size+1,a1,m1,p1,by omega,f2,f1,Par.alloc hres _,f3,f4,f5,HREP.out _ hr⟩
     have HBD4:Hid (Bd w b w.heap.size (w.heap.size+1) W4.heap.size 44 K n xs (W4.alloc (.cells #[.int .u8 nk,.slice nA nn nc,.slice nB nn' nc'] 84))):=⟨⟨_,_,_,_,_,_,_,BN4.out⟩,H34.out,HO5.out,H24.out,HG4.out⟩
     clear hv4 hg4 hres HA2 H34 H24 HO4 HO5 HG4 BN4 HP3 H33 HO3 H23 HG3 HREP HAF;go_wp2_with fail;generalize hW:W4.alloc (.cells #[.int .u8 nk,.slice nA nn nc,.slice nB nn' nc'] 84)=W5 at*
     generalize hj:W4.heap.size=j6 at*
     have h6:w.heap.size≤j6:=by omega
     have h26:w.heap.size≠j6:=by omega
     have h36:w.heap.size+1≠j6:=by omega
     clear hW hj
     go_loopw [26] (fun s26 wr=>Hid (Bd w b w.heap.size (w.heap.size+1) j6 44 K n xs wr)∧Hid (RepAt b l o m' a' (repF l (grpF l d) a' m') wr)) (fun s26 wr=>parM wr b l.size)
     case atStart=>exact⟨HBD4,HAT4⟩
     case round=>
      clear HBD4 HAT4;obtain⟨hbd,hat⟩:=hrel;have HBr:=hid hbd.out;clear hbd;rcases hat.out with ⟨kk,a2,m2,p2,hkk,ha2,haa,hPr,hg2,hp2,hmm,hE⟩|⟨pl,c,hPr,hc,hE⟩
      ·have HPr:=hid hPr
       have HG2:=hid hg2;have HI2:=hid hp2;have HE2:=hid hE;have HMi:Hid (parM wr b l.size=l.size+1-a2):=parM_ok hPr _;clear hat hPr hg2 hp2 hE;obtain⟨kk',rfl⟩:∃kk',kk=kk'+1:=⟨kk-1,by omega⟩
       have HQ:=hid (fun s n=>three_ok b a2 o l wr HPr.out hl ha2 s n);go_upto_region 6 with fail
       go_cut [35] (fun s35 wx=>s35=.bool (seesAny l a2 [42,43,63])∧Hid (∃n,wx=wr.drewN n))
       case first=>
        have HQ0:=hid (HQ.out 42 0);cases h1:sees l a2 42 with
        |true=>
         have e:=any_of_sees (.inl h1);have HEE:=hid e;rw[h1]at HQ0;clear h1 e;go_wp2_with fail;refine(HQ0.out).mono ?_;rintro e w3⟨rfl,x3,rfl⟩;go_wp2_with fail
         go_meet
         exact⟨by rw[HEE.out],_,rfl⟩
        |false=>
         rw[h1]at HQ0;cases h2:sees l a2 43 with
         |true=>
          have e:=any_of_sees (.inr (.inl h2));have HEE:=hid e;have HQ1:=hid (fun n=>HQ.out 43 n);rw[h2]at HQ1;clear h1 h2 e;go_wp2_with fail;refine(HQ0.out).mono ?_;rintro e w3⟨rfl,x3,rfl⟩;go_wp2_with fail;refine(HQ1.out x3).mono ?_;rintro e w4⟨rfl,x4,rfl⟩;go_wp2_with fail
          go_meet
          exact⟨by rw[HEE.out],_,rfl⟩
         |false=>
          have HQ1:=hid (fun n=>HQ.out 43 n);have HQ2:=hid (fun n=>HQ.out 63 n);rw[h2]at HQ1;cases h3:sees l a2 63 with
          |true=>
           have e:=any_of_sees (.inr (.inr h3));have HEE:=hid e;rw[h3]at HQ2;clear h1 h2 h3 e;go_wp2_with fail;refine(HQ0.out).mono ?_;rintro e w3⟨rfl,x3,rfl⟩;go_wp2_with fail;refine(HQ1.out x3).mono ?_;rintro e w4⟨rfl,x4,rfl⟩;go_wp2_with fail;refine(HQ2.out x4).mono ?_;rintro e w5⟨rfl,x5,rfl⟩;go_wp2_with fail
           go_meet
           exact⟨by rw[HEE.out],_,rfl⟩
          |false=>
           have e:=any_not h1 h2 h3;have HEE:=hid e;rw[h3]at HQ2;clear h1 h2 h3 e;go_wp2_with fail;refine(HQ0.out).mono ?_;rintro e w3⟨rfl,x3,rfl⟩;go_wp2_with fail;refine(HQ1.out x3).mono ?_;rintro e w4⟨rfl,x4,rfl⟩;go_wp2_with fail;refine(HQ2.out x4).mono ?_;rintro e w5⟨rfl,x5,rfl⟩;go_wp2_with fail
           go_meet
           exact⟨by rw[HEE.out],_,rfl⟩
       case rest=>
        obtain⟨rfl,hwx⟩:=hcut;obtain⟨x3,rfl⟩:=hwx.out;have HPd:=hid (HPr.out.drewN x3);have HBd:=hid (HBr.out.drewN x3);clear hwx HPr HBr HQ;generalize wr.drewN x3=Wx at*
        cases hs:seesAny l a2 [42,43,63]with
        |true=>
         have hlt2:=seesAny_lt hs;have HE3:=hid (HE2.out.trans (repL_next hs));have HG3:=hid (HG2.out.rep HI2.out (by_ l a2));clear hs HE2;obtain⟨⟨vk,vA,vq,vc,vB,vq',vc',bN⟩,_⟩:=HBd.out;have BN:=hid bN;clear bN;have g0:(0:Int)≤(a2:Int):=by omega
         have g1:(a2:Int)<(l.size:Int):=by omega
         obtain⟨ch,hch⟩:∃ch,l[a2].toNat=ch:=⟨_,rfl⟩
         obtain⟨c0,c1,c2,c3⟩:=HPd.out.cells;obtain⟨n0,n1,n2⟩:=cells3 BN.out;obtain⟨t0,t1,t2⟩:=frozen3 BN.out;have h6x:j6<Wx.heap.size:=BN.out.lt;have HB7:=hid (HBd.out.node2 h6 h26 h36 HK6.out (.cells #[.int .u8 vk,.slice vA vq vc,.slice vB vq' vc'] 84) ch none 0 0 (some ⟨Wx.heap.size,0,none⟩) 1 1);have HP7:=hid (Par.alloc (Blk.set3_other (j:=j6) HPd.out (by omega) (.int .u8 ch) (.slice none 0 0) (.slice (some ⟨Wx.heap.size,0,none⟩) 1 1)) (.cells #[.int .u8 vk,.slice vA vq vc,.slice vB vq' vc'] 84));obtain⟨d0,d1,d2,d3⟩:=(Par.alloc HPd.out (.cells #[.int .u8 vk,.slice vA vq vc,.slice vB vq' vc'] 84)).cells;obtain⟨e0,e1,e2⟩:=cells3 (BN.out.alloc (.cells #[.int .u8 vk,.slice vA vq vc,.slice vB vq' vc'] 84));unfold put3 at HB7 HP7;go_upto_region 7 with fail
         go_cut [] (fun wx=>∃W7:World,W7=wx∧Hid (Bd w b w.heap.size (w.heap.size+1) j6 44 K n xs W7)∧Hid (Par W7 b l a2 o 0))
         case first=>
          go_region;all_goals
           generalize World.alloc (World.setCell _ ⟨j6,2,none⟩ _) _=W8 at*
           go_wp2_with fail
           go_meet
           exact⟨_,rfl,(by exact HB7.out.drewN 1),(by exact HP7.out)⟩
         case rest=>
          obtain⟨W7,rfl,HB8,HP8⟩:=hcut;clear HB7 HP7 HPd HBd BN c0 c1 c2 c3 n0 n1 n2 t0 t1 t2 d0 d1 d2 d3 e0 e1 e2;have c1:=HP8.out.cells.2.1;have f1:=Blk.frozen HP8.out 1;have HP9:=hid (HP8.out.at_ (a2+1) (.int .i64 ((a2:Int)+1)) (by rfl));have HB9:=hid (HB8.out.at_ hbl (Nat.le_refl _) (by omega) h6 1 (.int .i64 ((a2:Int)+1)));have HM9:Hid (parM (W7.setCell ⟨b,1,none⟩ (.int .i64 ((a2:Int)+1))) b l.size=l.size+1-(a2+1)):=parM_ok HP9.out _;go_wp2
          go_roundw
          case rel=>exact⟨HB9,.inl ⟨kk',a2+1,_,_,by omega,by omega,by omega,HP9.out,HG3.out.1,by rw[HG3.out.2.2];exact HG3.out.2.1,by rw[HG3.out.2.2];exact hmm,HE3.out⟩⟩
          case measure=>rw[HM9.out,HMi.out];omega
        |false=>
         have HE3:=hid (HE2.out.trans (repL_stop hs));have HGC:=hid (HG2.out.chain (HIr.out.mono hmm) HI2.out);have HEC:=hid (HEr.out.trans (catL_ok hlt1 hnot HE3.out));have HPx:=HPd;have HBx:=HBd;clear hs HE2 HE3 HPd HBd;obtain⟨⟨vk,vA,vq,vc,vB,vq',vc',bN⟩,b3,bO,b2,bG⟩:=HBx.out;have BN:=hid bN;have B3:=hid b3;have BO:=hid bO;have B2:=hid b2;have BG:=hid bG;clear bN b3 bO b2 bG HBx;have h3x:w.heap.size+1<Wx.heap.size:=B3.out.lt;obtain⟨KA,Kc,hK⟩:=own_shape BO.out;subst hK;have HOA:=hid (own_below BO.out ((Below.refl _ _).alloc (Nat.le_refl _) (.cells #[.int .u8 vk,.slice vA vq vc,.slice vB vq' vc'] 84)));have B3A:=hid (B3.out.alloc (.cells #[.int .u8 vk,.slice vA vq vc,.slice vB vq' vc'] 84));have B2A:=hid (B2.out.alloc (.cells #[.int .u8 vk,.slice vA vq vc,.slice vB vq' vc'] 84));have BGA:=hid (gr_alloc BG.out (.cells #[.int .u8 vk,.slice vA vq vc,.slice vB vq' vc'] 84));have HPA:=hid (Par.alloc HPx.out (.cells #[.int .u8 vk,.slice vA vq vc,.slice vB vq' vc'] 84));have HTR:=hid (triple_at Wx (.int .u8 vk) (.slice vA vq vc) (.slice vB vq' vc') Wx.heap.size rfl 84);have HBs:Hid (w.heap.size+1+1≤(Wx.alloc (.cells #[.int .u8 vk,.slice vA vq vc,.slice vB vq' vc'] 84)).heap.size):=by show _≤_;simp;omega
         obtain⟨n0,n1,n2⟩:=cells3 BN.out;obtain⟨k0,k1,k2⟩:=cells3 B3.out;obtain⟨q0,q1,q2⟩:=cells3 B3A.out;go_wp2_with (at_builtin;refine wpList_append_own _ rfl _ _ 82 rfl (w.heap.size+1+1) 84 i0 _ 3 56 Tryz.underlying82 hi0 hz0 hz1 hz2 rfl (by decide) _ _ _ rfl HOA.out _ 1 1 [.int .u8 vk,.slice vA vq vc,.slice vB vq' vc'] rfl rfl ?c1 ?c2 ?c3 ?c4 ?c5 ?_);case c1=>exact HTR.out
         case c2=>intro u hu;simp at hu;rcases hu with rfl|rfl|rfl<;>rfl
         case c3=>unfold maxLen;omega
         case c4=>omega
         case c5=>exact HBs.out
         intro v' w' hown hgr hnil;obtain⟨KA2,Kc2,hv2⟩:=own_shape hown;subst hv2;have HOW:=hid hown;have B3W:=hid (B3A.out.grown hgr (own_far HOA.out (by omega)));have B2W:=hid (B2A.out.grown hgr (own_far HOA.out (by omega)));have BGW:=hid (gr_own BGA.out HOA.out hgr (by omega));have HPW:=hid (Blk.grown HPA.out hgr (own_far HOA.out (by omega)));clear hown hgr hnil BO B3 B2 BG HOA B3A B2A BGA HPA HPx HTR;obtain⟨s0,s1,s2⟩:=cells3 B3W.out;obtain⟨t0,t1,t2⟩:=frozen3 B3W.out;have B3S:=hid (B3W.out.set_ 2 (Value.slice KA2 (n+1) Kc2));have HOS:=hid (own_ne HOW.out (own_far HOW.out (show w.heap.size+1<w.heap.size+1+1 by omega)) 2 (Value.slice KA2 (n+1) Kc2));have B2S:=hid (B2W.out.other (k:=w.heap.size+1) (by omega) 2 (Value.slice KA2 (n+1) Kc2));have BGS:=hid (gr_set_new BGW.out (show w.heap.size≤w.heap.size+1 by omega) 2 (Value.slice KA2 (n+1) Kc2));have HPS:=hid (Blk.other HPW.out (k:=w.heap.size+1) (by omega) 2 (Value.slice KA2 (n+1) Kc2));have HMS:Hid (parM (w'.setCell ⟨w.heap.size+1,2,none⟩ (Value.slice KA2 (n+1) Kc2)) b l.size=l.size+1-a2):=parM_ok HPS.out _;go_wp2
         go_roundw
         case rel=>exact⟨(Value.slice KA2 (n+1) Kc2),n+1,_,B3S.out,HOS.out,B2S.out,BGS.out,.inl ⟨k,a2,_,_,by omega,ha2,by omega,HPS.out,HGC.out.1,HGC.out.2,HEC.out⟩⟩
         case measure=>rw[HMS.out,HMr.out];split<;>omega
      ·have HPr:=hid hPr
       have HEC:=hid (HEr.out.trans (catL_bad hlt1 hnot hE));clear hat hPr hE;have HQ:=hid (fun s n=>three_bad b pl o c l wr HPr.out hc s n);go_wp2_with fail;refine(HQ.out 42 0).mono ?_;rintro e w3⟨rfl,x3,rfl⟩;go_wp2_with fail;refine(HQ.out 43 x3).mono ?_;rintro e w4⟨rfl,x4,rfl⟩;go_wp2_with fail;refine(HQ.out 63 x4).mono ?_;rintro e w5⟨rfl,x5,rfl⟩;have HPx:=hid (HPr.out.drewN x5);have HBx:=hid (HBr.out.drewN x5);clear HPr HBr HQ;generalize wr.drewN x5=Wx at*
       obtain⟨⟨vk,vA,vq,vc,vB,vq',vc',bN⟩,b3,bO,b2,bG⟩:=HBx.out;have BN:=hid bN;have B3:=hid b3;have BO:=hid bO;have B2:=hid b2;have BG:=hid bG;clear bN b3 bO b2 bG HBx;have h3x:w.heap.size+1<Wx.heap.size:=B3.out.lt;obtain⟨KA,Kc,hK⟩:=own_shape BO.out;subst hK;have HOA:=hid (own_below BO.out ((Below.refl _ _).alloc (Nat.le_refl _) (.cells #[.int .u8 vk,.slice vA vq vc,.slice vB vq' vc'] 84)));have B3A:=hid (B3.out.alloc (.cells #[.int .u8 vk,.slice vA vq vc,.slice vB vq' vc'] 84));have B2A:=hid (B2.out.alloc (.cells #[.int .u8 vk,.slice vA vq vc,.slice vB vq' vc'] 84));have BGA:=hid (gr_alloc BG.out (.cells #[.int .u8 vk,.slice vA vq vc,.slice vB vq' vc'] 84));have HPA:=hid (Par.alloc HPx.out (.cells #[.int .u8 vk,.slice vA vq vc,.slice vB vq' vc'] 84));have HTR:=hid (triple_at Wx (.int .u8 vk) (.slice vA vq vc) (.slice vB vq' vc') Wx.heap.size rfl 84);have HBs:Hid (w.heap.size+1+1≤(Wx.alloc (.cells #[.int .u8 vk,.slice vA vq vc,.slice vB vq' vc'] 84)).heap.size):=by show _≤_;simp;omega
       obtain⟨n0,n1,n2⟩:=cells3 BN.out;obtain⟨k0,k1,k2⟩:=cells3 B3.out;obtain⟨q0,q1,q2⟩:=cells3 B3A.out;go_wp2_with (at_builtin;refine wpList_append_own _ rfl _ _ 82 rfl (w.heap.size+1+1) 84 i0 _ 3 56 Tryz.underlying82 hi0 hz0 hz1 hz2 rfl (by decide) _ _ _ rfl HOA.out _ 1 1 [.int .u8 vk,.slice vA vq vc,.slice vB vq' vc'] rfl rfl ?c1 ?c2 ?c3 ?c4 ?c5 ?_);case c1=>exact HTR.out
       case c2=>intro u hu;simp at hu;rcases hu with rfl|rfl|rfl<;>rfl
       case c3=>unfold maxLen;omega
       case c4=>omega
       case c5=>exact HBs.out
       intro v' w' hown hgr hnil;obtain⟨KA2,Kc2,hv2⟩:=own_shape hown;subst hv2;have HOW:=hid hown;have B3W:=hid (B3A.out.grown hgr (own_far HOA.out (by omega)));have B2W:=hid (B2A.out.grown hgr (own_far HOA.out (by omega)));have BGW:=hid (gr_own BGA.out HOA.out hgr (by omega));have HPW:=hid (Blk.grown HPA.out hgr (own_far HOA.out (by omega)));clear hown hgr hnil BO B3 B2 BG HOA B3A B2A BGA HPA HPx HTR;obtain⟨s0,s1,s2⟩:=cells3 B3W.out;obtain⟨t0,t1,t2⟩:=frozen3 B3W.out;have B3S:=hid (B3W.out.set_ 2 (Value.slice KA2 (n+1) Kc2));have HOS:=hid (own_ne HOW.out (own_far HOW.out (show w.heap.size+1<w.heap.size+1+1 by omega)) 2 (Value.slice KA2 (n+1) Kc2));have B2S:=hid (B2W.out.other (k:=w.heap.size+1) (by omega) 2 (Value.slice KA2 (n+1) Kc2));have BGS:=hid (gr_set_new BGW.out (show w.heap.size≤w.heap.size+1 by omega) 2 (Value.slice KA2 (n+1) Kc2));have HPS:=hid (Blk.other HPW.out (k:=w.heap.size+1) (by omega) 2 (Value.slice KA2 (n+1) Kc2));have HMS:Hid (parM (w'.setCell ⟨w.heap.size+1,2,none⟩ (Value.slice KA2 (n+1) Kc2)) b l.size=0):=parM_bad HPS.out hc _;go_wp2
       go_roundw
       case rel=>exact⟨(Value.slice KA2 (n+1) Kc2),n+1,_,B3S.out,HOS.out,B2S.out,BGS.out,.inr ⟨pl,c,HPS.out,hc,by omega,HEC.out⟩⟩
       case measure=>rw[HMS.out,HMr.out];split<;>omega
   ·obtain rfl:a'=l.size:=by omega
    have HK:=hid (peek_out b o l wr HPr.out hl);have HX:=hid (HEq.out.trans (catL_stop (by omega)));obtain⟨KA,Kc,rfl⟩:=own_shape HOr.out;clear HEq;go_wp2_with fail;refine(HK.out).mono ?_;rintro e w3⟨rfl,x3,rfl⟩;have HP3:=hid (HPr.out.drewN x3);have B33:=hid (H3r.out.drewN x3);have B23:=hid (H2r.out.drewN x3);have HG3:=hid (gr_drewN HGr.out x3);generalize wr.drewN x3=W3 at*
    clear HPr H3r H2r HGr HK HOr;obtain⟨n0,n1,n2⟩:=cells3 B33.out;obtain⟨r0,r1,r2⟩:=cells3 B23.out;obtain⟨z0,z1,z2⟩:=frozen3 B23.out;go_wp2;exact bodyPost_ret (v:=ndV 44 none 0 0 KA n Kc) (by simp[results,Tryz.results92,go_sem,r0,r1,r2]) rfl (rn_ok HX.out (nd_mk _ _ _ _ _ _ _) (gr_set3 HG3.out (Nat.le_refl _) _ _ _) (Blk.set3_other HP3.out (by omega) _ _ _))
  ·have HPr:=hid hPr
   have HX:=hid hE;have HK:=hid (peek_bad b pl o c l wr hPr hc);obtain⟨KA,Kc,rfl⟩:=own_shape HOr.out;clear hPr hE;go_wp2_with fail;refine(HK.out).mono ?_;rintro e w3⟨rfl,x3,rfl⟩;have HP3:=hid (HPr.out.drewN x3);have B33:=hid (H3r.out.drewN x3);have B23:=hid (H2r.out.drewN x3);have HG3:=hid (gr_drewN HGr.out x3);generalize wr.drewN x3=W3 at*
   clear HPr H3r H2r HGr HK HOr;obtain⟨n0,n1,n2⟩:=cells3 B33.out;obtain⟨r0,r1,r2⟩:=cells3 B23.out;obtain⟨z0,z1,z2⟩:=frozen3 B23.out;go_wp2;exact bodyPost_ret (v:=ndV 44 none 0 0 KA n Kc) (by simp[results,Tryz.results92,go_sem,r0,r1,r2]) rfl (rn_bad HX.out (nd_mk _ _ _ _ _ _ _) (gr_set3 HG3.out (Nat.le_refl _) _ _ _) (Blk.set3_other HP3.out (by omega) _ _ _) hc)
def AltAt(b:Nat)(l:ByteArray)(o d n:Nat)(target:Res)(wr:World):Prop:=
 (∃(k a2:Nat) (m2:Mach) (p2:Pc),l.size<k+a2∧a2≤l.size∧n≤a2+1∧Par wr b l a2 o 0∧Rx.Good m2∧PcIn m2.takes.length p2∧target=altL l (grpF l d) k a2 m2 p2)∨
 (∃pl c:Nat,Par wr b l pl o c∧(c=2∨c=12)∧n≤l.size+2∧target=.bad pl c)
def AltS(w:World)(b j2 j3:Nat)(l:ByteArray)(o d:Nat)(target:Res)(wr:World):Prop:=∃(K:Value) (n:Nat) (xs:List Value),Blk wr j3 84 (rwC 124 K)∧wr.ownsRow (w.heap.size+1) 84 3 K n xs∧Blk wr j2 84 zero3∧w.grownBy wr (some b)∧K.ownBlock≠some j3∧AltAt b l o d n target wr
theorem altL_stop{l:ByteArray}{grp:Nat→Mach→Res}{k a:Nat}{m:Mach}{p:Pc}(h:sees l a 124=false):altL l grp (k+1) a m p=.ok a m p:=by
 conv=>lhs;unfold altL
 rw[if_neg (by rw[h];simp)]
theorem altL_bad{l:ByteArray}{grp:Nat→Mach→Res}{k a pl c:Nat}{m:Mach}{p:Pc}(h:sees l a 124=true)(h3:catF l grp (a+1) m=.bad pl c):altL l grp (k+1) a m p=.bad pl c:=by
 conv=>lhs;unfold altL
 rw[if_pos h,h3]
theorem altL_ok{l:ByteArray}{grp:Nat→Mach→Res}{k a a1:Nat}{m m1:Mach}{p q:Pc}(h:sees l a 124=true)(h3:catF l grp (a+1) m=.ok a1 m1 q):altL l grp (k+1) a m p=altL l grp k a1 m1 (eitherP p q):=by
 conv=>lhs;unfold altL
 rw[if_pos h,h3]
theorem own_one{w:World}{base g:Nat}{x0 x1 x2:Value}(h:Blk w g 84 #[x0,x1,x2])(hb:base≤g):w.ownsRow base 84 3 (.slice (some ⟨g,0,none⟩) 1 1) 1 [x0,x1,x2]:=⟨rfl,.inr ⟨g,1,_,rfl,hb,h,Nat.le_refl _,by unfold maxLen;omega,rfl,rfl⟩⟩
theorem refalt_any(b a o d:Nat)(l:ByteArray)(m:Mach)(w:World)(hA:∀d',d=d'+1→RA b l (o+1) d')(hod:o+d=32)(hm:Rx.Good m)(hp:Par w b l a o 0)(hl:l.size≤200)(ha:a≤l.size):
 Calls Tryz.prog 77 #[.pointer (some ⟨b,0,none⟩)] w (RN b l o w (altF l (grpF l d) a m)):=by
 have hbl:b<w.heap.size:=Blk.lt hp;obtain⟨i0,hi0,hz0,hz1,hz2⟩:=info_parts node_info;have HRO:=hid (fun(a':Nat) (m':Mach) (W:World) hgm hW hle=>refrow_any b a' o d l m' W hA hod hgm hW hl hle);have HCF:=hid (fun(a':Nat) (m':Mach) (h1:a'≤l.size) (h2:Rx.Good m')=>cat_fine (grp_fine l d) h1 h2);have HAF:Hid (∀r,catF l (grpF l d) a m=r→altF l (grpF l d) a m=match r with|.bad pl c=>.bad pl c|.ok a1 m1 p=>altL l (grpF l d) (l.size+1) a1 m1 p):=fun r h=>by subst h;unfold altF;cases catF l (grpF l d) a m<;>rfl
 have HP:=hid (hp.alloc (.cells zero3 84));have B2:=hid (Blk.new w 84 zero3);have HG:=hid (gr_alloc (gr_refl w (some b)) (.cells zero3 84));have HGM:=hid hm;have HR1:=hid (HRO.out a m _ hm HP.out ha);have HC1:=hid (HCF.out a m ha hm);clear hp hA hm;go_enter Tryz.func77,Tryz.ntmps77;go_upto_region 1 with fail;generalize hW:w.alloc (.cells zero3 84)=W at*
 have hWs:w.heap.size<W.heap.size:=B2.out.lt;clear hW;go_wp2_with fail;refine(HR1.out).mono ?_;rintro e W1 hrn;obtain⟨nk,nA,nn,nc,nB,nn',nc',rfl⟩:=hrn.shape;obtain⟨hv1,hg1,hres⟩:=hrn;have B21:=hid (B2.out.grown hg1 (by intro e;injection e;omega));have HG1:=hid (gr_trans HG.out hg1);have hW1:w.heap.size<W1.heap.size:=B21.out.lt;have hj2:w.heap.size+1≤W1.heap.size:=hW1;have N1:=hid ((Blk.new W1 84 #[.int .u8 nk,.slice nA nn nc,.slice nB nn' nc']).alloc (.cells (rwC 124 (.slice (some ⟨W1.heap.size,0,none⟩) 1 1)) 84));have O1:=hid (own_one N1.out hj2);have B31:Hid (Blk ((W1.alloc (.cells #[.int .u8 nk,.slice nA nn nc,.slice nB nn' nc'] 84)).alloc (.cells (rwC 124 (.slice (some ⟨W1.heap.size,0,none⟩) 1 1)) 84)) (W1.heap.size+1) 84 (rwC 124 (.slice (some ⟨W1.heap.size,0,none⟩) 1 1))):=by have:=Blk.new (W1.alloc (.cells #[.int .u8 nk,.slice nA nn nc,.slice nB nn' nc'] 84)) 84 (rwC 124 (.slice (some ⟨W1.heap.size,0,none⟩) 1 1));rw[World.size_alloc]at this;exact this
 have B22:=hid ((B21.out.alloc (.cells #[.int .u8 nk,.slice nA nn nc,.slice nB nn' nc'] 84)).alloc (.cells (rwC 124 (.slice (some ⟨W1.heap.size,0,none⟩) 1 1)) 84));have HG2:=hid (gr_alloc (gr_alloc HG1.out (.cells #[.int .u8 nk,.slice nA nn nc,.slice nB nn' nc'] 84)) (.cells (rwC 124 (.slice (some ⟨W1.heap.size,0,none⟩) 1 1)) 84));have HAT:Hid (AltAt b l o d 1 (altF l (grpF l d) a m) ((W1.alloc (.cells #[.int .u8 nk,.slice nA nn nc,.slice nB nn' nc'] 84)).alloc (.cells (rwC 124 (.slice (some ⟨W1.heap.size,0,none⟩) 1 1)) 84))):=by
  show AltAt _ _ _ _ _ _ _;cases hr:catF l (grpF l d) a m with
  |bad pl c=>rw[hr]at hres;exact .inr ⟨pl,c,Par.alloc (Par.alloc hres.1 _) _,hres.2,by omega,HAF.out _ hr⟩
  |ok a1 m1 p1=>rw[hr]at hres;obtain⟨f1,f2,f3,f4,f5,f6⟩:=HC1.out a1 m1 p1 hr;exact .inl ⟨l.size+1,a1,m1,p1,by omega,f2,by omega,Par.alloc (Par.alloc hres _) _,f3,f4,HAF.out _ hr⟩
 clear hv1 hg1 hres B21 HG1 B2 HG HP HAF HC1 HR1 HGM N1;go_wp2_with fail;have HJ:=hid hj2;generalize hj3:W1.heap.size=j3 at*
 generalize (W1.alloc (.cells _ 84)).alloc (.cells _ 84)=W2 at*
 clear hj3
 go_loopw [8] (fun s8 wr=>Hid (AltS w b w.heap.size (j3+1) l o d (altF l (grpF l d) a m) wr)) (fun s8 wr=>parM wr b l.size)
 case atStart=>exact⟨_,1,_,B31.out,O1.out,B22.out,HG2.out,(by intro e;injection e with e;dsimp only at e;omega),HAT.out⟩
 case round=>
  obtain⟨K,n,xs,h3r,hor,h2r,hgr,hk3,hat⟩:=hrel.out;have H3r:=hid h3r;have HOr:=hid hor;have H2r:=hid h2r;have HGr:=hid hgr;have HK3:=hid hk3;clear hrel h3r hor h2r hgr hk3 B31 O1 B22 HG2 HAT;obtain⟨KA,Kc,rfl⟩:=own_shape HOr.out;rcases hat with ⟨k,a',m',p',hk,ha',hn,hPr,hgm,hpi,hE⟩|⟨pl,c,hPr,hc,hn,hE⟩
  ·have HPr:=hid hPr
   have HGm:=hid hgm;have HIr:=hid hpi;have HEq:=hid hE;have HMr:Hid (parM wr b l.size=l.size+1-a'):=parM_ok hPr _;clear hPr hgm hpi hE;obtain⟨k,rfl⟩:∃k',k=k'+1:=⟨k-1,by omega⟩
   cases hs:sees l a' 124 with
   |false=>
    have HS:=hid (is_any b a' o 124 l false hs wr HPr.out hl ha');have HX:=hid (HEq.out.trans (altL_stop hs));clear hs HEq;go_wp2_with fail;refine(HS.out).mono ?_;rintro e w3⟨rfl,x3,rfl⟩;have HP3:=hid (HPr.out.drewN x3);have B33:=hid (H3r.out.drewN x3);have B23:=hid (H2r.out.drewN x3);have HG3:=hid (gr_drewN HGr.out x3);generalize wr.drewN x3=W3 at*
    clear HPr H3r H2r HGr HS HOr;obtain⟨n0,n1,n2⟩:=cells3 B33.out;obtain⟨r0,r1,r2⟩:=cells3 B23.out;obtain⟨z0,z1,z2⟩:=frozen3 B23.out;go_wp2;exact bodyPost_ret (v:=ndV 124 none 0 0 KA n Kc) (by simp[results,Tryz.results77,go_sem,r0,r1,r2]) rfl (rn_ok HX.out (nd_mk _ _ _ _ _ _ _) (gr_set3 HG3.out (Nat.le_refl _) _ _ _) (Blk.set3_other HP3.out (by omega) _ _ _))
   |true=>
    have HS:=hid (is_any b a' o 124 l true hs wr HPr.out hl ha');have hlt1:=sees_lt hs;have HR2:=hid (fun W hW=>HRO.out (a'+1) m' W HGm.out hW hlt1);have HC2:=hid (HCF.out (a'+1) m' hlt1 HGm.out);have HSE:=hid hs;clear hs HRO HCF;go_wp2_with fail;refine(HS.out).mono ?_;rintro e w3⟨rfl,x3,rfl⟩;have HP3:=hid (HPr.out.drewN x3);have B33:=hid (H3r.out.drewN x3);have B23:=hid (H2r.out.drewN x3);have HG3:=hid (gr_drewN HGr.out x3);have HO3:Hid ((wr.drewN x3).ownsRow (w.heap.size+1) 84 3 (.slice KA n Kc) n xs):=HOr.out;generalize wr.drewN x3=W3 at*
    clear HPr H3r H2r HGr HS HOr;have c1:=HP3.out.cells.2.1;have f1:=Blk.frozen HP3.out 1;go_upto_region 4 with fail;have HP4:=hid (HP3.out.at_ (a'+1) (.int .i64 ((a':Int)+1)) (by rfl));have B34:=hid (B33.out.other (k:=b) (by omega) 1 (.int .i64 ((a':Int)+1)));have B24:=hid (B23.out.other (k:=b) (by omega) 1 (.int .i64 ((a':Int)+1)));have HG4:=hid (gr_set HG3.out 1 (.int .i64 ((a':Int)+1)));have HO4:=hid (own_ne HO3.out (own_far HO3.out (show b<w.heap.size+1 by omega)) 1 (.int .i64 ((a':Int)+1)));generalize W3.setCell ⟨b,1,none⟩ (.int .i64 ((a':Int)+1))=W4 at*
    clear HP3 B33 B23 HG3 HO3 c1 f1;have HPd:Hid (Par W4.drew b l (a'+1) o 0):=HP4.out;have HR3:=hid (HR2.out W4.drew HPd.out);have B3d:Hid (Blk W4.drew (j3+1) 84 (rwC 124 (.slice KA n Kc))):=B34.out;have B2d:Hid (Blk W4.drew w.heap.size 84 zero3):=B24.out;have HGd:Hid (w.grownBy W4.drew (some b)):=gr_drew HG4.out;have HOd:Hid (W4.drew.ownsRow (w.heap.size+1) 84 3 (.slice KA n Kc) n xs):=HO4.out;have hj3b:j3+1<W4.drew.heap.size:=B3d.out.lt;have hj31:w.heap.size+1≤j3:=HJ.out;have hn2:n≤202:=by omega
    have HB1:Hid (n+1≤maxLen):=by show n+1≤maxLen;unfold maxLen;omega
    have hb2:(n+1)*56≤140737488355328:=by omega
    obtain⟨k0,k1,k2⟩:=cells3 B34.out;obtain⟨t0,t1,t2⟩:=frozen3 B34.out;clear HR2 HP4 B24 HG4 HO4;refine wp_region_noPanic ?_
    go_region_law
     (first
       |(go_simp;go_at_call 92;refine(HR3.out).mono ?_;rintro e W5 hrn
         obtain⟨nk,nA,nn,nc,nB,nn',nc',rfl⟩:=hrn.shape;have HRN:=hid hrn.2.2;have B35:=hid (B3d.out.grown hrn.2.1 (by intro e;injection e;omega));have B25:=hid (B2d.out.grown hrn.2.1 (by intro e;injection e;omega));have HG5:=hid (gr_trans HGd.out hrn.2.1);have HO5:=hid (own_grown HOd.out hrn.2.1 (own_far HOd.out (show b<w.heap.size+1 by omega)));have h35:j3+1<W5.heap.size:=B35.out.lt;have B36:=hid (B35.out.alloc (.cells #[.int .u8 nk,.slice nA nn nc,.slice nB nn' nc'] 84));have B26:=hid (B25.out.alloc (.cells #[.int .u8 nk,.slice nA nn nc,.slice nB nn' nc'] 84));have HG6:=hid (gr_alloc HG5.out (.cells #[.int .u8 nk,.slice nA nn nc,.slice nB nn' nc'] 84));have HO6:=hid (own_below HO5.out ((Below.refl _ _).alloc (Nat.le_refl _) (.cells #[.int .u8 nk,.slice nA nn nc,.slice nB nn' nc'] 84)));have HTR:=hid (triple_at W5 (.int .u8 nk) (.slice nA nn nc) (.slice nB nn' nc') W5.heap.size rfl 84);obtain⟨q0,q1,q2⟩:=cells3 B35.out;obtain⟨y0,y1,y2⟩:=cells3 B36.out;clear hrn)
       |(refine step_append_lies _ (by rfl) (.tmp 18) (.tmp 21) 82 (by rfl) (w.heap.size+1) 84 i0 _ 3 56 Tryz.underlying82 hi0 hz0 hz1 hz2 rfl (by decide) (.slice KA n Kc) n xs (by rfl) HO6.out ⟨W5.heap.size,0,none⟩ 1 1 [.int .u8 nk,.slice nA nn nc,.slice nB nn' nc'] (by rfl) (by rfl) HTR.out (by intro u hu;simp at hu;rcases hu with rfl|rfl|rfl<;>rfl) (by decide) HB1.out hb2 (by simp;omega) (W5.heap.size+1) (by simp) ?_
         intro g cap w7 hown hgrow hat hlt;have HO7:=hid hown;have B37:=hid (B36.out.grown hgrow HK3.out);have B27:=hid (B26.out.grown hgrow (own_far HO6.out (by omega)));have HG7:=hid (gr_own HG6.out HO6.out hgrow (by omega));have HGW:=hid hgrow;have HK7:Hid ((Value.slice (some ⟨g,0,none⟩) (n+1) cap).ownBlock≠some (j3+1)):=by
          intro e;injection e with e;rcases hat with h|h
          ·exact HK3.out (by rw[h,←e])
          ·simp only at e;omega
         obtain⟨z0,z1,z2⟩:=cells3 B37.out;obtain⟨v0,v1,v2⟩:=frozen3 B37.out;clear hown hgrow hat))
    all_goals
     refine NoPanic.normal ?_;have B38:=hid (B37.out.set_ 2 (.slice (some ⟨g,0,none⟩) (n+1) cap));have B28:=hid (B27.out.other (k:=j3+1) (by omega) 2 (.slice (some ⟨g,0,none⟩) (n+1) cap));have HG8:=hid (gr_set_new HG7.out (show w.heap.size≤j3+1 by omega) 2 (.slice (some ⟨g,0,none⟩) (n+1) cap));have HO8:=hid (own_ne HO7.out HK7.out 2 (.slice (some ⟨g,0,none⟩) (n+1) cap));have HPT:Hid (∀a2 c,Par W5 b l a2 o c→Par (w7.setCell ⟨j3+1,2,none⟩ (.slice (some ⟨g,0,none⟩) (n+1) cap)) b l a2 o c):=fun a2 c h=>Blk.other (Blk.grown (Par.alloc h _) HGW.out (own_far HO6.out (by omega))) (by omega) 2 _;clear z0 z1 z2 v0 v1 v2 q0 q1 q2 y0 y1 y2 k0 k1 k2 t0 t1 t2 B37 B27 HG7 HO7 HGW B36 B26 HG6 HO6 HTR B35 B25 HG5 HO5 HR3 B3d B2d HGd HOd HPd B34;generalize w7.setCell ⟨j3+1,2,none⟩ (.slice (some ⟨g,0,none⟩) (n+1) cap)=W8 at*
     cases hr:catF l (grpF l d) (a'+1) m' with
     |bad pl c=>
      have h:=HRN.out;rw[hr]at h;have HP8:=hid (HPT.out pl c h.1);have hc:=h.2;have HX:=hid (HEq.out.trans (altL_bad HSE.out hr));have HM8:Hid (parM W8 b l.size=0):=parM_bad HP8.out hc _;have HM8d:Hid (parM W8.drew b l.size=0):=parM_bad (by exact HP8.out) hc _;clear h hr HRN HPT;go_wp2
      go_roundw
      case rel=>exact⟨_,n+1,_,(by exact B38.out),(by exact HO8.out),(by exact B28.out),(by first|exact HG8.out|exact gr_drew HG8.out),HK7.out,.inr ⟨pl,c,(by exact HP8.out),hc,by omega,HX.out⟩⟩
      case measure=>first|(rw[HM8.out,HMr.out];omega)|(rw[HM8d.out,HMr.out];omega)
     |ok a2 m2 p2=>
      have h:=HRN.out;rw[hr]at h;have HP8:=hid (HPT.out a2 0 h);obtain⟨f1,f2,f3,f4,f5,f6⟩:=HC2.out a2 m2 p2 hr;have HX:=hid (HEq.out.trans (altL_ok HSE.out hr));have HGG:=hid f3;have HEI:=hid (either_in (HIr.out.mono f5) f4);have HM8:Hid (parM W8 b l.size=l.size+1-a2):=parM_ok HP8.out _;have HM8d:Hid (parM W8.drew b l.size=l.size+1-a2):=parM_ok (by exact HP8.out) _;clear h hr HRN HPT f3 f4 f5 f6;go_wp2
      go_roundw
      case rel=>exact⟨_,n+1,_,(by exact B38.out),(by exact HO8.out),(by exact B28.out),(by first|exact HG8.out|exact gr_drew HG8.out),HK7.out,.inl ⟨k,a2,m2,_,by omega,f2,by omega,(by exact HP8.out),HGG.out,HEI.out,HX.out⟩⟩
      case measure=>first|(rw[HM8.out,HMr.out];omega)|(rw[HM8d.out,HMr.out];omega)
  ·have HPr:=hid hPr
   have HX:=hid hE;have HK:=hid (is_bad b pl o c 124 l wr hPr hc);clear hPr hE;go_wp2_with fail;refine(HK.out).mono ?_;rintro e w3⟨rfl,x3,rfl⟩;have HP3:=hid (HPr.out.drewN x3);have B33:=hid (H3r.out.drewN x3);have B23:=hid (H2r.out.drewN x3);have HG3:=hid (gr_drewN HGr.out x3);generalize wr.drewN x3=W3 at*
   clear HPr H3r H2r HGr HK HOr;obtain⟨n0,n1,n2⟩:=cells3 B33.out;obtain⟨r0,r1,r2⟩:=cells3 B23.out;obtain⟨z0,z1,z2⟩:=frozen3 B23.out;go_wp2;exact bodyPost_ret (v:=ndV 124 none 0 0 KA n Kc) (by simp[results,Tryz.results77,go_sem,r0,r1,r2]) rfl (rn_bad HX.out (nd_mk _ _ _ _ _ _ _) (gr_set3 HG3.out (Nat.le_refl _) _ _ _) (Blk.set3_other HP3.out (by omega) _ _ _) hc)
end Go.Proofs.YticmkabafmmlhaaGreatDoor.Rg

set_option linter.unusedVariables false
set_option maxRecDepth 100000
set_option maxHeartbeats 8000000
namespace Go.Proofs.YticmkabafmmlhaaGreatDoor.Rg
open Go.RowKit Rx
open Lib (hid)
theorem ra_any(b:Nat)(l:ByteArray)(hl:l.size≤200):∀d o,o+d=32→RA b l o d
 |0,o,h=>fun m a w hm hp ha=>refalt_any b a o 0 l m w (fun d' e=>by omega) h hm hp hl ha
 |d+1,o,h=>fun m a w hm hp ha=>refalt_any b a o (d+1) l m w (fun d' e=>by
   obtain rfl:d=d':=by omega
   exact ra_any b l hl d (o+1) (by omega)) h hm hp hl ha
def PsPost(l:ByteArray)(w:World)(r:Res)(e:Ending)(w':World):Prop:=
 Below w.heap.size w w'∧∃v,Nd v∧match r with
 |.bad pl c=>e=.returned (.tuple #[v,.int .i64 pl,.int .i64 c])∧(c=2∨c=12)
 |.ok a m p=>e=.returned (.tuple #[v,.int .i64 a,.int .i64 0])
theorem pspost_bad{l:ByteArray}{w w':World}{r:Res}{pl c:Nat}{v:Value}{u:Value}(hr:r=.bad pl c)(hb:Below w.heap.size w w')(hv:Nd v)(hu:u=.tuple #[v,.int .i64 pl,.int .i64 c])(hc:c=2∨c=12):PsPost l w r (.returned u) w':=by subst hr;subst hu;exact⟨hb,v,hv,rfl,hc⟩
theorem pspost_ok{l:ByteArray}{w w':World}{r:Res}{a:Nat}{m:Mach}{p:Pc}{v:Value}{u:Value}(hr:r=.ok a m p)(hb:Below w.heap.size w w')(hv:Nd v)(hu:u=.tuple #[v,.int .i64 a,.int .i64 0]):PsPost l w r (.returned u) w':=by subst hr;subst hu;exact⟨hb,v,hv,rfl⟩
theorem kept3{w:World}{a:Addr}{v:Value}{g:Nat}{v0 v1 v2:Value}(h:w.cell? a=some v)(hn:a.block≠g):(put3 w g v0 v1 v2).cell? a=some v:=by have e:∀x,(⟨g,x,none⟩:Addr)≠a:=fun x he=>hn (by rw[←he]);unfold put3;rw[World.cell?_setCell_other _ _ _ _ (e 2),World.cell?_setCell_other _ _ _ _ (e 1),World.cell?_setCell_other _ _ _ _ (e 0)];exact h
theorem gr_to_below{w w1 w2:World}{b:Nat}(hb:w.heap.size≤b)(h1:Below w.heap.size w w1)(h:w1.grownBy w2 (some b)):Below w.heap.size w w2:=⟨h.os.trans h1.os,h.tape.trans h1.tape,h.output.trans h1.output,Nat.le_trans h1.size h.size,fun j hj=>(h.block j (Nat.lt_of_lt_of_le hj h1.size) (fun e=>by injection e;omega)).trans (h1.block j hj)⟩
theorem parse_long(l:ByteArray)(w:World)(hl:200<l.size):
 Calls Tryz.prog 50 #[.string l] w (PsPost l w (readF l)):=by
 have HX:Hid (readF l=.bad 0 2):=if_pos hl;have hd:decide ((200:Int)<(l.size:Int))=true:=by simp;omega
 have B0:=hid (Blk.new w 84 zero3);have HB:=hid ((Below.refl w.heap.size w).alloc (Nat.le_refl _) (.cells zero3 84));go_enter Tryz.func50,Tryz.ntmps50;go_upto_region 1 with fail;generalize w.alloc (.cells zero3 84)=W at*
 obtain⟨r0,r1,r2⟩:=cells3 B0.out;obtain⟨z0,z1,z2⟩:=frozen3 B0.out;go_wp2;exact bodyPost_ret (v:=.tuple #[ndV 0 none 0 0 none 0 0,.int .i64 0,.int .i64 2]) (by simp[results,Tryz.results50,go_sem,r0,r1,r2]) rfl (pspost_bad HX.out (below3 HB.out (Nat.le_refl _) _ _ _) (nd_mk _ _ _ _ _ _ _) rfl (.inl rfl))
theorem parse_short(l:ByteArray)(w:World)(hl:l.size≤200):
 Calls Tryz.prog 50 #[.string l] w (PsPost l w (readF l)):=by
 have HX:Hid (∀r,altF l (grpF l 32) 0 ⟨[],[]⟩=r→readF l=match r with|.bad pl c=>.bad pl c|.ok a m p=>if a=l.size then .ok a m p else .bad a 2):=fun r h=>by subst h;unfold readF;rw[if_neg (by omega)];cases altF l (grpF l 32) 0 ⟨[],[]⟩<;>rfl
 have hd:decide ((200:Int)<(l.size:Int))=false:=by simp;omega
 have B0:=hid ((Blk.new w 84 zero3).alloc (.cells (prC l 0 0 0) 119));have HB:=hid (((Below.refl w.heap.size w).alloc (Nat.le_refl _) (.cells zero3 84)).alloc (by simp) (.cells (prC l 0 0 0) 119));have HP:Hid (Par ((w.alloc (.cells zero3 84)).alloc (.cells (prC l 0 0 0) 119)) (w.heap.size+1) l 0 0 0):=by have:=Blk.new (w.alloc (.cells zero3 84)) 119 (prC l 0 0 0);rw[World.size_alloc]at this;exact this
 have HR:=hid (ra_any (w.heap.size+1) l hl 32 0 rfl ⟨[],[]⟩ 0 _ good_nil HP.out (Nat.zero_le _));have HFI:=hid (alt_fine (grp_fine l 32) (Nat.zero_le l.size) good_nil);go_enter Tryz.func50,Tryz.ntmps50;go_wp2_with fail;generalize (w.alloc (.cells _ 84)).alloc (.cells _ 119)=W at*
 refine(HR.out).mono ?_;rintro e W1 hrn;obtain⟨nk,nA,nn,nc,nB,nn',nc',rfl⟩:=hrn.shape;obtain⟨hv1,hg1,hres⟩:=hrn;have HB1:=hid (gr_to_below (show w.heap.size≤w.heap.size+1 by omega) HB.out hg1);have B1:=hid (B0.out.grown hg1 (by intro e;injection e;omega));have hw1:w.heap.size+1<W1.heap.size:=Nat.lt_of_lt_of_le HP.out.lt hg1.size;have HB2:=hid (HB1.out.alloc HB1.out.size (.cells #[.int .u8 nk,.slice nA nn nc,.slice nB nn' nc'] 84));have B2:=hid (B1.out.alloc (.cells #[.int .u8 nk,.slice nA nn nc,.slice nB nn' nc'] 84));have N2:=hid (Blk.new W1 84 #[.int .u8 nk,.slice nA nn nc,.slice nB nn' nc']);have HPA:Hid (∀a c,Par W1 (w.heap.size+1) l a 0 c→Par (W1.alloc (.cells #[.int .u8 nk,.slice nA nn nc,.slice nB nn' nc'] 84)) (w.heap.size+1) l a 0 c):=fun a c h=>Par.alloc h _;go_upto_region 5 with fail;generalize hW:W1.alloc (.cells #[.int .u8 nk,.slice nA nn nc,.slice nB nn' nc'] 84)=W2 at*
 generalize hj:W1.heap.size=j6 at*
 clear hW hj HR HB B0 HP hg1 hv1 HB1 B1;have hj6:j6≠w.heap.size:=by omega
 have hjb:j6≠w.heap.size+1:=by omega
 cases hr:altF l (grpF l 32) 0 ⟨[],[]⟩with
 |bad pl c=>
  rw[hr]at hres;have HP2:=hid (HPA.out pl c hres.1);have hc:=hres.2;have HX1:Hid (readF l=.bad pl c):=HX.out _ hr;clear hr hres HX HFI HPA;obtain⟨c0,c1,c2,c3⟩:=HP2.out.cells;have hc0:((c:Int)==0)=false:=by simp;omega
  have hc0':(c:Int)≠0:=by omega
  go_upto_region 7 with fail;obtain⟨n0,n1,n2⟩:=cells3 N2.out;obtain⟨r0,r1,r2⟩:=cells3 B2.out;obtain⟨z0,z1,z2⟩:=frozen3 B2.out
  go_region_held3 (fun w'=>w'.cell? ⟨j6,0,none⟩=some (.int .u8 nk)∧w'.cell? ⟨j6,1,none⟩=some (.slice nA nn nc)∧w'.cell? ⟨j6,2,none⟩=some (.slice nB nn' nc')∧w'.cell? ⟨w.heap.size+1,1,none⟩=some (.int .i64 pl)∧w'.cell? ⟨w.heap.size+1,3,none⟩=some (.int .i64 c))
   (first|exact⟨n0,n1,n2,c1,c3⟩|exact⟨kept3 n0 hj6,kept3 n1 hj6,kept3 n2 hj6,kept3 c1 (by simp),kept3 c3 (by simp)⟩) (fail)
  all_goals
   have B4:=hid (B2.out.set3 (.int .u8 nk) (.slice nA nn nc) (.slice nB nn' nc'));have HB4:=hid (below3 HB2.out (Nat.le_refl _) (.int .u8 nk) (.slice nA nn nc) (.slice nB nn' nc'));unfold put3 at B4 HB4;clear n0 n1 n2 c0 c1 c2 c3 r0 r1 r2 z0 z1 z2;generalize World.setCell _ ⟨w.heap.size,2,none⟩ _=W4 at*
   obtain⟨r0,r1,r2⟩:=cells3 B4.out;go_wp2;exact bodyPost_ret (v:=.tuple #[ndV nk nA nn nc nB nn' nc',.int .i64 pl,.int .i64 c]) (by simp[results,Tryz.results50,go_sem,r0,r1,r2]) rfl (pspost_bad HX1.out (by first|exact HB4.out|exact HB4.out.drew) (nd_mk _ _ _ _ _ _ _) rfl hc)
 |ok a m p=>
  rw[hr]at hres;have HP2:=hid (HPA.out a 0 hres);have ha1:a≤l.size:=(HFI.out a m p hr).2.1;have HX1:Hid (readF l=if a=l.size then .ok a m p else .bad a 2):=HX.out _ hr;clear hr hres HX HFI HPA;obtain⟨c0,c1,c2,c3⟩:=HP2.out.cells;by_cases ha:a=l.size
  ·have HX2:=hid (HX1.out.trans (if_pos ha))
   clear HX1 ha1;subst ha;have hlt:decide ((l.size:Int)<(l.size:Int))=false:=by simp
   go_upto_region 7 with fail;obtain⟨n0,n1,n2⟩:=cells3 N2.out;obtain⟨r0,r1,r2⟩:=cells3 B2.out;obtain⟨z0,z1,z2⟩:=frozen3 B2.out
   go_region_held3 (fun w'=>w'.cell? ⟨j6,0,none⟩=some (.int .u8 nk)∧w'.cell? ⟨j6,1,none⟩=some (.slice nA nn nc)∧w'.cell? ⟨j6,2,none⟩=some (.slice nB nn' nc')∧w'.cell? ⟨w.heap.size+1,1,none⟩=some (.int .i64 l.size)∧w'.cell? ⟨w.heap.size+1,3,none⟩=some (.int .i64 ((0:Nat):Int)))
    (first|exact⟨n0,n1,n2,c1,c3⟩|exact⟨kept3 n0 hj6,kept3 n1 hj6,kept3 n2 hj6,kept3 c1 (by simp),kept3 c3 (by simp)⟩) (fail)
   all_goals
    have B4:=hid (B2.out.set3 (.int .u8 nk) (.slice nA nn nc) (.slice nB nn' nc'));have HB4:=hid (below3 HB2.out (Nat.le_refl _) (.int .u8 nk) (.slice nA nn nc) (.slice nB nn' nc'));unfold put3 at B4 HB4;clear n0 n1 n2 c0 c1 c2 c3 r0 r1 r2 z0 z1 z2;generalize World.setCell _ ⟨w.heap.size,2,none⟩ _=W4 at*
    obtain⟨r0,r1,r2⟩:=cells3 B4.out;go_wp2;exact bodyPost_ret (v:=.tuple #[ndV nk nA nn nc nB nn' nc',.int .i64 l.size,.int .i64 ((0:Nat):Int)]) (by simp[results,Tryz.results50,go_sem,r0,r1,r2]) rfl (pspost_ok HX2.out (by first|exact HB4.out|exact HB4.out.drew) (nd_mk _ _ _ _ _ _ _) rfl)
  ·have hlt:decide ((a:Int)<(l.size:Int))=true:=by simp;omega
   have HX2:=hid (HX1.out.trans (if_neg ha));clear HX1;have f3:=Blk.frozen HP2.out 3;go_upto_region 7 with fail;have HP3:=hid (HP2.out.wr_ 2 (.int .i64 2) rfl);have B3:=hid (B2.out.other (k:=w.heap.size+1) (by omega) 3 (.int .i64 2));have N3:=hid (N2.out.other (k:=w.heap.size+1) hjb 3 (.int .i64 2));have HB3:=hid (HB2.out.setCell (p:=⟨w.heap.size+1,3,none⟩) (by simp) (.int .i64 2));generalize W2.setCell ⟨w.heap.size+1,3,none⟩ (.int .i64 2)=W3 at*
   clear HP2 B2 N2 HB2 c0 c1 c2 c3 f3;obtain⟨c0,c1,c2,c3⟩:=HP3.out.cells;obtain⟨n0,n1,n2⟩:=cells3 N3.out;obtain⟨r0,r1,r2⟩:=cells3 B3.out;obtain⟨z0,z1,z2⟩:=frozen3 B3.out
   go_region_held3 (fun w'=>w'.cell? ⟨j6,0,none⟩=some (.int .u8 nk)∧w'.cell? ⟨j6,1,none⟩=some (.slice nA nn nc)∧w'.cell? ⟨j6,2,none⟩=some (.slice nB nn' nc')∧w'.cell? ⟨w.heap.size+1,1,none⟩=some (.int .i64 a)∧w'.cell? ⟨w.heap.size+1,3,none⟩=some (.int .i64 ((2:Nat):Int)))
    (first|exact⟨n0,n1,n2,c1,c3⟩|exact⟨kept3 n0 hj6,kept3 n1 hj6,kept3 n2 hj6,kept3 c1 (by simp),kept3 c3 (by simp)⟩) (fail)
   all_goals
    have B4:=hid (B3.out.set3 (.int .u8 nk) (.slice nA nn nc) (.slice nB nn' nc'));have HB4:=hid (below3 HB3.out (Nat.le_refl _) (.int .u8 nk) (.slice nA nn nc) (.slice nB nn' nc'));unfold put3 at B4 HB4;clear n0 n1 n2 c0 c1 c2 c3 r0 r1 r2 z0 z1 z2;generalize World.setCell _ ⟨w.heap.size,2,none⟩ _=W4 at*
    obtain⟨r0,r1,r2⟩:=cells3 B4.out;go_wp2;exact bodyPost_ret (v:=.tuple #[ndV nk nA nn nc nB nn' nc',.int .i64 a,.int .i64 2]) (by simp[results,Tryz.results50,go_sem,r0,r1,r2]) rfl (pspost_bad HX2.out (by first|exact HB4.out|exact HB4.out.drew) (nd_mk _ _ _ _ _ _ _) rfl (.inl rfl))
theorem parse_any(l:ByteArray)(w:World):Calls Tryz.prog 50 #[.string l] w (PsPost l w (readF l)):=by
 by_cases h:200<l.size
 ·exact parse_long l w h
 ·exact parse_short l w (by omega)
end Go.Proofs.YticmkabafmmlhaaGreatDoor.Rg

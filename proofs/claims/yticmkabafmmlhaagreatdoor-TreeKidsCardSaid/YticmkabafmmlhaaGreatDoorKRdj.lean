/- The document's reader: a class that is turned. Condition: a text of at most 200 bytes. -/
import Derived.Test.YticmkabafmmlhaaGreatDoorKRbj
import Derived.Test.YticmkabafmmlhaaGreatDoorKWbj
set_option linter.unusedVariables false
set_option maxRecDepth 100000
set_option maxHeartbeats 16000000
namespace Go.Proofs.YticmkabafmmlhaaGreatDoor.Rg
open Go.RowKit Rx
open Lib (hid)
theorem refclass_yes(b a o:Nat)(l:ByteArray)(m:Mach)(w:World)(hp:Par w b l a o 0)(hl:l.size≤200)(ha:a<l.size)(hs:sees l (a+1) 94=true):
 Calls Tryz.prog 126 #[.pointer (some ⟨b,0,none⟩)] w (RN b l o w (classF l a m)):=by
 have hC:∀r,itemsF l (l.size+1) (a+2) 0=r→classF l a m=match r with|.bad pl=>.bad pl 2|.ok a1 t=>.ok (a1+1) (placeM m (notS t)) (placeP m):=fun r h=>by unfold classF;rw[hs];simp only[if_true];rw[h];cases r<;>rfl
 have HC:=hid hC;have hmk:=make256;have HB0:=fun W=>hid (BB.new W);have HIN:=hid (fun W hW=>is_any b (a+1) o 94 l true hs W hW hl ha);have HEND:=hid (fun a1 r (hr:sees l a1 93=r) (h:a1≤l.size) W hW=>is_any b a1 o 93 l r hr W hW hl h);have HP:=hid (hp.alloc (.cells zero3 84));have HR:=hid (Blk.new w 84 zero3);have HG:=hid (gr_alloc (gr_refl w (some b)) (.cells zero3 84));have hbl:b<w.heap.size:=Blk.lt hp;have hlt:=sees_lt hs;generalize mc256=mc at*
 clear hC hp hs;go_enter Tryz.func126,Tryz.ntmps126;go_upto_region 1 with fail;generalize hW:w.alloc (.cells zero3 84)=W at*
 have hWs:W.heap.size=(w.heap.size)+1:=by rw[←hW,World.size_alloc]
 clear hW;have c1:=HP.out.cells.2.1;have f1:=Blk.frozen HP.out 1;go_upto_region 2 with fail;have HP1:=hid (HP.out.at_ (a+1) (.int .i64 ((a:Int)+1)) (by rfl));have HR1:=hid (HR.out.other (k:=b) (by omega) 1 (.int .i64 ((a:Int)+1)));have HG1:=hid (gr_set HG.out 1 (.int .i64 ((a:Int)+1)));have hWs1:(W.setCell ⟨b,1,none⟩ (.int .i64 ((a:Int)+1))).heap.size=(w.heap.size)+1:=by rw[←hWs];simp[World.setCell]
 generalize W.setCell ⟨b,1,none⟩ (.int .i64 ((a:Int)+1))=W1 at*
 clear HP HR HG c1 f1 hWs;go_wp2_with fail;refine(HIN.out _ HP1.out).mono ?_;rintro e w2⟨rfl,n2,rfl⟩;have HP2:=hid (HP1.out.drewN n2);have HR2:=hid (HR1.out.drewN n2);have HG2:=hid (gr_drewN HG1.out n2);have hWs2:(W1.drewN n2).heap.size=(w.heap.size)+1:=hWs1;generalize W1.drewN n2=W2 at*
 clear HP1 HR1 HG1 HIN hWs1;have c1:=HP2.out.cells.2.1;have f1:=Blk.frozen HP2.out 1;go_upto_region 5 with fail;have HP3:=hid (HP2.out.at_ (a+2) (.int .i64 ((a:Int)+1+1)) (by rfl));have HR3:=hid (HR2.out.other (k:=b) (by omega) 1 (.int .i64 ((a:Int)+1+1)));have HG3:=hid (gr_set HG2.out 1 (.int .i64 ((a:Int)+1+1)));have hWs3:(W2.setCell ⟨b,1,none⟩ (.int .i64 ((a:Int)+1+1))).heap.size=(w.heap.size)+1:=by rw[←hWs2];simp[World.setCell]
 generalize W2.setCell ⟨b,1,none⟩ (.int .i64 ((a:Int)+1+1))=W3 at*
 clear HP2 HR2 HG2 c1 f1 hWs2;obtain⟨q,hq⟩:∃q,q=a+2:=⟨_,rfl⟩
 rw[←hq]at HC HP3;have hql:q≤l.size:=by omega
 have HB4:=hid ((HB0 W3).out.alloc (.cells (clN (w.heap.size+1)) 84));have HR4:=hid ((HR3.out.alloc (.cells mc 4)).alloc (.cells (clN (w.heap.size+1)) 84));have HN4:=hid (Blk.new (W3.alloc (.cells mc 4)) 84 (clN (w.heap.size+1)));have HP4:=hid ((HP3.out.alloc (.cells mc 4)).alloc (.cells (clN (w.heap.size+1)) 84));have HG4:=hid (gr_alloc (gr_alloc HG3.out (.cells mc 4)) (.cells (clN (w.heap.size+1)) 84));rw[World.size_alloc,hWs3]at HN4;rw[hWs3]at HB4;go_upto_region 6 with fail;generalize hW:(W3.alloc (.cells mc 4)).alloc (.cells #[.int .u8 91,.slice (some ⟨(w.heap.size+1),0,none⟩) 256 256,.slice none 0 0] 84)=W4 at*
 have hg0:w.heap.size≤(w.heap.size+1):=by omega
 have hgb:(w.heap.size+1)≠b:=by omega
 have hg2:(w.heap.size+1)≠(w.heap.size):=by omega
 have hg4:(w.heap.size+1)≠(w.heap.size+1+1):=by omega
 have h42:(w.heap.size+1+1)≠(w.heap.size):=by omega
 have h4b:(w.heap.size+1+1)≠b:=by omega
 have h2b:(w.heap.size)≠b:=by omega
 clear hW hmk HB0 HP3 HR3 HG3 hWs3;go_wp2_with fail
 go_loopw [5,6,7,8] (fun s5 s6 s7 s8 wr=>Hid (ClS b l o q (w.heap.size+1) (w.heap.size) (w.heap.size+1+1) w s5 wr)) (fun s5 s6 s7 s8 wr=>parM wr b l.size)
 case atStart=>exact(cls_ok (mn:=0) (k:=l.size+1) (a1:=q) (t:=0) rfl HB4.out HR4.out HN4.out HG4.out (by omega) (by omega) hql (by decide) HP4.out (if_pos rfl).symm)
 case round=>
  obtain⟨hBr,h2r,h4r,hGr,hst⟩:=hrel.out;have HBr:=hid hBr;have H2r:=hid h2r;have H4r:=hid h4r;have HGr:=hid hGr;rcases hst with ⟨mn,k,a1,t,rfl,hmn,hk,ha1,ht,hPr,hQ⟩|⟨mn,pl,rfl,hPr,hQ⟩
  ·have HPr:=hid hPr
   have HIQ:=hid hQ;have HMr:Hid (parM wr b l.size=l.size+1-a1):=parM_ok hPr _;clear hrel hBr h2r h4r hGr hPr hQ HB4 HR4 HN4 HG4 HP4;obtain⟨k',rfl⟩:∃k',k=k'+1:=⟨k-1,by omega⟩
   have c3:=HPr.out.cells.2.2.2;by_cases hm0:mn=0
   ·have he:((mn:Int)==0)=true:=by simp[hm0]
    rw[if_pos hm0]at HIQ;clear HC;generalize wr=Wr at*
    have HLT:=hid (letter_any b a1 o l Wr HPr.out hl ha1);cases hc:ccharF l a1 with
    |bad pl=>
     rw[hc]at HLT;have HIX:Hid (itemsF l (l.size+1) q 0=.bad pl):=HIQ.out.trans (itemsF_stop (by unfold itemF;rw[hc]));clear hc HIQ;go_wp2_with fail;refine(HLT.out).mono ?_;rintro e Wx⟨hgx,rfl,hpx⟩;have HPx:=hid hpx;have HBx:=hid (HBr.out.grown hgx (by intro e;injection e;omega));have H2x:=hid (H2r.out.grown hgx (by intro e;injection e;omega));have H4x:=hid (H4r.out.grown hgx (by intro e;injection e;omega));have HGx:=hid (gr_trans HGr.out hgx);clear hgx hpx HLT;have c3:=HPx.out.cells.2.2.2;have HMx:Hid (parM Wx b l.size=0):=parM_bad HPx.out (.inl rfl) _;go_wp2_with fail;refine wp_loop_rounds 1 ?_;rw[rounds_succ];go_wp2
     go_roundw
     case rel=>exact(cls_bad (mn:=mn+1) (by go_num) HBx.out H2x.out H4x.out HGx.out HPx.out HIX.out)
     case measure=>rw[HMx.out,HMr.out];omega
    |ok a2 lo=>
     rw[hc]at HLT;obtain⟨k1,k2,k3⟩:=ccharF_ok hc;cases hs:sees l a2 45 with
     |false=>
      have hit:itemF l a1 t=.ok a2 (addR t lo 1):=by unfold itemF;rw[hc];dsimp only;rw[hs];rfl
      have HIX:=hid (HIQ.out.trans (itemsF_next hit));have HT2:=hid (itemF_ok ht hit).2.2;have HIS:=hid (fun W hW=>is_any b a2 o 45 l false hs W hW hl k2);clear hc hs HIQ hit;go_wp2_with fail;refine(HLT.out).mono ?_;rintro e W2⟨hgx,rfl,hpx⟩;have HP2:=hid hpx;have HB2:=hid (HBr.out.grown hgx (by intro e;injection e;omega));have H22:=hid (H2r.out.grown hgx (by intro e;injection e;omega));have H42:=hid (H4r.out.grown hgx (by intro e;injection e;omega));have HG2:=hid (gr_trans HGr.out hgx);clear hgx hpx HLT;have c3:=HP2.out.cells.2.2.2;go_wp2_with fail;refine(HIS.out _ HP2.out).mono ?_;rintro e w3⟨rfl,n3,rfl⟩;have HP3:=hid (HP2.out.drewN n3);have HB3:=hid (HB2.out.drewN n3);have H23:=hid (H22.out.drewN n3);have H43:=hid (H42.out.drewN n3);have HG3:=hid (gr_drewN HG2.out n3);generalize W2.drewN n3=W3 at*
      clear HP2 HB2 H22 H42 HG2 HIS c3;have c3:=HP3.out.cells.2.2.2;have hcmp:decide ((lo:Int)<(lo:Int))=false:=by simp
      go_wp2_with fail
      go_loopw [8] (fun s8 wq=>∃kk:Nat,s8=.int .i64 kk∧lo≤kk∧kk≤lo+1∧Hid (BB wq (w.heap.size+1))∧Hid (Blk wq (w.heap.size) 84 zero3)∧Hid (Blk wq (w.heap.size+1+1) 84 (clN (w.heap.size+1)))∧Hid (w.grownBy wq (some b))∧Hid (Par wq b l a2 o 0)) (fun s8 _=>(lo+1-intOf s8).toNat)
      case atStart=>exact⟨lo,rfl,Nat.le_refl _,by omega,HB3,H23,H43,HG3,HP3⟩
      case round=>
       obtain⟨kk,rfl,hkk1,hkk2,HBq,H2q,H4q,HGq,HPq⟩:=hrel;have c3:=HPq.out.cells.2.2.2;by_cases hkk:kk≤lo
       ·have hd:decide ((kk:Int)≤(lo:Int))=true:=by simp;omega
        have q0:(0:Int)≤(kk:Int):=by omega
        have q1:(kk:Int)<256:=by omega
        obtain⟨bv,hbv⟩:=HBq.out.cell (i:=kk) (by omega);have hbf:=HBq.out.frozen kk;obtain⟨n0,n1,n2⟩:=cells3 H4q.out;have HBs:=hid (HBq.out.set kk true);have H2s:=hid (H2q.out.other (k:=(w.heap.size+1)) (by omega) kk (.bool true));have H4s:=hid (H4q.out.other (k:=(w.heap.size+1)) (by omega) kk (.bool true));have HGs:=hid (gr_set_new HGq.out hg0 kk (.bool true));have HPs:=hid (HPq.out.other (k:=(w.heap.size+1)) (by omega) kk (.bool true));go_wp2
        go_roundw
        case rel=>exact⟨kk+1,by go_num,by omega,by omega,HBs,H2s,H4s,HGs,HPs⟩
        case measure=>simp[intOf];omega
       ·have hd:decide ((kk:Int)≤(lo:Int))=false:=by simp;omega
        have HMq:Hid (parM wr b l.size=l.size+1-a2):=parM_ok HPq.out _;go_wp2
        go_roundw
        case rel=>exact(cls_ok (mn:=mn+1) (k:=k') (by go_num) HBq.out H2q.out H4q.out HGq.out (by omega) (by omega) (by omega) HT2.out HPq.out (HIX.out.trans (if_neg (by omega)).symm))
        case measure=>rw[HMq.out,HMr.out];omega
     |true=>
      have HIS:=hid (fun W hW=>is_any b a2 o 45 l true hs W hW hl k2);have hlt2:=sees_lt hs;have HLT2:=hid (fun W hW=>letter_any b (a2+1) o l W hW hl hlt2);cases hc2:ccharF l (a2+1)with
      |bad pl=>
       rw[hc2]at HLT2;have HIX:Hid (itemsF l (l.size+1) q 0=.bad pl):=HIQ.out.trans (itemsF_stop (by unfold itemF;simp[hc,hs,hc2]));clear hc hs HIQ hc2;go_wp2_with fail;refine(HLT.out).mono ?_;rintro e W2⟨hgx,rfl,hpx⟩;have HP2:=hid hpx;have HB2:=hid (HBr.out.grown hgx (by intro e;injection e;omega));have H22:=hid (H2r.out.grown hgx (by intro e;injection e;omega));have H42:=hid (H4r.out.grown hgx (by intro e;injection e;omega));have HG2:=hid (gr_trans HGr.out hgx);clear hgx hpx HLT;have c3:=HP2.out.cells.2.2.2;go_wp2_with fail;refine(HIS.out _ HP2.out).mono ?_;rintro e w3⟨rfl,n3,rfl⟩;have HP3:=hid (HP2.out.drewN n3);have HB3:=hid (HB2.out.drewN n3);have H23:=hid (H22.out.drewN n3);have H43:=hid (H42.out.drewN n3);have HG3:=hid (gr_drewN HG2.out n3);generalize W2.drewN n3=W3 at*
       clear HP2 HB2 H22 H42 HG2 HIS c3;have c1:=HP3.out.cells.2.1;have f1:=Blk.frozen HP3.out 1;go_upto_region 13 with fail;have HP4:=hid (HP3.out.at_ (a2+1) (.int .i64 ((a2:Int)+1)) (by rfl));have HB4:=hid (HB3.out.other (k:=b) (by omega) 1 (.int .i64 ((a2:Int)+1)));have H24:=hid (H23.out.other (k:=b) (by omega) 1 (.int .i64 ((a2:Int)+1)));have H44:=hid (H43.out.other (k:=b) (by omega) 1 (.int .i64 ((a2:Int)+1)));have HG4:=hid (gr_set HG3.out 1 (.int .i64 ((a2:Int)+1)));generalize W3.setCell ⟨b,1,none⟩ (.int .i64 ((a2:Int)+1))=W4 at*
       clear HP3 HB3 H23 H43 HG3 c1 f1;go_wp2_with fail;refine(HLT2.out _ HP4.out).mono ?_;rintro e Wx⟨hgx,rfl,hpx⟩;have HPx:=hid hpx;have HBx:=hid (HB4.out.grown hgx (by intro e;injection e;omega));have H2x:=hid (H24.out.grown hgx (by intro e;injection e;omega));have H4x:=hid (H44.out.grown hgx (by intro e;injection e;omega));have HGx:=hid (gr_trans HG4.out hgx);clear hgx hpx HLT2;have c3:=HPx.out.cells.2.2.2;have HMx:Hid (parM Wx b l.size=0):=parM_bad HPx.out (.inl rfl) _;go_wp2_with fail;refine wp_loop_rounds 1 ?_;rw[rounds_succ];go_wp2
       go_roundw
       case rel=>exact(cls_bad (mn:=mn+1) (by go_num) HBx.out H2x.out H4x.out HGx.out HPx.out HIX.out)
       case measure=>rw[HMx.out,HMr.out];omega
      |ok a3 hi=>
       rw[hc2]at HLT2;obtain⟨y1,y2,y3⟩:=ccharF_ok hc2;by_cases hlh:hi<lo
       ·have HIX:Hid (itemsF l (l.size+1) q 0=.bad (a3-1)):=HIQ.out.trans (itemsF_stop (by unfold itemF;simp[hc,hs,hc2,hlh]))
        clear hc hs HIQ hc2;go_wp2_with fail;refine(HLT.out).mono ?_;rintro e W2⟨hgx,rfl,hpx⟩;have HP2:=hid hpx;have HB2:=hid (HBr.out.grown hgx (by intro e;injection e;omega));have H22:=hid (H2r.out.grown hgx (by intro e;injection e;omega));have H42:=hid (H4r.out.grown hgx (by intro e;injection e;omega));have HG2:=hid (gr_trans HGr.out hgx);clear hgx hpx HLT;have c3:=HP2.out.cells.2.2.2;go_wp2_with fail;refine(HIS.out _ HP2.out).mono ?_;rintro e w3⟨rfl,n3,rfl⟩;have HP3:=hid (HP2.out.drewN n3);have HB3:=hid (HB2.out.drewN n3);have H23:=hid (H22.out.drewN n3);have H43:=hid (H42.out.drewN n3);have HG3:=hid (gr_drewN HG2.out n3);generalize W2.drewN n3=W3 at*
        clear HP2 HB2 H22 H42 HG2 HIS c3;have c1:=HP3.out.cells.2.1;have f1:=Blk.frozen HP3.out 1;go_upto_region 13 with fail;have HP4:=hid (HP3.out.at_ (a2+1) (.int .i64 ((a2:Int)+1)) (by rfl));have HB4:=hid (HB3.out.other (k:=b) (by omega) 1 (.int .i64 ((a2:Int)+1)));have H24:=hid (H23.out.other (k:=b) (by omega) 1 (.int .i64 ((a2:Int)+1)));have H44:=hid (H43.out.other (k:=b) (by omega) 1 (.int .i64 ((a2:Int)+1)));have HG4:=hid (gr_set HG3.out 1 (.int .i64 ((a2:Int)+1)));generalize W3.setCell ⟨b,1,none⟩ (.int .i64 ((a2:Int)+1))=W4 at*
        clear HP3 HB3 H23 H43 HG3 c1 f1;go_wp2_with fail;refine(HLT2.out _ HP4.out).mono ?_;rintro e W5⟨hgx,rfl,hpx⟩;have HP5:=hid hpx;have HB5:=hid (HB4.out.grown hgx (by intro e;injection e;omega));have H25:=hid (H24.out.grown hgx (by intro e;injection e;omega));have H45:=hid (H44.out.grown hgx (by intro e;injection e;omega));have HG5:=hid (gr_trans HG4.out hgx);clear hgx hpx HLT2;have hcmp:decide ((hi:Int)<(lo:Int))=true:=by simp;omega
        have c1:=HP5.out.cells.2.1;have c3:=HP5.out.cells.2.2.2;have f1:=Blk.frozen HP5.out 1;go_upto_region 16 with fail;have HP6:Hid (Par (W5.setCell ⟨b,1,none⟩ (.int .i64 ((a3:Int)-1))) b l (a3-1) o 0):=HP5.out.at_ (a3-1) _ (by rw[show((a3-1:Nat):Int)=(a3:Int)-1 by omega]);have HB6:=hid (HB5.out.other (k:=b) (by omega) 1 (.int .i64 ((a3:Int)-1)));have H26:=hid (H25.out.other (k:=b) (by omega) 1 (.int .i64 ((a3:Int)-1)));have H46:=hid (H45.out.other (k:=b) (by omega) 1 (.int .i64 ((a3:Int)-1)));have HG6:=hid (gr_set HG5.out 1 (.int .i64 ((a3:Int)-1)));generalize W5.setCell ⟨b,1,none⟩ (.int .i64 ((a3:Int)-1))=W6 at*
        clear HP5 HB5 H25 H45 HG5 c1 c3 f1;have c3:=HP6.out.cells.2.2.2;have f3:=Blk.frozen HP6.out 3;go_upto_region 17 with fail;have HPx:=hid (HP6.out.wr_ 2 (.int .i64 2) rfl);have HBx:=hid (HB6.out.other (k:=b) (by omega) 3 (.int .i64 2));have H2x:=hid (H26.out.other (k:=b) (by omega) 3 (.int .i64 2));have H4x:=hid (H46.out.other (k:=b) (by omega) 3 (.int .i64 2));have HGx:=hid (gr_set HG6.out 3 (.int .i64 2));generalize W6.setCell ⟨b,3,none⟩ (.int .i64 2)=Wx at*
        clear HP6 HB6 H26 H46 HG6 c3 f3;have c3:=HPx.out.cells.2.2.2;have HMx:Hid (parM Wx b l.size=0):=parM_bad HPx.out (.inl rfl) _;go_wp2_with fail;refine wp_loop_rounds 1 ?_;rw[rounds_succ];go_wp2
        go_roundw
        case rel=>exact(cls_bad (mn:=mn+1) (by go_num) HBx.out H2x.out H4x.out HGx.out HPx.out HIX.out)
        case measure=>rw[HMx.out,HMr.out];omega
       ·have hit:itemF l a1 t=.ok a3 (addR t lo (hi+1-lo)):=by unfold itemF;simp[hc,hs,hc2,hlh]
        have HIX:=hid (HIQ.out.trans (itemsF_next hit));have HT2:=hid (itemF_ok ht hit).2.2;clear hc hs HIQ hc2 hit;go_wp2_with fail;refine(HLT.out).mono ?_;rintro e W2⟨hgx,rfl,hpx⟩;have HP2:=hid hpx;have HB2:=hid (HBr.out.grown hgx (by intro e;injection e;omega));have H22:=hid (H2r.out.grown hgx (by intro e;injection e;omega));have H42:=hid (H4r.out.grown hgx (by intro e;injection e;omega));have HG2:=hid (gr_trans HGr.out hgx);clear hgx hpx HLT;have c3:=HP2.out.cells.2.2.2;go_wp2_with fail;refine(HIS.out _ HP2.out).mono ?_;rintro e w3⟨rfl,n3,rfl⟩;have HP3:=hid (HP2.out.drewN n3);have HB3:=hid (HB2.out.drewN n3);have H23:=hid (H22.out.drewN n3);have H43:=hid (H42.out.drewN n3);have HG3:=hid (gr_drewN HG2.out n3);generalize W2.drewN n3=W3 at*
        clear HP2 HB2 H22 H42 HG2 HIS c3;have c1:=HP3.out.cells.2.1;have f1:=Blk.frozen HP3.out 1;go_upto_region 13 with fail;have HP4:=hid (HP3.out.at_ (a2+1) (.int .i64 ((a2:Int)+1)) (by rfl));have HB4:=hid (HB3.out.other (k:=b) (by omega) 1 (.int .i64 ((a2:Int)+1)));have H24:=hid (H23.out.other (k:=b) (by omega) 1 (.int .i64 ((a2:Int)+1)));have H44:=hid (H43.out.other (k:=b) (by omega) 1 (.int .i64 ((a2:Int)+1)));have HG4:=hid (gr_set HG3.out 1 (.int .i64 ((a2:Int)+1)));generalize W3.setCell ⟨b,1,none⟩ (.int .i64 ((a2:Int)+1))=W4 at*
        clear HP3 HB3 H23 H43 HG3 c1 f1;go_wp2_with fail;refine(HLT2.out _ HP4.out).mono ?_;rintro e W3⟨hgx,rfl,hpx⟩;have HP3:=hid hpx;have HB3:=hid (HB4.out.grown hgx (by intro e;injection e;omega));have H23:=hid (H24.out.grown hgx (by intro e;injection e;omega));have H43:=hid (H44.out.grown hgx (by intro e;injection e;omega));have HG3:=hid (gr_trans HG4.out hgx);clear hgx hpx HLT2;have hcmp:decide ((hi:Int)<(lo:Int))=false:=by simp;omega
        have c3:=HP3.out.cells.2.2.2;go_wp2_with fail
        go_loopw [8] (fun s8 wq=>∃kk:Nat,s8=.int .i64 kk∧lo≤kk∧kk≤hi+1∧Hid (BB wq (w.heap.size+1))∧Hid (Blk wq (w.heap.size) 84 zero3)∧Hid (Blk wq (w.heap.size+1+1) 84 (clN (w.heap.size+1)))∧Hid (w.grownBy wq (some b))∧Hid (Par wq b l a3 o 0)) (fun s8 _=>(hi+1-intOf s8).toNat)
        case atStart=>exact⟨lo,rfl,Nat.le_refl _,by omega,HB3,H23,H43,HG3,HP3⟩
        case round=>
         obtain⟨kk,rfl,hkk1,hkk2,HBq,H2q,H4q,HGq,HPq⟩:=hrel;have c3:=HPq.out.cells.2.2.2;by_cases hkk:kk≤hi
         ·have hd:decide ((kk:Int)≤(hi:Int))=true:=by simp;omega
          have q0:(0:Int)≤(kk:Int):=by omega
          have q1:(kk:Int)<256:=by omega
          obtain⟨bv,hbv⟩:=HBq.out.cell (i:=kk) (by omega);have hbf:=HBq.out.frozen kk;obtain⟨n0,n1,n2⟩:=cells3 H4q.out;have HBs:=hid (HBq.out.set kk true);have H2s:=hid (H2q.out.other (k:=(w.heap.size+1)) (by omega) kk (.bool true));have H4s:=hid (H4q.out.other (k:=(w.heap.size+1)) (by omega) kk (.bool true));have HGs:=hid (gr_set_new HGq.out hg0 kk (.bool true));have HPs:=hid (HPq.out.other (k:=(w.heap.size+1)) (by omega) kk (.bool true));go_wp2
          go_roundw
          case rel=>exact⟨kk+1,by go_num,by omega,by omega,HBs,H2s,H4s,HGs,HPs⟩
          case measure=>simp[intOf];omega
         ·have hd:decide ((kk:Int)≤(hi:Int))=false:=by simp;omega
          have HMq:Hid (parM wr b l.size=l.size+1-a3):=parM_ok HPq.out _;go_wp2
          go_roundw
          case rel=>exact(cls_ok (mn:=mn+1) (k:=k') (by go_num) HBq.out H2q.out H4q.out HGq.out (by omega) (by omega) (by omega) HT2.out HPq.out (HIX.out.trans (if_neg (by omega)).symm))
          case measure=>rw[HMq.out,HMr.out];omega
   ·have he:((mn:Int)==0)=false:=by simp;omega
    rw[if_neg hm0]at HIQ;cases hse:sees l a1 93 with
    |false=>
     have HE:=hid (HEND.out a1 false hse ha1 wr HPr.out);rw[if_neg (by rw[hse];simp)]at HIQ;clear hse HC;go_wp2_with fail;refine(HE.out).mono ?_;rintro e w4⟨rfl,n4,rfl⟩;have HPd:=hid (HPr.out.drewN n4);have HBd:=hid (HBr.out.drewN n4);have H2d:=hid (H2r.out.drewN n4);have H4d:=hid (H4r.out.drewN n4);have HGd:=hid (gr_drewN HGr.out n4);clear HPr HBr H2r H4r HGr HE c3;have HPr:=HPd;have HBr:=HBd;have H2r:=H2d;have H4r:=H4d;have HGr:=HGd;clear HPd HBd H2d H4d HGd;generalize wr.drewN n4=Wr at*
     have HLT:=hid (letter_any b a1 o l Wr HPr.out hl ha1);cases hc:ccharF l a1 with
     |bad pl=>
      rw[hc]at HLT;have HIX:Hid (itemsF l (l.size+1) q 0=.bad pl):=HIQ.out.trans (itemsF_stop (by unfold itemF;rw[hc]));clear hc HIQ;go_wp2_with fail;refine(HLT.out).mono ?_;rintro e Wx⟨hgx,rfl,hpx⟩;have HPx:=hid hpx;have HBx:=hid (HBr.out.grown hgx (by intro e;injection e;omega));have H2x:=hid (H2r.out.grown hgx (by intro e;injection e;omega));have H4x:=hid (H4r.out.grown hgx (by intro e;injection e;omega));have HGx:=hid (gr_trans HGr.out hgx);clear hgx hpx HLT;have c3:=HPx.out.cells.2.2.2;have HMx:Hid (parM Wx b l.size=0):=parM_bad HPx.out (.inl rfl) _;go_wp2_with fail;refine wp_loop_rounds 1 ?_;rw[rounds_succ];go_wp2
      go_roundw
      case rel=>exact(cls_bad (mn:=mn+1) (by go_num) HBx.out H2x.out H4x.out HGx.out HPx.out HIX.out)
      case measure=>rw[HMx.out,HMr.out];omega
     |ok a2 lo=>
      rw[hc]at HLT;obtain⟨k1,k2,k3⟩:=ccharF_ok hc;cases hs:sees l a2 45 with
      |false=>
       have hit:itemF l a1 t=.ok a2 (addR t lo 1):=by unfold itemF;rw[hc];dsimp only;rw[hs];rfl
       have HIX:=hid (HIQ.out.trans (itemsF_next hit));have HT2:=hid (itemF_ok ht hit).2.2;have HIS:=hid (fun W hW=>is_any b a2 o 45 l false hs W hW hl k2);clear hc hs HIQ hit;go_wp2_with fail;refine(HLT.out).mono ?_;rintro e W2⟨hgx,rfl,hpx⟩;have HP2:=hid hpx;have HB2:=hid (HBr.out.grown hgx (by intro e;injection e;omega));have H22:=hid (H2r.out.grown hgx (by intro e;injection e;omega));have H42:=hid (H4r.out.grown hgx (by intro e;injection e;omega));have HG2:=hid (gr_trans HGr.out hgx);clear hgx hpx HLT;have c3:=HP2.out.cells.2.2.2;go_wp2_with fail;refine(HIS.out _ HP2.out).mono ?_;rintro e w3⟨rfl,n3,rfl⟩;have HP3:=hid (HP2.out.drewN n3);have HB3:=hid (HB2.out.drewN n3);have H23:=hid (H22.out.drewN n3);have H43:=hid (H42.out.drewN n3);have HG3:=hid (gr_drewN HG2.out n3);generalize W2.drewN n3=W3 at*
       clear HP2 HB2 H22 H42 HG2 HIS c3;have c3:=HP3.out.cells.2.2.2;have hcmp:decide ((lo:Int)<(lo:Int))=false:=by simp
       go_wp2_with fail
       go_loopw [8] (fun s8 wq=>∃kk:Nat,s8=.int .i64 kk∧lo≤kk∧kk≤lo+1∧Hid (BB wq (w.heap.size+1))∧Hid (Blk wq (w.heap.size) 84 zero3)∧Hid (Blk wq (w.heap.size+1+1) 84 (clN (w.heap.size+1)))∧Hid (w.grownBy wq (some b))∧Hid (Par wq b l a2 o 0)) (fun s8 _=>(lo+1-intOf s8).toNat)
       case atStart=>exact⟨lo,rfl,Nat.le_refl _,by omega,HB3,H23,H43,HG3,HP3⟩
       case round=>
        obtain⟨kk,rfl,hkk1,hkk2,HBq,H2q,H4q,HGq,HPq⟩:=hrel;have c3:=HPq.out.cells.2.2.2;by_cases hkk:kk≤lo
        ·have hd:decide ((kk:Int)≤(lo:Int))=true:=by simp;omega
         have q0:(0:Int)≤(kk:Int):=by omega
         have q1:(kk:Int)<256:=by omega
         obtain⟨bv,hbv⟩:=HBq.out.cell (i:=kk) (by omega);have hbf:=HBq.out.frozen kk;obtain⟨n0,n1,n2⟩:=cells3 H4q.out;have HBs:=hid (HBq.out.set kk true);have H2s:=hid (H2q.out.other (k:=(w.heap.size+1)) (by omega) kk (.bool true));have H4s:=hid (H4q.out.other (k:=(w.heap.size+1)) (by omega) kk (.bool true));have HGs:=hid (gr_set_new HGq.out hg0 kk (.bool true));have HPs:=hid (HPq.out.other (k:=(w.heap.size+1)) (by omega) kk (.bool true));go_wp2
         go_roundw
         case rel=>exact⟨kk+1,by go_num,by omega,by omega,HBs,H2s,H4s,HGs,HPs⟩
         case measure=>simp[intOf];omega
        ·have hd:decide ((kk:Int)≤(lo:Int))=false:=by simp;omega
         have HMq:Hid (parM wr b l.size=l.size+1-a2):=parM_ok HPq.out _;go_wp2
         go_roundw
         case rel=>exact(cls_ok (mn:=mn+1) (k:=k') (by go_num) HBq.out H2q.out H4q.out HGq.out (by omega) (by omega) (by omega) HT2.out HPq.out (HIX.out.trans (if_neg (by omega)).symm))
         case measure=>rw[HMq.out,HMr.out];omega
      |true=>
       have HIS:=hid (fun W hW=>is_any b a2 o 45 l true hs W hW hl k2);have hlt2:=sees_lt hs;have HLT2:=hid (fun W hW=>letter_any b (a2+1) o l W hW hl hlt2);cases hc2:ccharF l (a2+1)with
       |bad pl=>
        rw[hc2]at HLT2;have HIX:Hid (itemsF l (l.size+1) q 0=.bad pl):=HIQ.out.trans (itemsF_stop (by unfold itemF;simp[hc,hs,hc2]));clear hc hs HIQ hc2;go_wp2_with fail;refine(HLT.out).mono ?_;rintro e W2⟨hgx,rfl,hpx⟩;have HP2:=hid hpx;have HB2:=hid (HBr.out.grown hgx (by intro e;injection e;omega));have H22:=hid (H2r.out.grown hgx (by intro e;injection e;omega));have H42:=hid (H4r.out.grown hgx (by intro e;injection e;omega));have HG2:=hid (gr_trans HGr.out hgx);clear hgx hpx HLT;have c3:=HP2.out.cells.2.2.2;go_wp2_with fail;refine(HIS.out _ HP2.out).mono ?_;rintro e w3⟨rfl,n3,rfl⟩;have HP3:=hid (HP2.out.drewN n3);have HB3:=hid (HB2.out.drewN n3);have H23:=hid (H22.out.drewN n3);have H43:=hid (H42.out.drewN n3);have HG3:=hid (gr_drewN HG2.out n3);generalize W2.drewN n3=W3 at*
        clear HP2 HB2 H22 H42 HG2 HIS c3;have c1:=HP3.out.cells.2.1;have f1:=Blk.frozen HP3.out 1;go_upto_region 13 with fail;have HP4:=hid (HP3.out.at_ (a2+1) (.int .i64 ((a2:Int)+1)) (by rfl));have HB4:=hid (HB3.out.other (k:=b) (by omega) 1 (.int .i64 ((a2:Int)+1)));have H24:=hid (H23.out.other (k:=b) (by omega) 1 (.int .i64 ((a2:Int)+1)));have H44:=hid (H43.out.other (k:=b) (by omega) 1 (.int .i64 ((a2:Int)+1)));have HG4:=hid (gr_set HG3.out 1 (.int .i64 ((a2:Int)+1)));generalize W3.setCell ⟨b,1,none⟩ (.int .i64 ((a2:Int)+1))=W4 at*
        clear HP3 HB3 H23 H43 HG3 c1 f1;go_wp2_with fail;refine(HLT2.out _ HP4.out).mono ?_;rintro e Wx⟨hgx,rfl,hpx⟩;have HPx:=hid hpx;have HBx:=hid (HB4.out.grown hgx (by intro e;injection e;omega));have H2x:=hid (H24.out.grown hgx (by intro e;injection e;omega));have H4x:=hid (H44.out.grown hgx (by intro e;injection e;omega));have HGx:=hid (gr_trans HG4.out hgx);clear hgx hpx HLT2;have c3:=HPx.out.cells.2.2.2;have HMx:Hid (parM Wx b l.size=0):=parM_bad HPx.out (.inl rfl) _;go_wp2_with fail;refine wp_loop_rounds 1 ?_;rw[rounds_succ];go_wp2
        go_roundw
        case rel=>exact(cls_bad (mn:=mn+1) (by go_num) HBx.out H2x.out H4x.out HGx.out HPx.out HIX.out)
        case measure=>rw[HMx.out,HMr.out];omega
       |ok a3 hi=>
        rw[hc2]at HLT2;obtain⟨y1,y2,y3⟩:=ccharF_ok hc2;by_cases hlh:hi<lo
        ·have HIX:Hid (itemsF l (l.size+1) q 0=.bad (a3-1)):=HIQ.out.trans (itemsF_stop (by unfold itemF;simp[hc,hs,hc2,hlh]))
         clear hc hs HIQ hc2;go_wp2_with fail;refine(HLT.out).mono ?_;rintro e W2⟨hgx,rfl,hpx⟩;have HP2:=hid hpx;have HB2:=hid (HBr.out.grown hgx (by intro e;injection e;omega));have H22:=hid (H2r.out.grown hgx (by intro e;injection e;omega));have H42:=hid (H4r.out.grown hgx (by intro e;injection e;omega));have HG2:=hid (gr_trans HGr.out hgx);clear hgx hpx HLT;have c3:=HP2.out.cells.2.2.2;go_wp2_with fail;refine(HIS.out _ HP2.out).mono ?_;rintro e w3⟨rfl,n3,rfl⟩;have HP3:=hid (HP2.out.drewN n3);have HB3:=hid (HB2.out.drewN n3);have H23:=hid (H22.out.drewN n3);have H43:=hid (H42.out.drewN n3);have HG3:=hid (gr_drewN HG2.out n3);generalize W2.drewN n3=W3 at*
         clear HP2 HB2 H22 H42 HG2 HIS c3;have c1:=HP3.out.cells.2.1;have f1:=Blk.frozen HP3.out 1;go_upto_region 13 with fail;have HP4:=hid (HP3.out.at_ (a2+1) (.int .i64 ((a2:Int)+1)) (by rfl));have HB4:=hid (HB3.out.other (k:=b) (by omega) 1 (.int .i64 ((a2:Int)+1)));have H24:=hid (H23.out.other (k:=b) (by omega) 1 (.int .i64 ((a2:Int)+1)));have H44:=hid (H43.out.other (k:=b) (by omega) 1 (.int .i64 ((a2:Int)+1)));have HG4:=hid (gr_set HG3.out 1 (.int .i64 ((a2:Int)+1)));generalize W3.setCell ⟨b,1,none⟩ (.int .i64 ((a2:Int)+1))=W4 at*
         clear HP3 HB3 H23 H43 HG3 c1 f1;go_wp2_with fail;refine(HLT2.out _ HP4.out).mono ?_;rintro e W5⟨hgx,rfl,hpx⟩;have HP5:=hid hpx;have HB5:=hid (HB4.out.grown hgx (by intro e;injection e;omega));have H25:=hid (H24.out.grown hgx (by intro e;injection e;omega));have H45:=hid (H44.out.grown hgx (by intro e;injection e;omega));have HG5:=hid (gr_trans HG4.out hgx);clear hgx hpx HLT2;have hcmp:decide ((hi:Int)<(lo:Int))=true:=by simp;omega
         have c1:=HP5.out.cells.2.1;have c3:=HP5.out.cells.2.2.2;have f1:=Blk.frozen HP5.out 1;go_upto_region 16 with fail;have HP6:Hid (Par (W5.setCell ⟨b,1,none⟩ (.int .i64 ((a3:Int)-1))) b l (a3-1) o 0):=HP5.out.at_ (a3-1) _ (by rw[show((a3-1:Nat):Int)=(a3:Int)-1 by omega]);have HB6:=hid (HB5.out.other (k:=b) (by omega) 1 (.int .i64 ((a3:Int)-1)));have H26:=hid (H25.out.other (k:=b) (by omega) 1 (.int .i64 ((a3:Int)-1)));have H46:=hid (H45.out.other (k:=b) (by omega) 1 (.int .i64 ((a3:Int)-1)));have HG6:=hid (gr_set HG5.out 1 (.int .i64 ((a3:Int)-1)));generalize W5.setCell ⟨b,1,none⟩ (.int .i64 ((a3:Int)-1))=W6 at*
         clear HP5 HB5 H25 H45 HG5 c1 c3 f1;have c3:=HP6.out.cells.2.2.2;have f3:=Blk.frozen HP6.out 3;go_upto_region 17 with fail;have HPx:=hid (HP6.out.wr_ 2 (.int .i64 2) rfl);have HBx:=hid (HB6.out.other (k:=b) (by omega) 3 (.int .i64 2));have H2x:=hid (H26.out.other (k:=b) (by omega) 3 (.int .i64 2));have H4x:=hid (H46.out.other (k:=b) (by omega) 3 (.int .i64 2));have HGx:=hid (gr_set HG6.out 3 (.int .i64 2));generalize W6.setCell ⟨b,3,none⟩ (.int .i64 2)=Wx at*
         clear HP6 HB6 H26 H46 HG6 c3 f3;have c3:=HPx.out.cells.2.2.2;have HMx:Hid (parM Wx b l.size=0):=parM_bad HPx.out (.inl rfl) _;go_wp2_with fail;refine wp_loop_rounds 1 ?_;rw[rounds_succ];go_wp2
         go_roundw
         case rel=>exact(cls_bad (mn:=mn+1) (by go_num) HBx.out H2x.out H4x.out HGx.out HPx.out HIX.out)
         case measure=>rw[HMx.out,HMr.out];omega
        ·have hit:itemF l a1 t=.ok a3 (addR t lo (hi+1-lo)):=by unfold itemF;simp[hc,hs,hc2,hlh]
         have HIX:=hid (HIQ.out.trans (itemsF_next hit));have HT2:=hid (itemF_ok ht hit).2.2;clear hc hs HIQ hc2 hit;go_wp2_with fail;refine(HLT.out).mono ?_;rintro e W2⟨hgx,rfl,hpx⟩;have HP2:=hid hpx;have HB2:=hid (HBr.out.grown hgx (by intro e;injection e;omega));have H22:=hid (H2r.out.grown hgx (by intro e;injection e;omega));have H42:=hid (H4r.out.grown hgx (by intro e;injection e;omega));have HG2:=hid (gr_trans HGr.out hgx);clear hgx hpx HLT;have c3:=HP2.out.cells.2.2.2;go_wp2_with fail;refine(HIS.out _ HP2.out).mono ?_;rintro e w3⟨rfl,n3,rfl⟩;have HP3:=hid (HP2.out.drewN n3);have HB3:=hid (HB2.out.drewN n3);have H23:=hid (H22.out.drewN n3);have H43:=hid (H42.out.drewN n3);have HG3:=hid (gr_drewN HG2.out n3);generalize W2.drewN n3=W3 at*
         clear HP2 HB2 H22 H42 HG2 HIS c3;have c1:=HP3.out.cells.2.1;have f1:=Blk.frozen HP3.out 1;go_upto_region 13 with fail;have HP4:=hid (HP3.out.at_ (a2+1) (.int .i64 ((a2:Int)+1)) (by rfl));have HB4:=hid (HB3.out.other (k:=b) (by omega) 1 (.int .i64 ((a2:Int)+1)));have H24:=hid (H23.out.other (k:=b) (by omega) 1 (.int .i64 ((a2:Int)+1)));have H44:=hid (H43.out.other (k:=b) (by omega) 1 (.int .i64 ((a2:Int)+1)));have HG4:=hid (gr_set HG3.out 1 (.int .i64 ((a2:Int)+1)));generalize W3.setCell ⟨b,1,none⟩ (.int .i64 ((a2:Int)+1))=W4 at*
         clear HP3 HB3 H23 H43 HG3 c1 f1;go_wp2_with fail;refine(HLT2.out _ HP4.out).mono ?_;rintro e W3⟨hgx,rfl,hpx⟩;have HP3:=hid hpx;have HB3:=hid (HB4.out.grown hgx (by intro e;injection e;omega));have H23:=hid (H24.out.grown hgx (by intro e;injection e;omega));have H43:=hid (H44.out.grown hgx (by intro e;injection e;omega));have HG3:=hid (gr_trans HG4.out hgx);clear hgx hpx HLT2;have hcmp:decide ((hi:Int)<(lo:Int))=false:=by simp;omega
         have c3:=HP3.out.cells.2.2.2;go_wp2_with fail
         go_loopw [8] (fun s8 wq=>∃kk:Nat,s8=.int .i64 kk∧lo≤kk∧kk≤hi+1∧Hid (BB wq (w.heap.size+1))∧Hid (Blk wq (w.heap.size) 84 zero3)∧Hid (Blk wq (w.heap.size+1+1) 84 (clN (w.heap.size+1)))∧Hid (w.grownBy wq (some b))∧Hid (Par wq b l a3 o 0)) (fun s8 _=>(hi+1-intOf s8).toNat)
         case atStart=>exact⟨lo,rfl,Nat.le_refl _,by omega,HB3,H23,H43,HG3,HP3⟩
         case round=>
          obtain⟨kk,rfl,hkk1,hkk2,HBq,H2q,H4q,HGq,HPq⟩:=hrel;have c3:=HPq.out.cells.2.2.2;by_cases hkk:kk≤hi
          ·have hd:decide ((kk:Int)≤(hi:Int))=true:=by simp;omega
           have q0:(0:Int)≤(kk:Int):=by omega
           have q1:(kk:Int)<256:=by omega
           obtain⟨bv,hbv⟩:=HBq.out.cell (i:=kk) (by omega);have hbf:=HBq.out.frozen kk;obtain⟨n0,n1,n2⟩:=cells3 H4q.out;have HBs:=hid (HBq.out.set kk true);have H2s:=hid (H2q.out.other (k:=(w.heap.size+1)) (by omega) kk (.bool true));have H4s:=hid (H4q.out.other (k:=(w.heap.size+1)) (by omega) kk (.bool true));have HGs:=hid (gr_set_new HGq.out hg0 kk (.bool true));have HPs:=hid (HPq.out.other (k:=(w.heap.size+1)) (by omega) kk (.bool true));go_wp2
           go_roundw
           case rel=>exact⟨kk+1,by go_num,by omega,by omega,HBs,H2s,H4s,HGs,HPs⟩
           case measure=>simp[intOf];omega
          ·have hd:decide ((kk:Int)≤(hi:Int))=false:=by simp;omega
           have HMq:Hid (parM wr b l.size=l.size+1-a3):=parM_ok HPq.out _;go_wp2
           go_roundw
           case rel=>exact(cls_ok (mn:=mn+1) (k:=k') (by go_num) HBq.out H2q.out H4q.out HGq.out (by omega) (by omega) (by omega) HT2.out HPq.out (HIX.out.trans (if_neg (by omega)).symm))
           case measure=>rw[HMq.out,HMr.out];omega
    |true=>
     have HE:=hid (HEND.out a1 true hse ha1 wr HPr.out);have hlt1:=sees_lt hse;rw[if_pos hse]at HIQ;have HX:=hid (HC.out _ HIQ.out);clear hse HC HIQ;go_wp2_with fail;refine(HE.out).mono ?_;rintro e w4⟨rfl,n4,rfl⟩;have HP5:=hid (HPr.out.drewN n4);have HB5:=hid (HBr.out.drewN n4);have H25:=hid (H2r.out.drewN n4);have H45:=hid (H4r.out.drewN n4);have HG5:=hid (gr_drewN HGr.out n4);clear HPr HBr H2r H4r HGr HE c3;generalize wr.drewN n4=W5 at*
     have c1:=HP5.out.cells.2.1;have c3:=HP5.out.cells.2.2.2;have f1:=Blk.frozen HP5.out 1;go_upto_region 24 with fail;have HP6:=hid (HP5.out.at_ (a1+1) (.int .i64 ((a1:Int)+1)) (by rfl));have HB6:=hid (HB5.out.other (k:=b) hgb 1 (.int .i64 ((a1:Int)+1)));have H26:=hid (H25.out.other (k:=b) h2b 1 (.int .i64 ((a1:Int)+1)));have H46:=hid (H45.out.other (k:=b) h4b 1 (.int .i64 ((a1:Int)+1)));have HG6:=hid (gr_set HG5.out 1 (.int .i64 ((a1:Int)+1)));generalize W5.setCell ⟨b,1,none⟩ (.int .i64 ((a1:Int)+1))=W6 at*
     clear HP5 HB5 H25 H45 HG5 c1 c3 f1;go_wp2_with fail
     go_loopw [9] (fun s9 wq=>∃kk:Nat,s9=.int .i64 kk∧kk≤256∧Hid (BB wq (w.heap.size+1))∧Hid (Blk wq (w.heap.size) 84 zero3)∧Hid (Blk wq (w.heap.size+1+1) 84 (clN (w.heap.size+1)))∧Hid (w.grownBy wq (some b))∧Hid (Par wq b l (a1+1) o 0)) (fun s9 _=>(256-intOf s9).toNat)
     case atStart=>exact⟨0,rfl,by omega,HB6,H26,H46,HG6,HP6⟩
     case round=>
      obtain⟨kk,rfl,hkk2,HBq,H2q,H4q,HGq,HPq⟩:=hrel;by_cases hkk:kk<256
      ·have hd:decide ((kk:Int)<256)=true:=by simp;omega
       have q0:(0:Int)≤(kk:Int):=by omega
       have q1:(kk:Int)<256:=by omega
       obtain⟨bv,hbv⟩:=HBq.out.cell (i:=kk) (by omega);have hbf:=HBq.out.frozen kk;obtain⟨n0,n1,n2⟩:=cells3 H4q.out;have HBs:=hid (fun n=>(HBq.out.set kk (!bv)).drewN n);have H2s:=hid (fun n=>(H2q.out.other (k:=(w.heap.size+1)) hg2.symm kk (.bool (!bv))).drewN n);have H4s:=hid (fun n=>(H4q.out.other (k:=(w.heap.size+1)) hg4.symm kk (.bool (!bv))).drewN n);have HGs:=hid (fun n=>gr_drewN (gr_set_new HGq.out hg0 kk (.bool (!bv))) n);have HPs:=hid (fun n=>(HPq.out.other (k:=(w.heap.size+1)) hgb.symm kk (.bool (!bv))).drewN n);go_wp2_with fail;go_region;all_goals
        go_wp2
        go_roundw
        case rel=>exact⟨kk+1,by go_num,by omega,HBs.out _,H2s.out _,H4s.out _,HGs.out _,HPs.out _⟩
        case measure=>simp[intOf];omega
      ·have hd:decide ((kk:Int)<256)=false:=by simp;omega
       obtain⟨n0,n1,n2⟩:=cells3 H4q.out;obtain⟨r0,r1,r2⟩:=cells3 H2q.out;obtain⟨z0,z1,z2⟩:=frozen3 H2q.out;go_wp2;exact bodyPost_ret (v:=ndV 91 (some ⟨(w.heap.size+1),0,none⟩) 256 256 none 0 0) (by simp[results,Tryz.results126,go_sem,r0,r1,r2]) rfl (rn_ok HX.out ⟨91,_,_,_,_,_,_,rfl⟩ (gr_set3 HGq.out (by omega) _ _ _) (Blk.set3_other HPq.out h2b.symm _ _ _))
  ·have HPr:=hid hPr
   have HX:=hid (HC.out _ hQ);clear hrel hBr h2r h4r hGr hPr hQ HB4 HR4 HN4 HG4 HP4 HC;have c3:=HPr.out.cells.2.2.2;obtain⟨n0,n1,n2⟩:=cells3 H4r.out;obtain⟨r0,r1,r2⟩:=cells3 H2r.out;obtain⟨z0,z1,z2⟩:=frozen3 H2r.out;go_wp2;exact bodyPost_ret (v:=ndV 91 (some ⟨(w.heap.size+1),0,none⟩) 256 256 none 0 0) (by simp[results,Tryz.results126,go_sem,r0,r1,r2]) rfl (rn_bad HX.out ⟨91,_,_,_,_,_,_,rfl⟩ (gr_set3 HGr.out (by omega) _ _ _) (Blk.set3_other HPr.out h2b.symm _ _ _) (.inl rfl))
end Go.Proofs.YticmkabafmmlhaaGreatDoor.Rg

set_option linter.unusedVariables false
set_option maxRecDepth 100000
set_option maxHeartbeats 8000000
namespace Go.Proofs.YticmkabafmmlhaaGreatDoor.Rg
open Go.RowKit Rx
open Lib (hid)
theorem refclass_any(b a o:Nat)(l:ByteArray)(m:Mach)(w:World)(hp:Par w b l a o 0)(hl:l.size≤200)(ha:a<l.size):
 Calls Tryz.prog 126 #[.pointer (some ⟨b,0,none⟩)] w (RN b l o w (classF l a m)):=by
 cases hs:sees l (a+1) 94 with
 |false=>exact refclass_no b a o l m w hp hl ha hs
 |true=>exact refclass_yes b a o l m w hp hl ha hs
def RA(b:Nat)(l:ByteArray)(o d:Nat):Prop:=∀(m:Mach) (a:Nat) (w:World),Rx.Good m→Par w b l a o 0→a≤l.size→
 Calls Tryz.prog 77 #[.pointer (some ⟨b,0,none⟩)] w (RN b l o w (altF l (grpF l d) a m))
theorem RN.shape{b:Nat}{l:ByteArray}{o:Nat}{w w':World}{r:Res}{e:Ending}(h:RN b l o w r e w'):∃(k:Nat) (A:Option Addr) (n c:Nat) (B:Option Addr) (n' c':Nat),e=.returned (ndV k A n c B n' c'):=by obtain⟨⟨v,he,k,A,n,c,B,n',c',rfl⟩,_⟩:=h;exact⟨k,A,n,c,B,n',c',he⟩
theorem nd_mk(k:Nat)(A:Option Addr)(n c:Nat)(B:Option Addr)(n' c':Nat):Nd (ndV k A n c B n' c'):=⟨k,A,n,c,B,n',c',rfl⟩
theorem RN.res{b:Nat}{l:ByteArray}{o:Nat}{w w':World}{r:Res}{e:Ending}(h:RN b l o w r e w'){v:Value}(hv:Nd v){w0 w2:World}(h0:w0.grownBy w (some b))(hk:∀a o c:Nat,Par w' b l a o c→Par w2 b l a o c)(h2:w0.grownBy w' (some b)→w0.grownBy w2 (some b)):RN b l o w0 r (.returned v) w2:=by
 obtain⟨_,hg,hr⟩:=h;refine⟨⟨v,rfl,hv⟩,h2 (gr_trans h0 hg),?_⟩;cases r with
 |bad pl c=>exact⟨hk _ _ _ hr.1,hr.2⟩
 |ok a m p=>exact hk _ _ _ hr
theorem refatom_deep(b a o:Nat)(l:ByteArray)(m:Mach)(w:World)(hp:Par w b l a 32 0)(hl:l.size≤200)(ha:a<l.size)(hb:by_ l a=40):
 Calls Tryz.prog 109 #[.pointer (some ⟨b,0,none⟩)] w (RN b l 32 w (atomF l (grpF l 0) a m)):=by
 have HX:Hid (atomF l (grpF l 0) a m=.bad a 12):=by show atomF l (grpF l 0) a m=_;unfold atomF;rw[if_pos hb];rfl
 have HP:=hid (hp.alloc (.cells zero3 84));have HR:=hid (Blk.new w 84 zero3);have HG:=hid (gr_alloc (gr_refl w (some b)) (.cells zero3 84));have hbl:b<w.heap.size:=Blk.lt hp;have hq:l[a].toNat=40:=by rw[←by_eq l a ha];exact hb
 have h0:(0:Int)≤(a:Int):=by omega
 have h1:(a:Int)<(l.size:Int):=by omega
 clear hp hb;go_enter Tryz.func109,Tryz.ntmps109;go_upto_region 1 with fail;generalize hW:w.alloc (.cells zero3 84)=W at*
 clear hW;obtain⟨c0,c1,c2,c3⟩:=HP.out.cells;go_wp2_with fail
 go_quiet (fail)
 rename_i nq;have HP1:=hid (HP.out.drewN nq);have HR1:=hid (HR.out.drewN nq);have HG1:=hid (gr_drewN HG.out nq);generalize W.drewN nq=W1 at*
 clear HP HR HG c0 c1 c2 c3;obtain⟨c0,c1,c2,c3⟩:=HP1.out.cells;have f3:=Blk.frozen HP1.out 3;go_upto_region 5 with fail;have HP2:=hid (HP1.out.wr_ 12 (.int .i64 12) rfl);have HR2:=hid (HR1.out.other (k:=b) (by omega) 3 (.int .i64 12));have HG2:=hid (gr_set HG1.out 3 (.int .i64 12));generalize W1.setCell ⟨b,3,none⟩ (.int .i64 12)=W2 at*
 clear HP1 HR1 HG1 c0 c1 c2 c3 f3;obtain⟨r0,r1,r2⟩:=cells3 HR2.out;obtain⟨z0,z1,z2⟩:=frozen3 HR2.out;go_wp2;exact bodyPost_ret (v:=ndV 0 none 0 0 none 0 0) (by simp[results,Tryz.results109,go_sem,r0,r1,r2]) rfl (rn_bad HX.out (nd_mk _ _ _ _ _ _ _) (gr_set3 HG2.out (Nat.le_refl _) _ _ _) (Blk.set3_other HP2.out (by omega) _ _ _) (.inr rfl))
theorem refatom_grp(b a o d:Nat)(l:ByteArray)(m:Mach)(w:World)(hA:RA b l (o+1) d)(hm:Rx.Good m)(hp:Par w b l a o 0)(hl:l.size≤200)(ha:a<l.size)(hb:by_ l a=40)(ho:o<32):
 Calls Tryz.prog 109 #[.pointer (some ⟨b,0,none⟩)] w (RN b l o w (atomF l (grpF l (d+1)) a m)):=by
 have HX:Hid (∀r,altF l (grpF l d) (a+1) m=r→atomF l (grpF l (d+1)) a m=match r with|.bad pl c=>.bad pl c|.ok a1 m1 p=>if sees l a1 41=true then .ok (a1+1) m1 p else .bad a1 2):=fun r h=>by
  subst h;unfold atomF;rw[if_pos hb]
  conv=>lhs;unfold grpF
  rfl
 have HP:=hid (hp.alloc (.cells zero3 84));have HR:=hid (Blk.new w 84 zero3);have HG:=hid (gr_alloc (gr_refl w (some b)) (.cells zero3 84));have hbl:b<w.heap.size:=Blk.lt hp;have hq:l[a].toNat=40:=by rw[←by_eq l a ha];exact hb
 have h0:(0:Int)≤(a:Int):=by omega
 have h1:(a:Int)<(l.size:Int):=by omega
 have ho32:((o:Int)==32)=false:=by simp;omega
 have HA:=hid (fun W hW=>hA m (a+1) W hm hW ha);have HIS:=hid (fun a1 r (hr:sees l a1 41=r) (h:a1≤l.size) W hW=>is_any b a1 o 41 l r hr W hW hl h);have HIB:=hid (fun a1 c hc W (hW:Par W b l a1 o c)=>is_bad b a1 o c 41 l W hW hc);have HFI:=hid (alt_fine (grp_fine l d) (show a+1≤l.size from ha) hm);clear hp hb hA;go_enter Tryz.func109,Tryz.ntmps109;go_upto_region 1 with fail;generalize hW:w.alloc (.cells zero3 84)=W at*
 have hWs:W.heap.size=w.heap.size+1:=by rw[←hW,World.size_alloc]
 clear hW;obtain⟨c0,c1,c2,c3⟩:=HP.out.cells;go_wp2_with fail
 go_quiet (fail)
 rename_i nq;have HP1:=hid (HP.out.drewN nq);have HR1:=hid (HR.out.drewN nq);have HG1:=hid (gr_drewN HG.out nq);generalize W.drewN nq=W1 at*
 clear HP HR HG c0 c1 c2 c3 hWs;obtain⟨c0,c1,c2,c3⟩:=HP1.out.cells;have f1:=Blk.frozen HP1.out 1;go_upto_region 7 with fail;have HP2:=hid (HP1.out.at_ (a+1) (.int .i64 ((a:Int)+1)) (by rfl));have HR2:=hid (HR1.out.other (k:=b) (by omega) 1 (.int .i64 ((a:Int)+1)));have HG2:=hid (gr_set HG1.out 1 (.int .i64 ((a:Int)+1)));generalize W1.setCell ⟨b,1,none⟩ (.int .i64 ((a:Int)+1))=W2 at*
 clear HP1 HR1 HG1 c0 c1 c2 c3 f1;obtain⟨c0,c1,c2,c3⟩:=HP2.out.cells;have f2:=Blk.frozen HP2.out 2;go_upto_region 8 with fail;have HP3:=hid (HP2.out.op_ (o+1) (.int .i64 ((o:Int)+1)) (by rfl));have HR3:=hid (HR2.out.other (k:=b) (by omega) 2 (.int .i64 ((o:Int)+1)));have HG3:=hid (gr_set HG2.out 2 (.int .i64 ((o:Int)+1)));generalize W2.setCell ⟨b,2,none⟩ (.int .i64 ((o:Int)+1))=W3 at*
 clear HP2 HR2 HG2 c0 c1 c2 c3 f2;have HA1:=hid (HA.out W3 HP3.out);clear HA;go_wp2_with fail;refine(HA1.out).mono ?_;rintro e W4 hrn;obtain⟨nk,nA,nn,nc,nB,nn',nc',rfl⟩:=hrn.shape;obtain⟨hv4,hg4,hres⟩:=hrn;have HR4:=hid ((HR3.out.grown hg4 (by intro e;injection e;omega)).alloc (.cells #[.int .u8 nk,.slice nA nn nc,.slice nB nn' nc'] 84));have HG4:=hid (gr_alloc (gr_trans HG3.out hg4) (.cells #[.int .u8 nk,.slice nA nn nc,.slice nB nn' nc'] 84));have HN4:=hid (Blk.new W4 84 #[.int .u8 nk,.slice nA nn nc,.slice nB nn' nc']);have hsz:w.heap.size<W4.heap.size:=(HR3.out.grown hg4 (by intro e;injection e;omega)).lt;clear HA1 hg4 hv4;cases hr:altF l (grpF l d) (a+1) m with
 |bad pl c=>
  rw[hr]at hres;have HP4:=hid (hres.1.alloc (.cells #[.int .u8 nk,.slice nA nn nc,.slice nB nn' nc'] 84));have hc:=hres.2;have HX1:Hid (atomF l (grpF l (d+1)) a m=.bad pl c):=HX.out _ hr;clear hr hres HX HFI HIS;go_upto_region 9 with fail;generalize hW:W4.alloc (.cells #[.int .u8 nk,.slice nA nn nc,.slice nB nn' nc'] 84)=W5 at*
  generalize hj:W4.heap.size=j4 at*
  clear hW hj HP3 HR3 HG3;obtain⟨c0,c1,c2,c3⟩:=HP4.out.cells;have f2:=Blk.frozen HP4.out 2;go_upto_region 10 with fail;have HP5:Hid (Par (W5.setCell ⟨b,2,none⟩ (.int .i64 o)) b l pl o c):=HP4.out.op_ o _ rfl;have HR5:=hid (HR4.out.other (k:=b) (by omega) 2 (.int .i64 o));have HG5:=hid (gr_set HG4.out 2 (.int .i64 o));have HN5:=hid (HN4.out.other (k:=b) (by omega) 2 (.int .i64 o));generalize W5.setCell ⟨b,2,none⟩ (.int .i64 o)=W6 at*
  clear HP4 HR4 HG4 HN4 c0 c1 c2 c3 f2;obtain⟨c0,c1,c2,c3⟩:=HP5.out.cells;obtain⟨r0,r1,r2⟩:=cells3 HR5.out;obtain⟨z0,z1,z2⟩:=frozen3 HR5.out;obtain⟨n0,n1,n2⟩:=cells3 HN5.out;have hc0:((c:Int)==0)=false:=by simp;omega
  have hc0':(c:Int)≠0:=by omega
  go_wp2;exact bodyPost_ret (v:=ndV nk nA nn nc nB nn' nc') (by simp[results,Tryz.results109,go_sem,r0,r1,r2]) rfl (rn_bad HX1.out (nd_mk _ _ _ _ _ _ _) (gr_set3 HG5.out (Nat.le_refl _) _ _ _) (Blk.set3_other HP5.out (by omega) _ _ _) hc)
 |ok a1 m1 p1=>
  rw[hr]at hres;have HP4:=hid (Par.alloc hres (.cells #[.int .u8 nk,.slice nA nn nc,.slice nB nn' nc'] 84));have HX1:Hid (atomF l (grpF l (d+1)) a m=if sees l a1 41=true then .ok (a1+1) m1 p1 else .bad a1 2):=HX.out _ hr;have ha1:a1≤l.size:=(HFI.out a1 m1 p1 hr).2.1;clear hr hres HX HFI HIB;go_upto_region 9 with fail;generalize hW:W4.alloc (.cells #[.int .u8 nk,.slice nA nn nc,.slice nB nn' nc'] 84)=W5 at*
  generalize hj:W4.heap.size=j4 at*
  clear hW hj HP3 HR3 HG3;obtain⟨c0,c1,c2,c3⟩:=HP4.out.cells;have f2:=Blk.frozen HP4.out 2;go_upto_region 10 with fail;have HP5:Hid (Par (W5.setCell ⟨b,2,none⟩ (.int .i64 o)) b l a1 o 0):=HP4.out.op_ o _ rfl;have HR5:=hid (HR4.out.other (k:=b) (by omega) 2 (.int .i64 o));have HG5:=hid (gr_set HG4.out 2 (.int .i64 o));have HN5:=hid (HN4.out.other (k:=b) (by omega) 2 (.int .i64 o));generalize W5.setCell ⟨b,2,none⟩ (.int .i64 o)=W6 at*
  clear HP4 HR4 HG4 HN4 c0 c1 c2 c3 f2;cases hs:sees l a1 41 with
  |false=>
   have HS:=hid (HIS.out a1 false hs ha1 W6 HP5.out);have HX2:Hid (atomF l (grpF l (d+1)) a m=.bad a1 2):=HX1.out.trans (if_neg (by rw[hs];simp));clear hs HX1 HIS;obtain⟨c0,c1,c2,c3⟩:=HP5.out.cells;go_wp2_with fail;refine(HS.out).mono ?_;rintro e w7⟨rfl,n7,rfl⟩;have HP7:=hid (HP5.out.drewN n7);have HR7:=hid (HR5.out.drewN n7);have HG7:=hid (gr_drewN HG5.out n7);have HN7:=hid (HN5.out.drewN n7);generalize W6.drewN n7=W7 at*
   clear HP5 HR5 HG5 HN5 HS c0 c1 c2 c3;obtain⟨c0,c1,c2,c3⟩:=HP7.out.cells;have f3:=Blk.frozen HP7.out 3;go_upto_region 12 with fail;have HP8:=hid (HP7.out.wr_ 2 (.int .i64 2) rfl);have HR8:=hid (HR7.out.other (k:=b) (by omega) 3 (.int .i64 2));have HG8:=hid (gr_set HG7.out 3 (.int .i64 2));have HN8:=hid (HN7.out.other (k:=b) (by omega) 3 (.int .i64 2));generalize W7.setCell ⟨b,3,none⟩ (.int .i64 2)=W8 at*
   clear HP7 HR7 HG7 HN7 c0 c1 c2 c3 f3;obtain⟨c0,c1,c2,c3⟩:=HP8.out.cells;obtain⟨r0,r1,r2⟩:=cells3 HR8.out;obtain⟨z0,z1,z2⟩:=frozen3 HR8.out;obtain⟨n0,n1,n2⟩:=cells3 HN8.out;go_wp2;exact bodyPost_ret (v:=ndV nk nA nn nc nB nn' nc') (by simp[results,Tryz.results109,go_sem,r0,r1,r2]) rfl (rn_bad HX2.out (nd_mk _ _ _ _ _ _ _) (gr_set3 HG8.out (Nat.le_refl _) _ _ _) (Blk.set3_other HP8.out (by omega) _ _ _) (.inl rfl))
  |true=>
   have HS:=hid (HIS.out a1 true hs ha1 W6 HP5.out);have HX2:Hid (atomF l (grpF l (d+1)) a m=.ok (a1+1) m1 p1):=HX1.out.trans (if_pos hs);clear hs HX1 HIS;obtain⟨c0,c1,c2,c3⟩:=HP5.out.cells;go_wp2_with fail;refine(HS.out).mono ?_;rintro e w7⟨rfl,n7,rfl⟩;have HP7:=hid (HP5.out.drewN n7);have HR7:=hid (HR5.out.drewN n7);have HG7:=hid (gr_drewN HG5.out n7);have HN7:=hid (HN5.out.drewN n7);generalize W6.drewN n7=W7 at*
   clear HP5 HR5 HG5 HN5 HS c0 c1 c2 c3;obtain⟨c0,c1,c2,c3⟩:=HP7.out.cells;have f1:=Blk.frozen HP7.out 1;go_upto_region 14 with fail;have HP8:=hid (HP7.out.at_ (a1+1) (.int .i64 ((a1:Int)+1)) (by rfl));have HR8:=hid (HR7.out.other (k:=b) (by omega) 1 (.int .i64 ((a1:Int)+1)));have HG8:=hid (gr_set HG7.out 1 (.int .i64 ((a1:Int)+1)));have HN8:=hid (HN7.out.other (k:=b) (by omega) 1 (.int .i64 ((a1:Int)+1)));generalize W7.setCell ⟨b,1,none⟩ (.int .i64 ((a1:Int)+1))=W8 at*
   clear HP7 HR7 HG7 HN7 c0 c1 c2 c3 f1;obtain⟨r0,r1,r2⟩:=cells3 HR8.out;obtain⟨z0,z1,z2⟩:=frozen3 HR8.out;obtain⟨n0,n1,n2⟩:=cells3 HN8.out;go_wp2;exact bodyPost_ret (v:=ndV nk nA nn nc nB nn' nc') (by simp[results,Tryz.results109,go_sem,r0,r1,r2]) rfl (rn_ok HX2.out (nd_mk _ _ _ _ _ _ _) (gr_set3 HG8.out (Nat.le_refl _) _ _ _) (Blk.set3_other HP8.out (by omega) _ _ _))
theorem refatom_cls(b a o d:Nat)(l:ByteArray)(m:Mach)(w:World)(hp:Par w b l a o 0)(hl:l.size≤200)(ha:a<l.size)(hb:by_ l a=91):
 Calls Tryz.prog 109 #[.pointer (some ⟨b,0,none⟩)] w (RN b l o w (atomF l (grpF l d) a m)):=by
 have HX:Hid (atomF l (grpF l d) a m=classF l a m):=by show atomF l (grpF l d) a m=_;unfold atomF;rw[if_neg (by omega),if_pos hb]
 have HP:=hid (hp.alloc (.cells zero3 84));have HR:=hid (Blk.new w 84 zero3);have HG:=hid (gr_alloc (gr_refl w (some b)) (.cells zero3 84));have hbl:b<w.heap.size:=Blk.lt hp;have hq:l[a].toNat=91:=by rw[←by_eq l a ha];exact hb
 have h0:(0:Int)≤(a:Int):=by omega
 have h1:(a:Int)<(l.size:Int):=by omega
 have HC:=hid (fun W hW=>refclass_any b a o l m W hW hl ha);clear hp hb;go_enter Tryz.func109,Tryz.ntmps109;go_upto_region 1 with fail;generalize hW:w.alloc (.cells zero3 84)=W at*
 clear hW;obtain⟨c0,c1,c2,c3⟩:=HP.out.cells;go_wp2_with fail
 go_quiet (fail)
 rename_i nq;have HP1:=hid (HP.out.drewN nq);have HR1:=hid (HR.out.drewN nq);have HG1:=hid (gr_drewN HG.out nq);generalize W.drewN nq=W1 at*
 clear HP HR HG c0 c1 c2 c3;have HC1:=hid (HC.out W1 HP1.out);clear HC;go_wp2_with fail;refine(HC1.out).mono ?_;rintro e W4 hrn;have HRN:=hid hrn;obtain⟨nk,nA,nn,nc,nB,nn',nc',rfl⟩:=hrn.shape;have HR4:=hid (HR1.out.grown hrn.2.1 (by intro e;injection e;omega));clear hrn;obtain⟨r0,r1,r2⟩:=cells3 HR4.out;obtain⟨z0,z1,z2⟩:=frozen3 HR4.out;go_wp2;rw[HX.out];exact bodyPost_ret (v:=ndV nk nA nn nc nB nn' nc') (by simp[results,Tryz.results109,go_sem,r0,r1,r2]) rfl (HRN.out.res (nd_mk _ _ _ _ _ _ _) HG1.out (fun _ _ _ h=>Blk.set3_other h (by omega) _ _ _) (fun h=>gr_set3 h (Nat.le_refl _) _ _ _))
theorem sg_big:((⟨#[41,93,123,125,94,36,124,42,43,63]⟩:ByteArray).data.toList.map UInt8.toNat)=[41,93,123,125,94,36,124,42,43,63]:=rfl
theorem big_of{x:Nat}(h:([93,123,125,94,36,42,43,63]:List Nat).contains x=true):([41,93,123,125,94,36,124,42,43,63]:List Nat).contains x=true:=by simp at h⊢;omega
theorem big_not{x:Nat}(h:([93,123,125,94,36,42,43,63]:List Nat).contains x=false)(h1:x≠41)(h2:x≠124):([41,93,123,125,94,36,124,42,43,63]:List Nat).contains x=false:=by simp at h⊢;omega
theorem refatom_bad(b a o d:Nat)(l:ByteArray)(m:Mach)(w:World)(hp:Par w b l a o 0)(hl:l.size≤200)(ha:a<l.size)(hb:([93,123,125,94,36,42,43,63]:List Nat).contains (by_ l a)=true):
 Calls Tryz.prog 109 #[.pointer (some ⟨b,0,none⟩)] w (RN b l o w (atomF l (grpF l d) a m)):=by
 have HX:Hid (atomF l (grpF l d) a m=.bad a 2):=by
  show atomF l (grpF l d) a m=_;have h2:by_ l a≠40∧by_ l a≠91:=by simp at hb;omega
  unfold atomF;rw[if_neg h2.1,if_neg h2.2,if_pos hb]
 have HS:=hid (fun W=>sign_any (by_ l a) ⟨#[41,93,123,125,94,36,124,42,43,63]⟩ true (by rw[sg_big];exact big_of hb) (by decide) W);obtain⟨x,hx⟩:∃x,by_ l a=x:=⟨_,rfl⟩
 rw[hx]at HS hb;have e40:((x:Int)==40)=false:=by simp at hb⊢;omega
 have e91:((x:Int)==91)=false:=by simp at hb⊢;omega
 have HP:=hid (hp.alloc (.cells zero3 84));have HR:=hid (Blk.new w 84 zero3);have HG:=hid (gr_alloc (gr_refl w (some b)) (.cells zero3 84));have hbl:b<w.heap.size:=Blk.lt hp;have hq:l[a].toNat=x:=by rw[←by_eq l a ha];exact hx
 clear hb hx;have h0:(0:Int)≤(a:Int):=by omega
 have h1:(a:Int)<(l.size:Int):=by omega
 clear hp;go_enter Tryz.func109,Tryz.ntmps109;go_upto_region 1 with fail;generalize hW:w.alloc (.cells zero3 84)=W at*
 have hWs:w.heap.size<W.heap.size:=HR.out.lt;clear hW;obtain⟨c0,c1,c2,c3⟩:=HP.out.cells;go_wp2_with fail
 go_quiet (fail)
 rename_i nq;have HP1:=hid (HP.out.drewN nq);have HR1:=hid (HR.out.drewN nq);have HG1:=hid (gr_drewN HG.out nq);have hWs1:w.heap.size<(W.drewN nq).heap.size:=hWs;generalize W.drewN nq=W1 at*
 clear HP HR HG c0 c1 c2 c3 hWs;have HS1:=hid (HS.out W1);clear HS;go_wp2_with fail;refine(HS1.out).mono ?_;rintro e w2⟨rfl,n2,rfl⟩;have HP2:=hid (HP1.out.drewN n2);have HR2:Hid (Blk (W1.drewN n2) w.heap.size 84 zero3):=HR1.out;have HG2:=hid (gr_drewN HG1.out n2);have hWs2:w.heap.size<(W1.drewN n2).heap.size:=hWs1;generalize W1.drewN n2=W2 at*
 clear HP1 HR1 HG1 HS1 hWs1;obtain⟨c0,c1,c2,c3⟩:=HP2.out.cells;have f3:=Blk.frozen HP2.out 3;go_upto_region 19 with fail;have HP3:=hid (HP2.out.wr_ 2 (.int .i64 2) rfl);have HR3:=hid (HR2.out.other (k:=b) (by omega) 3 (.int .i64 2));have HG3:=hid (gr_set HG2.out 3 (.int .i64 2));generalize W2.setCell ⟨b,3,none⟩ (.int .i64 2)=W3 at*
 clear HP2 HR2 HG2 c0 c1 c2 c3 f3;obtain⟨r0,r1,r2⟩:=cells3 HR3.out;obtain⟨z0,z1,z2⟩:=frozen3 HR3.out;go_wp2;exact bodyPost_ret (v:=ndV 0 none 0 0 none 0 0) (by simp[results,Tryz.results109,go_sem,r0,r1,r2]) rfl (rn_bad HX.out (nd_mk _ _ _ _ _ _ _) (gr_set3 HG3.out (Nat.le_refl _) _ _ _) (Blk.set3_other HP3.out (by omega) _ _ _) (.inl rfl))
theorem refatom_dot(b a o d:Nat)(l:ByteArray)(m:Mach)(w:World)(hp:Par w b l a o 0)(hl:l.size≤200)(ha:a<l.size)(hb:by_ l a=46):
 Calls Tryz.prog 109 #[.pointer (some ⟨b,0,none⟩)] w (RN b l o w (atomF l (grpF l d) a m)):=by
 have HX:Hid (atomF l (grpF l d) a m=.ok (a+1) (placeM m full) (placeP m)):=by show atomF l (grpF l d) a m=_;unfold atomF;rw[if_neg (by omega),if_neg (by omega),if_neg (by rw[hb];decide),if_pos hb]
 have HS:=hid (fun W=>sign_any 46 ⟨#[41,93,123,125,94,36,124,42,43,63]⟩ false (by rw[sg_big];rfl) (by decide) W);have HO:=hid (fun W=>refone_any 0 255 (by omega) (by omega) W);have hq:l[a].toNat=46:=by rw[←by_eq l a ha];exact hb
 have HP:=hid (hp.alloc (.cells zero3 84));have HR:=hid (Blk.new w 84 zero3);have HG:=hid (gr_alloc (gr_refl w (some b)) (.cells zero3 84));have hbl:b<w.heap.size:=Blk.lt hp;clear hb;have h0:(0:Int)≤(a:Int):=by omega
 have h1:(a:Int)<(l.size:Int):=by omega
 clear hp;go_enter Tryz.func109,Tryz.ntmps109;go_upto_region 1 with fail;generalize hW:w.alloc (.cells zero3 84)=W at*
 have hWs:w.heap.size<W.heap.size:=HR.out.lt;clear hW;obtain⟨c0,c1,c2,c3⟩:=HP.out.cells;go_wp2_with fail
 go_quiet (fail)
 rename_i nq;have HP1:=hid (HP.out.drewN nq);have HR1:=hid (HR.out.drewN nq);have HG1:=hid (gr_drewN HG.out nq);have hWs1:w.heap.size<(W.drewN nq).heap.size:=hWs;generalize W.drewN nq=W1 at*
 clear HP HR HG c0 c1 c2 c3 hWs;have HS1:=hid (HS.out W1);clear HS;go_wp2_with fail;refine(HS1.out).mono ?_;rintro e w2⟨rfl,n2,rfl⟩;have HP2:=hid (HP1.out.drewN n2);have HR2:Hid (Blk (W1.drewN n2) w.heap.size 84 zero3):=HR1.out;have HG2:=hid (gr_drewN HG1.out n2);have hWs2:w.heap.size<(W1.drewN n2).heap.size:=hWs1;generalize W1.drewN n2=W2 at*
 clear HP1 HR1 HG1 HS1 hWs1;obtain⟨c0,c1,c2,c3⟩:=HP2.out.cells;have f1:=Blk.frozen HP2.out 1;go_upto_region 21 with fail;have HP3:=hid (HP2.out.at_ (a+1) (.int .i64 ((a:Int)+1)) (by rfl));have HR3:=hid (HR2.out.other (k:=b) (by omega) 1 (.int .i64 ((a:Int)+1)));have HG3:=hid (gr_set HG2.out 1 (.int .i64 ((a:Int)+1)));generalize W2.setCell ⟨b,1,none⟩ (.int .i64 ((a:Int)+1))=W3 at*
 clear HP2 HR2 HG2 c0 c1 c2 c3 f1 hWs2;have HO1:=hid (HO.out W3);clear HO;go_wp2_with fail;refine(HO1.out).mono ?_;rintro e w4⟨v,rfl,⟨nk,nA,nn,nc,nB,nn',nc',rfl⟩,hb4⟩;have HP4:=hid (HP3.out.below hb4);have HR4:=hid (HR3.out.below hb4);have HG4:=hid (gr_below HG3.out hb4);clear HP3 HR3 HG3 HO1 hb4;obtain⟨r0,r1,r2⟩:=cells3 HR4.out;obtain⟨z0,z1,z2⟩:=frozen3 HR4.out;go_wp2;exact bodyPost_ret (v:=ndV nk nA nn nc nB nn' nc') (by simp[results,Tryz.results109,go_sem,r0,r1,r2]) rfl (rn_ok HX.out (nd_mk _ _ _ _ _ _ _) (gr_set3 HG4.out (Nat.le_refl _) _ _ _) (Blk.set3_other HP4.out (by omega) _ _ _))
theorem refatom_self(b a o d:Nat)(l:ByteArray)(m:Mach)(w:World)(hp:Par w b l a o 0)(hl:l.size≤200)(ha:a<l.size)(hb:([93,123,125,94,36,42,43,63]:List Nat).contains (by_ l a)=false)(h40:by_ l a≠40)(h41:by_ l a≠41)(h46:by_ l a≠46)(h91:by_ l a≠91)(h92:by_ l a≠92)(h124:by_ l a≠124):
 Calls Tryz.prog 109 #[.pointer (some ⟨b,0,none⟩)] w (RN b l o w (atomF l (grpF l d) a m)):=by
 have HX:Hid (atomF l (grpF l d) a m=.ok (a+1) (placeM m (2^by_ l a)) (placeP m)):=by
  show atomF l (grpF l d) a m=_;have hc:charF l a=.ok (a+1) (by_ l a):=by unfold charF;rw[if_neg (show¬sees l a 92=true by rw[sees_true ha];simpa using h92),if_pos ha]
  unfold atomF;rw[if_neg h40,if_neg h91,if_neg (by rw[hb];simp),if_neg h46,hc]
 have HS:=hid (fun W=>sign_any (by_ l a) ⟨#[41,93,123,125,94,36,124,42,43,63]⟩ false (by rw[sg_big];exact big_not hb h41 h124) (by decide) W);have HO:=hid (fun W=>refone_any (by_ l a) (by_ l a) (Nat.le_refl _) (by_lt l a) W);have hlt:=by_lt l a;obtain⟨x,hx⟩:∃x,by_ l a=x:=⟨_,rfl⟩
 rw[hx]at HS HO HX hb h40 h41 h46 h91 h92 h124 hlt;have e40:((x:Int)==40)=false:=by simp;omega
 have e91:((x:Int)==91)=false:=by simp;omega
 have e46:((x:Int)==46)=false:=by simp;omega
 have e92:((x:Int)==92)=false:=by simp;omega
 have HP:=hid (hp.alloc (.cells zero3 84));have HR:=hid (Blk.new w 84 zero3);have HG:=hid (gr_alloc (gr_refl w (some b)) (.cells zero3 84));have hbl:b<w.heap.size:=Blk.lt hp;have hq:l[a].toNat=x:=by rw[←by_eq l a ha];exact hx
 clear hb hx h40 h41 h46 h91 h92 h124;have h0:(0:Int)≤(a:Int):=by omega
 have h1:(a:Int)<(l.size:Int):=by omega
 clear hp;go_enter Tryz.func109,Tryz.ntmps109;go_upto_region 1 with fail;generalize hW:w.alloc (.cells zero3 84)=W at*
 have hWs:w.heap.size<W.heap.size:=HR.out.lt;clear hW;obtain⟨c0,c1,c2,c3⟩:=HP.out.cells;go_wp2_with fail
 go_quiet (fail)
 rename_i nq;have HP1:=hid (HP.out.drewN nq);have HR1:=hid (HR.out.drewN nq);have HG1:=hid (gr_drewN HG.out nq);have hWs1:w.heap.size<(W.drewN nq).heap.size:=hWs;generalize W.drewN nq=W1 at*
 clear HP HR HG c0 c1 c2 c3 hWs;have HS1:=hid (HS.out W1);clear HS;go_wp2_with fail;refine(HS1.out).mono ?_;rintro e w2⟨rfl,n2,rfl⟩;have HP2:=hid (HP1.out.drewN n2);have HR2:Hid (Blk (W1.drewN n2) w.heap.size 84 zero3):=HR1.out;have HG2:=hid (gr_drewN HG1.out n2);have hWs2:w.heap.size<(W1.drewN n2).heap.size:=hWs1;generalize W1.drewN n2=W2 at*
 clear HP1 HR1 HG1 HS1 hWs1;obtain⟨c0,c1,c2,c3⟩:=HP2.out.cells;have f1:=Blk.frozen HP2.out 1;go_upto_region 21 with fail;have HP3:=hid (HP2.out.at_ (a+1) (.int .i64 ((a:Int)+1)) (by rfl));have HR3:=hid (HR2.out.other (k:=b) (by omega) 1 (.int .i64 ((a:Int)+1)));have HG3:=hid (gr_set HG2.out 1 (.int .i64 ((a:Int)+1)));generalize W2.setCell ⟨b,1,none⟩ (.int .i64 ((a:Int)+1))=W3 at*
 clear HP2 HR2 HG2 c0 c1 c2 c3 f1 hWs2;have HO1:=hid (HO.out W3);clear HO;go_wp2_with fail;refine(HO1.out).mono ?_;rintro e w4⟨v,rfl,⟨nk,nA,nn,nc,nB,nn',nc',rfl⟩,hb4⟩;have HP4:=hid (HP3.out.below hb4);have HR4:=hid (HR3.out.below hb4);have HG4:=hid (gr_below HG3.out hb4);clear HP3 HR3 HG3 HO1 hb4;obtain⟨r0,r1,r2⟩:=cells3 HR4.out;obtain⟨z0,z1,z2⟩:=frozen3 HR4.out;go_wp2;exact bodyPost_ret (v:=ndV nk nA nn nc nB nn' nc') (by simp[results,Tryz.results109,go_sem,r0,r1,r2]) rfl (rn_ok HX.out (nd_mk _ _ _ _ _ _ _) (gr_set3 HG4.out (Nat.le_refl _) _ _ _) (Blk.set3_other HP4.out (by omega) _ _ _))
theorem refatom_back(b a o d:Nat)(l:ByteArray)(m:Mach)(w:World)(hp:Par w b l a o 0)(hl:l.size≤200)(ha:a<l.size)(hb:by_ l a=92)(h2:a+1<l.size):
 Calls Tryz.prog 109 #[.pointer (some ⟨b,0,none⟩)] w (RN b l o w (atomF l (grpF l d) a m)):=by
 have HX:Hid (atomF l (grpF l d) a m=.ok (a+1+1) (placeM m (2^by_ l (a+1))) (placeP m)):=by
  show atomF l (grpF l d) a m=_;have hc:charF l a=.ok (a+1+1) (by_ l (a+1)):=by unfold charF;rw[if_pos (show sees l a 92=true by rw[sees_true ha,hb];rfl),if_pos h2]
  unfold atomF;rw[if_neg (by omega),if_neg (by omega),if_neg (by rw[hb];decide),if_neg (by omega),hc]
 have HO:=hid (fun W=>refone_any (by_ l (a+1)) (by_ l (a+1)) (Nat.le_refl _) (by_lt l (a+1)) W);have HK2:=hid (fun W (h:Par W b l (a+1) o 0)=>peek_in b (a+1) o l W h hl h2);have hlt:=by_lt l (a+1);generalize by_ l (a+1)=y at*
 have HS:=hid (fun W=>sign_any 92 ⟨#[41,93,123,125,94,36,124,42,43,63]⟩ false (by rw[sg_big];rfl) (by decide) W);have hq:l[a].toNat=92:=by rw[←by_eq l a ha];exact hb
 have HP:=hid (hp.alloc (.cells zero3 84));have HR:=hid (Blk.new w 84 zero3);have HG:=hid (gr_alloc (gr_refl w (some b)) (.cells zero3 84));have hbl:b<w.heap.size:=Blk.lt hp;clear hb;have h0:(0:Int)≤(a:Int):=by omega
 have h1:(a:Int)<(l.size:Int):=by omega
 clear hp;go_enter Tryz.func109,Tryz.ntmps109;go_upto_region 1 with fail;generalize hW:w.alloc (.cells zero3 84)=W at*
 have hWs:w.heap.size<W.heap.size:=HR.out.lt;clear hW;obtain⟨c0,c1,c2,c3⟩:=HP.out.cells;go_wp2_with fail
 go_quiet (fail)
 rename_i nq;have HP1:=hid (HP.out.drewN nq);have HR1:=hid (HR.out.drewN nq);have HG1:=hid (gr_drewN HG.out nq);have hWs1:w.heap.size<(W.drewN nq).heap.size:=hWs;generalize W.drewN nq=W1 at*
 clear HP HR HG c0 c1 c2 c3 hWs;have HS1:=hid (HS.out W1);clear HS;go_wp2_with fail;refine(HS1.out).mono ?_;rintro e w2⟨rfl,n2,rfl⟩;have HP2:=hid (HP1.out.drewN n2);have HR2:Hid (Blk (W1.drewN n2) w.heap.size 84 zero3):=HR1.out;have HG2:=hid (gr_drewN HG1.out n2);have hWs2:w.heap.size<(W1.drewN n2).heap.size:=hWs1;generalize W1.drewN n2=W2 at*
 clear HP1 HR1 HG1 HS1 hWs1;obtain⟨c0,c1,c2,c3⟩:=HP2.out.cells;have f1:=Blk.frozen HP2.out 1;go_upto_region 21 with fail;have HP3:=hid (HP2.out.at_ (a+1) (.int .i64 ((a:Int)+1)) (by rfl));have HR3:=hid (HR2.out.other (k:=b) (by omega) 1 (.int .i64 ((a:Int)+1)));have HG3:=hid (gr_set HG2.out 1 (.int .i64 ((a:Int)+1)));generalize W2.setCell ⟨b,1,none⟩ (.int .i64 ((a:Int)+1))=W3 at*
 clear HP2 HR2 HG2 c0 c1 c2 c3 f1 hWs2;have HK3:=hid (HK2.out W3 HP3.out);clear HK2;go_wp2_with fail;refine(HK3.out).mono ?_;rintro e w5⟨rfl,n5,rfl⟩;have HP5:=hid (HP3.out.drewN n5);have HR5:Hid (Blk (W3.drewN n5) w.heap.size 84 zero3):=HR3.out;have HG5:=hid (gr_drewN HG3.out n5);generalize W3.drewN n5=W5 at*
 clear HP3 HR3 HG3 HK3;obtain⟨c0,c1,c2,c3⟩:=HP5.out.cells;have f1:=Blk.frozen HP5.out 1;go_upto_region 29 with fail;have HP6:=hid (HP5.out.at_ (a+1+1) (.int .i64 ((a:Int)+1+1)) (by rfl));have HR6:=hid (HR5.out.other (k:=b) (by omega) 1 (.int .i64 ((a:Int)+1+1)));have HG6:=hid (gr_set HG5.out 1 (.int .i64 ((a:Int)+1+1)));generalize W5.setCell ⟨b,1,none⟩ (.int .i64 ((a:Int)+1+1))=W6 at*
 clear HP5 HR5 HG5 c0 c1 c2 c3 f1;have HO1:=hid (HO.out W6);clear HO;go_wp2_with fail;refine(HO1.out).mono ?_;rintro e w4⟨v,rfl,⟨nk,nA,nn,nc,nB,nn',nc',rfl⟩,hb4⟩;have HP4:=hid (HP6.out.below hb4);have HR4:=hid (HR6.out.below hb4);have HG4:=hid (gr_below HG6.out hb4);clear HP6 HR6 HG6 HO1 hb4;obtain⟨r0,r1,r2⟩:=cells3 HR4.out;obtain⟨z0,z1,z2⟩:=frozen3 HR4.out;go_wp2;exact bodyPost_ret (v:=ndV nk nA nn nc nB nn' nc') (by simp[results,Tryz.results109,go_sem,r0,r1,r2]) rfl (rn_ok HX.out (nd_mk _ _ _ _ _ _ _) (gr_set3 HG4.out (Nat.le_refl _) _ _ _) (Blk.set3_other HP4.out (by omega) _ _ _))
theorem refatom_back_end(b a o d:Nat)(l:ByteArray)(m:Mach)(w:World)(hp:Par w b l a o 0)(hl:l.size≤200)(ha:a<l.size)(hb:by_ l a=92)(h2:a+1=l.size):
 Calls Tryz.prog 109 #[.pointer (some ⟨b,0,none⟩)] w (RN b l o w (atomF l (grpF l d) a m)):=by
 have HX:Hid (atomF l (grpF l d) a m=.bad l.size 2):=by
  show atomF l (grpF l d) a m=_;have hc:charF l a=.bad (a+1):=by unfold charF;rw[if_pos (show sees l a 92=true by rw[sees_true ha,hb];rfl),if_neg (by omega)]
  unfold atomF;rw[if_neg (by omega),if_neg (by omega),if_neg (by rw[hb];decide),if_neg (by omega),hc,h2]
 have HK2:=hid (fun W (h:Par W b l l.size o 0)=>peek_out b o l W h hl);have HS:=hid (fun W=>sign_any 92 ⟨#[41,93,123,125,94,36,124,42,43,63]⟩ false (by rw[sg_big];rfl) (by decide) W);have hq:l[a].toNat=92:=by rw[←by_eq l a ha];exact hb
 have HP:=hid (hp.alloc (.cells zero3 84));have HR:=hid (Blk.new w 84 zero3);have HG:=hid (gr_alloc (gr_refl w (some b)) (.cells zero3 84));have hbl:b<w.heap.size:=Blk.lt hp;clear hb;have h0:(0:Int)≤(a:Int):=by omega
 have h1:(a:Int)<(l.size:Int):=by omega
 clear hp;go_enter Tryz.func109,Tryz.ntmps109;go_upto_region 1 with fail;generalize hW:w.alloc (.cells zero3 84)=W at*
 have hWs:w.heap.size<W.heap.size:=HR.out.lt;clear hW;obtain⟨c0,c1,c2,c3⟩:=HP.out.cells;go_wp2_with fail
 go_quiet (fail)
 rename_i nq;have HP1:=hid (HP.out.drewN nq);have HR1:=hid (HR.out.drewN nq);have HG1:=hid (gr_drewN HG.out nq);have hWs1:w.heap.size<(W.drewN nq).heap.size:=hWs;generalize W.drewN nq=W1 at*
 clear HP HR HG c0 c1 c2 c3 hWs;have HS1:=hid (HS.out W1);clear HS;go_wp2_with fail;refine(HS1.out).mono ?_;rintro e w2⟨rfl,n2,rfl⟩;have HP2:=hid (HP1.out.drewN n2);have HR2:Hid (Blk (W1.drewN n2) w.heap.size 84 zero3):=HR1.out;have HG2:=hid (gr_drewN HG1.out n2);have hWs2:w.heap.size<(W1.drewN n2).heap.size:=hWs1;generalize W1.drewN n2=W2 at*
 clear HP1 HR1 HG1 HS1 hWs1;obtain⟨c0,c1,c2,c3⟩:=HP2.out.cells;have f1:=Blk.frozen HP2.out 1;go_upto_region 21 with fail;have HP3:=hid (HP2.out.at_ l.size (.int .i64 ((a:Int)+1)) (by rw[←h2];rfl));have HR3:=hid (HR2.out.other (k:=b) (by omega) 1 (.int .i64 ((a:Int)+1)));have HG3:=hid (gr_set HG2.out 1 (.int .i64 ((a:Int)+1)));generalize W2.setCell ⟨b,1,none⟩ (.int .i64 ((a:Int)+1))=W3 at*
 clear HP2 HR2 HG2 c0 c1 c2 c3 f1 hWs2;have HK3:=hid (HK2.out W3 HP3.out);clear HK2;go_wp2_with fail;refine(HK3.out).mono ?_;rintro e w5⟨rfl,n5,rfl⟩;have HP5:=hid (HP3.out.drewN n5);have HR5:Hid (Blk (W3.drewN n5) w.heap.size 84 zero3):=HR3.out;have HG5:=hid (gr_drewN HG3.out n5);generalize W3.drewN n5=W5 at*
 clear HP3 HR3 HG3 HK3;obtain⟨c0,c1,c2,c3⟩:=HP5.out.cells;have f3:=Blk.frozen HP5.out 3;go_upto_region 27 with fail;have HP6:=hid (HP5.out.wr_ 2 (.int .i64 2) rfl);have HR6:=hid (HR5.out.other (k:=b) (by omega) 3 (.int .i64 2));have HG6:=hid (gr_set HG5.out 3 (.int .i64 2));generalize W5.setCell ⟨b,3,none⟩ (.int .i64 2)=W6 at*
 clear HP5 HR5 HG5 c0 c1 c2 c3 f3;obtain⟨r0,r1,r2⟩:=cells3 HR6.out;obtain⟨z0,z1,z2⟩:=frozen3 HR6.out;go_wp2;exact bodyPost_ret (v:=ndV 0 none 0 0 none 0 0) (by simp[results,Tryz.results109,go_sem,r0,r1,r2]) rfl (rn_bad HX.out (nd_mk _ _ _ _ _ _ _) (gr_set3 HG6.out (Nat.le_refl _) _ _ _) (Blk.set3_other HP6.out (by omega) _ _ _) (.inl rfl))
theorem refatom_any(b a o d:Nat)(l:ByteArray)(m:Mach)(w:World)(hA:∀d',d=d'+1→RA b l (o+1) d')(hod:o+d=32)(hm:Rx.Good m)(hp:Par w b l a o 0)(hl:l.size≤200)(ha:a<l.size)(h41:by_ l a≠41)(h124:by_ l a≠124):
 Calls Tryz.prog 109 #[.pointer (some ⟨b,0,none⟩)] w (RN b l o w (atomF l (grpF l d) a m)):=by
 by_cases h40:by_ l a=40
 ·cases d with
  |zero=>
   obtain rfl:o=32:=by omega
   exact refatom_deep b a 32 l m w hp hl ha h40
  |succ d=>exact refatom_grp b a o d l m w (hA d rfl) hm hp hl ha h40 (by omega)
 ·by_cases h91:by_ l a=91
  ·exact refatom_cls b a o d l m w hp hl ha h91
  ·cases hb:([93,123,125,94,36,42,43,63]:List Nat).contains (by_ l a)with
   |true=>exact refatom_bad b a o d l m w hp hl ha hb
   |false=>
    by_cases h46:by_ l a=46
    ·exact refatom_dot b a o d l m w hp hl ha h46
    ·by_cases h92:by_ l a=92
     ·by_cases h2:a+1<l.size
      ·exact refatom_back b a o d l m w hp hl ha h92 h2
      ·exact refatom_back_end b a o d l m w hp hl ha h92 (by omega)
     ·exact refatom_self b a o d l m w hp hl ha hb h40 h41 h46 h91 h92 h124
abbrev rwC(k:Nat)(K:Value):Array Value:=#[.int .u8 k,.slice none 0 0,K]
theorem own_grown{w w':World}{base e s n b:Nat}{v:Value}{xs:List Value}(h:w.ownsRow base e s v n xs)(hg:w.grownBy w' (some b))(hb:v.ownBlock≠some b):w'.ownsRow base e s v n xs:=h.kept hg (.inr hb)
theorem own_far{w:World}{base e s n b:Nat}{v:Value}{xs:List Value}(h:w.ownsRow base e s v n xs)(hb:b<base):v.ownBlock≠some b:=fun e=>by have:=(h.lt b e).1;omega
theorem own_new{w:World}{base e s n b:Nat}{v:Value}{xs:List Value}(h:w.ownsRow base e s v n xs)(hb:w.heap.size≤b):v.ownBlock≠some b:=fun e=>by have:=(h.lt b e).2;omega
theorem gr_own{w w1 w2:World}{b base e s n:Nat}{v:Value}{xs:List Value}(h:w.grownBy w1 (some b))(ho:w1.ownsRow base e s v n xs)(k:w1.grownBy w2 v.ownBlock)(hb:w.heap.size≤base):w.grownBy w2 (some b):=⟨k.os.trans h.os,k.tape.trans h.tape,k.output.trans h.output,Nat.le_trans h.size k.size,fun j hj hn=>(k.block j (Nat.lt_of_lt_of_le hj h.size) (fun e=>by have:=(ho.lt j e.symm).1;omega)).trans (h.block j hj hn)⟩
def Bd(w:World)(b j2 j3 j6:Nat)(kc:Nat)(K:Value)(n:Nat)(xs:List Value)(wr:World):Prop:=(∃(k:Nat) (A:Option Addr) (q c:Nat) (B:Option Addr) (q' c':Nat),Blk wr j6 84 #[.int .u8 k,.slice A q c,.slice B q' c'])∧Blk wr j3 84 (rwC kc K)∧wr.ownsRow (w.heap.size+1+1) 84 3 K n xs∧Blk wr j2 84 zero3∧w.grownBy wr (some b)
theorem Bd.drewN{w:World}{b j2 j3 j6 kc:Nat}{K:Value}{n:Nat}{xs:List Value}{wr:World}(h:Bd w b j2 j3 j6 kc K n xs wr)(d:Nat):Bd w b j2 j3 j6 kc K n xs (wr.drewN d):=⟨h.1,h.2.1,h.2.2.1,h.2.2.2.1,gr_drewN h.2.2.2.2 d⟩
theorem Bd.at_{w:World}{b j2 j3 j6 kc:Nat}{K:Value}{n:Nat}{xs:List Value}{wr:World}(h:Bd w b j2 j3 j6 kc K n xs wr)(hb:b<w.heap.size)(h2:w.heap.size≤j2)(h3:w.heap.size≤j3)(h6:w.heap.size≤j6)(i:Nat)(u:Value):Bd w b j2 j3 j6 kc K n xs (wr.setCell ⟨b,i,none⟩ u):=by obtain⟨⟨k,A,q,c,B,q',c',a1⟩,a2,a3,a4,a5⟩:=h;exact⟨⟨k,A,q,c,B,q',c',a1.other (by omega) i u⟩,a2.other (by omega) i u,own_ne a3 (own_far a3 (by omega)) i u,a4.other (by omega) i u,gr_set a5 i u⟩
theorem own_put3{w:World}{base e s n j:Nat}{v:Value}{xs:List Value}(h:w.ownsRow base e s v n xs)(hk:v.ownBlock≠some j)(v0 v1 v2:Value):(put3 w j v0 v1 v2).ownsRow base e s v n xs:=own_ne (own_ne (own_ne h hk _ _) hk _ _) hk _ _
theorem Bd.node2{w:World}{b j2 j3 j6 kc:Nat}{K:Value}{n:Nat}{xs:List Value}{wr:World}(h:Bd w b j2 j3 j6 kc K n xs wr)(h6:w.heap.size≤j6)(h26:j2≠j6)(h36:j3≠j6)(hK:K.ownBlock≠some j6)(o:Obj)(k:Nat)(A:Option Addr)(q c:Nat)(B:Option Addr)(q' c':Nat):
 Bd w b j2 j3 j6 kc K n xs ((put3 wr j6 (.int .u8 k) (.slice A q c) (.slice B q' c')).alloc o):=by
 obtain⟨⟨k0,A0,q0,c0,B0,q0',c0',a1⟩,a2,a3,a4,a5⟩:=h;exact⟨⟨k,A,q,c,B,q',c',(a1.set3 _ _ _).alloc o⟩,(a2.set3_other h36 _ _ _).alloc o,own_below (own_put3 a3 hK _ _ _) ((Below.refl _ _).alloc (Nat.le_refl _) o),(a4.set3_other h26 _ _ _).alloc o,gr_alloc (gr_set3 a5 h6 _ _ _) o⟩
def RepAt(b:Nat)(l:ByteArray)(o:Nat)(m0:Mach)(a0:Nat)(target:Res)(wr:World):Prop:=
 (∃(kk a2:Nat) (m2:Mach) (p2:Pc),l.size<kk+a2∧a2≤l.size∧a0<a2∧Par wr b l a2 o 0∧Rx.Good m2∧PcIn m2.takes.length p2∧m0.takes.length≤m2.takes.length∧target=repL l kk a2 m2 p2)∨
 (∃pl c:Nat,Par wr b l pl o c∧(c=2∨c=12)∧target=.bad pl c)
def CatAt(b:Nat)(l:ByteArray)(o d n:Nat)(target:Res)(wr:World):Prop:=
 (∃(k a2:Nat) (m2:Mach) (p2:Pc),l.size<k+a2∧a2≤l.size∧n≤a2∧Par wr b l a2 o 0∧Rx.Good m2∧PcIn m2.takes.length p2∧target=catL l (grpF l d) k a2 m2 p2)∨
 (∃pl c:Nat,Par wr b l pl o c∧(c=2∨c=12)∧n≤l.size+1∧target=.bad pl c)
def RowS(w:World)(b j2 j3:Nat)(l:ByteArray)(o d:Nat)(target:Res)(wr:World):Prop:=∃(K:Value) (n:Nat) (xs:List Value),Blk wr j3 84 (rwC 44 K)∧wr.ownsRow (w.heap.size+1+1) 84 3 K n xs∧Blk wr j2 84 zero3∧w.grownBy wr (some b)∧CatAt b l o d n target wr
theorem node_info:(Tryz.prog.info? 84).map (fun i=>(i.zero,i.size,i.bytes))=some (some (.agg #[.int .u8 0,.slice none 0 0,.slice none 0 0]),3,56):=by kernel_rfl
theorem triple_at(W:World)(x0 x1 x2:Value)(g:Nat)(h:g=W.heap.size)(t:TypeId):∀j u,([x0,x1,x2]:List Value)[j]? =some u→(W.alloc (.cells #[x0,x1,x2] t)).cell? ((⟨g,0,none⟩:Addr).add j)=some u:=by
 subst h;intro j u hu
 match j,hu with
 |0,hu=>simp at hu;subst hu;simp[Addr.add,World.cell?_alloc_at]
 |1,hu=>simp at hu;subst hu;simp[Addr.add,World.cell?_alloc_at]
 |2,hu=>simp at hu;subst hu;simp[Addr.add,World.cell?_alloc_at]
 |j+3,hu=>simp at hu
theorem row_own_nil(w:World)(base:Nat):w.ownsRow base 84 3 (.slice none 0 0) 0 []:=⟨rfl,.inl ⟨rfl,rfl⟩⟩
theorem repL_next{l:ByteArray}{k a:Nat}{m:Mach}{p:Pc}(h:seesAny l a [42,43,63]=true):repL l (k+1) a m p=repL l k (a+1) (repM m p (by_ l a)) (repP p (by_ l a)):=by
 conv=>lhs;unfold repL
 rw[if_pos h]
theorem repL_stop{l:ByteArray}{k a:Nat}{m:Mach}{p:Pc}(h:seesAny l a [42,43,63]=false):repL l (k+1) a m p=.ok a m p:=by
 conv=>lhs;unfold repL
 rw[if_neg (by rw[h];simp)]
theorem catL_stop{l:ByteArray}{grp:Nat→Mach→Res}{k a:Nat}{m:Mach}{p:Pc}(h:¬(a<l.size∧seesAny l a [124,41]=false)):catL l grp (k+1) a m p=.ok a m p:=by
 conv=>lhs;unfold catL
 rw[if_neg h]
theorem catL_bad{l:ByteArray}{grp:Nat→Mach→Res}{k a pl c:Nat}{m:Mach}{p:Pc}(h:a<l.size)(h2:seesAny l a [124,41]=false)(h3:repF l grp a m=.bad pl c):catL l grp (k+1) a m p=.bad pl c:=by
 conv=>lhs;unfold catL
 rw[if_pos ⟨h,h2⟩,h3]
theorem catL_ok{l:ByteArray}{grp:Nat→Mach→Res}{k a a1:Nat}{m m1:Mach}{p q:Pc}(h:a<l.size)(h2:seesAny l a [124,41]=false)(h3:repF l grp a m=.ok a1 m1 q):catL l grp (k+1) a m p=catL l grp k a1 (chainM m1 p q) (chainP p q):=by
 conv=>lhs;unfold catL
 rw[if_pos ⟨h,h2⟩,h3]
theorem any_of_sees{l:ByteArray}{a:Nat}(h:sees l a 42=true∨sees l a 43=true∨sees l a 63=true):seesAny l a [42,43,63]=true:=by
 have ha:a<l.size:=by rcases h with h|h|h<;>exact sees_lt h
 unfold seesAny;rw[sees_true ha,sees_true ha,sees_true ha]at h;rw[decide_eq_true ha,Bool.true_and];simp at h⊢
 omega
theorem any_not{l:ByteArray}{a:Nat}(h1:sees l a 42=false)(h2:sees l a 43=false)(h3:sees l a 63=false):seesAny l a [42,43,63]=false:=by
 by_cases ha:a<l.size
 ·unfold seesAny
  rw[sees_true ha]at h1 h2 h3;rw[decide_eq_true ha,Bool.true_and];simp at h1 h2 h3⊢
  omega
 ·unfold seesAny
  simp[ha]
theorem three_ok(b a o:Nat)(l:ByteArray)(w:World)(hp:Par w b l a o 0)(hl:l.size≤200)(ha:a≤l.size)(s:Nat)(n:Nat):
 Calls Tryz.prog 93 #[.pointer (some ⟨b,0,none⟩),.int .u8 s] (w.drewN n) fun e w'=>e=.returned (.bool (sees l a s))∧∃n,w'=w.drewN n:=by
 refine(is_any b a o s l _ rfl (w.drewN n) (hp.drewN n) hl ha).mono ?_;rintro e w'⟨h1,k,h2⟩;exact⟨h1,n+k,h2.trans (World.drewN_drewN _ _ _)⟩
theorem three_bad(b a o c:Nat)(l:ByteArray)(w:World)(hp:Par w b l a o c)(hc:c=2∨c=12)(s:Nat)(n:Nat):
 Calls Tryz.prog 93 #[.pointer (some ⟨b,0,none⟩),.int .u8 s] (w.drewN n) fun e w'=>e=.returned (.bool false)∧∃n,w'=w.drewN n:=by
 refine(is_bad b a o c s l (w.drewN n) (hp.drewN n) hc).mono ?_;rintro e w'⟨h1,k,h2⟩;exact⟨h1,n+k,h2.trans (World.drewN_drewN _ _ _)⟩
end Go.Proofs.YticmkabafmmlhaaGreatDoor.Rg

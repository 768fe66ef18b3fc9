/- Lemmas. No condition. -/
import Derived.Test.YtmodehfedhgcbaaGreatDoorA9
import Derived.StillTailTactics
set_option linter.unusedVariables false
set_option maxRecDepth 100000
set_option maxHeartbeats 8000000
namespace Go.Proofs.YtmodehfedhgcbaaGreatDoor
open Go.RowKit
open Lib (hid)
def Al(s:ByteArray):Prop:=∀i (h:i<s.size),(48≤s[i].toNat∧s[i].toNat≤57)∨s[i].toNat=46∨s[i].toNat=43∨s[i].toNat=45∨s[i].toNat=101∨s[i].toNat=69
theorem lower_any(x:Nat)(w:World):Calls Tryz.prog 185 #[.int .u8 (x:Int)] w fun e w'=>e=.returned (.int .u8 (bits BinOp.or IntKind.u8 (x:Int) 32))∧w=w':=by go_enter Tryz.func185,Tryz.ntmps185;go_wp2;go_ret;exact⟨rfl,rfl⟩
structure Dse (w:World) (B:Nat) (f:Nat→Nat) (nd:Nat) (dp:Int) (ng tr:Bool):Prop where
 dz:Dz w B f nd dp ng tr
 dg:Dm.Dg f nd
 first:0<nd→49≤f 0
 le:nd≤800
def SetP(B:Nat)(w:World)(e:Ending)(w':World):Prop:=(∃b:Bool,e=.returned (.bool b)∧(b=true→∃f nd dp ng tr,Dse w' B f nd dp ng tr))∧Moved B w w'
theorem SetP.no{B:Nat}{w w':World}(h:Moved B w w'):SetP B w (.returned (.bool false)) w':=⟨⟨false,rfl,fun h=>by cases h⟩,h⟩
section
variable {w:World} {B:Nat} {f:Nat→Nat} {nd:Nat} {dp:Int} {ng tr:Bool}
theorem Dse.setP(h:Dse w B f nd dp ng tr)(z:Int):Dse (w.setCell ⟨B,801,none⟩ (.int .i64 z)) B f nd z ng tr:=⟨h.dz.setP z,h.dg,h.first,h.le⟩
theorem Dse.setT(h:Dse w B f nd dp ng tr)(z:Bool):Dse (w.setCell ⟨B,803,none⟩ (.bool z)) B f nd dp ng z:=⟨h.dz.setT z,h.dg,h.first,h.le⟩
theorem Dse.setG(h:Dse w B f nd dp ng tr)(z:Bool):Dse (w.setCell ⟨B,802,none⟩ (.bool z)) B f nd dp z tr:=⟨h.dz.setG z,h.dg,h.first,h.le⟩
theorem Dse.drewN(h:Dse w B f nd dp ng tr)(n:Nat):Dse (w.drewN n) B f nd dp ng tr:=⟨h.dz.drewN n,h.dg,h.first,h.le⟩
theorem Dse.push(h:Dse w B f nd dp ng tr)(x:Nat)(h1:48≤x)(h2:x≤57)(h0:nd=0→49≤x)(h8:nd<800)(m:Int)(hm:m=((nd+1:Nat):Int))(n:Nat)(z:Int)(hz:z=(x:Int)):
 Dse (((w.setCell ⟨B,nd,none⟩ (.int .u8 z)).drewN n).setCell ⟨B,800,none⟩ (.int .i64 m)) B (Dm.put f nd x) (nd+1) dp ng tr:=by
 refine⟨((h.dz.setD nd x z hz h8).drewN n).setN (nd+1) m hm,fun i hi=>?_,fun _=>?_,by omega⟩
 ·by_cases e:i=nd
  ·subst e;rw[Dm.put_same];exact⟨h1,h2⟩
  ·rw[Dm.put_other _ e];exact h.dg i (by omega)
 ·by_cases e:0=nd
  ·subst e;rw[Dm.put_same];exact h0 rfl
  ·rw[Dm.put_other _ e];exact h.first (by omega)
end
theorem set_any(B:Nat)(s:ByteArray)(f:Nat→Nat)(w:World)(h:Dz w B f 0 0 false false)(hs:s.size≤400)(ha:Al s):
 Calls Tryz.prog 175 #[.pointer (some ⟨B,0,none⟩),.string s] w (SetP B w):=by
 have H0:Hid (Dse w B f 0 0 false false):=⟨h,fun i hi=>by omega,fun h=>by omega,by omega⟩
 have HA:=hid ha;have c1:=h.ng_;have c2:=h.tr_;have c3:=h.frozen 802;have c4:=h.frozen 803;clear h ha;by_cases hs0:s.size=0
 ·go_enter Tryz.func175,Tryz.ntmps175
  go_wp2_with fail;go_ret;exact SetP.no ((Moved.set _ _ _ _).trans (Moved.set _ _ _ _))
 ·have hs1:0<s.size:=by omega
  obtain⟨x,hx⟩:∃x,s[0].toNat=x:=⟨_,rfl⟩
  go_enter Tryz.func175,Tryz.ntmps175;go_upto_block 0 with fail
  go_cut [5] (fun s5 wx=>∃(i:Nat) (ng:Bool),s5=.int .i64 i∧i≤1∧Hid (Dse wx B f 0 0 ng false)∧Hid (Moved B w wx))
  case first=>as_aux_lemma=>
   have HD:Hid (Dse ((w.setCell ⟨B,802,none⟩ (.bool false)).setCell ⟨B,803,none⟩ (.bool false)) B f 0 0 false false):=(H0.out.setG false).setT false;have HM:Hid (Moved B w ((w.setCell ⟨B,802,none⟩ (.bool false)).setCell ⟨B,803,none⟩ (.bool false))):=(Moved.set _ _ _ _).trans (Moved.set _ _ _ _);by_cases hx1:x=43
   ·subst hx1
    go_wp2_with fail
    go_meet
    exact⟨1,false,rfl,by omega,HD,HM⟩
   ·have hx1f:((x:Int)==43)=false:=beq_eq_false_iff_ne.2 (by omega)
    by_cases hx2:x=45
    ·subst hx2
     have HD2:=hid (HD.out.setG true);have HM2:=hid (HM.out.trans (Moved.set B 802 _ (.bool true)));clear hx1;go_wp2_with fail
     go_meet
     exact⟨1,true,rfl,by omega,HD2,HM2⟩
    ·have hx2f:((x:Int)==45)=false:=beq_eq_false_iff_ne.2 (by omega)
     clear hx1 hx2;go_wp2_with fail
     go_meet
     exact⟨0,false,rfl,by omega,HD,HM⟩
  case rest=>as_aux_lemma=>
   obtain⟨i0,ng,rfl,hi0,HD,HM⟩:=hcut;clear hx c1 c2 c3 c4;go_upto_block 1 with fail
   go_cut [5,6,7] (fun s5 s6 s7 wx=>∃(i:Nat) (sd sg:Bool) (f:Nat→Nat) (nd:Nat) (dp:Int) (tr:Bool),s5=.int .i64 i∧s6=.bool sd∧s7=.bool sg∧i≤s.size∧ -400≤dp∧dp≤800∧Hid (Dse wx B f nd dp ng tr)∧Hid (Moved B w wx))
   case first=>as_aux_lemma=>
    go_wp2_with fail
    go_loopg [5,6,7] (s.size-i0) (fun g s5 s6 s7 wx=>∃(i:Nat) (sd sg:Bool) (f:Nat→Nat) (nd:Nat) (dp:Int) (tr:Bool),g=s.size-i∧s5=.int .i64 i∧s6=.bool sd∧s7=.bool sg∧i≤s.size∧ -(i:Int)≤dp∧dp≤800∧Hid (Dse wx B f nd dp ng tr)∧Hid (Moved B w wx))
    case atStart=>exact⟨i0,false,false,f,0,0,false,rfl,rfl,rfl,rfl,by omega,by omega,by omega,HD,HM⟩
    case round=>
     clear HD HM;obtain⟨i,sd,sg,f,nd,dp,tr,hg,rfl,rfl,rfl,hi,p0,p1,HD,HM⟩:=hrel;by_cases hil:i<s.size
     ·have c800:=HD.out.dz.nd_
      have c801:=HD.out.dz.dp_;have c803:=HD.out.dz.tr_;have f801:=HD.out.dz.frozen 801;have f800:=HD.out.dz.frozen 800;have f803:=HD.out.dz.frozen 803;have hal:=HA.out i hil;obtain⟨x,hx⟩:∃x,s[i].toNat=x:=⟨_,rfl⟩
      rw[hx]at hal;have hx95:((x:Int)==95)=false:=beq_eq_false_iff_ne.2 (by omega);by_cases h46:x=46
      ·have h46t:((x:Int)==46)=true:=by rw[h46];rfl
       clear h46 hal;cases sd with
       |true=>go_wp2_with fail;go_ret;exact SetP.no HM.out
       |false=>
        have HD2:=hid (HD.out.setP (nd:Int));have HM2:=hid (HM.out.trans (Moved.set B 801 _ (.int .i64 (nd:Int))));have hle:=HD.out.le;go_wp2_with fail
        go_roundg (s.size-(i+1))
        case measure=>omega
        case rel=>exact⟨i+1,true,sg,f,nd,_,tr,rfl,by go_num,rfl,rfl,by omega,by omega,by omega,HD2,HM2⟩
      ·have h46f:((x:Int)==46)=false:=beq_eq_false_iff_ne.2 (by omega)
       by_cases hdg:48≤x∧x≤57
       ·obtain⟨hd1,hd2⟩:=hdg
        clear h46 hal;have hd1i:(48:Int)≤(x:Int):=by omega
        have hd2i:(x:Int)≤57:=by omega
        by_cases h0:x=48∧nd=0
        ·obtain⟨rfl,rfl⟩:=h0
         have HD2:=hid (HD.out.setP (dp-1));have HM2:=hid (HM.out.trans (Moved.set B 801 _ (.int .i64 (dp-1))));go_wp2_with fail
         go_roundg (s.size-(i+1))
         case measure=>omega
         case rel=>exact⟨i+1,sd,true,f,0,_,tr,rfl,by go_num,rfl,rfl,by omega,by omega,by omega,HD2,HM2⟩
        ·by_cases h8:nd<800
         ·have h8i:(nd:Int)<800:=by omega
          have h8t:decide ((nd:Int)<800)=true:=decide_eq_true h8i;have HDP:=hid (fun n=>HD.out.push x hd1 hd2 (fun h=>by omega) h8 ((nd:Int)+1) (by omega) n (x:Int) rfl);have fnd:=HD.out.dz.frozen nd;have cnd:=HD.out.dz.dig nd h8;have b8:(nd==800)=false:=by simp;omega
          have b8':(800==nd)=false:=by simp;omega
          by_cases hx48:x=48
          ·subst hx48
           have hndz:((nd:Int)==0)=false:=beq_eq_false_iff_ne.2 (by omega);clear h0;go_wp2_with fail
           go_still_tail 11,(by kernel_rfl)
           go_wp2_with fail
           go_roundg (s.size-(i+1))
           case measure=>omega
           case rel=>exact⟨i+1,sd,true,Dm.put f nd 48,nd+1,dp,tr,rfl,by go_num,rfl,rfl,by omega,by omega,by omega,HDP.out _,(HM.out.trans ((Moved.set _ _ _ _).drewN _)).trans (Moved.set _ _ _ _)⟩
          ·have hx48f:((x:Int)==48)=false:=beq_eq_false_iff_ne.2 (by omega)
           clear h0;go_wp2_with fail
           go_still_tail 11,(by kernel_rfl)
           go_wp2_with fail
           go_roundg (s.size-(i+1))
           case measure=>omega
           case rel=>exact⟨i+1,sd,true,Dm.put f nd x,nd+1,dp,tr,rfl,by go_num,rfl,rfl,by omega,by omega,by omega,HDP.out _,(HM.out.trans ((Moved.set _ _ _ _).drewN _)).trans (Moved.set _ _ _ _)⟩
         ·have h8f:decide ((nd:Int)<800)=false:=decide_eq_false (by omega)
          have hndz:((nd:Int)==0)=false:=beq_eq_false_iff_ne.2 (by omega);by_cases hx48:x=48
          ·subst hx48
           go_wp2_with fail
           go_roundg (s.size-(i+1))
           case measure=>omega
           case rel=>exact⟨i+1,sd,true,f,nd,dp,tr,rfl,by go_num,rfl,rfl,by omega,by omega,by omega,HD,HM⟩
          ·have hx48f:((x:Int)==48)=false:=beq_eq_false_iff_ne.2 (by omega)
           have hx48n:((x:Int) != 48)=true:=by simp;omega
           have HD2:=hid (HD.out.setT true);have HM2:=hid (HM.out.trans (Moved.set B 803 _ (.bool true)));clear h0 hx48;go_wp2_with fail
           go_roundg (s.size-(i+1))
           case measure=>omega
           case rel=>exact⟨i+1,sd,true,f,nd,dp,true,rfl,by go_num,rfl,rfl,by omega,by omega,by omega,HD2,HM2⟩
       ·by_cases h48:48≤x
        ·have h48i:(48:Int)≤(x:Int):=by omega
         have h57:decide ((x:Int)≤57)=false:=decide_eq_false (by omega);clear hal hdg h46;go_wp2_with fail
         go_meet
         exact⟨i,sd,sg,f,nd,dp,tr,rfl,rfl,rfl,by omega,by omega,by omega,HD,HM⟩
        ·have h48i:decide ((48:Int)≤(x:Int))=false:=decide_eq_false (by omega)
         clear hal hdg h46 h48;go_wp2_with fail
         go_meet
         exact⟨i,sd,sg,f,nd,dp,tr,rfl,rfl,rfl,by omega,by omega,by omega,HD,HM⟩
     ·go_wp2_with fail
      go_meet
      exact⟨i,sd,sg,f,nd,dp,tr,rfl,rfl,rfl,by omega,by omega,by omega,HD,HM⟩
   case rest=>as_aux_lemma=>
    clear HD HM H0;obtain⟨i,sd,sg,f,nd,dp,tr,rfl,rfl,rfl,hi,p0,p1,HD,HM⟩:=hcut;cases sg with
    |false=>go_wp2_with fail;go_ret;exact SetP.no HM.out
    |true=>
     go_upto_if 120 with fail
     go_cut [] (fun wx=>∃(dp:Int), -400≤dp∧dp≤800∧Hid (Dse wx B f nd dp ng tr)∧Hid (Moved B w wx))
     case first=>as_aux_lemma=>
      cases sd with
      |true=>
       go_wp2_with fail
       go_meet
       exact⟨dp,p0,p1,HD,HM⟩
      |false=>
       have c800:=HD.out.dz.nd_;have c801:=HD.out.dz.dp_;have f801:=HD.out.dz.frozen 801;have HD2:=hid (HD.out.setP (nd:Int));have HM2:=hid (HM.out.trans (Moved.set B 801 _ (.int .i64 (nd:Int))));have hle:=HD.out.le;go_wp2_with fail
       go_meet
       exact⟨_,by omega,by omega,HD2,HM2⟩
     case rest=>as_aux_lemma=>
      clear HD HM;obtain⟨dp,p0,p1,HD,HM⟩:=hcut;by_cases hil:i<s.size
      ·have hal:=HA.out i hil
       obtain⟨x,hx⟩:∃x,s[i].toNat=x:=⟨_,rfl⟩
       rw[hx]at hal;have HL:=hid (lower_any x wc);obtain⟨z,hz⟩:∃z,bits BinOp.or IntKind.u8 (x:Int) 32=z:=⟨_,rfl⟩
       rw[hz]at HL;clear hz;by_cases hz1:z=101
       ·subst hz1
        by_cases hi1:i+1<s.size
        ·obtain⟨y,hy⟩:∃y,s[i+1].toNat=y:=⟨_,rfl⟩
         have hi1i:(i:Int)+1<(s.size:Int):=by omega
         clear hal;go_wp2_with fail;refine HL.out.mono ?_;rintro e w9⟨rfl,rfl⟩;go_upto_block 4 with fail
         go_cut [5,8] (fun s5 s8 wx=>∃(j:Nat) (es:Int),s5=.int .i64 j∧s8=.int .i64 es∧j≤s.size∧(es=1∨es= -1)∧wc=wx)
         case first=>as_aux_lemma=>
          by_cases hy1:y=43
          ·subst hy1
           go_wp2_with fail
           go_meet
           exact⟨i+2,1,by go_num,rfl,by omega,.inl rfl,rfl⟩
          ·have hy1f:((y:Int)==43)=false:=beq_eq_false_iff_ne.2 (by omega)
           by_cases hy2:y=45
           ·subst hy2
            clear hy1;go_wp2_with fail
            go_meet
            exact⟨i+2, -1,by go_num,rfl,by omega,.inr rfl,rfl⟩
           ·have hy2f:((y:Int)==45)=false:=beq_eq_false_iff_ne.2 (by omega)
            clear hy1 hy2;go_wp2_with fail
            go_meet
            exact⟨i+1,1,by go_num,rfl,by omega,.inl rfl,rfl⟩
         case rest=>as_aux_lemma=>
          clear hx hy HL hi1i hi1;obtain⟨j,es,rfl,rfl,hj,hes,rfl⟩:=hcut;have HES:=hid hes;clear hes;by_cases hjl:j<s.size
          ·have hal:=HA.out j hjl
           obtain⟨v,hv⟩:∃v,s[j].toNat=v:=⟨_,rfl⟩
           rw[hv]at hal;have hjf:decide ((s.size:Int)≤(j:Int))=false:=decide_eq_false (by omega);have hjf2:decide (s.size≤j)=false:=decide_eq_false (by omega);by_cases hv48:v<48
           ·have hv48t:decide ((v:Int)<48)=true:=decide_eq_true (by omega)
            clear hal;go_wp2_with fail;go_ret;exact SetP.no HM.out
           ·have hv48f:decide ((v:Int)<48)=false:=decide_eq_false (by omega)
            by_cases hv57:57<v
            ·have hv57t:decide ((57:Int)<(v:Int))=true:=decide_eq_true (by omega)
             clear hal hv48;go_wp2_with fail;go_ret;exact SetP.no HM.out
            ·have hv57f:decide ((57:Int)<(v:Int))=false:=decide_eq_false (by omega)
             clear hal hv48 hv57;go_upto_block 5 with fail
             go_cut [5,9] (fun s5 s9 wx=>∃(j e2:Nat),s5=.int .i64 j∧s9=.int .i64 e2∧j≤s.size∧e2≤100000∧wc=wx)
             case first=>as_aux_lemma=>
              clear hv hjf hjf2;go_wp2_with fail
              go_loopg [5,9] (s.size-j) (fun g s5 s9 wx=>∃(j e2:Nat),g=s.size-j∧s5=.int .i64 j∧s9=.int .i64 e2∧j≤s.size∧e2≤100000∧wc=wx)
              case atStart=>exact⟨j,0,rfl,rfl,rfl,hj,by omega,rfl⟩
              case round=>
               clear hj hjl;obtain⟨j,e2,hg,rfl,rfl,hj,he2,rfl⟩:=hrel;by_cases hjl:j<s.size
               ·have hal:=HA.out j hjl
                obtain⟨u,hu⟩:∃u,s[j].toNat=u:=⟨_,rfl⟩
                rw[hu]at hal;have hu95:((u:Int)==95)=false:=beq_eq_false_iff_ne.2 (by omega);have hjt:decide (j<s.size)=true:=decide_eq_true hjl;by_cases hu48:48≤u
                ·have hu48t:decide ((48:Int)≤(u:Int))=true:=decide_eq_true (by omega)
                 by_cases hu57:u≤57
                 ·have hu57t:decide ((u:Int)≤57)=true:=decide_eq_true (by omega)
                  clear hal;by_cases he:e2<10000
                  ·have hei:(e2:Int)<10000:=by omega
                   go_wp2_with fail
                   go_roundg (s.size-(j+1))
                   case measure=>omega
                   case rel=>exact⟨j+1,e2*10+u-48,rfl,by go_num,by go_num,by omega,by omega,rfl⟩
                  ·have hei:decide ((e2:Int)<10000)=false:=decide_eq_false (by omega)
                   go_wp2_with fail
                   go_roundg (s.size-(j+1))
                   case measure=>omega
                   case rel=>exact⟨j+1,e2,rfl,by go_num,rfl,by omega,he2,rfl⟩
                 ·have hu57f:decide ((u:Int)≤57)=false:=decide_eq_false (by omega)
                  clear hal hu48 hu57;go_wp2_with fail
                  go_meet
                  exact⟨j,e2,rfl,rfl,hj,he2,rfl⟩
                ·have hu48f:decide ((48:Int)≤(u:Int))=false:=decide_eq_false (by omega)
                 clear hal hu48;go_wp2_with fail
                 go_meet
                 exact⟨j,e2,rfl,rfl,hj,he2,rfl⟩
               ·have hjt:decide (j<s.size)=false:=decide_eq_false hjl
                have hjt2:decide ((j:Int)<(s.size:Int))=false:=decide_eq_false (by omega);go_wp2_with fail
                go_meet
                exact⟨j,e2,rfl,rfl,hj,he2,rfl⟩
             case rest=>as_aux_lemma=>
              clear hv hjf hjf2 hjl hj;obtain⟨j,e2,rfl,rfl,hj,he2,rfl⟩:=hcut;have c801:=HD.out.dz.dp_;have f801:=HD.out.dz.frozen 801;have HD2:=hid (fun z=>HD.out.setP z);have HM2:=hid (fun z=>HM.out.trans (Moved.set B 801 _ (.int .i64 z)));have he0:(0:Int)≤(e2:Int):=by omega
              have he2i:(e2:Int)≤100000:=by omega
              rcases HES.out with rfl|rfl
              ·by_cases hje:j=s.size
               ·have hne:((j:Int) != (s.size:Int))=false:=by simp;omega
                clear hje;go_wp2_with fail;go_ret;exact⟨⟨true,rfl,fun _=>⟨_,_,_,_,_,HD2.out _⟩⟩,HM2.out _⟩
               ·have hne:((j:Int) != (s.size:Int))=true:=by simp;omega
                clear hje;go_wp2_with fail;go_ret;exact SetP.no (HM2.out _)
              ·by_cases hje:j=s.size
               ·have hne:((j:Int) != (s.size:Int))=false:=by simp;omega
                clear hje;go_wp2_with fail;go_ret;exact⟨⟨true,rfl,fun _=>⟨_,_,_,_,_,HD2.out _⟩⟩,HM2.out _⟩
               ·have hne:((j:Int) != (s.size:Int))=true:=by simp;omega
                clear hje;go_wp2_with fail;go_ret;exact SetP.no (HM2.out _)
          ·have hjt:decide ((s.size:Int)≤(j:Int))=true:=decide_eq_true (by omega)
           have hjt2:decide (s.size≤j)=true:=decide_eq_true (by omega);go_wp2_with fail;go_ret;exact SetP.no HM.out
        ·have hi1i:(s.size:Int)≤(i:Int)+1:=by omega
         clear hal;go_wp2_with fail;refine HL.out.mono ?_;rintro e w9⟨rfl,rfl⟩;go_wp2_with fail;go_ret;exact SetP.no HM.out
       ·have hz1f:(z==101)=false:=beq_eq_false_iff_ne.2 hz1
        have hne:((i:Int) != (s.size:Int))=true:=by simp;omega
        clear hal hz1;go_wp2_with fail;refine HL.out.mono ?_;rintro e w9⟨rfl,rfl⟩;go_wp2_with fail;go_ret;exact SetP.no HM.out
      ·have hie:i=s.size:=by omega
       have hne:((i:Int) != (s.size:Int))=false:=by simp;omega
       clear hie;go_wp2_with fail;go_ret;exact⟨⟨true,rfl,fun _=>⟨_,_,_,_,_,HD.out⟩⟩,HM.out⟩
end Go.Proofs.YtmodehfedhgcbaaGreatDoor

set_option linter.unusedVariables false
set_option maxRecDepth 100000
namespace Go.Proofs.YtmodehfedhgcbaaGreatDoor
open Go.RowKit
theorem results_tmp3{fn:Func}{a b c:Tmp}(h:fn.results=#[.tmp a,.tmp b,.tmp c])(tmps:Array Value)(P:Program)(w:World):
 (results fn tmps).run P w=.ok (.tuple #[tmps.getD a undef,tmps.getD b undef,tmps.getD c undef]) w:=by
 simp[results,h]
theorem results_tmp7{fn:Func}{a b c d e f g:Tmp}(h:fn.results=#[.tmp a,.tmp b,.tmp c,.tmp d,.tmp e,.tmp f,.tmp g])(tmps:Array Value)(P:Program)(w:World):
 (results fn tmps).run P w=.ok (.tuple #[tmps.getD a undef,tmps.getD b undef,tmps.getD c undef,tmps.getD d undef,tmps.getD e undef,tmps.getD f undef,tmps.getD g undef]) w:=by
 simp[results,h]
abbrev infS:ByteArray:=⟨#[105,110,102,105,110,105,116,121]⟩
theorem common_none(t:ByteArray)(w:World)(h:∀h:0<t.size,t[0].toNat≠105∧t[0].toNat≠73)(hs:t.size≤1000):Calls Tryz.prog 182 #[.string t,.string infS] w fun e w'=>e=.returned (.int .i64 0)∧w=w':=by
 by_cases h0:t.size=0
 ·go_enter Tryz.func182,Tryz.ntmps182
  go_wp2_with fail
  go_loopg [6] 1 (fun g s6 wx=>s6=.int .i64 0∧w=wx)
  case atStart=>exact⟨rfl,rfl⟩
  case round=>obtain⟨rfl,rfl⟩:=hrel;go_wp2_with fail;go_ret;exact⟨by first|rfl|simp[h0],rfl⟩
 ·have g0:∀h,infS[0]'h=105:=fun _=>rfl
  have n0:(105:UInt8).toNat=105:=rfl;have hts:0<t.size:=by omega
  obtain⟨x,hx⟩:∃x,t[0].toNat=x:=⟨_,rfl⟩
  have h1:=h hts;rw[hx]at h1;obtain⟨h1,h2⟩:=h1;rcases Nat.lt_or_ge t.size 8 with h8|h8
  ·have h8i:(t.size:Int)<8:=by omega
   by_cases hc:65≤x∧x≤90
   ·obtain⟨hc1,hc2⟩:=hc
    have c1:(65:Int)≤(x:Int):=by omega
    have c2:decide ((x:Int)≤90)=true:=decide_eq_true (by omega);have c3:((x:Int)+32 != 105)=true:=by simp;omega
    clear h1 h2 h0 h;go_enter Tryz.func182,Tryz.ntmps182;go_wp2_with fail
    go_loopg [6] 1 (fun g s6 wx=>s6=.int .i64 0∧w=wx)
    case atStart=>exact⟨rfl,rfl⟩
    case round=>obtain⟨rfl,rfl⟩:=hrel;go_wp2_with fail;go_ret;exact⟨rfl,rfl⟩
   ·have c3:((x:Int) != 105)=true:=by simp;omega
    by_cases hc1:65≤x
    ·have c1:(65:Int)≤(x:Int):=by omega
     have c2:decide ((x:Int)≤90)=false:=decide_eq_false (by omega);clear h1 h2 h0 h hc;go_enter Tryz.func182,Tryz.ntmps182;go_wp2_with fail
     go_loopg [6] 1 (fun g s6 wx=>s6=.int .i64 0∧w=wx)
     case atStart=>exact⟨rfl,rfl⟩
     case round=>obtain⟨rfl,rfl⟩:=hrel;go_wp2_with fail;go_ret;exact⟨rfl,rfl⟩
    ·have c1:decide ((65:Int)≤(x:Int))=false:=decide_eq_false (by omega)
     clear h1 h2 h0 h hc;go_enter Tryz.func182,Tryz.ntmps182;go_wp2_with fail
     go_loopg [6] 1 (fun g s6 wx=>s6=.int .i64 0∧w=wx)
     case atStart=>exact⟨rfl,rfl⟩
     case round=>obtain⟨rfl,rfl⟩:=hrel;go_wp2_with fail;go_ret;exact⟨rfl,rfl⟩
  ·have h8i:(8:Int)≤(t.size:Int):=by omega
   by_cases hc:65≤x∧x≤90
   ·obtain⟨hc1,hc2⟩:=hc
    have c1:(65:Int)≤(x:Int):=by omega
    have c2:decide ((x:Int)≤90)=true:=decide_eq_true (by omega);have c3:((x:Int)+32 != 105)=true:=by simp;omega
    clear h1 h2 h0 h;go_enter Tryz.func182,Tryz.ntmps182;go_wp2_with fail
    go_loopg [6] 1 (fun g s6 wx=>s6=.int .i64 0∧w=wx)
    case atStart=>exact⟨rfl,rfl⟩
    case round=>obtain⟨rfl,rfl⟩:=hrel;go_wp2_with fail;go_ret;exact⟨rfl,rfl⟩
   ·have c3:((x:Int) != 105)=true:=by simp;omega
    by_cases hc1:65≤x
    ·have c1:(65:Int)≤(x:Int):=by omega
     have c2:decide ((x:Int)≤90)=false:=decide_eq_false (by omega);clear h1 h2 h0 h hc;go_enter Tryz.func182,Tryz.ntmps182;go_wp2_with fail
     go_loopg [6] 1 (fun g s6 wx=>s6=.int .i64 0∧w=wx)
     case atStart=>exact⟨rfl,rfl⟩
     case round=>obtain⟨rfl,rfl⟩:=hrel;go_wp2_with fail;go_ret;exact⟨rfl,rfl⟩
    ·have c1:decide ((65:Int)≤(x:Int))=false:=decide_eq_false (by omega)
     clear h1 h2 h0 h hc;go_enter Tryz.func182,Tryz.ntmps182;go_wp2_with fail
     go_loopg [6] 1 (fun g s6 wx=>s6=.int .i64 0∧w=wx)
     case atStart=>exact⟨rfl,rfl⟩
     case round=>obtain⟨rfl,rfl⟩:=hrel;go_wp2_with fail;go_ret;exact⟨rfl,rfl⟩
theorem cut_byte(s:ByteArray)(a b i:Nat)(hi:i<b-a)(hb:b≤s.size)(h1:i<(s.extract a b).size):(s.extract a b)[i]=s[a+i]:=by simp[ByteArray.getElem_extract]
theorem special_none(s:ByteArray)(w:World)(ha:Al s)(hs:s.size≤1000):Calls Tryz.prog 168 #[.string s] w fun e w'=>e=.returned (.tuple #[.float .f64 0,.int .i64 0,.bool false])∧w=w':=by
 by_cases h0:s.size=0
 ·go_enter Tryz.func168,Tryz.ntmps168
  go_wp2_with fail;refine bodyPost_ret (results_tmp3 rfl _ _ _) rfl ?_;exact⟨rfl,rfl⟩
 ·have hal:=ha 0 (by omega)
  have hss:0<s.size:=by omega
  have hsz:((s.size:Int)==0)=false:=beq_eq_false_iff_ne.2 (by omega);have HC:Hid (∀W,Calls Tryz.prog 182 #[.string (s.extract 1 s.size),.string infS] W fun e w'=>e=.returned (.int .i64 0)∧W=w'):=by
   intro W;refine common_none _ W (fun h=>?_) (by rw[ByteArray.size_extract];omega);have hsz:1<s.size:=by rw[ByteArray.size_extract]at h;omega
   have h1:=ha 1 hsz;rw[cut_byte s 1 s.size 0 (by omega) (Nat.le_refl _) h];have e:s[1+0]=s[1]:=rfl;rw[e];omega
  obtain⟨x,hx⟩:∃x,s[0].toNat=x:=⟨_,rfl⟩
  rw[hx]at hal;clear ha;by_cases h43:x=43
  ·subst h43
   clear hal h0;go_enter Tryz.func168,Tryz.ntmps168;go_wp2_with fail;refine(HC.out _).mono ?_;rintro e w1⟨rfl,rfl⟩;go_wp2_with fail;refine bodyPost_ret (results_tmp3 rfl _ _ _) rfl ?_;exact⟨rfl,rfl⟩
  ·have h43f:((x:Int)==43)=false:=beq_eq_false_iff_ne.2 (by omega)
   by_cases h45:x=45
   ·subst h45
    clear hal h0;go_enter Tryz.func168,Tryz.ntmps168;go_wp2_with fail;refine(HC.out _).mono ?_;rintro e w1⟨rfl,rfl⟩;go_wp2_with fail;refine bodyPost_ret (results_tmp3 rfl _ _ _) rfl ?_;exact⟨rfl,rfl⟩
   ·have h45f:((x:Int)==45)=false:=beq_eq_false_iff_ne.2 (by omega)
    have e1:((x:Int)==105)=false:=beq_eq_false_iff_ne.2 (by omega);have e2:((x:Int)==73)=false:=beq_eq_false_iff_ne.2 (by omega);have e3:((x:Int)==110)=false:=beq_eq_false_iff_ne.2 (by omega);have e4:((x:Int)==78)=false:=beq_eq_false_iff_ne.2 (by omega);clear hal h0 h43 h45;go_enter Tryz.func168,Tryz.ntmps168;go_wp2_with fail;refine bodyPost_ret (results_tmp3 rfl _ _ _) rfl ?_;exact⟨rfl,rfl⟩
end Go.Proofs.YtmodehfedhgcbaaGreatDoor

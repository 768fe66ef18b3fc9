import Derived.Test.YtmodehfedhgcbaaGreatDoorA8
import Derived.Deep.CutBlock
set_option linter.unusedVariables false
set_option maxRecDepth 100000
set_option maxHeartbeats 8000000
namespace Go.Proofs.YtmodehfedhgcbaaGreatDoor
open Go.RowKit
open Lib (hid)
theorem fall_step{t k u v z:Nat}(h:2^t*u≤z)(hk:1≤k)(hv:2^k*v≤u):2^(t+1)*v≤z:=by
 obtain⟨j,rfl⟩:∃j,k=j+1:=⟨k-1,by omega⟩
 have h1:2*v≤u:=by refine Nat.le_trans ?_ hv;rw[Nat.pow_succ,Nat.mul_comm (2^j),Nat.mul_assoc];exact Nat.mul_le_mul_left 2 (Nat.le_mul_of_pos_left v (Nat.pow_pos (by decide)))
 rw[Nat.pow_succ,Nat.mul_assoc];exact Nat.le_trans (Nat.mul_le_mul_left _ h1) h
theorem rise_step{t u v:Nat}(h:3^t≤2^t*u)(hv:3*u≤2*v):3^(t+1)≤2^(t+1)*v:=by rw[Nat.pow_succ,Nat.pow_succ,Nat.mul_assoc (2^t)];refine Nat.le_trans ?_ (Nat.mul_le_mul_left (2^t) hv);rw[Nat.mul_left_comm];rw[Nat.mul_comm];exact Nat.mul_le_mul_left 3 h
theorem bits_any(B Q qo qc P off c:Nat)(d:Nat→Nat)(nd:Nat)(dp:Int)(ng tr:Bool)(w:World)(h:Dz w B d nd dp ng tr)(hok:nd=0∨Dok w B d nd dp ng tr)(hE:Env w B Q qo qc P off c):
 Calls Tryz.prog 176 #[.pointer (some ⟨B,0,none⟩),.pointer (some ⟨11,0,none⟩)] w (FbP B w):=by
 have H:=hid h;have HOK:=hid hok;have HE:=hid hE;have HM:=hid (Moved.refl B w);have c800:=h.nd_;have c801:=h.dp_;have c802:=h.ng_;have f0:=hE.f0;have f1:=hE.f1;have f2:=hE.f2;clear h hok hE;go_enter Tryz.func176,Tryz.ntmps176;go_wp2_with fail;refine wp_scope_two rfl rfl ?_;intro J HJ0 HJ1;by_cases hn0:nd=0
 ·subst hn0
  cases ng with
  |true=>
   go_wp2_with fail
   go_step3
   refine HJ0 _ _ ?_;clear HJ0 HJ1;go_wp2_with fail
   go_quiet (fail)
   go_wp2_with fail
   go_quiet (fail)
   go_wp2_with fail;rw[Exit.noGoto_ret]
   go_ret2
   exact⟨⟨_,_,rfl,bits_lo_u64 _ _ _,bits_hi_u64 _ _ _⟩,by first|exact HM.out|exact HM.out.drewN _|exact(HM.out.drewN _).drewN _|exact((HM.out.drewN _).drewN _).drewN _|exact(((HM.out.drewN _).drewN _).drewN _).drewN _⟩
  |false=>
   go_wp2_with fail
   go_step3
   refine HJ0 _ _ ?_;clear HJ0 HJ1;go_wp2_with fail
   go_quiet (fail)
   go_wp2_with fail;rw[Exit.noGoto_ret]
   go_ret2
   exact⟨⟨_,_,rfl,bits_lo_u64 _ _ _,bits_hi_u64 _ _ _⟩,by first|exact HM.out|exact HM.out.drewN _|exact(HM.out.drewN _).drewN _|exact((HM.out.drewN _).drewN _).drewN _|exact(((HM.out.drewN _).drewN _).drewN _).drewN _⟩
 ·have HO:Hid (Dok w B d nd dp ng tr):=HOK.out.resolve_left hn0
  have hnz:((nd:Int)==0)=false:=beq_eq_false_iff_ne.2 (by omega);clear HOK hn0;by_cases hp1:310<dp
  ·cases ng with
   |true=>
    go_wp2_with fail
    go_step3
    refine HJ1 _ _ ?_;clear HJ0 HJ1;go_wp2_with fail
    go_quiet (fail)
    go_wp2_with fail
    go_step3
    go_wp2_with fail
    go_quiet (fail)
    go_wp2_with fail
    go_quiet (fail)
    go_wp2_with fail;rw[Exit.noGoto_ret]
    go_ret2
    exact⟨⟨_,_,rfl,bits_lo_u64 _ _ _,bits_hi_u64 _ _ _⟩,by first|exact HM.out|exact HM.out.drewN _|exact(HM.out.drewN _).drewN _|exact((HM.out.drewN _).drewN _).drewN _|exact(((HM.out.drewN _).drewN _).drewN _).drewN _⟩
   |false=>
    go_wp2_with fail
    go_step3
    refine HJ1 _ _ ?_;clear HJ0 HJ1;go_wp2_with fail
    go_quiet (fail)
    go_wp2_with fail
    go_step3
    go_wp2_with fail
    go_quiet (fail)
    go_wp2_with fail;rw[Exit.noGoto_ret]
    go_ret2
    exact⟨⟨_,_,rfl,bits_lo_u64 _ _ _,bits_hi_u64 _ _ _⟩,by first|exact HM.out|exact HM.out.drewN _|exact(HM.out.drewN _).drewN _|exact((HM.out.drewN _).drewN _).drewN _|exact(((HM.out.drewN _).drewN _).drewN _).drewN _⟩
  ·by_cases hp2:dp< -330
   ·have hp1f:decide (310<dp)=false:=decide_eq_false hp1
    clear hp1;cases ng with
    |true=>
     go_wp2_with fail
     go_step3
     refine HJ0 _ _ ?_;clear HJ0 HJ1;go_wp2_with fail
     go_quiet (fail)
     go_wp2_with fail
     go_quiet (fail)
     go_wp2_with fail;rw[Exit.noGoto_ret]
     go_ret2
     exact⟨⟨_,_,rfl,bits_lo_u64 _ _ _,bits_hi_u64 _ _ _⟩,by first|exact HM.out|exact HM.out.drewN _|exact(HM.out.drewN _).drewN _|exact((HM.out.drewN _).drewN _).drewN _|exact(((HM.out.drewN _).drewN _).drewN _).drewN _⟩
    |false=>
     go_wp2_with fail
     go_step3
     refine HJ0 _ _ ?_;clear HJ0 HJ1;go_wp2_with fail
     go_quiet (fail)
     go_wp2_with fail;rw[Exit.noGoto_ret]
     go_ret2
     exact⟨⟨_,_,rfl,bits_lo_u64 _ _ _,bits_hi_u64 _ _ _⟩,by first|exact HM.out|exact HM.out.drewN _|exact(HM.out.drewN _).drewN _|exact((HM.out.drewN _).drewN _).drewN _|exact(((HM.out.drewN _).drewN _).drewN _).drewN _⟩
   ·have hp1f:decide (310<dp)=false:=decide_eq_false hp1
    have hp2f:decide (dp< -330)=false:=decide_eq_false hp2;have hb1:dp≤310:=by omega
    have hb2: -330≤dp:=by omega
    clear hp1 hp2;go_upto_block 0 with fail
    go_cut [6] (fun s6 wx=>∃(x:Int) (f:Nat→Nat) (nd2:Nat) (dp2:Int) (tr2:Bool),s6=.int .i64 x∧0≤x∧x≤30000∧ -330≤dp2∧dp2≤0∧Hid (Dok wx B f nd2 dp2 ng tr2)∧Hid (Moved B w wx))
    case first=>
     clear f0 f1 f2 c800 c801 c802;have HUT:=hid (U_top HO.out.dg HO.out.le (by omega) hb1);have HT11:=t1100_is;have HT11:=hid HT11;go_wp2_with fail
     go_loopg [6] 1100 (fun g s6 wx=>∃(t:Nat) (x:Int) (f:Nat→Nat) (nd2:Nat) (dp2:Int) (tr2:Bool),t+g=1100∧s6=.int .i64 x∧0≤x∧x≤27*(t:Int)∧ -330≤dp2∧dp2≤310∧Hid (2^t*Dm.U f nd2 dp2≤Dm.U d nd dp)∧Hid (Dok wx B f nd2 dp2 ng tr2)∧Hid (Moved B w wx))
     case atStart=>exact⟨0,0,d,nd,dp,tr,rfl,rfl,by omega,by omega,hb2,hb1,by show 2^0*_≤_;simp,HO,HM⟩
     case round=>
      clear HM HO;obtain⟨t,x,f,nd2,dp2,tr2,htg,rfl,x0,x1,p0,p1,HU,HO,HM⟩:=hrel;have c801:=HO.out.dz.dp_;have pt:=(HE.out.moved HM.out).pt;by_cases hpos:0<dp2
      ·have ht:t<1100:=by have:=fall_few HU.out HUT.out (Dm.U_big HO.out.first HO.out.pos HO.out.le hpos);rw[HT11.out]at this;exact this
       obtain⟨g,rfl⟩:∃g,gk=g+1:=⟨gk-1,by omega⟩
       obtain⟨i,rfl⟩:∃i:Nat,dp2=(i:Int):=⟨dp2.toNat,by omega⟩
       by_cases h9:9≤i
       ·have HS:=hid (shift_right B 27 f nd2 i ng tr2 wr HO.out (by omega) (by omega) (by omega) (by omega))
        have HS2:=hid (fun n=>shift_right B 27 f nd2 i ng tr2 (wr.drewN n) ⟨HO.out.dz.drewN n,HO.out.dg,HO.out.first,HO.out.pos,HO.out.le⟩ (by omega) (by omega) (by omega) (by omega));have h9i:(9:Int)≤(i:Int):=by omega
        go_wp2_with fail
        go_quiet (fail)
        go_wp2_with fail;refine(HS2.out _).mono ?_;rintro e w9⟨rfl,g2,nd3,dp3,tr3,t1,t2,t3,t4,t5,t6,t7,t8,t9⟩;have HO2:Hid (Dok w9 B g2 nd3 dp3 ng tr3):=⟨t1,t3,t2,t4,t5⟩
        have HU2:Hid (2^(t+1)*Dm.U g2 nd3 dp3≤Dm.U d nd dp):=fall_step HU.out (by omega) (t8 (by omega));have HM2:Hid (Moved B w w9):=(HM.out.drewN _).trans t9;have q1: -330≤dp3:=by omega
        have q2:dp3≤310:=by omega
        clear t1 t2 t3 t4 t5 t6 t7 t8 t9;go_wp2_with fail
        go_roundg g
        case measure=>omega
        case rel=>exact⟨t+1,_,g2,nd3,dp3,tr3,by omega,rfl,by omega,by omega,q1,q2,HU2,HO2,HM2⟩
       ·obtain⟨k,hk⟩:∃k,powN i=k:=⟨_,rfl⟩
        have hki:=powN_in i (by omega);have cp:=(HE.out.moved HM.out).pw i (by omega);rw[hk]at hki cp;obtain⟨hk1,hk2⟩:=hki;clear hk;have HS2:=hid (fun n=>shift_right B k f nd2 i ng tr2 (wr.drewN n) ⟨HO.out.dz.drewN n,HO.out.dg,HO.out.first,HO.out.pos,HO.out.le⟩ (by omega) (by omega) hk1 (by omega));have h9i:decide ((9:Int)≤(i:Int))=false:=decide_eq_false (by omega);have hi9:(i:Int)<9:=by omega
        have hi0:(0:Int)≤(i:Int):=by omega
        go_wp2_with fail
        go_quiet (fail)
        go_wp2_with fail
        go_quiet (fail)
        go_wp2_with fail;refine(HS2.out _).mono ?_;rintro e w9⟨rfl,g2,nd3,dp3,tr3,t1,t2,t3,t4,t5,t6,t7,t8,t9⟩;have HO2:Hid (Dok w9 B g2 nd3 dp3 ng tr3):=⟨t1,t3,t2,t4,t5⟩
        have HU2:Hid (2^(t+1)*Dm.U g2 nd3 dp3≤Dm.U d nd dp):=fall_step HU.out hk1 (t8 (by omega));have HM2:Hid (Moved B w w9):=(HM.out.drewN _).trans t9;have q1: -330≤dp3:=by omega
        have q2:dp3≤310:=by omega
        clear t1 t2 t3 t4 t5 t6 t7 t8 t9;go_wp2_with fail
        go_roundg g
        case measure=>omega
        case rel=>exact⟨t+1,_,g2,nd3,dp3,tr3,by omega,rfl,by omega,by omega,q1,q2,HU2,HO2,HM2⟩
      ·have hposf:decide (0<dp2)=false:=decide_eq_false hpos
       have hle:dp2≤0:=by omega
       clear hpos;go_wp2_with fail
       go_meet
       exact⟨x,f,nd2,dp2,tr2,rfl,x0,by omega,p0,hle,HO,HM⟩
    case rest=>
     clear HM HO H c800 c801 c802 f0 f1 f2;have hb15:=HE.out.b15;have hbP:=HE.out.bP;have hbPB:=hid hbP;obtain⟨x,f,nd2,dp2,tr2,rfl,x0,x1,p0,p1,HO,HM⟩:=hcut;go_upto_block 2 with fail
     go_cut [6] (fun s6 wx=>∃(x:Int) (f:Nat→Nat) (nd2:Nat) (dp2:Int) (tr2:Bool),s6=.int .i64 x∧ -200000≤x∧x≤30000∧ -330≤dp2∧dp2≤20∧Hid (Dok wx B f nd2 dp2 ng tr2)∧Hid (Moved B w wx))
     case first=>
      have HU1:Hid (3^0≤2^0*Dm.U f nd2 dp2):=by show 3^0≤2^0*_;have:=Dm.U_pos (dp:=dp2) HO.out.first HO.out.pos;simp;omega
      go_wp2_with fail
      go_loopg [6] 7000 (fun g s6 wx=>∃(t:Nat) (x:Int) (f:Nat→Nat) (nd2:Nat) (dp2:Int) (tr2:Bool),t+g=7000∧s6=.int .i64 x∧ -(27*(t:Int))≤x∧x≤30000∧ -330≤dp2∧dp2≤20∧Hid (3^t≤2^t*Dm.U f nd2 dp2)∧Hid (Dok wx B f nd2 dp2 ng tr2)∧Hid (Moved B w wx))
      case atStart=>exact⟨0,x,f,nd2,dp2,tr2,rfl,rfl,by omega,x1,p0,by omega,HU1,HO,HM⟩
      case round=>
       clear HM HO HU1;obtain⟨t,x,f,nd2,dp2,tr2,htg,rfl,x0,x1,p0,p1,HU,HO,HM⟩:=hrel;have c801:=HO.out.dz.dp_;have pt:=(HE.out.moved HM.out).pt;have cd0:=HO.out.dz.dig 0 (by omega);by_cases hneg:dp2<0
       ·have hnegt:decide (dp2<0)=true:=decide_eq_true hneg
        have ht:t<7000:=Dm.grow_few HU.out (Dm.U_small HO.out.dg HO.out.le (by omega) (by omega));obtain⟨g,rfl⟩:∃g,gk=g+1:=⟨gk-1,by omega⟩
        obtain⟨i,hi⟩:∃i:Nat, -dp2=(i:Int):=⟨(-dp2).toNat,by omega⟩
        by_cases h9:9≤i
        ·have HS2:=hid (fun n=>shift_left B P off c 27 f nd2 dp2 ng tr2 (wr.drewN n) ((HE.out.moved HM.out).ch.moved ((Moved.refl B wr).drewN n) hb15 hbP) hb15 hbP ⟨HO.out.dz.drewN n,HO.out.dg,HO.out.first,HO.out.pos,HO.out.le⟩ (by omega) (by omega) (by omega) (by omega))
         have h9i:(9:Int)≤(i:Int):=by omega
         go_wp2_with fail
         go_quiet (fail)
         go_wp2_with fail;refine(HS2.out _).mono ?_;rintro e w9⟨rfl,g2,nd3,dp3,tr3,t1,t2,t3,t4,t5,t6,t7,t8,t9⟩;have HO2:Hid (Dok w9 B g2 nd3 dp3 ng tr3):=⟨t1,t3,t2,t4,t5⟩
         have HU2:Hid (3^(t+1)≤2^(t+1)*Dm.U g2 nd3 dp3):=rise_step HU.out (t8 (by omega));have HM2:Hid (Moved B w w9):=(HM.out.drewN _).trans t9;have q1: -330≤dp3:=by omega
         have q2:dp3≤20:=by omega
         clear t1 t2 t3 t4 t5 t6 t7 t8 t9;go_wp2_with fail
         go_roundg g
         case measure=>omega
         case rel=>exact⟨t+1,_,g2,nd3,dp3,tr3,by omega,rfl,by omega,by omega,q1,q2,HU2,HO2,HM2⟩
        ·obtain⟨k,hk⟩:∃k,powN i=k:=⟨_,rfl⟩
         have hki:=powN_in i (by omega);have cp:=(HE.out.moved HM.out).pw i (by omega);rw[hk]at hki cp;obtain⟨hk1,hk2⟩:=hki;clear hk;have HS2:=hid (fun n=>shift_left B P off c k f nd2 dp2 ng tr2 (wr.drewN n) ((HE.out.moved HM.out).ch.moved ((Moved.refl B wr).drewN n) hb15 hbP) hb15 hbP ⟨HO.out.dz.drewN n,HO.out.dg,HO.out.first,HO.out.pos,HO.out.le⟩ (by omega) (by omega) hk1 (by omega));have h9i:decide ((9:Int)≤(i:Int))=false:=decide_eq_false (by omega);have hi9:(i:Int)<9:=by omega
         have hi0:(0:Int)≤(i:Int):=by omega
         go_wp2_with fail
         go_quiet (fail)
         go_wp2_with fail
         go_quiet (fail)
         go_wp2_with fail;refine(HS2.out _).mono ?_;rintro e w9⟨rfl,g2,nd3,dp3,tr3,t1,t2,t3,t4,t5,t6,t7,t8,t9⟩;have HO2:Hid (Dok w9 B g2 nd3 dp3 ng tr3):=⟨t1,t3,t2,t4,t5⟩
         have HU2:Hid (3^(t+1)≤2^(t+1)*Dm.U g2 nd3 dp3):=rise_step HU.out (t8 (by omega));have HM2:Hid (Moved B w w9):=(HM.out.drewN _).trans t9;have q1: -330≤dp3:=by omega
         have q2:dp3≤20:=by omega
         clear t1 t2 t3 t4 t5 t6 t7 t8 t9;go_wp2_with fail
         go_roundg g
         case measure=>omega
         case rel=>exact⟨t+1,_,g2,nd3,dp3,tr3,by omega,rfl,by omega,by omega,q1,q2,HU2,HO2,HM2⟩
       ·have hnegf:decide (dp2<0)=false:=decide_eq_false hneg
        by_cases hz:dp2=0
        ·have hzt:(dp2==0)=true:=by rw[hz];rfl
         obtain⟨v,hv⟩:∃v,f 0=v:=⟨_,rfl⟩
         rw[hv]at cd0;clear hv;have hzz:=hid hz;subst hz;clear hneg hnegf;by_cases h5:v<53
         ·have h5t:decide ((v:Int)<53)=true:=decide_eq_true (by omega)
          have ht:t<7000:=Dm.grow_few HU.out (Dm.U_small HO.out.dg HO.out.le (by omega) (by omega));obtain⟨g,rfl⟩:∃g,gk=g+1:=⟨gk-1,by omega⟩
          have cp:wr.cell? ⟨Q,qo,none⟩=some (.int .i64 1):=(HE.out.moved HM.out).pw 0 (by omega);have HS2:=hid (fun n=>shift_left B P off c 1 f nd2 0 ng tr2 (wr.drewN n) ((HE.out.moved HM.out).ch.moved ((Moved.refl B wr).drewN n) hb15 hbP) hb15 hbP ⟨HO.out.dz.drewN n,HO.out.dg,HO.out.first,HO.out.pos,HO.out.le⟩ (by omega) (by omega) (by omega) (by omega));go_wp2_with fail
          go_quiet (fail)
          go_wp2_with fail
          go_quiet (fail)
          go_wp2_with fail;refine(HS2.out _).mono ?_;rintro e w9⟨rfl,g2,nd3,dp3,tr3,t1,t2,t3,t4,t5,t6,t7,t8,t9⟩;have HO2:Hid (Dok w9 B g2 nd3 dp3 ng tr3):=⟨t1,t3,t2,t4,t5⟩
          have HU2:Hid (3^(t+1)≤2^(t+1)*Dm.U g2 nd3 dp3):=rise_step HU.out (t8 (by omega));have HM2:Hid (Moved B w w9):=(HM.out.drewN _).trans t9;have q1: -330≤dp3:=by omega
          have q2:dp3≤20:=by omega
          clear t1 t2 t3 t4 t5 t6 t7 t8 t9;go_wp2_with fail
          go_roundg g
          case measure=>omega
          case rel=>exact⟨t+1,_,g2,nd3,dp3,tr3,by omega,rfl,by omega,by omega,q1,q2,HU2,HO2,HM2⟩
         ·have h5f:decide ((v:Int)<53)=false:=decide_eq_false (by omega)
          have h5n:decide (v<53)=false:=decide_eq_false (by omega);go_wp2_with fail
          go_meet
          exact⟨x,f,nd2,0,tr2,rfl,by omega,by omega,p0,p1,HO,HM⟩
        ·have hzf:(dp2==0)=false:=beq_eq_false_iff_ne.2 hz
         clear hz hneg;go_wp2_with fail
         go_meet
         exact⟨x,f,nd2,dp2,tr2,rfl,by omega,by omega,p0,p1,HO,HM⟩
     case rest=>
      clear HM HO;obtain⟨x,f,nd2,dp2,tr2,rfl,x0,x1,p0,p1,HO,HM⟩:=hcut;have f2:=(HE.out.moved HM.out).f2;go_upto_if 111 with fail
      go_cut [6] (fun s6 wx=>∃(x:Int) (f:Nat→Nat) (nd2:Nat) (dp2:Int) (tr2:Bool),s6=.int .i64 x∧ -1022≤x∧x≤30000∧ -5000000≤dp2∧dp2≤20∧Hid (Dok wx B f nd2 dp2 ng tr2)∧Hid (Moved B w wx))
      case first=>
       by_cases hlow:x-1< -1022
       ·obtain⟨n,hn⟩:∃n:Nat, -1022-(x-1)=(n:Int):=⟨(-1022-(x-1)).toNat,by omega⟩
        have HS:=hid (fun(z:Int) (hz:z= -(n:Int))=>(show Calls Tryz.prog 195 #[.pointer (some ⟨B,0,none⟩),.int .i64 z] wc (ShN B dp2 ng n wc) by rw[hz];exact shift_far B n f nd2 dp2 ng tr2 wc HO.out (by omega) (by omega) (by omega) (by omega)));have HNN:=hid hn;clear hn;go_wp2_with fail;refine(HS.out _ (by have:=HNN.out;omega)).mono ?_;rintro e w9⟨rfl,g2,nd3,dp3,tr3,t1,t2,t3,t4⟩;have hn1:=HNN.out;have HO2:=hid t1;have HM2:Hid (Moved B w w9):=HM.out.trans t4;have q1: -5000000≤dp3:=by omega
        have q2:dp3≤20:=by omega
        clear t1 t2 t3 t4 hn1;go_wp2_with fail
        go_meet
        exact⟨_,g2,nd3,dp3,tr3,rfl,by have:=HNN.out;omega,by have:=HNN.out;omega,q1,q2,HO2,HM2⟩
       ·have hlow2: -1022≤x-1:=by omega
        clear hlow;go_wp2_with fail
        go_meet
        exact⟨_,f,nd2,dp2,tr2,rfl,by omega,by omega,by omega,p1,HO,HM⟩
      case rest=>
       clear HM HO f2;obtain⟨x,f,nd2,dp2,tr2,rfl,x0,x1,p0,p1,HO,HM⟩:=hcut;have E:=HE.out.moved HM.out;have f0:=E.f0;have f1:=E.f1;have f2:=E.f2;have pt:=E.pt;have c802:=HO.out.dz.ng_;clear E pt;by_cases hbig:1024≤x
       ·have hbigi:(2047:Int)≤x+1023:=by omega
        cases ng with
        |true=>
         go_wp2_with fail
         go_quiet (fail)
         go_wp2_with fail
         go_step3
         refine HJ1 _ _ ?_;clear HJ0 HJ1;go_wp2_with fail
         go_quiet (fail)
         go_wp2_with fail
         go_step3
         go_wp2_with fail
         go_quiet (fail)
         go_wp2_with fail
         go_quiet (fail)
         go_wp2_with fail;rw[Exit.noGoto_ret]
         go_ret2
         exact⟨⟨_,_,rfl,bits_lo_u64 _ _ _,bits_hi_u64 _ _ _⟩,by first|exact HM.out|exact HM.out.drewN _|exact(HM.out.drewN _).drewN _|exact((HM.out.drewN _).drewN _).drewN _|exact(((HM.out.drewN _).drewN _).drewN _).drewN _⟩
        |false=>
         go_wp2_with fail
         go_quiet (fail)
         go_wp2_with fail
         go_step3
         refine HJ1 _ _ ?_;clear HJ0 HJ1;go_wp2_with fail
         go_quiet (fail)
         go_wp2_with fail
         go_step3
         go_wp2_with fail
         go_quiet (fail)
         go_wp2_with fail;rw[Exit.noGoto_ret]
         go_ret2
         exact⟨⟨_,_,rfl,bits_lo_u64 _ _ _,bits_hi_u64 _ _ _⟩,by first|exact HM.out|exact HM.out.drewN _|exact(HM.out.drewN _).drewN _|exact((HM.out.drewN _).drewN _).drewN _|exact(((HM.out.drewN _).drewN _).drewN _).drewN _⟩
       ·have hbigi:decide ((2047:Int)≤x+1023)=false:=decide_eq_false (by omega)
        have HS2:=hid (fun n=>shift_left B P off c 53 f nd2 dp2 ng tr2 (wc.drewN n) ((HE.out.moved HM.out).ch.moved ((Moved.refl B wc).drewN n) hb15 hbP) hb15 hbP ⟨HO.out.dz.drewN n,HO.out.dg,HO.out.first,HO.out.pos,HO.out.le⟩ (by omega) (by omega) (by omega) (by omega));go_wp2_with fail
        go_quiet (fail)
        go_wp2_with fail;refine(HS2.out _).mono ?_;rintro e w9⟨rfl,g2,nd3,dp3,tr3,t1,t2,t3,t4,t5,t6,t7,t8,t9⟩;have HO2:Hid (Dok w9 B g2 nd3 dp3 ng tr3):=⟨t1,t3,t2,t4,t5⟩
        have HM2:Hid (Moved B w w9):=(HM.out.drewN _).trans t9;have HRI:=hid (round_int B g2 nd3 dp3 ng tr3 w9 HO2.out (by omega) (by omega));clear t1 t2 t3 t4 t5 t6 t7 t8 t9 f0 f1 f2 c802 HM HO;have HO:=HO2;have HM:=HM2;clear HO2 HM2;have E:=HE.out.moved HM.out;have f0:=E.f0;have f1:=E.f1;have f2:=E.f2;have pt:=E.pt;have c802:=HO.out.dz.ng_;clear E pt;go_wp2_with fail;refine HRI.out.mono ?_;rintro e w10⟨⟨m,rfl,m0,m1⟩,rfl⟩;by_cases hm2:m=9007199254740992
        ·have hm2t:(m==9007199254740992)=true:=by rw[hm2];rfl
         subst hm2;by_cases hb3:1023≤x
         ·have hb3i:(2047:Int)≤x+1+1023:=by omega
          cases ng with
          |true=>
           go_wp2_with fail
           go_quiet (fail)
           go_wp2_with fail
           go_step3
           refine HJ1 _ _ ?_;clear HJ0 HJ1;go_wp2_with fail
           go_quiet (fail)
           go_wp2_with fail
           go_step3
           go_wp2_with fail
           go_quiet (fail)
           go_wp2_with fail
           go_quiet (fail)
           go_wp2_with fail;rw[Exit.noGoto_ret]
           go_ret2
           exact⟨⟨_,_,rfl,bits_lo_u64 _ _ _,bits_hi_u64 _ _ _⟩,by first|exact HM.out|exact HM.out.drewN _|exact(HM.out.drewN _).drewN _|exact((HM.out.drewN _).drewN _).drewN _|exact(((HM.out.drewN _).drewN _).drewN _).drewN _⟩
          |false=>
           go_wp2_with fail
           go_quiet (fail)
           go_wp2_with fail
           go_step3
           refine HJ1 _ _ ?_;clear HJ0 HJ1;go_wp2_with fail
           go_quiet (fail)
           go_wp2_with fail
           go_step3
           go_wp2_with fail
           go_quiet (fail)
           go_wp2_with fail;rw[Exit.noGoto_ret]
           go_ret2
           exact⟨⟨_,_,rfl,bits_lo_u64 _ _ _,bits_hi_u64 _ _ _⟩,by first|exact HM.out|exact HM.out.drewN _|exact(HM.out.drewN _).drewN _|exact((HM.out.drewN _).drewN _).drewN _|exact(((HM.out.drewN _).drewN _).drewN _).drewN _⟩
         ·have hb3i:decide ((2047:Int)≤x+1+1023)=false:=decide_eq_false (by omega)
          cases ng with
          |true=>
           go_wp2_with fail
           go_quiet (fail)
           go_wp2_with fail
           go_step3
           refine HJ0 _ _ ?_;clear HJ0 HJ1;go_wp2_with fail
           go_quiet (fail)
           go_wp2_with fail
           go_quiet (fail)
           go_wp2_with fail;rw[Exit.noGoto_ret]
           go_ret2
           exact⟨⟨_,_,rfl,bits_lo_u64 _ _ _,bits_hi_u64 _ _ _⟩,by first|exact HM.out|exact HM.out.drewN _|exact(HM.out.drewN _).drewN _|exact((HM.out.drewN _).drewN _).drewN _|exact(((HM.out.drewN _).drewN _).drewN _).drewN _⟩
          |false=>
           go_wp2_with fail
           go_quiet (fail)
           go_wp2_with fail
           go_step3
           refine HJ0 _ _ ?_;clear HJ0 HJ1;go_wp2_with fail
           go_quiet (fail)
           go_wp2_with fail;rw[Exit.noGoto_ret]
           go_ret2
           exact⟨⟨_,_,rfl,bits_lo_u64 _ _ _,bits_hi_u64 _ _ _⟩,by first|exact HM.out|exact HM.out.drewN _|exact(HM.out.drewN _).drewN _|exact((HM.out.drewN _).drewN _).drewN _|exact(((HM.out.drewN _).drewN _).drewN _).drewN _⟩
        ·have hm2f:(m==9007199254740992)=false:=beq_eq_false_iff_ne.2 hm2
         clear hm2;obtain⟨z,hz⟩:∃z,bits BinOp.and IntKind.u64 m 4503599627370496=z:=⟨_,rfl⟩
         by_cases hz0:z=0
         ·have hzt:(z==0)=true:=by rw[hz0];rfl
          clear hz0;cases ng with
          |true=>
           go_wp2_with fail
           go_step3
           refine HJ0 _ _ ?_;clear HJ0 HJ1;go_wp2_with fail
           go_quiet (fail)
           go_wp2_with fail
           go_quiet (fail)
           go_wp2_with fail;rw[Exit.noGoto_ret]
           go_ret2
           exact⟨⟨_,_,rfl,bits_lo_u64 _ _ _,bits_hi_u64 _ _ _⟩,by first|exact HM.out|exact HM.out.drewN _|exact(HM.out.drewN _).drewN _|exact((HM.out.drewN _).drewN _).drewN _|exact(((HM.out.drewN _).drewN _).drewN _).drewN _⟩
          |false=>
           go_wp2_with fail
           go_step3
           refine HJ0 _ _ ?_;clear HJ0 HJ1;go_wp2_with fail
           go_quiet (fail)
           go_wp2_with fail;rw[Exit.noGoto_ret]
           go_ret2
           exact⟨⟨_,_,rfl,bits_lo_u64 _ _ _,bits_hi_u64 _ _ _⟩,by first|exact HM.out|exact HM.out.drewN _|exact(HM.out.drewN _).drewN _|exact((HM.out.drewN _).drewN _).drewN _|exact(((HM.out.drewN _).drewN _).drewN _).drewN _⟩
         ·have hzt:(z==0)=false:=beq_eq_false_iff_ne.2 hz0
          clear hz0;cases ng with
          |true=>
           go_wp2_with fail
           go_step3
           refine HJ0 _ _ ?_;clear HJ0 HJ1;go_wp2_with fail
           go_quiet (fail)
           go_wp2_with fail
           go_quiet (fail)
           go_wp2_with fail;rw[Exit.noGoto_ret]
           go_ret2
           exact⟨⟨_,_,rfl,bits_lo_u64 _ _ _,bits_hi_u64 _ _ _⟩,by first|exact HM.out|exact HM.out.drewN _|exact(HM.out.drewN _).drewN _|exact((HM.out.drewN _).drewN _).drewN _|exact(((HM.out.drewN _).drewN _).drewN _).drewN _⟩
          |false=>
           go_wp2_with fail
           go_step3
           refine HJ0 _ _ ?_;clear HJ0 HJ1;go_wp2_with fail
           go_quiet (fail)
           go_wp2_with fail;rw[Exit.noGoto_ret]
           go_ret2
           exact⟨⟨_,_,rfl,bits_lo_u64 _ _ _,bits_hi_u64 _ _ _⟩,by first|exact HM.out|exact HM.out.drewN _|exact(HM.out.drewN _).drewN _|exact((HM.out.drewN _).drewN _).drewN _|exact(((HM.out.drewN _).drewN _).drewN _).drewN _⟩
end Go.Proofs.YtmodehfedhgcbaaGreatDoor

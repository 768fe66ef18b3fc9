/- Lemmas. No condition. -/
import Derived.Test.YtmodehfedhgcbaaGreatDoorA1
import Derived.Deep.DeepCutAuto
import Derived.Laws.BitsAllLaws
import Derived.Deep.CutBlock
import Derived.WalkMore
set_option linter.unusedVariables false
set_option maxRecDepth 100000
set_option maxHeartbeats 4000000
namespace Go.Proofs.YtmodehfedhgcbaaGreatDoor
open Go.RowKit
open Lib (hid)
theorem dr3(w:World)(a b c:Nat):((w.drewN a).drewN b).drewN c=w.drewN (a+b+c):=by simp only[World.drewN_drewN]
def PreP(f:Nat→Nat)(nd:Nat)(S:Nat→Nat)(L:Nat)(w:World)(e:Ending)(w':World):Prop:=∃r:Bool,e=.returned (.bool r)∧(∃n,w'=w.drewN n)∧(r=true↔Dm.pz f nd L<Dm.num S L)
theorem prefix_any(B:Nat)(f:Nat→Nat)(nd:Nat)(dp:Int)(ng tr:Bool)(s:ByteArray)(S:Nat→Nat)(w:World)(h:Dz w B f nd dp ng tr)(hn:nd≤800)(hd:Dm.Dg f nd)
 (hS:∀i (h:i<s.size),s[i].toNat=S i) (hg:Dm.Dg S s.size) (hl:0<s.size→49≤S (s.size-1)) (hsz:s.size≤1000):
 Calls Tryz.prog 207 #[.slice (some ⟨B,0,none⟩) nd 800,.string s] w (PreP f nd S s.size w):=by
 have H:=hid h;have HD:=hid hd;have HS:=hid hS;have HG:=hid hg;have HL:=hid hl;clear h hd hS hg hl;obtain⟨P,hP⟩:∃P:Prop,(Dm.pz f nd s.size<Dm.num S s.size)=P:=⟨_,rfl⟩
 unfold PreP;rw[hP];have HP:=hid hP;clear hP;go_enter Tryz.func207,Tryz.ntmps207;go_wp2_with fail
 go_loopg [5] s.size (fun g s5 wx=>∃i:Nat,i+g=s.size∧s5=.int .i64 i∧Hid (∀j,j<i→j<nd∧f j=S j)∧∃n,wx=w.drewN n)
 case atStart=>exact⟨0,by omega,rfl,by intro j hj;omega,0,rfl⟩
 case round=>
  obtain⟨i,hig,rfl,HE,nw,rfl⟩:=hrel;by_cases hi:i<s.size
  ·obtain⟨g,rfl⟩:∃g,gk=g+1:=⟨gk-1,by omega⟩
   by_cases hin:i<nd
   ·have c1:=H.out.dig i (by omega)
    obtain⟨x,hx⟩:∃x:Nat,s[i].toNat=x:=⟨_,rfl⟩
    have hxS:=hid ((HS.out i hi).symm.trans hx);by_cases he:f i=x
    ·have hne:((f i:Int) != (x:Int))=false:=by simp[he]
     have HE2:Hid (∀j,j<i+1→j<nd∧f j=S j):=by
      intro j hj;rcases Nat.lt_or_ge j i with h1|h1
      ·exact HE.out j h1
      ·obtain rfl:j=i:=by omega
       exact⟨hin,he.trans hxS.out.symm⟩
     clear he;go_wp2_with fail
     go_quiet (fail)
     go_wp2_with fail
     go_roundg g
     case measure=>omega
     case rel=>exact⟨i+1,by omega,by go_num,HE2,_,rfl⟩
    ·have hne:((f i:Int) != (x:Int))=true:=by simp;omega
     by_cases hlt:f i<x
     ·have hlt2:decide ((f i:Int)<(x:Int))=true:=decide_eq_true (by omega)
      have HF:Hid P:=by show P;rw[←HP.out];exact Dm.pre_lt HD.out hi hin HE.out (by rw[hxS.out];exact hlt)
      have HLT:=hid hlt;clear hlt he;go_wp2_with fail
      go_quiet (fail)
      go_wp2_with fail
      go_quiet (fail)
      go_wp2_with fail;go_ret;exact⟨_,rfl,⟨_,dr3 _ _ _ _⟩,by simp[HF.out,HLT.out]⟩
     ·have hlt2:decide ((f i:Int)<(x:Int))=false:=decide_eq_false (by omega)
      have HF:Hid (¬P):=by show¬P;rw[←HP.out];exact Nat.not_lt.2 (Dm.pre_gt HG.out hi hin HE.out (by rw[hxS.out];omega))
      have HLT:=hid hlt;clear hlt he;go_wp2_with fail
      go_quiet (fail)
      go_wp2_with fail
      go_quiet (fail)
      go_wp2_with fail;go_ret;exact⟨_,rfl,⟨_,dr3 _ _ _ _⟩,by simp[HF.out,HLT.out]⟩
   ·have HF:Hid P:=by show P;rw[←HP.out];exact Dm.pre_end hi (by omega) HE.out (HL.out (by omega))
    go_wp2_with fail;go_ret;exact⟨_,rfl,⟨_,rfl⟩,by simp[HF.out]⟩
  ·have HF:Hid (¬P):=by show¬P;rw[←HP.out];exact Nat.not_lt.2 (Dm.pre_all fun j hj=>HE.out j (by omega))
   go_wp2_with fail;go_ret;exact⟨_,rfl,⟨_,rfl⟩,by simp[HF.out]⟩
def cheatRow(k:Nat):Nat×List UInt8:=Go.Pinned.cheatRows.getD k (0,[])
def cheatS(k:Nat):ByteArray:=⟨(cheatRow k).2.toArray⟩
def cheatD(k i:Nat):Nat:=((cheatRow k).2.getD i 0).toNat
def cheatL(k:Nat):Nat:=(cheatRow k).2.length
def cheatB(k:Nat):Bool:=
 decide (Dm.num (cheatD k) (cheatL k)=5^k)&&decide (10^cheatL k≤10*5^k)&&decide (5^k<10^cheatL k)&&decide (cheatL k≤k)&&decide ((cheatRow k).1=k-cheatL k+1)
 &&(List.range (cheatL k)).all (fun i=>decide (48≤cheatD k i)&&decide (cheatD k i≤57))&&decide (0<cheatL k)&&decide (49≤cheatD k (cheatL k-1))&&decide (k-cheatL k≤18)
theorem cheat_all:(List.range 60).all (fun k=>cheatB (k+1))=true:=by decide+kernel
structure CheatIs (k:Nat):Prop where
 num:Dm.num (cheatD k) (cheatL k)=5^k
 h1:10^cheatL k≤10*5^k
 h2:5^k<10^cheatL k
 le:cheatL k≤k
 new:(cheatRow k).1=k-cheatL k+1
 dg:Dm.Dg (cheatD k) (cheatL k)
 pos:0<cheatL k
 last:49≤cheatD k (cheatL k-1)
 few:k-cheatL k≤18
theorem cheat_is(k:Nat)(h1:1≤k)(h2:k≤60):CheatIs k:=by
 obtain⟨j,rfl⟩:∃j,k=j+1:=⟨k-1,by omega⟩
 have:=List.all_eq_true.1 cheat_all j (List.mem_range.2 (by omega));unfold cheatB at this;simp only[Bool.and_eq_true,decide_eq_true_eq,List.all_eq_true,List.mem_range]at this;obtain⟨⟨⟨⟨⟨⟨⟨⟨a,b⟩,c⟩,d⟩,e⟩,f⟩,g⟩,h⟩,i⟩:=this;exact⟨a,b,c,d,e,f,g,h,i⟩
theorem cheat_size(k:Nat):(cheatS k).size=cheatL k:=rfl
theorem cheat_byte(k:Nat):∀i (h:i<(cheatS k).size),(cheatS k)[i].toNat=cheatD k i:=by intro i h;have hl:i<(cheatRow k).2.length:=h;unfold cheatD;rw[List.getD_eq_getElem?_getD,List.getElem?_eq_getElem hl];rfl
def Cheat(w:World)(P off c:Nat):Prop:=w.cell? ⟨16,0,none⟩=some (.slice (some ⟨P,off,none⟩) 61 c)∧
 ∀k,k<61→w.cell? ⟨P,off+k*2,none⟩=some (.int .i64 ((cheatRow k).1:Int))∧w.cell? ⟨P,off+k*2+1,none⟩=some (.string (cheatS k))
theorem Cheat.moved{w w':World}{P off c B:Nat}(h:Cheat w P off c)(hm:Moved B w w')(h1:B≠16)(h2:B≠P):Cheat w' P off c:=⟨(hm.cell (Ne.symm h1)).trans h.1,fun k hk=>⟨(hm.cell (Ne.symm h2)).trans (h.2 k hk).1,(hm.cell (Ne.symm h2)).trans (h.2 k hk).2⟩⟩
theorem pre_call(B:Nat)(f:Nat→Nat)(nd:Nat)(dp:Int)(ng tr:Bool)(k:Nat)(w:World)(h:Dz w B f nd dp ng tr)(hn:nd≤800)(hd:Dm.Dg f nd)(h1:1≤k)(h2:k≤60)(r:Bool)(hr:decide (Dm.pz f nd (cheatL k)<5^k)=r):
 Calls Tryz.prog 207 #[.slice (some ⟨B,0,none⟩) nd 800,.string (cheatS k)] w fun e w'=>e=.returned (.bool r)∧∃n,w'=w.drewN n:=by
 have hc:=cheat_is k h1 h2;have hle:=hc.le;refine(prefix_any B f nd dp ng tr (cheatS k) (cheatD k) w h hn hd (cheat_byte k) hc.dg (fun _=>hc.last) (by rw[cheat_size];omega)).mono ?_;rintro e w'⟨r',rfl,hw,hr'⟩;refine⟨?_,hw⟩;rw[cheat_size,hc.num]at hr';have:r'=r:=by
  rw[←hr];cases r' with
  |true=>exact(decide_eq_true (hr'.1 rfl)).symm
  |false=>exact(decide_eq_false fun hh=>by have:=hr'.2 hh;cases this).symm
 rw[this]
def ShP(B:Nat)(d:Nat→Nat)(nd:Nat)(dp:Int)(ng:Bool)(w:World)(e:Ending)(w':World):Prop:=e=.returned (.tuple #[])∧∃g nd' dp' tr',Dz w' B g nd' dp' ng tr'∧49≤g 0∧Dm.Dg g nd'∧0<nd'∧nd'≤800∧dp≤dp'∧dp'≤dp+20∧(-400≤dp→3*Dm.U d nd dp≤2*Dm.U g nd' dp')∧Moved B w w'
def Lay(B:Nat)(d:Nat→Nat)(nd:Nat)(dp:Int)(ng:Bool)(j v m:Nat)(o:Nat→Nat)(w0 w:World):Prop:=∃g tr,Dz w B g nd dp ng tr∧(∀i,i<j→g i=d i)∧(∀i,v≤i→i<m→i<800→g i=o i+48)∧(∀i,v≤i→i<m→o i≤9)∧Moved B w0 w
theorem Lay.put{B nd:Nat}{d:Nat→Nat}{dp:Int}{ng:Bool}{j v m:Nat}{o:Nat→Nat}{w0 w:World}(h:Lay B d nd dp ng j (v+1) m o w0 w)(j' b:Nat)(hj:j'≤j)(hjv:j'≤v)(hv:v<800)(hb:b≤9)(z:Int)(hz:z=(b:Int)+48):
 Lay B d nd dp ng j' v m (Dm.put o v b) w0 (w.setCell ⟨B,v,none⟩ (.int .u8 z)):=by
 obtain⟨g,tr,h1,h2,h3,h4,h5⟩:=h;refine⟨_,tr,h1.setD v (b+48) z (by omega) hv,fun i hi=>?_,fun i hi hm h8=>?_,fun i hi hm=>?_,h5.trans (Moved.set _ _ _ _)⟩
 ·rw[Dm.put_other _ (by omega)];exact h2 i (by omega)
 ·by_cases e:i=v
  ·subst e;rw[Dm.put_same,Dm.put_same]
  ·rw[Dm.put_other _ e,Dm.put_other _ e];exact h3 i (by omega) hm h8
 ·by_cases e:i=v
  ·subst e;rw[Dm.put_same];exact hb
  ·rw[Dm.put_other _ e];exact h4 i (by omega) hm
theorem Lay.off{B nd:Nat}{d:Nat→Nat}{dp:Int}{ng:Bool}{j v m:Nat}{o:Nat→Nat}{w0 w:World}(h:Lay B d nd dp ng j (v+1) m o w0 w)(j' b:Nat)(hj:j'≤j)(hv:800≤v)(hb:b≤9):
 Lay B d nd dp ng j' v m (Dm.put o v b) w0 w:=by
 obtain⟨g,tr,h1,h2,h3,h4,h5⟩:=h;refine⟨g,tr,h1,fun i hi=>h2 i (by omega),fun i hi hm h8=>by omega,fun i hi hm=>?_,h5⟩;by_cases e:i=v
 ·subst e;rw[Dm.put_same];exact hb
 ·rw[Dm.put_other _ e];exact h4 i (by omega) hm
theorem Lay.trunc{B nd:Nat}{d:Nat→Nat}{dp:Int}{ng:Bool}{j v m:Nat}{o:Nat→Nat}{w0 w:World}(h:Lay B d nd dp ng j v m o w0 w)(z:Bool):Lay B d nd dp ng j v m o w0 (w.setCell ⟨B,803,none⟩ (.bool z)):=by obtain⟨g,tr,h1,h2,h3,h4,h5⟩:=h;exact⟨g,z,h1.setT z,h2,h3,h4,h5.trans (Moved.set _ _ _ _)⟩
theorem Lay.nine{B nd:Nat}{d:Nat→Nat}{dp:Int}{ng:Bool}{j v m:Nat}{o:Nat→Nat}{w0 w:World}(h:Lay B d nd dp ng j v m o w0 w):∀i,v≤i→i<m→o i≤9:=by obtain⟨g,tr,h1,h2,h3,h4,h5⟩:=h;exact h4
theorem Lay.nd_{B nd:Nat}{d:Nat→Nat}{dp:Int}{ng:Bool}{j v m:Nat}{o:Nat→Nat}{w0 w:World}(h:Lay B d nd dp ng j v m o w0 w):w.cell? ⟨B,800,none⟩=some (.int .i64 (nd:Int)):=by obtain⟨g,tr,h1,_⟩:=h;exact h1.nd_
theorem Lay.dp_{B nd:Nat}{d:Nat→Nat}{dp:Int}{ng:Bool}{j v m:Nat}{o:Nat→Nat}{w0 w:World}(h:Lay B d nd dp ng j v m o w0 w):w.cell? ⟨B,801,none⟩=some (.int .i64 dp):=by obtain⟨g,tr,h1,_⟩:=h;exact h1.dp_
theorem Lay.read{B nd:Nat}{d:Nat→Nat}{dp:Int}{ng:Bool}{j v m:Nat}{o:Nat→Nat}{w0 w:World}(h:Lay B d nd dp ng j v m o w0 w)(i:Nat)(hi:i<j)(h8:i<800):w.cell? ⟨B,i,none⟩=some (.int .u8 (d i:Int)):=by obtain⟨g,tr,h1,h2,_⟩:=h;rw[h1.dig i h8,h2 i hi]
theorem Lay.any_{B nd:Nat}{d:Nat→Nat}{dp:Int}{ng:Bool}{j v m:Nat}{o:Nat→Nat}{w0 w:World}(h:Lay B d nd dp ng j v m o w0 w)(i:Nat)(h8:i<800):∃x:Nat,w.cell? ⟨B,i,none⟩=some (.int .u8 (x:Int)):=by obtain⟨g,tr,h1,h2,_⟩:=h;exact⟨_,h1.dig i h8⟩
theorem Lay.tr_{B nd:Nat}{d:Nat→Nat}{dp:Int}{ng:Bool}{j v m:Nat}{o:Nat→Nat}{w0 w:World}(h:Lay B d nd dp ng j v m o w0 w):∃b:Bool,w.cell? ⟨B,803,none⟩=some (.bool b):=by obtain⟨g,tr,h1,h2,_⟩:=h;exact⟨_,h1.tr_⟩
theorem Lay.frozen{B nd:Nat}{d:Nat→Nat}{dp:Int}{ng:Bool}{j v m:Nat}{o:Nat→Nat}{w0 w:World}(h:Lay B d nd dp ng j v m o w0 w)(i:Nat):w.frozen? ⟨B,i,none⟩=false:=by obtain⟨g,tr,h1,_⟩:=h;exact h1.frozen i
theorem pow2_le{k:Nat}(h:k≤60):2^k≤1152921504606846976:=Nat.le_trans (Nat.pow_le_pow_right (by decide) h) (by decide)
theorem left_all{D:Nat}{o:Nat→Nat}{nd z m:Nat}(h:Dm.Lx D o nd z m 0)(hg:10^m≤10*D)(ho:∀i,z≤i→i<m→o i≤9)(hz:z≤m):z=0:=by
 rcases Nat.eq_zero_or_pos z with h0|h0
 ·exact h0
 ·exfalso
  unfold Dm.Lx at h;have h1:=Dm.suf_lt (o:=o) (w:=z) (m-z) fun i a b=>ho i a (by omega);have h2:10^(m-z+1)≤10^m:=Nat.pow_le_pow_right (by decide) (by omega);rw[Nat.pow_succ]at h2;omega
theorem left_end{B nd k delta n':Nat}{d g o:Nat→Nat}{dp:Int}{ng tr:Bool}{w W W':World}{e:Ending}(hn0:0<nd)(hn:nd≤800)(hk:1≤k)(hde:delta≤19)(hn':min (nd+delta) 800=n')
 (hx:Dm.Lx (2^k*Dm.num d nd) o nd 0 (nd+delta) 0) (hg:10^(nd+delta)≤10*(2^k*Dm.num d nd)) (ho:∀i,i<nd+delta→o i≤9) (hgo:∀i,i<nd+delta→i<800→g i=o i+48) (hW:Moved B w W) (h:TrimP B g n' (dp+delta) ng tr W e W'):ShP B d nd dp ng w e W':=by
 have hv:2^k*Dm.num d nd=Dm.suf o 0 (nd+delta):=by unfold Dm.Lx at hx;rw[hx];simp
 have h8:=Dm.cap8_is;have hnc:n'=min (nd+delta) Dm.cap8:=by rw[h8];exact hn'.symm
 have hgn:∀i,i<n'→g i=o i+48:=fun i hi=>hgo i (by omega) (by omega);have hU:=fun hp: -400≤dp=>Dm.U_left (d:=d) (g:=g) (nd:=nd) (dp:=dp) ho hv hk hg hnc hgn (by have:=Dm.top_is;omega);obtain⟨f1,f2⟩:=Dm.left_first (v:=2^k*Dm.num d nd) ho hv (by omega) hg hnc hgn;obtain⟨rfl,hd,hm⟩:=h;have hp1:=Dm.trim_pos (d:=g) f1 n' (by omega);have hp2:=Dm.trim_le g n';rw[if_neg (by omega)]at hd;refine⟨rfl,g,_,_,_,hd,f1,fun i hi=>f2 i (by omega),hp1,by omega,by omega,by omega,fun hp=>?_,hW.trans hm⟩;rw[Dm.U_trim _ _ _ (by have:=Dm.top_is;omega)];exact hU hp
theorem left_walk(B P off c k:Nat)(d:Nat→Nat)(nd delta m:Nat)(dp:Int)(ng tr:Bool)(w:World)(hT:Cheat w P off c)(hB15:B≠16)(hBP:B≠P)(h:Dz w B d nd dp ng tr)(hd:Dm.Dg d nd)(hn0:0<nd)(hn:nd≤800)
 (hp: -10000000≤dp) (hp2:dp≤10000000) (h1:1≤k) (h2:k≤60) (r:Bool) (hr:decide (Dm.pz d nd (cheatL k)<5^k)=r) (hde:delta=(if r=true then(cheatRow k).1-1 else(cheatRow k).1)) (hr1:r=true→1≤(cheatRow k).1) (hde2:delta≤19) (hm:m=nd+delta)
 (hlt:2^k*Dm.num d nd<10^m) (hge:10^m≤10*(2^k*Dm.num d nd)):Calls Tryz.prog 200 #[.pointer (some ⟨B,0,none⟩),.int .u64 (k:Int)] w (ShP B d nd dp ng w):=by
 have H:=hid h;have HD:=hid hd;have HPC:=hid (fun n=>(pre_call B d nd dp ng tr k (w.drewN n) h hn hd h1 h2 r hr));have HLT:=hid hlt;have HGE:=hid hge;have ct0:=hT.1;obtain⟨ct1,ct2⟩:=hT.2 k (by omega);have c800:=h.nd_;obtain⟨q,hq⟩:∃q,(cheatRow k).1=q:=⟨_,rfl⟩
 rw[hq]at ct1 hde hr1;clear hT h hd hr hlt hge hq;have b15:(16==B)=false:=by simp;omega
 have bP:(P==B)=false:=by simp;omega
 go_enter Tryz.func200,Tryz.ntmps200;have s1:(0:Int)≤(nd:Int):=by omega
 have s2:(nd:Int)≤800:=by omega
 have s3:((nd:Int)).toNat=nd:=by omega
 go_upto_region 1 with fail
 go_quiet ((go_at_call 207;exact Calls.quiet_of (HPC.out _)))
 go_upto_if 30 with fail
 go_cut [4] (fun s4 wx=>s4=.int .i64 (delta:Int)∧∃n,wx=w.drewN n)
 case first=>
  cases r with
  |true=>
   have hq1:=hr1 rfl;have hdd:(q:Int)-1=(delta:Int):=by rw[if_pos rfl]at hde;omega
   clear hde hr1;go_wp2_with fail
   go_meet
   exact⟨by go_num,_,rfl⟩
  |false=>
   have hdd:q=delta:=by rw[if_neg (by decide)]at hde;exact hde.symm
   subst hdd;clear hde hr1;go_wp2_with fail
   go_meet
   exact⟨rfl,_,rfl⟩
 case rest=>
  obtain⟨rfl,n0,rfl⟩:=hcut;clear hde hr1 ct0 ct1 ct2 HPC;have HL0:Hid (Lay B d nd dp ng nd m m (fun _=>0) w (w.drewN n0)):=⟨d,tr,H.out.drewN _,fun i _=>rfl,fun i h1 h2=>by omega,fun i h1 h2=>by omega,(Moved.refl _ _).drewN _⟩
  have HF0:Hid (Dm.Lf d (fun _=>0) nd k nd m m 0):=by show Dm.Lf d (fun _=>0) nd k nd m m 0;unfold Dm.Lf;simp[Dm.suf]
  have hk2:=pow2_le h2;obtain⟨p2,hp2'⟩:∃p2,2^k=p2:=⟨_,rfl⟩
  have HP2:=hid hp2';rw[hp2']at hk2;have hp2i:((2:Int)^k)=(p2:Int):=by rw[←hp2'];exact(Int.natCast_pow 2 k).symm
  clear hp2' c800;have c800:(w.drewN n0).cell? ⟨B,800,none⟩=some (.int .i64 (nd:Int)):=(H.out.drewN n0).nd_;obtain⟨w1,hw1⟩:∃w1,w.drewN n0=w1:=⟨_,rfl⟩
  rw[hw1]at HL0 c800;rw[hw1];clear hw1 s3;go_wp2_with fail
  go_loopg [5,6,7] nd (fun g s5 s6 s7 wx=>∃(j v n:Nat) (r:Int) (o:Nat→Nat),j=g∧j≤nd∧v=j+delta∧r=(j:Int)-1∧s5=.int .i64 r∧s6=.int .i64 v∧s7=.int .u64 n∧n≤p2∧Hid (Lay B d nd dp ng j v m o w wx)∧Hid (Dm.Lf d o nd k j v m n))
  case atStart=>exact⟨nd,m,0,_,_,rfl,Nat.le_refl _,hm,rfl,by go_num,by rw[hm];go_num,rfl,by omega,HL0,HF0⟩
  case round=>
   obtain⟨j,v,n,r,o,hjg,hj,hv,hr,rfl,rfl,rfl,hnp,HLY,HLF⟩:=hrel;by_cases hj0:j=0
   ·subst hj0
    obtain rfl:r= -1:=by omega
    have e0:m-nd=delta:=by omega
    have ev:v=delta:=by omega
    subst ev;have HCA:Hid (n<10^v):=by have:=Dm.carry_is (n:=n) (by rw[e0];exact HLF.out) (by omega) (by rw[e0];exact HLY.out.nine) HLT.out;rw[e0]at this;exact this
    have HLX:Hid (Dm.Lx (2^k*Dm.num d nd) o nd v m n):=by have:=Dm.lf_lx (n:=n) (o:=o) (by rw[e0];exact HLF.out) (by omega);rw[e0]at this;exact this
    clear hjg hr hv e0;have HM:=hid hm;clear hm;have hn64:n≤1152921504606846976:=Nat.le_trans hnp hk2;have hvm:v≤m:=by have:=HM.out;omega
    go_wp2_with fail
    go_loopg [6,7] v (fun g s6 s7 wx=>∃(z n:Nat) (o:Nat→Nat),z=g∧z≤v∧s6=.int .i64 z∧s7=.int .u64 n∧n≤1152921504606846976∧Hid (n<10^z)∧Hid (Lay B d nd dp ng 0 z m o w wx)∧Hid (Dm.Lx (2^k*Dm.num d nd) o nd z m n))
    case atStart=>exact⟨v,n,o,rfl,Nat.le_refl _,rfl,rfl,hn64,HCA,HLY,HLX⟩
    case round=>
     clear HCA HLY HLX;obtain⟨z,n,o,hzg,hz,rfl,rfl,hn64,HCA,HLY,HLX⟩:=hrel;by_cases hn00:n=0
     ·subst hn00
      have hz0:z=0:=left_all HLX.out HGE.out HLY.out.nine (by omega);subst hz0;obtain⟨g,tr',g1,g2,g3,g4,g5⟩:=HLY.out;have G1:=hid g1;have G5:=hid g5;have e6:(nd:Int)+(v:Int)=(m:Int):=by rw[HM.out];omega
      obtain⟨n',hn'⟩:∃n',min m 800=n':=⟨_,rfl⟩
      have HN:=hid hn';have HTR:=hid (fun W (hW:Dz W B g n' (dp+v) ng tr')=>trim_any B g n' (dp+v) ng tr' W hW (by omega));have HEND:=hid (fun W W' (e:Ending) (hW:Moved B w W) (h:TrimP B g n' (dp+v) ng tr' W e W')=>left_end (o:=o) hn0 hn h1 hde2 (by rw[←HM.out];exact hn') (by rw[←HM.out];exact HLX.out) (by rw[←HM.out];exact HGE.out) (by rw[←HM.out];exact fun i hi=>g4 i (Nat.zero_le _) hi) (by rw[←HM.out];exact fun i hi h8=>g3 i (Nat.zero_le _) hi h8) hW h);have f1:=g1.frozen 800;have f2:=g1.frozen 801;have c1:=g1.nd_;have c2:=g1.dp_;clear g1 g2 g3 g4 g5 HCA HLY HLX hn' hzg;by_cases hm8:m<800
      ·have hm9:(m:Int)<800:=by omega
       have en:n'=m:=by have:=HN.out;omega
       subst en;go_wp2_with fail;refine(HTR.out _ ((G1.out.setN n' _ rfl).setP _)).mono ?_;rintro e w9⟨rfl,ht⟩;have HT9:=hid (HEND.out _ _ _ ((G5.out.trans (Moved.set _ _ _ _)).trans (Moved.set _ _ _ _)) ⟨rfl,ht⟩);clear ht;go_wp2_with fail
       go_end0
       exact HT9.out
      ·have hm9:(800:Int)≤(m:Int):=by omega
       have en:n'=800:=by have:=HN.out;omega
       subst en;go_wp2_with fail;refine(HTR.out _ (((G1.out.setN m _ rfl).setN 800 800 rfl).setP _)).mono ?_;rintro e w9⟨rfl,ht⟩;have HT9:=hid (HEND.out _ _ _ (((G5.out.trans (Moved.set _ _ _ _)).trans (Moved.set _ _ _ _)).trans (Moved.set _ _ _ _)) ⟨rfl,ht⟩);clear ht;go_wp2_with fail
       go_end0
       exact HT9.out
     ·have hn1:(0:Int)<(n:Int):=by omega
      obtain⟨u,rfl⟩:∃u,z=u+1:=⟨z-1,by
       rcases Nat.eq_zero_or_pos z with h0|h0
       ·have:=HCA.out;rw[h0]at this;omega
       ·omega⟩
      have hug:u<gk:=by omega
      have hum:u+1≤m:=by omega
      clear hzg;have HST:=hid (Dm.out_step HLX.out hum);obtain⟨a,ha⟩:∃a,n/10=a:=⟨_,rfl⟩
      obtain⟨b,hb⟩:∃b,n% 10=b:=⟨_,rfl⟩
      rw[ha,hb]at HST;have HC2:Hid (a<10^u):=by have:=HCA.out;rw[Nat.pow_succ]at this;show a<10^u;omega
      have e4:(n:Int)/10=(a:Int):=by omega
      have e5:(n:Int)-10*(a:Int)=(b:Int):=by omega
      have hb9:b≤9:=by omega
      have ha9:a≤1152921504606846976:=by omega
      have ev:((u+1:Nat):Int)-1=(u:Int):=by omega
      clear ha hb hn00;by_cases h8:u<800
      ·have HL2:=hid (HLY.out.put 0 b (by omega) (by omega) h8 hb9 ((b:Int)+48) rfl)
       have fu:=HLY.out.frozen u;obtain⟨xx,cu⟩:=HLY.out.any_ u h8;have hu8:(u:Int)<800:=by omega
       go_wp2_with fail
       go_roundg u
       case measure=>omega
       case rel=>exact⟨u,a,Dm.put o u b,rfl,by omega,by go_num,by go_num,ha9,HC2,HL2,HST⟩
      ·omega
   ·obtain⟨q,rfl⟩:∃q,j=q+1:=⟨j-1,by omega⟩
    obtain rfl:r=(q:Int):=by omega
    obtain⟨u,rfl⟩:∃u,v=u+1:=⟨v-1,by omega⟩
    have hu:=hid (show u=q+delta by omega);have hmq:q<gk:=by omega
    have hum:u+1≤m:=by omega
    clear hjg hr hv;have cq:=HLY.out.read q (by omega) (by omega);obtain⟨dl,dh⟩:=HD.out q (by omega);obtain⟨y,hy⟩:∃y,Dm.dig d q=y:=⟨_,rfl⟩
    have hy2:y=d q-48:=hy.symm;obtain⟨x,hx⟩:∃x,y*p2=x:=⟨_,rfl⟩
    have hxb:x≤9*p2:=by rw[←hx];exact Nat.mul_le_mul_right _ (by omega)
    have HST:=hid (Dm.left_step HLF.out (by omega) hum (by have:=hu.out;omega));rw[hy,HP2.out,hx]at HST;have e1:(d q:Int)-48=(y:Int):=by omega
    have e2:(y:Int)*(2:Int)^k=(x:Int):=by rw[hp2i,←hx];exact(Int.natCast_mul y p2).symm
    obtain⟨t,ht⟩:∃t,n+x=t:=⟨_,rfl⟩
    obtain⟨a,ha⟩:∃a,t/10=a:=⟨_,rfl⟩
    obtain⟨b,hb⟩:∃b,t% 10=b:=⟨_,rfl⟩
    rw[ht,ha,hb]at HST;have e3:(n:Int)+(x:Int)=(t:Int):=by omega
    have e4:(t:Int)/10=(a:Int):=by omega
    have e5:(t:Int)-10*(a:Int)=(b:Int):=by omega
    have hb9:b≤9:=by omega
    have ha9:a≤p2:=by omega
    have htm:t≤10*p2:=by omega
    have ev:((u+1:Nat):Int)-1=(u:Int):=by omega
    clear hy hy2 hx ht ha hb hp2i;by_cases h8:u<800
    ·have HL2:=hid (HLY.out.put q b (by omega) (by have:=hu.out;omega) h8 hb9 ((b:Int)+48) rfl)
     have fu:=HLY.out.frozen u;obtain⟨xx,cu⟩:=HLY.out.any_ u h8;have hu8:(u:Int)<800:=by omega
     go_wp2_with fail
     go_roundg q
     case measure=>omega
     case rel=>exact⟨q,u,a,(q:Int)-1,Dm.put o u b,rfl,by omega,hu.out,rfl,by go_num,by go_num,by go_num,by omega,HL2,HST⟩
    ·have HL2:=hid (HLY.out.off q b (by omega) (by omega) hb9)
     have hu8:decide ((u:Int)<800)=false:=decide_eq_false (by omega);obtain⟨xx,cu⟩:=HLY.out.tr_;have fu:=HLY.out.frozen 803;by_cases hb0:b=0
     ·have hb1:((b:Int) != 0)=false:=by rw[hb0];rfl
      clear hb0;go_wp2_with fail
      go_roundg q
      case measure=>omega
      case rel=>exact⟨q,u,a,(q:Int)-1,Dm.put o u b,rfl,by omega,hu.out,rfl,by go_num,by go_num,by go_num,by omega,HL2,HST⟩
     ·have hb1:((b:Int) != 0)=true:=by simp;omega
      have HL3:=hid (HL2.out.trunc true);clear hb0;go_wp2_with fail
      go_roundg q
      case measure=>omega
      case rel=>exact⟨q,u,a,(q:Int)-1,Dm.put o u b,rfl,by omega,hu.out,rfl,by go_num,by go_num,by go_num,by omega,HL3,HST⟩
theorem left_any(B P off c k:Nat)(d:Nat→Nat)(nd:Nat)(dp:Int)(ng tr:Bool)(w:World)(hT:Cheat w P off c)(hB15:B≠16)(hBP:B≠P)(h:Dz w B d nd dp ng tr)(hd:Dm.Dg d nd)(h49:49≤d 0)(hn0:0<nd)(hn:nd≤800)
 (hp: -10000000≤dp) (hp2:dp≤10000000) (h1:1≤k) (h2:k≤60):Calls Tryz.prog 200 #[.pointer (some ⟨B,0,none⟩),.int .u64 (k:Int)] w (ShP B d nd dp ng w):=by
 have hc:=cheat_is k h1 h2;have a1:=hc.new;have a2:=hc.few;by_cases hlt:Dm.pz d nd (cheatL k)<5^k
 ·have:=Dm.left_less hd h49 hn0 rfl hc.h1 hc.h2 hc.le hlt
  exact left_walk B P off c k d nd (k-cheatL k) (nd+(k-cheatL k)) dp ng tr w hT hB15 hBP h hd hn0 hn hp hp2 h1 h2 true (decide_eq_true hlt) (by rw[if_pos rfl];omega) (fun _=>by omega) (by omega) rfl this.1 this.2
 ·have:=Dm.left_not hd hn0 rfl hc.h1 hc.le (Nat.not_lt.1 hlt)
  exact left_walk B P off c k d nd (k-cheatL k+1) (nd+(k-cheatL k+1)) dp ng tr w hT hB15 hBP h hd hn0 hn hp hp2 h1 h2 false (decide_eq_false hlt) (by rw[if_neg (by decide)];omega) (fun h=>by cases h) (by omega) rfl this.1 this.2
def ShR(B:Nat)(d:Nat→Nat)(nd:Nat)(dp:Int)(ng:Bool)(k:Nat)(w:World)(e:Ending)(w':World):Prop:=e=.returned (.tuple #[])∧∃g nd' dp' tr',Dz w' B g nd' dp' ng tr'∧49≤g 0∧Dm.Dg g nd'∧0<nd'∧nd'≤800∧dp-20≤dp'∧dp'≤dp∧(-370≤dp→2^k*Dm.U g nd' dp'≤Dm.U d nd dp)∧Moved B w w'
def RL(B:Nat)(d:Nat→Nat)(nd:Nat)(dp:Int)(ng:Bool)(q:Nat)(g:Nat→Nat)(w0 w:World):Prop:=∃tr,Dz w B g nd dp ng tr∧(∀i,q≤i→g i=d i)∧Dm.Dg g q∧(0<q→49≤g 0)∧Moved B w0 w
section
variable {B nd q:Nat} {d g:Nat→Nat} {dp:Int} {ng:Bool} {w0 w:World}
theorem RL.nd_(h:RL B d nd dp ng q g w0 w):w.cell? ⟨B,800,none⟩=some (.int .i64 (nd:Int)):=by obtain⟨tr,h1,_⟩:=h;exact h1.nd_
theorem RL.frozen(h:RL B d nd dp ng q g w0 w)(i:Nat):w.frozen? ⟨B,i,none⟩=false:=by obtain⟨tr,h1,_⟩:=h;exact h1.frozen i
theorem RL.any_(h:RL B d nd dp ng q g w0 w)(i:Nat)(hi:i<800):∃x:Nat,w.cell? ⟨B,i,none⟩=some (.int .u8 (x:Int)):=by obtain⟨tr,h1,_⟩:=h;exact⟨_,h1.dig i hi⟩
theorem RL.tr_(h:RL B d nd dp ng q g w0 w):∃b:Bool,w.cell? ⟨B,803,none⟩=some (.bool b):=by obtain⟨tr,h1,_⟩:=h;exact⟨_,h1.tr_⟩
theorem RL.read(h:RL B d nd dp ng q g w0 w)(i:Nat)(hi:q≤i)(h8:i<800):w.cell? ⟨B,i,none⟩=some (.int .u8 (d i:Int)):=by obtain⟨tr,h1,h2,_⟩:=h;rw[h1.dig i h8,h2 i hi]
theorem RL.put(h:RL B d nd dp ng q g w0 w)(b:Nat)(hb:b≤9)(h1:q=0→1≤b)(hq:q<800)(z:Int)(hz:z=(b:Int)+48):RL B d nd dp ng (q+1) (Dm.put g q (b+48)) w0 (w.setCell ⟨B,q,none⟩ (.int .u8 z)):=by
 obtain⟨tr,a1,a2,a3,a4,a5⟩:=h;refine⟨tr,a1.setD q (b+48) z (by omega) hq,fun i hi=>?_,fun i hi=>?_,fun _=>?_,a5.trans (Moved.set _ _ _ _)⟩
 ·rw[Dm.put_other _ (by omega)];exact a2 i (by omega)
 ·by_cases e:i=q
  ·subst e;rw[Dm.put_same];omega
  ·rw[Dm.put_other _ e];exact a3 i (by omega)
 ·by_cases e:0=q
  ·subst e;rw[Dm.put_same];have:=h1 rfl;omega
  ·rw[Dm.put_other _ e];exact a4 (by omega)
theorem RL.trunc(h:RL B d nd dp ng q g w0 w)(z:Bool):RL B d nd dp ng q g w0 (w.setCell ⟨B,803,none⟩ (.bool z)):=by obtain⟨tr,a1,a2,a3,a4,a5⟩:=h;exact⟨z,a1.setT z,a2,a3,a4,a5.trans (Moved.set _ _ _ _)⟩
theorem num_put(g:Nat→Nat)(q x:Nat):Dm.num (Dm.put g q x) (q+1)=Dm.num g q*10+(x-48):=by have e:Dm.num (Dm.put g q x) (q+1)=Dm.num (Dm.put g q x) q*10+(Dm.put g q x q-48):=rfl;rw[e,Dm.put_same,Dm.num_congr (e:=g) q fun i hi=>Dm.put_other _ (by omega)]
end
theorem mask_is{k p2 n:Nat}(h:2^k=p2)(hp:p2≤1152921504606846976)(hn:n<18446744073709551616):bits BinOp.and IntKind.u64 (n:Int) ((p2:Int)-1)=((n% p2:Nat):Int):=by
 have h0:0<p2:=by rw[←h];exact Nat.pow_pos (by decide)
 have e:((p2:Int)-1)=((p2-1:Nat):Int):=by omega
 rw[e,bits_and_u64_nat n (p2-1) hn (by omega),←h,Nat.and_two_pow_sub_one_eq_mod]
theorem shr_some{n p2:Nat}(h0:0<p2)(h:¬n<p2):((n:Int)/(p2:Int)==0)=false:=by refine beq_eq_false_iff_ne.2 fun e=>?_;have e2:((n/p2:Nat):Int)=0:=e;have:=Nat.div_pos (Nat.not_lt.1 h) h0;omega
theorem pz_ten{d:Nat→Nat}{nd r:Nat}(h49:49≤d 0)(hn:0<nd)(h:Dm.pz d nd r<11529215046068469760):r≤20:=by
 rcases Nat.lt_or_ge r 21 with h1|h1
 ·omega
 ·exfalso
  obtain⟨j,rfl⟩:∃j,r=j+1:=⟨r-1,by omega⟩
  have h2:=Dm.pz_ge (r:=j) h49 hn;have h3:10^20≤10^j:=Nat.pow_le_pow_right (by decide) (by omega);have h4:(10:Nat)^20=100000000000000000000:=by decide
  omega
theorem right_end{B nd k p2 r0 q:Nat}{d g:Nat→Nat}{dp dp':Int}{ng tr:Bool}{w W W':World}{e:Ending}(hn0:0<nd)(hn:nd≤800)(hr1:1≤r0)(hr20:r0≤20)(hdp:dp-((r0:Int)-1)=dp')(hk:2^k=p2)
 (hq1:0<q) (hq8:q≤800) (h49:49≤g 0) (hg:Dm.Dg g q) (hnr:nd≤r0+q) (hle:10*p2*Dm.num g q≤Dm.pz d nd (r0+q)) (hW:Moved B w W) (h:TrimP B g q dp' ng tr W e W'):ShR B d nd dp ng k w e W':=by
 obtain⟨rfl,hd,hm⟩:=h;have hp1:=Dm.trim_pos (d:=g) h49 q hq1;have hp2:=Dm.trim_le g q;rw[if_neg (by omega)]at hd;refine⟨rfl,g,_,_,_,hd,h49,fun i hi=>hg i (by omega),hp1,by omega,by omega,by omega,fun hp=>?_,hW.trans hm⟩;have ht:=Dm.top_is;rw[Dm.U_trim _ _ _ (by omega),hk];have:=Dm.U_right hnr hr1 hle (dp:=dp) (by omega) (by omega);rw[show dp-(r0:Int)+1=dp' by omega]at this;exact this
theorem right_walk(B k p2:Nat)(d:Nat→Nat)(nd:Nat)(dp:Int)(ng tr:Bool)(w:World)(h:Dz w B d nd dp ng tr)(hd:Dm.Dg d nd)(h49:49≤d 0)(hn0:0<nd)(hn:nd≤800)
 (hp: -10000000≤dp) (hp2:dp≤10000000) (h1:1≤k) (h2:k≤60) (hk:2^k=p2):Calls Tryz.prog 201 #[.pointer (some ⟨B,0,none⟩),.int .u64 (k:Int)] w (ShR B d nd dp ng k w):=by
 have H:=hid h;have HD:=hid hd;have H49:=hid h49;have c800:=h.nd_;have hk2:=pow2_le h2;have hk1:2≤p2:=by rw[←hk];exact Nat.le_trans (by decide) (Nat.pow_le_pow_right (by decide) h1)
 have HK:=hid hk;have hp2i:((2:Int)^k)=(p2:Int):=by rw[←hk];exact(Int.natCast_pow 2 k).symm
 rw[hk]at hk2;clear h hd h49 hk;go_enter Tryz.func201,Tryz.ntmps201;go_upto_block 0 with fail
 go_cut [4,6] (fun s4 s6 wx=>∃r n:Nat,s4=.int .i64 r∧s6=.int .u64 n∧1≤r∧r≤20∧p2≤n∧n<10*p2∧Hid (n=Dm.pz d nd r)∧w=wx)
 case first=>
  go_wp2_with fail
  go_loopg [4,6] nd (fun g s4 s6 wx=>∃r n:Nat,r+g=nd∧s4=.int .i64 r∧s6=.int .u64 n∧n<10*p2∧Hid (n=Dm.num d r)∧w=wx)
  case atStart=>exact⟨0,0,by omega,rfl,rfl,by omega,rfl,rfl⟩
  case round=>
   obtain⟨r,n,hrg,rfl,rfl,hnb,HN,rfl⟩:=hrel;by_cases hlt:n<p2
   ·have t0:((n:Int)/(p2:Int)==0)=true:=by rw[Int.ediv_eq_zero_of_lt (by omega) (by omega)];rfl
    by_cases hrn:r<nd
    ·obtain⟨g,rfl⟩:∃g,gk=g+1:=⟨gk-1,by omega⟩
     have cr:=H.out.dig r (by omega);obtain⟨dl,dh⟩:=HD.out r hrn;obtain⟨m,hm⟩:∃m,n*10+(d r-48)=m:=⟨_,rfl⟩
     have HM:Hid (m=Dm.num d (r+1)):=by show m=_;rw[←hm,HN.out];rfl
     have e1:(n:Int)*10+(d r:Int)-48=(m:Int):=by omega
     have hmb:m<10*p2:=by omega
     clear hm;go_wp2_with fail
     go_roundg g
     case measure=>omega
     case rel=>exact⟨r+1,m,by omega,by go_num,by go_num,hmb,HM,rfl⟩
    ·obtain rfl:r=nd:=by omega
     have hn1:1≤n:=by
      rw[HN.out];obtain⟨j,hj⟩:∃j,r=j+1:=⟨r-1,by omega⟩
      rw[hj];have:=Dm.num_ge H49.out j;have h10:1≤10^j:=Nat.pow_pos (by decide);omega
     have t1:((n:Int)==0)=false:=beq_eq_false_iff_ne.2 (by omega);have HP:Hid (n=Dm.pz d r r):=by show n=_;rw[HN.out,Dm.pz_in (Nat.le_refl _)]
     clear HN;go_wp2_with fail
     go_loopg [4,6] (10*p2-n) (fun g s4 s6 wx=>∃q m:Nat,m+g=10*p2∧s4=.int .i64 q∧s6=.int .u64 m∧1≤m∧m<10*p2∧1≤q∧r≤q∧Hid (m=Dm.pz d r q)∧w=wx)
     case atStart=>exact⟨r,n,by omega,rfl,rfl,hn1,hnb,by omega,Nat.le_refl _,HP,rfl⟩
     case round=>
      clear HP;obtain⟨q,m,hmg,rfl,rfl,hm1,hmb,hq,hrq,HP,rfl⟩:=hrel;have hq20:q≤20:=pz_ten H49.out hn0 (by rw[←HP.out];omega);by_cases hlt2:m<p2
      ·have t2:((m:Int)/(p2:Int)==0)=true:=by rw[Int.ediv_eq_zero_of_lt (by omega) (by omega)];rfl
       have HP2:Hid (m*10=Dm.pz d r (q+1)):=by show m*10=_;have e:=Dm.pz_succ d r q;rw[show Dm.ext d r q=48 from if_neg (by omega),←HP.out]at e;omega
       go_wp2_with fail
       go_roundg (10*p2-m*10)
       case measure=>omega
       case rel=>exact⟨q+1,m*10,by omega,by go_num,by go_num,by omega,by omega,by omega,by omega,HP2,rfl⟩
      ·have t2:((m:Int)/(p2:Int)==0)=false:=shr_some (by omega) hlt2
       go_wp2_with fail
       go_meet
       exact⟨q,m,rfl,rfl,hq,hq20,by omega,hmb,HP,rfl⟩
   ·have t0:((n:Int)/(p2:Int)==0)=false:=shr_some (by omega) hlt
    have hr1:1≤r:=by
     rcases Nat.eq_zero_or_pos r with h0|h0
     ·have:=HN.out
      rw[h0]at this;have e:Dm.num d 0=0:=rfl;omega
     ·exact h0
    have HP:Hid (n=Dm.pz d nd r):=by show n=_;rw[HN.out,Dm.pz_in (by omega)]
    have hq20:r≤20:=pz_ten H49.out hn0 (by rw[←HP.out];omega);go_wp2_with fail
    go_meet
    exact⟨r,n,rfl,rfl,hr1,hq20,by omega,hnb,HP,rfl⟩
 case rest=>
  obtain⟨r0,n0,rfl,rfl,hr1,hr20,hn1,hnb,HN,rfl⟩:=hcut;have c801:=H.out.dp_;have f801:=H.out.frozen 801;obtain⟨dp',hdp⟩:∃dp',dp-((r0:Int)-1)=dp':=⟨_,rfl⟩
  have HDP:=hid hdp;have HL0:Hid (RL B d nd dp' ng 0 d w (w.setCell ⟨B,801,none⟩ (.int .i64 dp'))):=⟨tr,H.out.setP _,fun i _=>rfl,fun i hi=>by omega,fun h=>by omega,Moved.set _ _ _ _⟩
  have HE0:Hid (Dm.pz d nd (r0+0)=10*p2*Dm.num d 0+n0):=by show Dm.pz d nd (r0+0)=_;rw[Nat.add_zero,←HN.out];have e:Dm.num d 0=0:=rfl;rw[e];omega
  have hdpb: -10000100≤dp'∧dp'≤10000100:=by omega
  clear hdp;go_wp2_with fail
  go_loopg [4,5,6] (nd-0) (fun g s4 s5 s6 wx=>∃(rr q n:Nat) (g':Nat→Nat),g=nd-q∧Hid (rr=r0+q)∧q≤nd∧s4=.int .i64 (rr:Int)∧s5=.int .i64 q∧s6=.int .u64 n∧n<10*p2∧(q=0→p2≤n)∧Hid (Dm.pz d nd (r0+q)=10*p2*Dm.num g' q+n)∧Hid (RL B d nd dp' ng q g' w wx))
  case atStart=>exact⟨r0,0,n0,d,rfl,by show r0=r0+0;omega,Nat.zero_le _,rfl,rfl,rfl,hnb,fun _=>hn1,HE0,by rw[HDP.out];exact HL0⟩
  case round=>
   obtain⟨rr,q,n,g',hgk,HRR,hq,rfl,rfl,rfl,hnb,hqn,HE,HL⟩:=hrel;have c800:=HL.out.nd_;have HQN:=hid hqn;clear hqn;by_cases hrn:rr<nd
   ·have hm1:nd-(q+1)<gk:=by have:=HRR.out;omega
    have hq1:q+1≤nd:=by have:=HRR.out;omega
    have HG:=hid hgk;clear hgk;have cr:=HL.out.read rr (by have:=HRR.out;omega) (by omega);obtain⟨dl,dh⟩:=HD.out rr hrn;have em:=mask_is HK.out hk2 (show n<18446744073709551616 by omega);have HB9:=hid (Dm.dig_le (n:=n) (k2:=p2) (by omega));have HKL:=hid (Dm.keep_lt (n:=n) (k2:=p2) (c:=d rr-48) (by omega) (by omega));have HDS:=hid (Dm.down_step (p:=Dm.pz d nd (r0+q)) (N:=Dm.num g' q) (n:=n) (c:=d rr-48) (m:=n% p2) (k2:=p2) HE.out rfl);have hp0:0<p2:=by omega
    have HMD:=hid (Nat.mod_lt n hp0);have e1:(n:Int)/(p2:Int)=((n/p2:Nat):Int):=rfl;have HB1:Hid (q=0→1≤n/p2):=fun h=>Nat.div_pos (HQN.out h) hp0;obtain⟨b,hb⟩:∃b,n/p2=b:=⟨_,rfl⟩
    obtain⟨x,hx⟩:∃x,n% p2=x:=⟨_,rfl⟩
    rw[hb]at e1 HB9 HDS HB1;rw[hx]at em HKL HDS HMD;obtain⟨m,hm⟩:∃m,x*10+(d rr-48)=m:=⟨_,rfl⟩
    rw[hm]at HKL HDS;have e2:(x:Int)*10+(d rr:Int)-48=(m:Int):=by omega
    have hb9:b≤9:=HB9.out;have hxb:x<p2:=HMD.out;have hmb:m<10*p2:=HKL.out;have HE2:Hid (Dm.pz d nd (r0+(q+1))=10*p2*Dm.num (Dm.put g' q (b+48)) (q+1)+m):=by show Dm.pz d nd (r0+(q+1))=_;have e:=Dm.pz_succ d nd (r0+q);rw[show Dm.ext d nd (r0+q)=d rr by rw[←HRR.out];exact if_pos hrn,HDS.out]at e;rw[num_put,Nat.add_sub_cancel];exact e
    clear hb hx hm;have hq8:q<800:=by omega
    have HL2:=hid (HL.out.put b hb9 HB1.out hq8 ((b:Int)+48) rfl);have fq:=HL.out.frozen q;obtain⟨xx,cq⟩:=HL.out.any_ q hq8;go_wp2_with fail
    go_roundg (nd-(q+1))
    case measure=>omega
    case rel=>exact⟨rr+1,q+1,m,Dm.put g' q (b+48),rfl,by show rr+1=r0+(q+1);have:=HRR.out;omega,hq1,by go_num,by go_num,by go_num,hmb,fun h=>by omega,HE2,HL2⟩
   ·have HNR:Hid (nd≤r0+q):=by have:=HRR.out;show nd≤r0+q;omega
    have HLE:Hid (10*p2*Dm.num g' q≤Dm.pz d nd (r0+q)):=by show _≤_;rw[HE.out];exact Nat.le_add_right _ _
    have HE1:Hid (q<800→Dm.pz d nd (r0+q)=10*p2*Dm.num g' q+n):=fun _=>HE.out;have HME:Hid ((n=0→(if n=0 then 0 else k+1)=0)∧(n≠0→(if n=0 then 0 else k+1)+0=k+1)):=⟨fun h=>if_pos h,fun h=>by rw[if_neg h]⟩
    obtain⟨g0,hg0⟩:∃g0,(if n=0 then 0 else k+1)=g0:=⟨_,rfl⟩
    rw[hg0]at HME;clear hgk hg0;have hq8:q≤800:=by omega
    go_wp2_with fail
    go_loopg [5,6] g0 (fun g s5 s6 wx=>∃(t q n:Nat) (g':Nat→Nat),t≤k∧Hid (2^t∣n)∧Hid ((n=0→g=0)∧(n≠0→g+t=k+1))∧q≤800∧s5=.int .i64 q∧s6=.int .u64 n∧n<10*p2∧Hid (q=0→p2≤n)∧Hid (q<800→Dm.pz d nd (r0+q)=10*p2*Dm.num g' q+n)∧Hid (10*p2*Dm.num g' q≤Dm.pz d nd (r0+q))∧Hid (nd≤r0+q)∧Hid (RL B d nd dp' ng q g' w wx))
    case atStart=>exact⟨0,q,n,g',Nat.zero_le _,by show 2^0∣n;simp,HME,hq8,rfl,rfl,hnb,HQN,HE1,HLE,HNR,HL⟩
    case round=>
     clear HME HQN HE1 HLE HNR HL HE HRR;obtain⟨t,q,n,g',ht,HTD,HME,hq8,rfl,rfl,hnb,HQN,HE,HLE,HNR,HL⟩:=hrel;by_cases hn00:n=0
     ·subst hn00
      have hq1:0<q:=by
       rcases Nat.eq_zero_or_pos q with h0|h0
       ·have:=HQN.out h0;omega
       ·exact h0
      obtain⟨tr',a1,a2,a3,a4,a5⟩:=HL.out;have A1:=hid a1;have f1:=a1.frozen 800;have c1:=a1.nd_;have HTR:=hid (fun W (hW:Dz W B g' q dp' ng tr')=>trim_any B g' q dp' ng tr' W hW hq8);have HEND:=hid (fun W W' (e:Ending) (hW:Moved B w W) (h:TrimP B g' q dp' ng tr' W e W')=>right_end hn0 hn hr1 hr20 HDP.out HK.out hq1 hq8 (a4 hq1) a3 HNR.out HLE.out hW h);have A5:=hid a5;clear a1 a2 a3 a4 a5 HME hq1;go_wp2_with fail;refine(HTR.out _ (A1.out.setN q _ rfl)).mono ?_;rintro e w9⟨rfl,ht9⟩;have HT9:=hid (HEND.out _ _ _ (A5.out.trans (Moved.set _ _ _ _)) ⟨rfl,ht9⟩);clear ht9;go_wp2_with fail
      go_end0
      exact HT9.out
     ·have hn1:(0:Int)<(n:Int):=by omega
      have HGK:=hid (HME.out.2 hn00);have em:=mask_is HK.out hk2 (show n<18446744073709551616 by omega);have hp0:0<p2:=by omega
      have HB9:=hid (Dm.dig_le (n:=n) (k2:=p2) (by omega));have HMD:=hid (Nat.mod_lt n hp0);have HDS:=hid (fun h8:q<800=>Dm.down_step (p:=Dm.pz d nd (r0+q)) (N:=Dm.num g' q) (n:=n) (c:=0) (m:=n% p2) (k2:=p2) (HE.out h8) rfl);have HB1:Hid (q=0→1≤n/p2):=fun h=>Nat.div_pos (HQN.out h) hp0;have e1:(n:Int)/(p2:Int)=((n/p2:Nat):Int):=rfl;have HT2:Hid (∃t',t'≤k∧2^t'∣n% p2*10∧(n% p2*10=0∨t'=t+1)):=by
       by_cases htk:t<k
       ·exact⟨t+1,htk,by rw[←HK.out];exact Dm.ends_step HTD.out ht,.inr rfl⟩
       ·obtain rfl:t=k:=by omega
        have e:=Dm.ends_all HTD.out;rw[HK.out]at e;exact⟨0,Nat.zero_le _,by rw[e];exact Nat.dvd_zero _,.inl e⟩
      obtain⟨b,hb⟩:∃b,n/p2=b:=⟨_,rfl⟩
      obtain⟨x,hx⟩:∃x,n% p2=x:=⟨_,rfl⟩
      rw[hb]at e1 HB9 HDS HB1;rw[hx]at em HDS HMD HT2;have hb9:b≤9:=HB9.out;have hxb:x<p2:=HMD.out;obtain⟨g2,hg2⟩:∃g2,(if x*10=0 then 0 else gk-1)=g2:=⟨_,rfl⟩
      have HG2:=hid hg2;have hg1:1≤gk:=by have:=HGK.out;omega
      have hgl:g2<gk:=by rw[←hg2];split<;>omega
      have HM2:Hid (∃t',t'≤k∧2^t'∣x*10∧(x*10=0→g2=0)∧(x*10≠0→g2+t'=k+1)):=by
       obtain⟨t',a1,a2,a3⟩:=HT2.out;refine⟨t',a1,a2,fun h=>by rw[←hg2,if_pos h],fun h=>?_⟩;rw[←hg2,if_neg h];rcases a3 with a3|a3
       ·exact absurd a3 h
       ·have:=HGK.out;omega
      clear hb hx hg2 hn00;by_cases h8:q<800
      ·have HL2:=hid (HL.out.put b hb9 HB1.out h8 ((b:Int)+48) rfl)
       have fq:=HL.out.frozen q;obtain⟨xx,cq⟩:=HL.out.any_ q h8;have HE2:Hid (Dm.pz d nd (r0+(q+1))=10*p2*Dm.num (Dm.put g' q (b+48)) (q+1)+x*10):=by show Dm.pz d nd (r0+(q+1))=_;have e:=Dm.pz_succ d nd (r0+q);have e5:=HDS.out h8;rw[show Dm.ext d nd (r0+q)=48 from if_neg (by have:=HNR.out;omega)]at e;rw[num_put,Nat.add_sub_cancel];have e6:Dm.pz d nd (r0+(q+1))=Dm.pz d nd (r0+q+1):=rfl;omega
       have h8i:(q:Int)<800:=by omega
       go_wp2_with fail
       go_roundg g2
       case measure=>exact hgl
       case rel=>obtain⟨t',a1,a2,a3,a4⟩:=HM2.out;exact⟨t',q+1,x*10,Dm.put g' q (b+48),a1,a2,⟨a3,a4⟩,by omega,by go_num,by go_num,by omega,fun h=>by omega,fun _=>HE2.out,by show _≤_;rw[HE2.out];exact Nat.le_add_right _ _,by show _≤_;have:=HNR.out;omega,HL2⟩
      ·obtain rfl:q=800:=by omega
       obtain⟨xx,cu⟩:=HL.out.tr_;have fu:=HL.out.frozen 803;by_cases hb0:b=0
       ·have hb1:decide (0<b)=false:=decide_eq_false (by omega)
        clear hb0;go_wp2_with fail
        go_roundg g2
        case measure=>exact hgl
        case rel=>obtain⟨t',a1,a2,a3,a4⟩:=HM2.out;exact⟨t',800,x*10,g',a1,a2,⟨a3,a4⟩,by omega,by go_num,by go_num,by omega,fun h=>by omega,fun h=>by omega,HLE,HNR,HL⟩
       ·have hb1:0<b:=by omega
        have HL3:=hid (HL.out.trunc true);clear hb0;go_wp2_with fail
        go_roundg g2
        case measure=>exact hgl
        case rel=>obtain⟨t',a1,a2,a3,a4⟩:=HM2.out;exact⟨t',800,x*10,g',a1,a2,⟨a3,a4⟩,by omega,by go_num,by go_num,by omega,fun h=>by omega,fun h=>by omega,HLE,HNR,HL3⟩
theorem right_any(B k:Nat)(d:Nat→Nat)(nd:Nat)(dp:Int)(ng tr:Bool)(w:World)(h:Dz w B d nd dp ng tr)(hd:Dm.Dg d nd)(h49:49≤d 0)(hn0:0<nd)(hn:nd≤800)
 (hp: -10000000≤dp) (hp2:dp≤10000000) (h1:1≤k) (h2:k≤60):Calls Tryz.prog 201 #[.pointer (some ⟨B,0,none⟩),.int .u64 (k:Int)] w (ShR B d nd dp ng k w):=
 right_walk B k _ d nd dp ng tr w h hd h49 hn0 hn hp hp2 h1 h2 rfl
structure Dok (w:World) (B:Nat) (d:Nat→Nat) (nd:Nat) (dp:Int) (ng tr:Bool):Prop where
 dz:Dz w B d nd dp ng tr
 dg:Dm.Dg d nd
 first:49≤d 0
 pos:0<nd
 le:nd≤800
theorem shift_left(B P off c k:Nat)(d:Nat→Nat)(nd:Nat)(dp:Int)(ng tr:Bool)(w:World)(hT:Cheat w P off c)(hB15:B≠16)(hBP:B≠P)(h:Dok w B d nd dp ng tr)
 (hp: -10000000≤dp) (hp2:dp≤10000000) (h1:1≤k) (h2:k≤60):Calls Tryz.prog 195 #[.pointer (some ⟨B,0,none⟩),.int .i64 (k:Int)] w (ShP B d nd dp ng w):=by
 have HL:=hid (left_any B P off c k d nd dp ng tr w hT hB15 hBP h.dz h.dg h.first h.pos h.le hp hp2 h1 h2);have c800:=h.dz.nd_;have hn:((nd:Int)==0)=false:=beq_eq_false_iff_ne.2 (by have:=h.pos;omega);have hk0:(0:Int)<(k:Int):=by omega
 have hk1:0<k:=by omega
 clear hT h;go_enter Tryz.func195,Tryz.ntmps195;go_wp2_with fail
 go_loopg [1] 1 (fun g s1 wx=>s1=.int .i64 (k:Int)∧w=wx)
 case atStart=>exact⟨rfl,rfl⟩
 case round=>
  obtain⟨rfl,rfl⟩:=hrel;go_wp2_with fail;refine HL.out.mono ?_;rintro e w9⟨rfl,ht9⟩;have HT9:=hid ht9;clear ht9;go_wp2_with fail
  go_end0
  exact⟨rfl,HT9.out⟩
def ShN(B:Nat)(dp:Int)(ng:Bool)(n:Nat)(w:World)(e:Ending)(w':World):Prop:=e=.returned (.tuple #[])∧∃g nd' dp' tr',Dok w' B g nd' dp' ng tr'∧dp-20*n≤dp'∧dp'≤dp∧Moved B w w'
theorem shift_right(B k:Nat)(d:Nat→Nat)(nd:Nat)(dp:Int)(ng tr:Bool)(w:World)(h:Dok w B d nd dp ng tr)
 (hp: -10000000≤dp) (hp2:dp≤10000000) (h1:1≤k) (h2:k≤60):Calls Tryz.prog 195 #[.pointer (some ⟨B,0,none⟩),.int .i64 (-(k:Int))] w (ShR B d nd dp ng k w):=by
 have HL:=hid (right_any B k d nd dp ng tr w h.dz h.dg h.first h.pos h.le hp hp2 h1 h2);have c800:=h.dz.nd_;have hn:((nd:Int)==0)=false:=beq_eq_false_iff_ne.2 (by have:=h.pos;omega);obtain⟨z,hz⟩:∃z:Int, -(k:Int)=z:=⟨_,rfl⟩
 rw[hz];have e1: -z=(k:Int):=by omega
 have hz0:z<0:=by omega
 have hz1: -60≤z:=by omega
 clear h hz;go_enter Tryz.func195,Tryz.ntmps195;go_wp2_with fail
 go_loopg [1] 1 (fun g s1 wx=>s1=.int .i64 z∧w=wx)
 case atStart=>exact⟨rfl,rfl⟩
 case round=>
  obtain⟨rfl,rfl⟩:=hrel;go_wp2_with fail;refine HL.out.mono ?_;rintro e w9⟨rfl,ht9⟩;have HT9:=hid ht9;clear ht9;go_wp2_with fail
  go_end0
  exact⟨rfl,HT9.out⟩
theorem shift_far(B n:Nat)(d:Nat→Nat)(nd:Nat)(dp:Int)(ng tr:Bool)(w:World)(h:Dok w B d nd dp ng tr)
 (hp: -1000000≤dp) (hp2:dp≤10000000) (h1:1≤n) (h2:n≤400000):Calls Tryz.prog 195 #[.pointer (some ⟨B,0,none⟩),.int .i64 (-(n:Int))] w (ShN B dp ng n w):=by
 have HR:=hid (fun(k:Nat) (d:Nat→Nat) (nd:Nat) (dp:Int) (tr:Bool) (w:World) (h:Dok w B d nd dp ng tr) (hp: -10000000≤dp) (hp2:dp≤10000000) (h1:1≤k) (h2:k≤60)=>right_any B k d nd dp ng tr w h.dz h.dg h.first h.pos h.le hp hp2 h1 h2);have H:=hid h;have c800:=h.dz.nd_;have hn:((nd:Int)==0)=false:=beq_eq_false_iff_ne.2 (by have:=h.pos;omega);obtain⟨z,hz⟩:∃z:Int, -(n:Int)=z:=⟨_,rfl⟩
 rw[hz];have hz0:z<0:=by omega
 have hz1: -400000≤z:=by omega
 have HZ:=hid hz;clear h hz;go_enter Tryz.func195,Tryz.ntmps195;go_wp2_with fail
 go_loopg [1] n (fun g s1 wx=>∃(z':Int) (d':Nat→Nat) (nd':Nat) (dp':Int) (tr':Bool),g=(-z').toNat∧z'<0∧ -400000≤z'∧s1=.int .i64 z'∧Hid (Dok wx B d' nd' dp' ng tr')∧Hid (dp-20*((n:Int)+z')≤dp')∧Hid (dp'≤dp)∧Hid (Moved B w wx))
 case atStart=>exact⟨z,d,nd,dp,tr,by have:=HZ.out;omega,hz0,hz1,rfl,H,by show _≤_;have:=HZ.out;omega,Int.le_refl _,Moved.refl _ _⟩
 case round=>
  obtain⟨z',d',nd',dp',tr',hg,hz0,hz1,rfl,HO,HP1,HP2,HM⟩:=hrel;have b1:=HP1.out;have b2:=HP2.out;have b3: -9000000≤dp':=by omega
  have b4:dp'≤10000000:=by omega
  clear b1 b2;by_cases hz6:z'< -60
  ·have HS:=hid (HR.out 60 d' nd' dp' tr' wr HO.out (by omega) (by omega) (by omega) (by omega))
   clear hp hp2;go_wp2_with fail;refine HS.out.mono ?_;rintro e w9⟨rfl,g,nd2,dp2,tr2,t1,t2,t3,t4,t5,t6,t7,t8,t9⟩;have HO2:Hid (Dok w9 B g nd2 dp2 ng tr2):=⟨t1,t3,t2,t4,t5⟩
   have HQ1:Hid (dp-20*((n:Int)+(z'+60))≤dp2):=by show _≤_;have:=HP1.out;omega
   have HQ2:Hid (dp2≤dp):=by show _≤_;have:=HP2.out;omega
   have HM2:=hid (HM.out.trans t9);clear t1 t2 t3 t4 t5 t6 t7 t8 t9;go_wp2_with fail
   go_roundg ((-(z'+60)).toNat)
   case measure=>omega
   case rel=>exact⟨z'+60,g,nd2,dp2,tr2,rfl,by omega,by omega,by go_num,HO2,HQ1,HQ2,HM2⟩
  ·obtain⟨k,hk⟩:∃k:Nat, -z'=(k:Int):=⟨(-z').toNat,by omega⟩
   have HS:=hid (HR.out k d' nd' dp' tr' wr HO.out (by omega) (by omega) (by omega) (by omega));have hz7: -60≤z':=by omega
   clear hp hp2 hg;go_wp2_with fail;refine HS.out.mono ?_;rintro e w9⟨rfl,g,nd2,dp2,tr2,t1,t2,t3,t4,t5,t6,t7,t8,t9⟩;have HO2:Hid (Dok w9 B g nd2 dp2 ng tr2):=⟨t1,t3,t2,t4,t5⟩
   have HQ1:Hid (dp-20*(n:Int)≤dp2):=by show _≤_;have:=HP1.out;omega
   have HQ2:Hid (dp2≤dp):=by show _≤_;have:=HP2.out;omega
   have HM2:=hid (HM.out.trans t9);clear t1 t2 t3 t4 t5 t6 t7 t8 t9;go_wp2_with fail
   go_end0
   exact⟨rfl,g,nd2,dp2,tr2,HO2.out,HQ1.out,HQ2.out,HM2.out⟩
theorem round_up(B:Nat)(d:Nat→Nat)(nd:Nat)(dp:Int)(ng tr:Bool)(w:World)(h:Dok w B d nd dp ng tr)(z:Int):
 Calls Tryz.prog 202 #[.pointer (some ⟨B,0,none⟩),.int .i64 z] w fun e w'=>(∃b:Bool,e=.returned (.bool b))∧w=w':=by
 have c800:=h.dz.nd_;have c803:=h.dz.tr_;have H:=hid h;have hle:=h.le;clear h;by_cases h0:z<0
 ·go_enter Tryz.func202,Tryz.ntmps202
  go_wp2_with fail;go_ret;exact⟨⟨_,rfl⟩,rfl⟩
 ·obtain⟨n,rfl⟩:∃n:Nat,z=(n:Int):=⟨z.toNat,by omega⟩
  clear h0;have hn0:decide ((n:Int)<0)=false:=decide_eq_false (by omega);by_cases hn:nd≤n
  ·have hn1:decide ((nd:Int)≤(n:Int))=true:=decide_eq_true (by omega)
   go_enter Tryz.func202,Tryz.ntmps202;go_wp2_with fail;go_ret;exact⟨⟨_,rfl⟩,rfl⟩
  ·have hn1:decide ((nd:Int)≤(n:Int))=false:=decide_eq_false (by omega)
   have cn:=H.out.dz.dig n (by omega);obtain⟨v,hv⟩:∃v,d n=v:=⟨_,rfl⟩
   rw[hv]at cn;clear hv;by_cases h5:v=53∧n+1=nd
   ·obtain⟨rfl,rfl⟩:=h5
    by_cases hnp:0<n
    ·obtain⟨q,rfl⟩:∃q,n=q+1:=⟨n-1,by omega⟩
     have cq:=H.out.dz.dig q (by omega);have hd:=H.out.dg q (by omega);have e1:((q+1:Nat):Int)-1=(q:Int):=by omega
     have e2:decide ((0:Int)<((q+1:Nat):Int))=true:=by simp
     cases tr with
     |true=>go_enter Tryz.func202,Tryz.ntmps202;go_wp2_with fail;go_ret;exact⟨⟨_,rfl⟩,rfl⟩
     |false=>go_enter Tryz.func202,Tryz.ntmps202;go_wp2_with fail;go_ret;exact⟨⟨_,rfl⟩,rfl⟩
    ·obtain rfl:n=0:=by omega
     cases tr with
     |true=>go_enter Tryz.func202,Tryz.ntmps202;go_wp2_with fail;go_ret;exact⟨⟨_,rfl⟩,rfl⟩
     |false=>go_enter Tryz.func202,Tryz.ntmps202;go_wp2_with fail;go_ret;exact⟨⟨_,rfl⟩,rfl⟩
   ·by_cases hv:v=53
    ·subst hv
     have hne:(((n:Int)+1)==(nd:Int))=false:=beq_eq_false_iff_ne.2 (by omega);clear h5;go_enter Tryz.func202,Tryz.ntmps202;go_wp2_with fail;go_ret;exact⟨⟨_,rfl⟩,rfl⟩
    ·have hne:((v:Int)==53)=false:=beq_eq_false_iff_ne.2 (by omega)
     clear h5 hv;go_enter Tryz.func202,Tryz.ntmps202;go_wp2_with fail;go_ret;exact⟨⟨_,rfl⟩,rfl⟩
def IsU(e:Ending):Prop:=∃z:Int,e=.returned (.int .u64 z)∧0≤z∧z≤18446744073709551615
theorem u64_wrap(z:Int):0≤IntKind.u64.wrap z∧IntKind.u64.wrap z≤18446744073709551615:=wrap_within .u64 z
theorem round_int(B:Nat)(d:Nat→Nat)(nd:Nat)(dp:Int)(ng tr:Bool)(w:World)(h:Dok w B d nd dp ng tr)(hp: -100000000≤dp)(hp2:dp≤100000000):
 Calls Tryz.prog 196 #[.pointer (some ⟨B,0,none⟩)] w fun e w'=>IsU e∧w=w':=by
 have c800:=h.dz.nd_;have c801:=h.dz.dp_;have HR:=hid (round_up B d nd dp ng tr w h dp);have H:=hid h;have hle:=h.le;clear h;by_cases h20:20<dp
 ·go_enter Tryz.func196,Tryz.ntmps196
  go_wp2_with fail;go_ret;exact⟨⟨_,rfl,by decide,by decide⟩,rfl⟩
 ·have h20f:decide (20<dp)=false:=decide_eq_false h20
  have h20i:dp≤20:=by omega
  clear h20;go_enter Tryz.func196,Tryz.ntmps196;go_upto_block 0 with fail
  go_cut [3,4] (fun s3 s4 wx=>∃(i:Nat) (z:Int),i≤800∧s3=.int .i64 i∧s4=.int .u64 z∧0≤z∧z≤18446744073709551615∧w=wx)
  case first=>
   go_wp2_with fail
   go_loopg [3,4] 800 (fun g s3 s4 wx=>∃(i:Nat) (z:Int),i+g=800∧s3=.int .i64 i∧s4=.int .u64 z∧0≤z∧z≤18446744073709551615∧w=wx)
   case atStart=>exact⟨0,0,rfl,rfl,rfl,by omega,by omega,rfl⟩
   case round=>
    obtain⟨i,z,hig,rfl,rfl,z0,z1,rfl⟩:=hrel;by_cases hi:(i:Int)<dp∧i<nd
    ·obtain⟨hi1,hi2⟩:=hi
     have hi3:decide (i<nd)=true:=decide_eq_true (by omega);obtain⟨g,rfl⟩:∃g,gk=g+1:=⟨gk-1,by omega⟩
     have ci:=H.out.dz.dig i (by omega);obtain⟨dl,dh⟩:=H.out.dg i hi2;go_wp2_with fail
     go_roundg g
     case measure=>omega
     case rel=>exact⟨i+1,_,by omega,by go_num,rfl,(u64_wrap _).1,(u64_wrap _).2,rfl⟩
    ·by_cases hi1:(i:Int)<dp
     ·have hi3:decide (i<nd)=false:=decide_eq_false (by omega)
      clear hi;go_wp2_with fail
      go_meet
      exact⟨i,z,by omega,rfl,rfl,z0,z1,rfl⟩
     ·have hi3:decide ((i:Int)<dp)=false:=decide_eq_false hi1
      clear hi;go_wp2_with fail
      go_meet
      exact⟨i,z,by omega,rfl,rfl,z0,z1,rfl⟩
  case rest=>
   obtain⟨i,z,hi8,rfl,rfl,z0,z1,rfl⟩:=hcut;go_wp2_with fail
   go_loopg [3,4] (20-i) (fun g s3 s4 wx=>∃(i:Nat) (z:Int),g=20-i∧i≤800∧s3=.int .i64 i∧s4=.int .u64 z∧0≤z∧z≤18446744073709551615∧w=wx)
   case atStart=>exact⟨i,z,rfl,hi8,rfl,rfl,z0,z1,rfl⟩
   case round=>
    obtain⟨i,z,hig,hi8,rfl,rfl,z0,z1,rfl⟩:=hrel;by_cases hi1:(i:Int)<dp
    ·go_wp2_with fail
     go_roundg (20-(i+1))
     case measure=>omega
     case rel=>exact⟨i+1,_,rfl,by omega,by go_num,rfl,(u64_wrap _).1,(u64_wrap _).2,rfl⟩
    ·go_wp2_with fail
     refine HR.out.mono ?_;rintro e w9⟨⟨b,rfl⟩,rfl⟩;cases b with
     |true=>go_wp2_with fail;go_ret;exact⟨⟨_,rfl,(u64_wrap _).1,(u64_wrap _).2⟩,rfl⟩
     |false=>go_wp2_with fail;go_ret;exact⟨⟨_,rfl,z0,z1⟩,rfl⟩
def powN(i:Nat):Nat:=[1,3,6,9,13,16,19,23,26].getD i 0
theorem powN_in(i:Nat)(h:i<9):1≤powN i∧powN i≤26:=by
 have:∀i:Fin 9,1≤powN i.val∧powN i.val≤26:=by decide
 exact this ⟨i,h⟩
structure Env (w:World) (B Q qo qc P off c:Nat):Prop where
 f0:w.cell? ⟨11,0,none⟩=some (.int .u64 52)
 f1:w.cell? ⟨11,1,none⟩=some (.int .u64 11)
 f2:w.cell? ⟨11,2,none⟩=some (.int .i64 (-1023))
 pt:w.cell? ⟨13,0,none⟩=some (.slice (some ⟨Q,qo,none⟩) 9 qc)
 pw:∀i,i<9→w.cell? ⟨Q,qo+i,none⟩=some (.int .i64 (powN i:Int))
 ch:Cheat w P off c
 b10:B≠11
 b12:B≠13
 b15:B≠16
 bQ:B≠Q
 bP:B≠P
theorem Env.moved{w w':World}{B Q qo qc P off c:Nat}(h:Env w B Q qo qc P off c)(hm:Moved B w w'):Env w' B Q qo qc P off c:=⟨(hm.cell (Ne.symm h.b10)).trans h.f0,(hm.cell (Ne.symm h.b10)).trans h.f1,(hm.cell (Ne.symm h.b10)).trans h.f2,(hm.cell (Ne.symm h.b12)).trans h.pt,fun i hi=>(hm.cell (Ne.symm h.bQ)).trans (h.pw i hi),h.ch.moved hm h.b15 h.bP,h.b10,h.b12,h.b15,h.bQ,h.bP⟩
def hi310:Nat:=310
theorem hi310_is:hi310=310:=rfl
def t1100:Nat:=1100
theorem t1100_is:t1100=1100:=rfl
theorem U_top{d:Nat→Nat}{nd:Nat}{dp:Int}(h:Dm.Dg d nd)(hd:nd≤800)(h1: -400≤dp)(h2:dp≤310):Dm.U d nd dp<10^Dm.top*10^hi310:=by have ht:=Dm.top_is;have ht2:=hi310_is;unfold Dm.U;have h3:=Dm.num_lt nd h;have h4:=Nat.mul_lt_mul_of_pos_right h3 (Nat.pow_pos (n:=((Dm.top:Int)+dp-nd).toNat) (show 0<10 by decide));rw[←Nat.pow_add]at h4;refine Nat.lt_of_lt_of_le h4 ?_;rw[←Nat.pow_add];exact Nat.pow_le_pow_right (by decide) (by omega)
theorem fall_few{t u v:Nat}(h:2^t*u≤v)(hv:v<10^Dm.top*10^hi310)(hu:10^Dm.top≤u):t<t1100:=by
 rcases Nat.lt_or_ge t t1100 with h1|h1
 ·exact h1
 ·exfalso
  have a:(2:Nat)^t1100≤2^t:=Nat.pow_le_pow_right (by decide) h1;have b:(10:Nat)^hi310≤2^t1100:=by decide+kernel
  have c:10^hi310*10^Dm.top≤2^t*u:=Nat.mul_le_mul (Nat.le_trans b a) hu;rw[Nat.mul_comm]at c;omega
def FbP(B:Nat)(w:World)(e:Ending)(w':World):Prop:=(∃(z:Int) (ov:Bool),e=.returned (.tuple #[.int .u64 z,.bool ov])∧0≤z∧z≤18446744073709551615)∧Moved B w w'
def Jump(J:Nat→Act→World→Prop)(Q:Exit→Act→World→Prop):Exit→Act→World→Prop
 |.goto l,a,w=>J l a w
 |e,a,w=>Q e a w
theorem wp_scope_two{P:Program}{a:Act}{w:World}{Q:Exit→Act→World→Prop}{c r0 r1:Code}(h0:findLabel c 0=some r0)(h1:findLabel c 1=some r1)
 (first:∀J:Nat→Act→World→Prop,(∀a w,r0.wp P (Exit.noGoto Q) a w→J 0 a w)→(∀a w,r1.wp P (Exit.noGoto Q) a w→J 1 a w)→c.wp P (Jump J Q) a w):(Code.scope c).wp P Q a w:=by
 intro b k cs;have hg0:gotoIn 0 (.inScope c::k)=some (.code r0:: .inScope c::k):=by simp[gotoIn,h0]
 have hg1:gotoIn 1 (.inScope c::k)=some (.code r1:: .inScope c::k):=by simp[gotoIn,h1]
 have key:∀r a w,(r.wp P (Exit.noGoto Q) a w)→∃e a' w',Q e a' w'∧Arrives P (lone (b.at a (.code r:: .inScope c::k)) cs w) b k cs e a' w':=by
  intro r a w h;obtain⟨e,a₁,w₁,hq,harr⟩:=h b (.inScope c::k) cs;cases e with
  |normal=>exact⟨.normal,a₁,w₁,hq,Steps.trans harr (.one step_inScope)⟩
  |exit id=>exact⟨.exit id,a₁,w₁,hq,fun k' hk=>harr k' (by simp[exitTo,hk])⟩
  |goto l'=>exact hq.elim
  |ret=>exact⟨_,a₁,w₁,hq,harr⟩
  |panic ch=>exact⟨_,a₁,w₁,hq,harr⟩
  |outgrown=>exact⟨_,a₁,w₁,hq,harr⟩
 obtain⟨e,a₁,w₁,hq,harr⟩:=first (fun l a w=>(l=0∧r0.wp P (Exit.noGoto Q) a w)∨(l=1∧r1.wp P (Exit.noGoto Q) a w)) (fun _ _ h=>.inl ⟨rfl,h⟩) (fun _ _ h=>.inr ⟨rfl,h⟩) b (.inScope c::k) cs
 cases e with
 |normal=>exact⟨.normal,a₁,w₁,hq,.head step_scope (Steps.trans harr (.one step_inScope))⟩
 |exit id=>exact⟨.exit id,a₁,w₁,hq,fun k' hk=>.head step_scope (harr k' (by simp[exitTo,hk]))⟩
 |goto l=>
  rcases hq with ⟨rfl,hq⟩|⟨rfl,hq⟩
  ·obtain⟨e₂,a₂,w₂,hq₂,harr₂⟩:=key _ a₁ w₁ hq
   exact⟨e₂,a₂,w₂,hq₂,.of_steps (.head step_scope (harr _ hg0)) harr₂⟩
  ·obtain⟨e₂,a₂,w₂,hq₂,harr₂⟩:=key _ a₁ w₁ hq
   exact⟨e₂,a₂,w₂,hq₂,.of_steps (.head step_scope (harr _ hg1)) harr₂⟩
 |ret=>exact⟨_,a₁,w₁,hq,.of_steps (.one step_scope) harr⟩
 |panic ch=>exact⟨_,a₁,w₁,hq,.of_steps (.one step_scope) harr⟩
 |outgrown=>exact⟨_,a₁,w₁,hq,.of_steps (.one step_scope) harr⟩
end Go.Proofs.YtmodehfedhgcbaaGreatDoor

/- The document's Nest: how a tree is nested. Condition: the tree lies in memory. -/
import Derived.Test.YticmkabafmmlhaaGreatDoorN26j
import Derived.Deep.DeepCutAuto
import Derived.Deep.CutBlock
import Derived.Deep.RegionHeld3
import Derived.Test.YticmkabafmmlhaaGreatDoorD7j
set_option linter.unusedVariables false
set_option linter.unusedSimpArgs false
set_option maxRecDepth 100000
set_option maxHeartbeats 8000000
namespace Go.Proofs.YticmkabafmmlhaaGreatDoor.Ck
open Go.RowKit
open Lib (hid)
theorem dstrength_at(h:Hd)(n:Nat)(w:World):
 Calls Tryz.prog 29 #[.agg (arr h n)] w fun e w'=>e=.returned (.int .i64 (strengthF h.k h.o))∧Below w.heap.size w w':=by
 obtain⟨r,hr⟩:∃r,strengthF h.k h.o=r:=⟨_,rfl⟩
 rw[hr];obtain⟨k,o,v,s,ma,mc,ms,wd,off,ha,tm,how,na,nc,ns,bo,ka,kc⟩:=h;have HR:=hid hr;clear hr;unfold arr;go_enter Tryz.func29,Tryz.ntmps29;go_wp2;all_goals
  go_ret;refine⟨congrArg (fun x=>Ending.returned (Value.int .i64 x)) ?_,by go_grown⟩;have hr:=HR.out;unfold strengthF at hr;clear HR;simp only[bne_iff_ne,ne_eq,bne_eq_false_iff_eq]at*
  (split at hr)<;>(try split at hr)<;>(try split at hr)<;>omega
def bump1F(h:Hd)(n i:Nat)(t:Tr):Nat:=if h.k=6∧n=2∧wrapF h i t=true then 1 else 0
def bump2F(h:Hd)(n:Nat)(t:Tr):Nat:=if h.k=7∧n=1∧t.h.k=6 then 1 else 0
def baseF(h:Hd)(n:Nat):Nat:=if h.k=6∧n=2 then 0 else 1
theorem deep_bump(h:Hd)(n i:Nat)(t:Tr):deepF h n i t=bump1F h n i t+bump2F h n t+baseF h n:=by
 unfold deepF bump1F bump2F baseF;by_cases h7:h.k=7∧n=1∧t.h.k=6
 ·have h6:¬h.k=6:=by omega
  rw[if_pos h7,if_neg (fun x=>h6 x.1),if_pos h7,if_neg (fun x=>h6 x.1)]
 ·rw[if_neg h7,if_neg h7]
  by_cases h6:h.k=6∧n=2
  ·obtain⟨a,c⟩:=h6
   cases wrapF h i t with
   |false=>rw[if_pos ⟨a,c,rfl⟩,if_neg (fun x=>by cases x.2.2),if_pos ⟨a,c⟩]
   |true=>rw[if_neg (fun x=>by cases x.2.2),if_pos ⟨a,c,rfl⟩,if_pos ⟨a,c⟩]
  ·rw[if_neg (fun x=>h6 ⟨x.1,x.2.1⟩),if_neg (fun x=>h6 ⟨x.1,x.2.1⟩),if_neg h6]
theorem nest_base(h:Hd)(ks:List Tr)(hk:hasKidsF h.k=true):nestF (.mk h ks)=max (baseF h ks.length) (nestL h ks.length 0 ks):=by
 rw[nestF,if_pos hk];cases ks with
 |nil=>rw[if_pos (show([]:List Tr).length=0 from rfl),nestL];unfold baseF;rw[if_neg (fun x=>by cases x.2)];rfl
 |cons t ts=>rw[if_neg (by simp),nestL,deep_bump];omega
theorem nestL_drop(h:Hd)(n:Nat){l:List Tr}{k:Nat}(hk:k<l.length):nestL h n k (l.drop k)=max (deepF h n k (l.getD k t0)+nestF (l.getD k t0)) (nestL h n (k+1) (l.drop (k+1))):=by rw[drop_kid hk,nestL]
abbrev DS(W4:World)(a b o:Nat)(h g:Hd)(n m:Nat)(W:World):Prop:=(C13 W a h n∧KC W b o g m)∧Below W4.heap.size W4 W
theorem DS.step{W4 W W':World}{a b o:Nat}{h g:Hd}{n m:Nat}(t:DS W4 a b o h g n m W)(hb:Below W.heap.size W W')(ha:a<W4.heap.size)(hB:b<W4.heap.size):DS W4 a b o h g n m W':=⟨⟨t.1.1.below hb (Nat.lt_of_lt_of_le ha t.2.size),t.1.2.below hb (Nat.lt_of_lt_of_le hB t.2.size)⟩,t.2.trans (hb.mono t.2.size)⟩
theorem DS.start{W4:World}{a b o:Nat}{h g:Hd}{n m:Nat}(t:DS W4 a b o h g n m W4):DS W4 a b o h g n m W4.drew:=⟨t.1,⟨t.2.os,t.2.tape,t.2.output,t.2.size,t.2.block⟩⟩
def DNestIs(x:Tr):Prop:=∀W,Lies W x→Calls Tryz.prog 15 #[valT x] W fun e w'=>e=.returned (.int .i64 (nestF x:Nat))∧Below W.heap.size W w'
theorem dnest_step(h:Hd)(ks:List Tr)(hk:∀x,x∈ks→DNestIs x)(hsz:szF (.mk h ks)≤700):DNestIs (.mk h ks):=by
 intro w hL;obtain⟨r,hr⟩:∃r,nestF (.mk h ks)=r:=⟨_,rfl⟩
 have hr14:r≤1400:=by have:=nest_size (.mk h ks);omega
 rw[hr,valT_arr];rw[Lies]at hL;obtain⟨hok,hkl,_,_,htr,hkk⟩:=hL;have hb0:Below w.heap.size w (w.alloc (.cells (arr h ks.length) 27)):=(Below.refl _ _).alloc (Nat.le_refl _) _;have HB0:=hid hb0;have HTR:=hid (htr.below hb0);have HKK:=hid (hkk.below hb0);have HK:=hid (Blk.new w 27 (arr h ks.length));have HKS:=hid hk;clear hok htr hkk hb0 hk hsz;by_cases hh:¬hasKidsF h.k=true
 ·obtain rfl:0=r:=by rw[←hr,nestF,if_neg hh]
  have hh':h.k<4∨7<h.k:=by unfold hasKidsF at hh;rw[decide_eq_true_eq]at hh;omega
  clear hr HTR HKK HKS HK hh;unfold arr at*
  by_cases a1:h.k<4
  ·clear hh'
   go_enter Tryz.func15,Tryz.ntmps15;go_wp2_with fail;go_ret;exact⟨rfl,HB0.out⟩
  ·have a2:7<h.k:=by omega
   clear hh';go_enter Tryz.func15,Tryz.ntmps15;go_wp2_with fail;go_ret;exact⟨rfl,HB0.out⟩
 have hh:=Classical.not_not.1 hh;have d1:¬h.k<4:=by unfold hasKidsF at hh;rw[decide_eq_true_eq]at hh;omega
 have d2:¬7<h.k:=by unfold hasKidsF at hh;rw[decide_eq_true_eq]at hh;omega
 have hnb:=nest_base h ks hh;rw[hr]at hnb;obtain⟨c,hc0⟩:∃c,baseF h ks.length=c:=⟨_,rfl⟩
 rw[hc0]at hnb;have HNB:=hid hnb;have HC0:=hid hc0;clear hnb hc0 hr hh;unfold arr at*
 go_enter Tryz.func15,Tryz.ntmps15;go_wp2_with fail;generalize (w.alloc (.cells _ 27))=W1 at*
 go_loopg [3,4] ks.length (fun gq s3 s4 wx=>∃(k m:Nat),k≤ks.length∧ks.length≤gq+k∧s3=.int .i64 (m:Int)∧s4=.int .i64 (k:Int)∧Hid (max (m+c) (nestL h ks.length k (ks.drop k))=r)∧Hid (Below W1.heap.size W1 wx))
 case atStart=>exact⟨0,0,Nat.zero_le _,Nat.le_refl _,rfl,rfl,by rw[List.drop_zero,Nat.zero_add];exact HNB.out.symm,Below.refl _ _⟩
 case round=>
  obtain⟨k,m,hkn,hg,rfl,rfl,HS,HBX⟩:=hrel;have hbk:=HK.out.below HBX.out;have c12:=hbk.cell 12;simp at c12;have HBF:=hid (HB0.out.trans (HBX.out.mono HB0.out.size));by_cases hlt:k<ks.length
  ·have hki:(k:Int)<(ks.length:Int):=by omega
   obtain⟨b,off,hA,hb,hc⟩:=HTR.out (by omega);cases ht:ks.getD k t0 with
   |mk h2 ks2=>
    have hix:=fun W=>index_kid h.ka ks.length h.kc k b off hA hlt W;have hkc:=KC.below (Trs.kc hc hlt ht) HBX.out hb;have hmem:Tr.mk h2 ks2∈ks:=by rw[←ht];exact kid_mem2 hlt
    obtain⟨v,hv⟩:∃v,nestF (Tr.mk h2 ks2)=v:=⟨_,rfl⟩
    have hcl:=HKS.out _ hmem wr ((LiesL.mem HKK.out hmem).below HBX.out);rw[hv,valT_arr]at hcl;have HCL:=hid hcl;have hs1:=HS.out;rw[nestL_drop h ks.length hlt,ht,deep_bump,hv]at hs1;obtain⟨x1,hx1⟩:∃x,bump1F h ks.length k (Tr.mk h2 ks2)=x:=⟨_,rfl⟩
    obtain⟨x2,hx2⟩:∃x,bump2F h ks.length (Tr.mk h2 ks2)=x:=⟨_,rfl⟩
    obtain⟨z,hz⟩:∃z,nestL h ks.length (k+1) (ks.drop (k+1))=z:=⟨_,rfl⟩
    rw[hx1,hx2,HC0.out,hz]at hs1;have HX1:=hid hx1;have HX2:=hid hx2;have HZ:=hid hz;have HS1:=hid hs1;obtain⟨o,ho⟩:∃o,off+k*13=o:=⟨_,rfl⟩
    rw[ho]at hkc hix;have HHO:=hid ho;obtain⟨e0,e1,e2,e3,e4,e5,e6,e7,e8,e9,e10,e11,e12⟩:=hkc;have hbw:b<wr.heap.size:=Nat.lt_of_lt_of_le hb HBX.out.size;have hlw:w.heap.size<wr.heap.size:=hbk.lt;have HBK:=hid hbk;have HKC0:=hid (KC.below (Trs.kc hc hlt ht) HBX.out hb);rw[ho]at HKC0;have HA:=hid hA;obtain⟨g',rfl⟩:∃g',gk=g'+1:=⟨gk-1,by omega⟩
    clear hA hc ht hv hcl hs1 hx1 hx2 hz ho hbk;unfold arr at HCL;go_upto_region 7 with fail;clear d1 d2;go_upto_region 8 with (go_at_call 15;refine(HCL.out).mono ?_;rintro e w6 ⟨rfl,hb6⟩;have HB6:=hid hb6;clear hb6);clear HCL e0 e1 e2 e3 e4 e5 e6 e7 e8 e9 e10 e11 e12 hix c12;have HD:Hid (DS w6 w.heap.size b o h h2 ks.length ks2.length w6):=⟨⟨(blk13 (h:=h) (n:=ks.length) (HBK.out.below HB6.out)),HKC0.out.below HB6.out hbw⟩,Below.refl _ _⟩
    have hlt1:w.heap.size<w6.heap.size:=Nat.lt_of_lt_of_le hlw HB6.out.size;have hlt2:b<w6.heap.size:=Nat.lt_of_lt_of_le hbw HB6.out.size;have HBX6:=hid (HBX.out.trans (HB6.out.mono HBX.out.size));have HBK6:=hid (HBK.out.below HB6.out);clear HBK HKC0 HB6 HBX hbw hlw;obtain⟨p,hp⟩:∃p,decide (h.k=6∧ks.length=2)=p:=⟨_,rfl⟩
    have HP:=hid hp;clear hp
    go_cut [35]from 14 to 86 (fun s35 wx=>s35=.bool p∧w6=wx)
    case first=>
     obtain⟨⟨⟨c0,c1,c2,c3,c4,c5,c6,c7,c8,c9,c10,c11,c12⟩,_⟩,_⟩:=HD.out;by_cases h6:h.k=6
     ·have b6:(h.k==6)=true:=by simp;omega
      by_cases hn2:ks.length=2
      ·have n2:((ks.length:Int)==2)=true:=by simp;omega
       obtain rfl:true=p:=by rw[←HP.out];exact(decide_eq_true ⟨h6,hn2⟩).symm
       clear h6 hn2;go_wp2_with fail
       go_meet
       exact⟨rfl,rfl⟩
      ·have n2:((ks.length:Int)==2)=false:=by simp;omega
       obtain rfl:false=p:=by rw[←HP.out];exact(decide_eq_false (fun x=>hn2 x.2)).symm
       clear h6 hn2;go_wp2_with fail
       go_meet
       exact⟨rfl,rfl⟩
     ·have b6:(h.k==6)=false:=by simp;omega
      obtain rfl:false=p:=by rw[←HP.out];exact(decide_eq_false (fun x=>h6 x.1)).symm
      clear h6;go_wp2_with fail
      go_meet
      exact⟨rfl,rfl⟩
    case rest=>
     obtain⟨rfl,rfl⟩:=hcut;go_upto_if 35 with fail
     go_cut [5]from 14 to 86 (fun s5 wx=>s5=.int .i64 ((v+x1:Nat):Int)∧Hid (Below w6.heap.size w6 wx))
     case first=>
      cases p with
      |false=>
       obtain rfl:0=x1:=by rw[←HX1.out];unfold bump1F;rw[if_neg (fun x=>by have:=HP.out;rw[decide_eq_false_iff_not]at this;exact this ⟨x.1,x.2.1⟩)]
       go_wp2_with fail
       go_meet
       exact⟨rfl,Below.refl _ _⟩
      |true=>
       have hpp:=of_decide_eq_true HP.out;obtain⟨y,hy⟩:∃y,strengthF h2.k h2.o=y:=⟨_,rfl⟩
       obtain⟨x,hx⟩:∃x,strengthF h.k h.o=x:=⟨_,rfl⟩
       have hwf:(if(if k=0 then decide (y<x)else decide (y≤x))=true then 1 else 0)=x1:=by rw[←HX1.out];unfold bump1F wrapF;show _=if h.k=6∧ks.length=2∧(if k=0 then decide (strengthF h2.k h2.o<strengthF h.k h.o)else decide (strengthF h2.k h2.o≤strengthF h.k h.o))=true then 1 else 0;rw[hx,hy];simp only[hpp.1,hpp.2,true_and]
       have S1:=hid (fun W=>dstrength_at h ks.length W);have S2:=hid (fun W=>dstrength_at h2 ks2.length W);rw[hx]at S1;rw[hy]at S2;unfold arr at S1 S2;have hwr:IntKind.i64.wrap ((v:Int)+1)=((v+1:Nat):Int):=by have h1:=HS1.out;rw[IntKind.wrap_i64];omega
       have hn2:=hpp.2;have h20:(0:Int)<(ks.length:Int):=by omega
       have h21:(1:Int)<(ks.length:Int):=by omega
       by_cases hk0:k=0
       ·have he0:((k:Int)==0)=true:=by simp;omega
        have hix0:∀W,(Instr.indexAt 25 (.slice h.ka ks.length h.kc) (.int .i64 0)).run Tryz.prog W=.ok (.pointer (some ⟨b,o,none⟩)) W:=fun W=>by have:=index_kid h.ka ks.length h.kc 0 b off HA.out (by omega) W;rw[show off+0*13=o by rw[←HHO.out,hk0]]at this;exact this
        have he1:((k:Int)==1)=false:=by simp;omega
        rw[if_pos hk0]at hwf;clear HA HHO HP hpp hx hy hk0 hn2 HX1 HX2 HKS HKK HTR HNB HC0 HZ HS1 HB0 HK HBF HBK6 HS;by_cases hq:y<x
        ·obtain rfl:1=x1:=by rw[if_pos (decide_eq_true hq)]at hwf;exact hwf
         clear hwf;go_upto_region 9 with fail;refine wp_region_held_drew (S:=(fun W=>DS w6 w.heap.size b o h h2 ks.length ks2.length W)) (by kernel_rfl) (by exact HD.out.start) (fun hHeld=>?_);refine wpAnyH_take (i:=0) (oi:={dst:=some 36,op:=Op.move (Operand.tmp 4),type:=3,pos:="ref.go:137",after:=#[],guard:=none}) (v:=?vva0) rfl (by kernel_rfl) (by kernel_rfl) (by kernel_rfl) (fun _ _ _ h=>h) (Or.inl ⟨by rfl,?hya0⟩) (by assumption) ?morea0;case hya0=>(intro w' hSw;(try dsimp only at hSw);go_simp;try with_reducible rfl)
         try simp only[Act.put,List.setIfInBounds_toArray,List.set_cons_zero,List.set_cons_succ]
         refine wpAnyH_take (i:=1) (oi:={dst:=some 37,op:=Op.binOp BinOp.eql 3 (Operand.tmp 36) (Operand.const (Value.int IntKind.i64 0)) 3,type:=4,pos:="ref.go:137",after:=#[{on:=0,ground:=Ground.data}],guard:=none}) (v:=?vva1) rfl (by kernel_rfl) (by kernel_rfl) (by kernel_rfl) (fun _ _ _ h=>h) (Or.inl ⟨by rfl,?hya1⟩) (by assumption) ?morea1;case hya1=>(intro w' hSw;(try dsimp only at hSw);go_simp;try with_reducible rfl)
         try simp only[Act.put,List.setIfInBounds_toArray,List.set_cons_zero,List.set_cons_succ]
         refine wpAnyH_take (i:=2) (oi:={dst:=some 38,op:=Op.move (Operand.tmp 37),type:=4,pos:="ref.go:137",after:=#[{on:=1,ground:=Ground.data}],guard:=none}) (v:=?vva2) rfl (by kernel_rfl) (by kernel_rfl) (by kernel_rfl) (fun _ _ _ h=>h) (Or.inl ⟨by rfl,?hya2⟩) (by assumption) ?morea2;case hya2=>(intro w' hSw;(try dsimp only at hSw);go_simp;try with_reducible rfl)
         try simp only[Act.put,List.setIfInBounds_toArray,List.set_cons_zero,List.set_cons_succ]
         refine wpAnyH_take (i:=3) (oi:={dst:=some 39,op:=Op.fieldAddr 27 (Operand.tmp 1) 12,type:=0,pos:="ref.go:137",after:=#[{on:=2,ground:=Ground.guard}],guard:=some (2,true)}) (v:=?vva3) rfl (by kernel_rfl) (by kernel_rfl) (by kernel_rfl) (fun _ _ _ h=>h) (Or.inl ⟨by rfl,?hya3⟩) (by assumption) ?morea3;case hya3=>(intro w' hSw;(try dsimp only at hSw);go_simp;try with_reducible rfl)
         try simp only[Act.put,List.setIfInBounds_toArray,List.set_cons_zero,List.set_cons_succ]
         refine wpAnyH_take (i:=4) (oi:={dst:=some 40,op:=Op.load 25 (Operand.tmp 39),type:=25,pos:="ref.go:137",after:=#[{on:=3,ground:=Ground.data},{on:=2,ground:=Ground.guard}],guard:=some (2,true)}) (v:=?vva4) rfl (by kernel_rfl) (by kernel_rfl) (by kernel_rfl) (fun _ _ _ h=>h) (Or.inl ⟨by rfl,?hya4⟩) (by assumption) ?morea4;case hya4=>(intro w' hSw;(try dsimp only at hSw);go_simp;try with_reducible rfl)
         try simp only[Act.put,List.setIfInBounds_toArray,List.set_cons_zero,List.set_cons_succ]
         refine wpAnyH_take (i:=5) (oi:={dst:=some 41,op:=Op.indexAddr 25 (Operand.tmp 40) (Operand.const (Value.int IntKind.i64 0)),type:=0,pos:="ref.go:137",after:=#[{on:=4,ground:=Ground.data},{on:=2,ground:=Ground.guard}],guard:=some (2,true)}) (v:=?vva5) rfl (by kernel_rfl) (by kernel_rfl) (by kernel_rfl) (fun _ _ _ h=>h) (Or.inl ⟨by rfl,?hya5⟩) (by assumption) ?morea5;case hya5=>(intro w' hSw;(try dsimp only at hSw);go_simp;try with_reducible rfl)
         try simp only[Act.put,List.setIfInBounds_toArray,List.set_cons_zero,List.set_cons_succ]
         refine wpAnyH_take (i:=6) (oi:={dst:=some 42,op:=Op.load 27 (Operand.tmp 41),type:=27,pos:="ref.go:137",after:=#[{on:=5,ground:=Ground.data},{on:=2,ground:=Ground.guard}],guard:=some (2,true)}) (v:=?vva6) rfl (by kernel_rfl) (by kernel_rfl) (by kernel_rfl) (fun _ _ _ h=>h) (Or.inl ⟨by rfl,?hya6⟩) (by assumption) ?morea6;case hya6=>(intro w' hSw;(try dsimp only at hSw);go_simp;try with_reducible rfl)
         try simp only[Act.put,List.setIfInBounds_toArray,List.set_cons_zero,List.set_cons_succ]
         refine wpAnyH_take (i:=8) (oi:={dst:=some 44,op:=Op.load 27 (Operand.tmp 1),type:=27,pos:="ref.go:137",after:=#[{on:=2,ground:=Ground.guard}],guard:=some (2,true)}) (v:=?vva8) rfl (by kernel_rfl) (by kernel_rfl) (by kernel_rfl) (fun _ _ _ h=>h) (Or.inl ⟨by rfl,?hya8⟩) (by assumption) ?morea8;case hya8=>(intro w' hSw;(try dsimp only at hSw);go_simp;try with_reducible rfl)
         try simp only[Act.put,List.setIfInBounds_toArray,List.set_cons_zero,List.set_cons_succ]
         refine wpAnyH_ready (rs:=[7]) (by kernel_rfl) (by simp) (AllReadyH.cons (o:={dst:=some 43,op:=Op.call {callee:=Callee.value (Operand.func 29),args:=#[Operand.tmp 42],argTypes:=#[27]},type:=3,pos:="ref.go:137",after:=#[{on:=6,ground:=Ground.data},{on:=2,ground:=Ground.chain},{on:=2,ground:=Ground.guard}],guard:=some (2,true)}) rfl (fun K hK=>?_) AllReadyH.nil)
         go_simp
         go_at_call 29
         refine(S2.out _).mono ?_;rintro e wn⟨rfl,hb⟩;have HDn7:=hid ((HD.out.start).step hb hlt1 hlt2);clear hb;go_wp2_with fail;refine hK.out _ _ (by with_reducible exact HDn7.out) (fun hHeld=>?_);clear hK K;try simp only[Act.put,List.setIfInBounds_toArray,List.set_cons_zero,List.set_cons_succ]
         refine wpAnyH_ready (rs:=[9]) (by kernel_rfl) (by simp) (AllReadyH.cons (o:={dst:=some 45,op:=Op.call {callee:=Callee.value (Operand.func 29),args:=#[Operand.tmp 44],argTypes:=#[27]},type:=3,pos:="ref.go:137",after:=#[{on:=8,ground:=Ground.data},{on:=7,ground:=Ground.chain},{on:=2,ground:=Ground.guard}],guard:=some (2,true)}) rfl (fun K hK=>?_) AllReadyH.nil)
         go_simp
         go_at_call 29
         refine(S1.out _).mono ?_;rintro e wn⟨rfl,hb⟩;have HDn9:=hid ((HDn7.out).step hb hlt1 hlt2);clear hb;go_wp2_with fail;refine hK.out _ _ (by with_reducible exact HDn9.out) (fun hHeld=>?_);clear hK K;try simp only[Act.put,List.setIfInBounds_toArray,List.set_cons_zero,List.set_cons_succ]
         refine wpAnyH_take (i:=10) (oi:={dst:=some 46,op:=Op.binOp BinOp.lss 3 (Operand.tmp 43) (Operand.tmp 45) 3,type:=4,pos:="ref.go:137",after:=#[{on:=7,ground:=Ground.data},{on:=9,ground:=Ground.data},{on:=2,ground:=Ground.guard}],guard:=some (2,true)}) (v:=?vva10) rfl (by kernel_rfl) (by kernel_rfl) (by kernel_rfl) (fun _ _ _ h=>h) (Or.inl ⟨by rfl,?hya10⟩) (by assumption) ?morea10;case hya10=>(intro w' hSw;(try dsimp only at hSw);go_simp;try with_reducible rfl)
         try simp only[Act.put,List.setIfInBounds_toArray,List.set_cons_zero,List.set_cons_succ]
         refine wpAnyH_take (i:=11) (oi:={dst:=some 47,op:=Op.pick (Operand.tmp 38) (Operand.tmp 46) (Operand.const (Value.bool false)),type:=4,pos:="ref.go:137",after:=#[{on:=2,ground:=Ground.data},{on:=10,ground:=Ground.data}],guard:=none}) (v:=?vva11) rfl (by kernel_rfl) (by kernel_rfl) (by kernel_rfl) (fun _ _ _ h=>h) (Or.inl ⟨by rfl,?hya11⟩) (by assumption) ?morea11;case hya11=>(intro w' hSw;(try dsimp only at hSw);go_simp;try with_reducible rfl)
         try simp only[Act.put,List.setIfInBounds_toArray,List.set_cons_zero,List.set_cons_succ]
         refine wpAnyH_take (i:=12) (oi:={dst:=some 48,op:=Op.move (Operand.tmp 47),type:=4,pos:="ref.go:137",after:=#[{on:=11,ground:=Ground.data},{on:=9,ground:=Ground.chain}],guard:=none}) (v:=?vva12) rfl (by kernel_rfl) (by kernel_rfl) (by kernel_rfl) (fun _ _ _ h=>h) (Or.inl ⟨by rfl,?hya12⟩) (by assumption) ?morea12;case hya12=>(intro w' hSw;(try dsimp only at hSw);go_simp;try with_reducible rfl)
         try simp only[Act.put,List.setIfInBounds_toArray,List.set_cons_zero,List.set_cons_succ]
         refine wpAnyH_take (i:=13) (oi:={dst:=some 49,op:=Op.move (Operand.tmp 4),type:=3,pos:="ref.go:137",after:=#[{on:=12,ground:=Ground.guard}],guard:=some (12,false)}) (v:=undef) rfl (by kernel_rfl) (by kernel_rfl) (by kernel_rfl) (fun _ _ _ h=>h) (Or.inr ⟨by rfl,rfl⟩) (by assumption) ?_;try simp only[Act.put,List.setIfInBounds_toArray,List.set_cons_zero,List.set_cons_succ]
         refine wpAnyH_take (i:=14) (oi:={dst:=some 50,op:=Op.binOp BinOp.eql 3 (Operand.tmp 49) (Operand.const (Value.int IntKind.i64 1)) 3,type:=4,pos:="ref.go:137",after:=#[{on:=13,ground:=Ground.data},{on:=12,ground:=Ground.guard}],guard:=some (12,false)}) (v:=undef) rfl (by kernel_rfl) (by kernel_rfl) (by kernel_rfl) (fun _ _ _ h=>h) (Or.inr ⟨by rfl,rfl⟩) (by assumption) ?_;try simp only[Act.put,List.setIfInBounds_toArray,List.set_cons_zero,List.set_cons_succ]
         refine wpAnyH_take (i:=15) (oi:={dst:=some 51,op:=Op.move (Operand.tmp 50),type:=4,pos:="ref.go:137",after:=#[{on:=14,ground:=Ground.data},{on:=12,ground:=Ground.chain},{on:=12,ground:=Ground.guard}],guard:=some (12,false)}) (v:=undef) rfl (by kernel_rfl) (by kernel_rfl) (by kernel_rfl) (fun _ _ _ h=>h) (Or.inr ⟨by rfl,rfl⟩) (by assumption) ?_;try simp only[Act.put,List.setIfInBounds_toArray,List.set_cons_zero,List.set_cons_succ]
         refine wpAnyH_take (i:=16) (oi:={dst:=some 52,op:=Op.fieldAddr 27 (Operand.tmp 1) 12,type:=0,pos:="ref.go:137",after:=#[{on:=15,ground:=Ground.guard}],guard:=some (15,true)}) (v:=undef) rfl (by kernel_rfl) (by kernel_rfl) (by kernel_rfl) (fun _ _ _ h=>h) (Or.inr ⟨by rfl,rfl⟩) (by assumption) ?_;try simp only[Act.put,List.setIfInBounds_toArray,List.set_cons_zero,List.set_cons_succ]
         refine wpAnyH_take (i:=17) (oi:={dst:=some 53,op:=Op.load 25 (Operand.tmp 52),type:=25,pos:="ref.go:137",after:=#[{on:=16,ground:=Ground.data},{on:=15,ground:=Ground.guard}],guard:=some (15,true)}) (v:=undef) rfl (by kernel_rfl) (by kernel_rfl) (by kernel_rfl) (fun _ _ _ h=>h) (Or.inr ⟨by rfl,rfl⟩) (by assumption) ?_;try simp only[Act.put,List.setIfInBounds_toArray,List.set_cons_zero,List.set_cons_succ]
         refine wpAnyH_take (i:=18) (oi:={dst:=some 54,op:=Op.indexAddr 25 (Operand.tmp 53) (Operand.const (Value.int IntKind.i64 1)),type:=0,pos:="ref.go:137",after:=#[{on:=17,ground:=Ground.data},{on:=15,ground:=Ground.guard}],guard:=some (15,true)}) (v:=undef) rfl (by kernel_rfl) (by kernel_rfl) (by kernel_rfl) (fun _ _ _ h=>h) (Or.inr ⟨by rfl,rfl⟩) (by assumption) ?_;try simp only[Act.put,List.setIfInBounds_toArray,List.set_cons_zero,List.set_cons_succ]
         refine wpAnyH_take (i:=19) (oi:={dst:=some 55,op:=Op.load 27 (Operand.tmp 54),type:=27,pos:="ref.go:137",after:=#[{on:=18,ground:=Ground.data},{on:=15,ground:=Ground.guard}],guard:=some (15,true)}) (v:=undef) rfl (by kernel_rfl) (by kernel_rfl) (by kernel_rfl) (fun _ _ _ h=>h) (Or.inr ⟨by rfl,rfl⟩) (by assumption) ?_;try simp only[Act.put,List.setIfInBounds_toArray,List.set_cons_zero,List.set_cons_succ]
         refine wpAnyH_take (i:=21) (oi:={dst:=some 57,op:=Op.load 27 (Operand.tmp 1),type:=27,pos:="ref.go:137",after:=#[{on:=15,ground:=Ground.guard}],guard:=some (15,true)}) (v:=undef) rfl (by kernel_rfl) (by kernel_rfl) (by kernel_rfl) (fun _ _ _ h=>h) (Or.inr ⟨by rfl,rfl⟩) (by assumption) ?_;try simp only[Act.put,List.setIfInBounds_toArray,List.set_cons_zero,List.set_cons_succ]
         refine wpAnyH_take (i:=20) (oi:={dst:=some 56,op:=Op.call {callee:=Callee.value (Operand.func 29),args:=#[Operand.tmp 55],argTypes:=#[27]},type:=3,pos:="ref.go:137",after:=#[{on:=19,ground:=Ground.data},{on:=15,ground:=Ground.chain},{on:=15,ground:=Ground.guard}],guard:=some (15,true)}) (v:=undef) rfl (by kernel_rfl) (by kernel_rfl) (by kernel_rfl) (fun _ _ _ h=>h) (Or.inr ⟨by rfl,rfl⟩) (by assumption) ?_;try simp only[Act.put,List.setIfInBounds_toArray,List.set_cons_zero,List.set_cons_succ]
         refine wpAnyH_take (i:=22) (oi:={dst:=some 58,op:=Op.call {callee:=Callee.value (Operand.func 29),args:=#[Operand.tmp 57],argTypes:=#[27]},type:=3,pos:="ref.go:137",after:=#[{on:=21,ground:=Ground.data},{on:=20,ground:=Ground.chain},{on:=15,ground:=Ground.guard}],guard:=some (15,true)}) (v:=undef) rfl (by kernel_rfl) (by kernel_rfl) (by kernel_rfl) (fun _ _ _ h=>h) (Or.inr ⟨by rfl,rfl⟩) (by assumption) ?_;try simp only[Act.put,List.setIfInBounds_toArray,List.set_cons_zero,List.set_cons_succ]
         refine wpAnyH_take (i:=23) (oi:={dst:=some 59,op:=Op.binOp BinOp.leq 3 (Operand.tmp 56) (Operand.tmp 58) 3,type:=4,pos:="ref.go:137",after:=#[{on:=20,ground:=Ground.data},{on:=22,ground:=Ground.data},{on:=15,ground:=Ground.guard}],guard:=some (15,true)}) (v:=undef) rfl (by kernel_rfl) (by kernel_rfl) (by kernel_rfl) (fun _ _ _ h=>h) (Or.inr ⟨by rfl,rfl⟩) (by assumption) ?_;try simp only[Act.put,List.setIfInBounds_toArray,List.set_cons_zero,List.set_cons_succ]
         refine wpAnyH_take (i:=24) (oi:={dst:=some 60,op:=Op.pick (Operand.tmp 51) (Operand.tmp 59) (Operand.const (Value.bool false)),type:=4,pos:="ref.go:137",after:=#[{on:=15,ground:=Ground.data},{on:=23,ground:=Ground.data},{on:=12,ground:=Ground.guard}],guard:=some (12,false)}) (v:=undef) rfl (by kernel_rfl) (by kernel_rfl) (by kernel_rfl) (fun _ _ _ h=>h) (Or.inr ⟨by rfl,rfl⟩) (by assumption) ?_;try simp only[Act.put,List.setIfInBounds_toArray,List.set_cons_zero,List.set_cons_succ]
         refine wpAnyH_take (i:=25) (oi:={dst:=some 61,op:=Op.pick (Operand.tmp 48) (Operand.const (Value.bool true)) (Operand.tmp 60),type:=4,pos:="ref.go:137",after:=#[{on:=12,ground:=Ground.data},{on:=24,ground:=Ground.data}],guard:=none}) (v:=?vva25) rfl (by kernel_rfl) (by kernel_rfl) (by kernel_rfl) (fun _ _ _ h=>h) (Or.inl ⟨by rfl,?hya25⟩) (by assumption) ?morea25;case hya25=>(intro w' hSw;(try dsimp only at hSw);go_simp;try with_reducible rfl)
         try simp only[Act.put,List.setIfInBounds_toArray,List.set_cons_zero,List.set_cons_succ]
         refine wpAnyH_done (by kernel_rfl) ?_ _;go_wp2_with fail
         go_meet
         exact⟨rfl,HDn9.out.2⟩
        ·obtain rfl:0=x1:=by rw[if_neg (by rw[decide_eq_true_eq];exact hq)]at hwf;exact hwf
         have hqd:decide (y<x)=false:=decide_eq_false hq;clear hwf hq;go_upto_region 9 with fail;refine wp_region_held_drew (S:=(fun W=>DS w6 w.heap.size b o h h2 ks.length ks2.length W)) (by kernel_rfl) (by exact HD.out.start) (fun hHeld=>?_);refine wpAnyH_take (i:=0) (oi:={dst:=some 36,op:=Op.move (Operand.tmp 4),type:=3,pos:="ref.go:137",after:=#[],guard:=none}) (v:=?vvb0) rfl (by kernel_rfl) (by kernel_rfl) (by kernel_rfl) (fun _ _ _ h=>h) (Or.inl ⟨by rfl,?hyb0⟩) (by assumption) ?moreb0;case hyb0=>(intro w' hSw;(try dsimp only at hSw);go_simp;try with_reducible rfl)
         try simp only[Act.put,List.setIfInBounds_toArray,List.set_cons_zero,List.set_cons_succ]
         refine wpAnyH_take (i:=1) (oi:={dst:=some 37,op:=Op.binOp BinOp.eql 3 (Operand.tmp 36) (Operand.const (Value.int IntKind.i64 0)) 3,type:=4,pos:="ref.go:137",after:=#[{on:=0,ground:=Ground.data}],guard:=none}) (v:=?vvb1) rfl (by kernel_rfl) (by kernel_rfl) (by kernel_rfl) (fun _ _ _ h=>h) (Or.inl ⟨by rfl,?hyb1⟩) (by assumption) ?moreb1;case hyb1=>(intro w' hSw;(try dsimp only at hSw);go_simp;try with_reducible rfl)
         try simp only[Act.put,List.setIfInBounds_toArray,List.set_cons_zero,List.set_cons_succ]
         refine wpAnyH_take (i:=2) (oi:={dst:=some 38,op:=Op.move (Operand.tmp 37),type:=4,pos:="ref.go:137",after:=#[{on:=1,ground:=Ground.data}],guard:=none}) (v:=?vvb2) rfl (by kernel_rfl) (by kernel_rfl) (by kernel_rfl) (fun _ _ _ h=>h) (Or.inl ⟨by rfl,?hyb2⟩) (by assumption) ?moreb2;case hyb2=>(intro w' hSw;(try dsimp only at hSw);go_simp;try with_reducible rfl)
         try simp only[Act.put,List.setIfInBounds_toArray,List.set_cons_zero,List.set_cons_succ]
         refine wpAnyH_take (i:=3) (oi:={dst:=some 39,op:=Op.fieldAddr 27 (Operand.tmp 1) 12,type:=0,pos:="ref.go:137",after:=#[{on:=2,ground:=Ground.guard}],guard:=some (2,true)}) (v:=?vvb3) rfl (by kernel_rfl) (by kernel_rfl) (by kernel_rfl) (fun _ _ _ h=>h) (Or.inl ⟨by rfl,?hyb3⟩) (by assumption) ?moreb3;case hyb3=>(intro w' hSw;(try dsimp only at hSw);go_simp;try with_reducible rfl)
         try simp only[Act.put,List.setIfInBounds_toArray,List.set_cons_zero,List.set_cons_succ]
         refine wpAnyH_take (i:=4) (oi:={dst:=some 40,op:=Op.load 25 (Operand.tmp 39),type:=25,pos:="ref.go:137",after:=#[{on:=3,ground:=Ground.data},{on:=2,ground:=Ground.guard}],guard:=some (2,true)}) (v:=?vvb4) rfl (by kernel_rfl) (by kernel_rfl) (by kernel_rfl) (fun _ _ _ h=>h) (Or.inl ⟨by rfl,?hyb4⟩) (by assumption) ?moreb4;case hyb4=>(intro w' hSw;(try dsimp only at hSw);go_simp;try with_reducible rfl)
         try simp only[Act.put,List.setIfInBounds_toArray,List.set_cons_zero,List.set_cons_succ]
         refine wpAnyH_take (i:=5) (oi:={dst:=some 41,op:=Op.indexAddr 25 (Operand.tmp 40) (Operand.const (Value.int IntKind.i64 0)),type:=0,pos:="ref.go:137",after:=#[{on:=4,ground:=Ground.data},{on:=2,ground:=Ground.guard}],guard:=some (2,true)}) (v:=?vvb5) rfl (by kernel_rfl) (by kernel_rfl) (by kernel_rfl) (fun _ _ _ h=>h) (Or.inl ⟨by rfl,?hyb5⟩) (by assumption) ?moreb5;case hyb5=>(intro w' hSw;(try dsimp only at hSw);go_simp;try with_reducible rfl)
         try simp only[Act.put,List.setIfInBounds_toArray,List.set_cons_zero,List.set_cons_succ]
         refine wpAnyH_take (i:=6) (oi:={dst:=some 42,op:=Op.load 27 (Operand.tmp 41),type:=27,pos:="ref.go:137",after:=#[{on:=5,ground:=Ground.data},{on:=2,ground:=Ground.guard}],guard:=some (2,true)}) (v:=?vvb6) rfl (by kernel_rfl) (by kernel_rfl) (by kernel_rfl) (fun _ _ _ h=>h) (Or.inl ⟨by rfl,?hyb6⟩) (by assumption) ?moreb6;case hyb6=>(intro w' hSw;(try dsimp only at hSw);go_simp;try with_reducible rfl)
         try simp only[Act.put,List.setIfInBounds_toArray,List.set_cons_zero,List.set_cons_succ]
         refine wpAnyH_take (i:=8) (oi:={dst:=some 44,op:=Op.load 27 (Operand.tmp 1),type:=27,pos:="ref.go:137",after:=#[{on:=2,ground:=Ground.guard}],guard:=some (2,true)}) (v:=?vvb8) rfl (by kernel_rfl) (by kernel_rfl) (by kernel_rfl) (fun _ _ _ h=>h) (Or.inl ⟨by rfl,?hyb8⟩) (by assumption) ?moreb8;case hyb8=>(intro w' hSw;(try dsimp only at hSw);go_simp;try with_reducible rfl)
         try simp only[Act.put,List.setIfInBounds_toArray,List.set_cons_zero,List.set_cons_succ]
         refine wpAnyH_ready (rs:=[7]) (by kernel_rfl) (by simp) (AllReadyH.cons (o:={dst:=some 43,op:=Op.call {callee:=Callee.value (Operand.func 29),args:=#[Operand.tmp 42],argTypes:=#[27]},type:=3,pos:="ref.go:137",after:=#[{on:=6,ground:=Ground.data},{on:=2,ground:=Ground.chain},{on:=2,ground:=Ground.guard}],guard:=some (2,true)}) rfl (fun K hK=>?_) AllReadyH.nil)
         go_simp
         go_at_call 29
         refine(S2.out _).mono ?_;rintro e wn⟨rfl,hb⟩;have HDn7:=hid ((HD.out.start).step hb hlt1 hlt2);clear hb;go_wp2_with fail;refine hK.out _ _ (by with_reducible exact HDn7.out) (fun hHeld=>?_);clear hK K;try simp only[Act.put,List.setIfInBounds_toArray,List.set_cons_zero,List.set_cons_succ]
         refine wpAnyH_ready (rs:=[9]) (by kernel_rfl) (by simp) (AllReadyH.cons (o:={dst:=some 45,op:=Op.call {callee:=Callee.value (Operand.func 29),args:=#[Operand.tmp 44],argTypes:=#[27]},type:=3,pos:="ref.go:137",after:=#[{on:=8,ground:=Ground.data},{on:=7,ground:=Ground.chain},{on:=2,ground:=Ground.guard}],guard:=some (2,true)}) rfl (fun K hK=>?_) AllReadyH.nil)
         go_simp
         go_at_call 29
         refine(S1.out _).mono ?_;rintro e wn⟨rfl,hb⟩;have HDn9:=hid ((HDn7.out).step hb hlt1 hlt2);clear hb;go_wp2_with fail;refine hK.out _ _ (by with_reducible exact HDn9.out) (fun hHeld=>?_);clear hK K;try simp only[Act.put,List.setIfInBounds_toArray,List.set_cons_zero,List.set_cons_succ]
         refine wpAnyH_take (i:=10) (oi:={dst:=some 46,op:=Op.binOp BinOp.lss 3 (Operand.tmp 43) (Operand.tmp 45) 3,type:=4,pos:="ref.go:137",after:=#[{on:=7,ground:=Ground.data},{on:=9,ground:=Ground.data},{on:=2,ground:=Ground.guard}],guard:=some (2,true)}) (v:=?vvb10) rfl (by kernel_rfl) (by kernel_rfl) (by kernel_rfl) (fun _ _ _ h=>h) (Or.inl ⟨by rfl,?hyb10⟩) (by assumption) ?moreb10;case hyb10=>(intro w' hSw;(try dsimp only at hSw);go_simp;try with_reducible rfl)
         try simp only[Act.put,List.setIfInBounds_toArray,List.set_cons_zero,List.set_cons_succ]
         refine wpAnyH_take (i:=11) (oi:={dst:=some 47,op:=Op.pick (Operand.tmp 38) (Operand.tmp 46) (Operand.const (Value.bool false)),type:=4,pos:="ref.go:137",after:=#[{on:=2,ground:=Ground.data},{on:=10,ground:=Ground.data}],guard:=none}) (v:=?vvb11) rfl (by kernel_rfl) (by kernel_rfl) (by kernel_rfl) (fun _ _ _ h=>h) (Or.inl ⟨by rfl,?hyb11⟩) (by assumption) ?moreb11;case hyb11=>(intro w' hSw;(try dsimp only at hSw);go_simp;try with_reducible rfl)
         try simp only[Act.put,List.setIfInBounds_toArray,List.set_cons_zero,List.set_cons_succ]
         refine wpAnyH_take (i:=12) (oi:={dst:=some 48,op:=Op.move (Operand.tmp 47),type:=4,pos:="ref.go:137",after:=#[{on:=11,ground:=Ground.data},{on:=9,ground:=Ground.chain}],guard:=none}) (v:=?vvb12) rfl (by kernel_rfl) (by kernel_rfl) (by kernel_rfl) (fun _ _ _ h=>h) (Or.inl ⟨by rfl,?hyb12⟩) (by assumption) ?moreb12;case hyb12=>(intro w' hSw;(try dsimp only at hSw);go_simp;try with_reducible rfl)
         try simp only[Act.put,List.setIfInBounds_toArray,List.set_cons_zero,List.set_cons_succ]
         refine wpAnyH_take (i:=13) (oi:={dst:=some 49,op:=Op.move (Operand.tmp 4),type:=3,pos:="ref.go:137",after:=#[{on:=12,ground:=Ground.guard}],guard:=some (12,false)}) (v:=?vvb13) rfl (by kernel_rfl) (by kernel_rfl) (by kernel_rfl) (fun _ _ _ h=>h) (Or.inl ⟨by rfl,?hyb13⟩) (by assumption) ?moreb13;case hyb13=>(intro w' hSw;(try dsimp only at hSw);go_simp;try with_reducible rfl)
         try simp only[Act.put,List.setIfInBounds_toArray,List.set_cons_zero,List.set_cons_succ]
         refine wpAnyH_take (i:=14) (oi:={dst:=some 50,op:=Op.binOp BinOp.eql 3 (Operand.tmp 49) (Operand.const (Value.int IntKind.i64 1)) 3,type:=4,pos:="ref.go:137",after:=#[{on:=13,ground:=Ground.data},{on:=12,ground:=Ground.guard}],guard:=some (12,false)}) (v:=?vvb14) rfl (by kernel_rfl) (by kernel_rfl) (by kernel_rfl) (fun _ _ _ h=>h) (Or.inl ⟨by rfl,?hyb14⟩) (by assumption) ?moreb14;case hyb14=>(intro w' hSw;(try dsimp only at hSw);go_simp;try with_reducible rfl)
         try simp only[Act.put,List.setIfInBounds_toArray,List.set_cons_zero,List.set_cons_succ]
         refine wpAnyH_take (i:=15) (oi:={dst:=some 51,op:=Op.move (Operand.tmp 50),type:=4,pos:="ref.go:137",after:=#[{on:=14,ground:=Ground.data},{on:=12,ground:=Ground.chain},{on:=12,ground:=Ground.guard}],guard:=some (12,false)}) (v:=?vvb15) rfl (by kernel_rfl) (by kernel_rfl) (by kernel_rfl) (fun _ _ _ h=>h) (Or.inl ⟨by rfl,?hyb15⟩) (by assumption) ?moreb15;case hyb15=>(intro w' hSw;(try dsimp only at hSw);go_simp;try with_reducible rfl)
         try simp only[Act.put,List.setIfInBounds_toArray,List.set_cons_zero,List.set_cons_succ]
         refine wpAnyH_take (i:=16) (oi:={dst:=some 52,op:=Op.fieldAddr 27 (Operand.tmp 1) 12,type:=0,pos:="ref.go:137",after:=#[{on:=15,ground:=Ground.guard}],guard:=some (15,true)}) (v:=undef) rfl (by kernel_rfl) (by kernel_rfl) (by kernel_rfl) (fun _ _ _ h=>h) (Or.inr ⟨by rfl,rfl⟩) (by assumption) ?_;try simp only[Act.put,List.setIfInBounds_toArray,List.set_cons_zero,List.set_cons_succ]
         refine wpAnyH_take (i:=17) (oi:={dst:=some 53,op:=Op.load 25 (Operand.tmp 52),type:=25,pos:="ref.go:137",after:=#[{on:=16,ground:=Ground.data},{on:=15,ground:=Ground.guard}],guard:=some (15,true)}) (v:=undef) rfl (by kernel_rfl) (by kernel_rfl) (by kernel_rfl) (fun _ _ _ h=>h) (Or.inr ⟨by rfl,rfl⟩) (by assumption) ?_;try simp only[Act.put,List.setIfInBounds_toArray,List.set_cons_zero,List.set_cons_succ]
         refine wpAnyH_take (i:=18) (oi:={dst:=some 54,op:=Op.indexAddr 25 (Operand.tmp 53) (Operand.const (Value.int IntKind.i64 1)),type:=0,pos:="ref.go:137",after:=#[{on:=17,ground:=Ground.data},{on:=15,ground:=Ground.guard}],guard:=some (15,true)}) (v:=undef) rfl (by kernel_rfl) (by kernel_rfl) (by kernel_rfl) (fun _ _ _ h=>h) (Or.inr ⟨by rfl,rfl⟩) (by assumption) ?_;try simp only[Act.put,List.setIfInBounds_toArray,List.set_cons_zero,List.set_cons_succ]
         refine wpAnyH_take (i:=19) (oi:={dst:=some 55,op:=Op.load 27 (Operand.tmp 54),type:=27,pos:="ref.go:137",after:=#[{on:=18,ground:=Ground.data},{on:=15,ground:=Ground.guard}],guard:=some (15,true)}) (v:=undef) rfl (by kernel_rfl) (by kernel_rfl) (by kernel_rfl) (fun _ _ _ h=>h) (Or.inr ⟨by rfl,rfl⟩) (by assumption) ?_;try simp only[Act.put,List.setIfInBounds_toArray,List.set_cons_zero,List.set_cons_succ]
         refine wpAnyH_take (i:=21) (oi:={dst:=some 57,op:=Op.load 27 (Operand.tmp 1),type:=27,pos:="ref.go:137",after:=#[{on:=15,ground:=Ground.guard}],guard:=some (15,true)}) (v:=undef) rfl (by kernel_rfl) (by kernel_rfl) (by kernel_rfl) (fun _ _ _ h=>h) (Or.inr ⟨by rfl,rfl⟩) (by assumption) ?_;try simp only[Act.put,List.setIfInBounds_toArray,List.set_cons_zero,List.set_cons_succ]
         refine wpAnyH_take (i:=20) (oi:={dst:=some 56,op:=Op.call {callee:=Callee.value (Operand.func 29),args:=#[Operand.tmp 55],argTypes:=#[27]},type:=3,pos:="ref.go:137",after:=#[{on:=19,ground:=Ground.data},{on:=15,ground:=Ground.chain},{on:=15,ground:=Ground.guard}],guard:=some (15,true)}) (v:=undef) rfl (by kernel_rfl) (by kernel_rfl) (by kernel_rfl) (fun _ _ _ h=>h) (Or.inr ⟨by rfl,rfl⟩) (by assumption) ?_;try simp only[Act.put,List.setIfInBounds_toArray,List.set_cons_zero,List.set_cons_succ]
         refine wpAnyH_take (i:=22) (oi:={dst:=some 58,op:=Op.call {callee:=Callee.value (Operand.func 29),args:=#[Operand.tmp 57],argTypes:=#[27]},type:=3,pos:="ref.go:137",after:=#[{on:=21,ground:=Ground.data},{on:=20,ground:=Ground.chain},{on:=15,ground:=Ground.guard}],guard:=some (15,true)}) (v:=undef) rfl (by kernel_rfl) (by kernel_rfl) (by kernel_rfl) (fun _ _ _ h=>h) (Or.inr ⟨by rfl,rfl⟩) (by assumption) ?_;try simp only[Act.put,List.setIfInBounds_toArray,List.set_cons_zero,List.set_cons_succ]
         refine wpAnyH_take (i:=23) (oi:={dst:=some 59,op:=Op.binOp BinOp.leq 3 (Operand.tmp 56) (Operand.tmp 58) 3,type:=4,pos:="ref.go:137",after:=#[{on:=20,ground:=Ground.data},{on:=22,ground:=Ground.data},{on:=15,ground:=Ground.guard}],guard:=some (15,true)}) (v:=undef) rfl (by kernel_rfl) (by kernel_rfl) (by kernel_rfl) (fun _ _ _ h=>h) (Or.inr ⟨by rfl,rfl⟩) (by assumption) ?_;try simp only[Act.put,List.setIfInBounds_toArray,List.set_cons_zero,List.set_cons_succ]
         refine wpAnyH_take (i:=24) (oi:={dst:=some 60,op:=Op.pick (Operand.tmp 51) (Operand.tmp 59) (Operand.const (Value.bool false)),type:=4,pos:="ref.go:137",after:=#[{on:=15,ground:=Ground.data},{on:=23,ground:=Ground.data},{on:=12,ground:=Ground.guard}],guard:=some (12,false)}) (v:=?vvb24) rfl (by kernel_rfl) (by kernel_rfl) (by kernel_rfl) (fun _ _ _ h=>h) (Or.inl ⟨by rfl,?hyb24⟩) (by assumption) ?moreb24;case hyb24=>(intro w' hSw;(try dsimp only at hSw);go_simp;try with_reducible rfl)
         try simp only[Act.put,List.setIfInBounds_toArray,List.set_cons_zero,List.set_cons_succ]
         refine wpAnyH_take (i:=25) (oi:={dst:=some 61,op:=Op.pick (Operand.tmp 48) (Operand.const (Value.bool true)) (Operand.tmp 60),type:=4,pos:="ref.go:137",after:=#[{on:=12,ground:=Ground.data},{on:=24,ground:=Ground.data}],guard:=none}) (v:=?vvb25) rfl (by kernel_rfl) (by kernel_rfl) (by kernel_rfl) (fun _ _ _ h=>h) (Or.inl ⟨by rfl,?hyb25⟩) (by assumption) ?moreb25;case hyb25=>(intro w' hSw;(try dsimp only at hSw);go_simp;try with_reducible rfl)
         try simp only[Act.put,List.setIfInBounds_toArray,List.set_cons_zero,List.set_cons_succ]
         refine wpAnyH_done (by kernel_rfl) ?_ _;go_wp2_with fail
         go_meet
         exact⟨rfl,HDn9.out.2⟩
       ·have hk1:k=1:=by omega
        have he0:((k:Int)==0)=false:=by simp;omega
        have he1:((k:Int)==1)=true:=by simp;omega
        have hix1:∀W,(Instr.indexAt 25 (.slice h.ka ks.length h.kc) (.int .i64 1)).run Tryz.prog W=.ok (.pointer (some ⟨b,o,none⟩)) W:=fun W=>by have:=index_kid h.ka ks.length h.kc 1 b off HA.out (by omega) W;rw[show off+1*13=o by rw[←HHO.out,hk1]]at this;exact this
        rw[if_neg hk0]at hwf;clear HA HHO HP hpp hx hy hk0 hk1 hn2 HX1 HX2 HKS HKK HTR HNB HC0 HZ HS1 HB0 HK HBF HBK6 HS;by_cases hq:y≤x
        ·obtain rfl:1=x1:=by rw[if_pos (decide_eq_true hq)]at hwf;exact hwf
         clear hwf;go_upto_region 9 with fail;refine wp_region_held_drew (S:=(fun W=>DS w6 w.heap.size b o h h2 ks.length ks2.length W)) (by kernel_rfl) (by exact HD.out.start) (fun hHeld=>?_);refine wpAnyH_take (i:=0) (oi:={dst:=some 36,op:=Op.move (Operand.tmp 4),type:=3,pos:="ref.go:137",after:=#[],guard:=none}) (v:=?vvc0) rfl (by kernel_rfl) (by kernel_rfl) (by kernel_rfl) (fun _ _ _ h=>h) (Or.inl ⟨by rfl,?hyc0⟩) (by assumption) ?morec0;case hyc0=>(intro w' hSw;(try dsimp only at hSw);go_simp;try with_reducible rfl)
         try simp only[Act.put,List.setIfInBounds_toArray,List.set_cons_zero,List.set_cons_succ]
         refine wpAnyH_take (i:=1) (oi:={dst:=some 37,op:=Op.binOp BinOp.eql 3 (Operand.tmp 36) (Operand.const (Value.int IntKind.i64 0)) 3,type:=4,pos:="ref.go:137",after:=#[{on:=0,ground:=Ground.data}],guard:=none}) (v:=?vvc1) rfl (by kernel_rfl) (by kernel_rfl) (by kernel_rfl) (fun _ _ _ h=>h) (Or.inl ⟨by rfl,?hyc1⟩) (by assumption) ?morec1;case hyc1=>(intro w' hSw;(try dsimp only at hSw);go_simp;try with_reducible rfl)
         try simp only[Act.put,List.setIfInBounds_toArray,List.set_cons_zero,List.set_cons_succ]
         refine wpAnyH_take (i:=2) (oi:={dst:=some 38,op:=Op.move (Operand.tmp 37),type:=4,pos:="ref.go:137",after:=#[{on:=1,ground:=Ground.data}],guard:=none}) (v:=?vvc2) rfl (by kernel_rfl) (by kernel_rfl) (by kernel_rfl) (fun _ _ _ h=>h) (Or.inl ⟨by rfl,?hyc2⟩) (by assumption) ?morec2;case hyc2=>(intro w' hSw;(try dsimp only at hSw);go_simp;try with_reducible rfl)
         try simp only[Act.put,List.setIfInBounds_toArray,List.set_cons_zero,List.set_cons_succ]
         refine wpAnyH_take (i:=3) (oi:={dst:=some 39,op:=Op.fieldAddr 27 (Operand.tmp 1) 12,type:=0,pos:="ref.go:137",after:=#[{on:=2,ground:=Ground.guard}],guard:=some (2,true)}) (v:=undef) rfl (by kernel_rfl) (by kernel_rfl) (by kernel_rfl) (fun _ _ _ h=>h) (Or.inr ⟨by rfl,rfl⟩) (by assumption) ?_;try simp only[Act.put,List.setIfInBounds_toArray,List.set_cons_zero,List.set_cons_succ]
         refine wpAnyH_take (i:=4) (oi:={dst:=some 40,op:=Op.load 25 (Operand.tmp 39),type:=25,pos:="ref.go:137",after:=#[{on:=3,ground:=Ground.data},{on:=2,ground:=Ground.guard}],guard:=some (2,true)}) (v:=undef) rfl (by kernel_rfl) (by kernel_rfl) (by kernel_rfl) (fun _ _ _ h=>h) (Or.inr ⟨by rfl,rfl⟩) (by assumption) ?_;try simp only[Act.put,List.setIfInBounds_toArray,List.set_cons_zero,List.set_cons_succ]
         refine wpAnyH_take (i:=5) (oi:={dst:=some 41,op:=Op.indexAddr 25 (Operand.tmp 40) (Operand.const (Value.int IntKind.i64 0)),type:=0,pos:="ref.go:137",after:=#[{on:=4,ground:=Ground.data},{on:=2,ground:=Ground.guard}],guard:=some (2,true)}) (v:=undef) rfl (by kernel_rfl) (by kernel_rfl) (by kernel_rfl) (fun _ _ _ h=>h) (Or.inr ⟨by rfl,rfl⟩) (by assumption) ?_;try simp only[Act.put,List.setIfInBounds_toArray,List.set_cons_zero,List.set_cons_succ]
         refine wpAnyH_take (i:=6) (oi:={dst:=some 42,op:=Op.load 27 (Operand.tmp 41),type:=27,pos:="ref.go:137",after:=#[{on:=5,ground:=Ground.data},{on:=2,ground:=Ground.guard}],guard:=some (2,true)}) (v:=undef) rfl (by kernel_rfl) (by kernel_rfl) (by kernel_rfl) (fun _ _ _ h=>h) (Or.inr ⟨by rfl,rfl⟩) (by assumption) ?_;try simp only[Act.put,List.setIfInBounds_toArray,List.set_cons_zero,List.set_cons_succ]
         refine wpAnyH_take (i:=8) (oi:={dst:=some 44,op:=Op.load 27 (Operand.tmp 1),type:=27,pos:="ref.go:137",after:=#[{on:=2,ground:=Ground.guard}],guard:=some (2,true)}) (v:=undef) rfl (by kernel_rfl) (by kernel_rfl) (by kernel_rfl) (fun _ _ _ h=>h) (Or.inr ⟨by rfl,rfl⟩) (by assumption) ?_;try simp only[Act.put,List.setIfInBounds_toArray,List.set_cons_zero,List.set_cons_succ]
         refine wpAnyH_take (i:=7) (oi:={dst:=some 43,op:=Op.call {callee:=Callee.value (Operand.func 29),args:=#[Operand.tmp 42],argTypes:=#[27]},type:=3,pos:="ref.go:137",after:=#[{on:=6,ground:=Ground.data},{on:=2,ground:=Ground.chain},{on:=2,ground:=Ground.guard}],guard:=some (2,true)}) (v:=undef) rfl (by kernel_rfl) (by kernel_rfl) (by kernel_rfl) (fun _ _ _ h=>h) (Or.inr ⟨by rfl,rfl⟩) (by assumption) ?_;try simp only[Act.put,List.setIfInBounds_toArray,List.set_cons_zero,List.set_cons_succ]
         refine wpAnyH_take (i:=9) (oi:={dst:=some 45,op:=Op.call {callee:=Callee.value (Operand.func 29),args:=#[Operand.tmp 44],argTypes:=#[27]},type:=3,pos:="ref.go:137",after:=#[{on:=8,ground:=Ground.data},{on:=7,ground:=Ground.chain},{on:=2,ground:=Ground.guard}],guard:=some (2,true)}) (v:=undef) rfl (by kernel_rfl) (by kernel_rfl) (by kernel_rfl) (fun _ _ _ h=>h) (Or.inr ⟨by rfl,rfl⟩) (by assumption) ?_;try simp only[Act.put,List.setIfInBounds_toArray,List.set_cons_zero,List.set_cons_succ]
         refine wpAnyH_take (i:=10) (oi:={dst:=some 46,op:=Op.binOp BinOp.lss 3 (Operand.tmp 43) (Operand.tmp 45) 3,type:=4,pos:="ref.go:137",after:=#[{on:=7,ground:=Ground.data},{on:=9,ground:=Ground.data},{on:=2,ground:=Ground.guard}],guard:=some (2,true)}) (v:=undef) rfl (by kernel_rfl) (by kernel_rfl) (by kernel_rfl) (fun _ _ _ h=>h) (Or.inr ⟨by rfl,rfl⟩) (by assumption) ?_;try simp only[Act.put,List.setIfInBounds_toArray,List.set_cons_zero,List.set_cons_succ]
         refine wpAnyH_take (i:=11) (oi:={dst:=some 47,op:=Op.pick (Operand.tmp 38) (Operand.tmp 46) (Operand.const (Value.bool false)),type:=4,pos:="ref.go:137",after:=#[{on:=2,ground:=Ground.data},{on:=10,ground:=Ground.data}],guard:=none}) (v:=?vvc11) rfl (by kernel_rfl) (by kernel_rfl) (by kernel_rfl) (fun _ _ _ h=>h) (Or.inl ⟨by rfl,?hyc11⟩) (by assumption) ?morec11;case hyc11=>(intro w' hSw;(try dsimp only at hSw);go_simp;try with_reducible rfl)
         try simp only[Act.put,List.setIfInBounds_toArray,List.set_cons_zero,List.set_cons_succ]
         refine wpAnyH_take (i:=12) (oi:={dst:=some 48,op:=Op.move (Operand.tmp 47),type:=4,pos:="ref.go:137",after:=#[{on:=11,ground:=Ground.data},{on:=9,ground:=Ground.chain}],guard:=none}) (v:=?vvc12) rfl (by kernel_rfl) (by kernel_rfl) (by kernel_rfl) (fun _ _ _ h=>h) (Or.inl ⟨by rfl,?hyc12⟩) (by assumption) ?morec12;case hyc12=>(intro w' hSw;(try dsimp only at hSw);go_simp;try with_reducible rfl)
         try simp only[Act.put,List.setIfInBounds_toArray,List.set_cons_zero,List.set_cons_succ]
         refine wpAnyH_take (i:=13) (oi:={dst:=some 49,op:=Op.move (Operand.tmp 4),type:=3,pos:="ref.go:137",after:=#[{on:=12,ground:=Ground.guard}],guard:=some (12,false)}) (v:=?vvc13) rfl (by kernel_rfl) (by kernel_rfl) (by kernel_rfl) (fun _ _ _ h=>h) (Or.inl ⟨by rfl,?hyc13⟩) (by assumption) ?morec13;case hyc13=>(intro w' hSw;(try dsimp only at hSw);go_simp;try with_reducible rfl)
         try simp only[Act.put,List.setIfInBounds_toArray,List.set_cons_zero,List.set_cons_succ]
         refine wpAnyH_take (i:=14) (oi:={dst:=some 50,op:=Op.binOp BinOp.eql 3 (Operand.tmp 49) (Operand.const (Value.int IntKind.i64 1)) 3,type:=4,pos:="ref.go:137",after:=#[{on:=13,ground:=Ground.data},{on:=12,ground:=Ground.guard}],guard:=some (12,false)}) (v:=?vvc14) rfl (by kernel_rfl) (by kernel_rfl) (by kernel_rfl) (fun _ _ _ h=>h) (Or.inl ⟨by rfl,?hyc14⟩) (by assumption) ?morec14;case hyc14=>(intro w' hSw;(try dsimp only at hSw);go_simp;try with_reducible rfl)
         try simp only[Act.put,List.setIfInBounds_toArray,List.set_cons_zero,List.set_cons_succ]
         refine wpAnyH_take (i:=15) (oi:={dst:=some 51,op:=Op.move (Operand.tmp 50),type:=4,pos:="ref.go:137",after:=#[{on:=14,ground:=Ground.data},{on:=12,ground:=Ground.chain},{on:=12,ground:=Ground.guard}],guard:=some (12,false)}) (v:=?vvc15) rfl (by kernel_rfl) (by kernel_rfl) (by kernel_rfl) (fun _ _ _ h=>h) (Or.inl ⟨by rfl,?hyc15⟩) (by assumption) ?morec15;case hyc15=>(intro w' hSw;(try dsimp only at hSw);go_simp;try with_reducible rfl)
         try simp only[Act.put,List.setIfInBounds_toArray,List.set_cons_zero,List.set_cons_succ]
         refine wpAnyH_take (i:=16) (oi:={dst:=some 52,op:=Op.fieldAddr 27 (Operand.tmp 1) 12,type:=0,pos:="ref.go:137",after:=#[{on:=15,ground:=Ground.guard}],guard:=some (15,true)}) (v:=?vvc16) rfl (by kernel_rfl) (by kernel_rfl) (by kernel_rfl) (fun _ _ _ h=>h) (Or.inl ⟨by rfl,?hyc16⟩) (by assumption) ?morec16;case hyc16=>(intro w' hSw;(try dsimp only at hSw);go_simp;try with_reducible rfl)
         try simp only[Act.put,List.setIfInBounds_toArray,List.set_cons_zero,List.set_cons_succ]
         refine wpAnyH_take (i:=17) (oi:={dst:=some 53,op:=Op.load 25 (Operand.tmp 52),type:=25,pos:="ref.go:137",after:=#[{on:=16,ground:=Ground.data},{on:=15,ground:=Ground.guard}],guard:=some (15,true)}) (v:=?vvc17) rfl (by kernel_rfl) (by kernel_rfl) (by kernel_rfl) (fun _ _ _ h=>h) (Or.inl ⟨by rfl,?hyc17⟩) (by assumption) ?morec17;case hyc17=>(intro w' hSw;(try dsimp only at hSw);go_simp;try with_reducible rfl)
         try simp only[Act.put,List.setIfInBounds_toArray,List.set_cons_zero,List.set_cons_succ]
         refine wpAnyH_take (i:=18) (oi:={dst:=some 54,op:=Op.indexAddr 25 (Operand.tmp 53) (Operand.const (Value.int IntKind.i64 1)),type:=0,pos:="ref.go:137",after:=#[{on:=17,ground:=Ground.data},{on:=15,ground:=Ground.guard}],guard:=some (15,true)}) (v:=?vvc18) rfl (by kernel_rfl) (by kernel_rfl) (by kernel_rfl) (fun _ _ _ h=>h) (Or.inl ⟨by rfl,?hyc18⟩) (by assumption) ?morec18;case hyc18=>(intro w' hSw;(try dsimp only at hSw);go_simp;try with_reducible rfl)
         try simp only[Act.put,List.setIfInBounds_toArray,List.set_cons_zero,List.set_cons_succ]
         refine wpAnyH_take (i:=19) (oi:={dst:=some 55,op:=Op.load 27 (Operand.tmp 54),type:=27,pos:="ref.go:137",after:=#[{on:=18,ground:=Ground.data},{on:=15,ground:=Ground.guard}],guard:=some (15,true)}) (v:=?vvc19) rfl (by kernel_rfl) (by kernel_rfl) (by kernel_rfl) (fun _ _ _ h=>h) (Or.inl ⟨by rfl,?hyc19⟩) (by assumption) ?morec19;case hyc19=>(intro w' hSw;(try dsimp only at hSw);go_simp;try with_reducible rfl)
         try simp only[Act.put,List.setIfInBounds_toArray,List.set_cons_zero,List.set_cons_succ]
         refine wpAnyH_take (i:=21) (oi:={dst:=some 57,op:=Op.load 27 (Operand.tmp 1),type:=27,pos:="ref.go:137",after:=#[{on:=15,ground:=Ground.guard}],guard:=some (15,true)}) (v:=?vvc21) rfl (by kernel_rfl) (by kernel_rfl) (by kernel_rfl) (fun _ _ _ h=>h) (Or.inl ⟨by rfl,?hyc21⟩) (by assumption) ?morec21;case hyc21=>(intro w' hSw;(try dsimp only at hSw);go_simp;try with_reducible rfl)
         try simp only[Act.put,List.setIfInBounds_toArray,List.set_cons_zero,List.set_cons_succ]
         refine wpAnyH_ready (rs:=[20]) (by kernel_rfl) (by simp) (AllReadyH.cons (o:={dst:=some 56,op:=Op.call {callee:=Callee.value (Operand.func 29),args:=#[Operand.tmp 55],argTypes:=#[27]},type:=3,pos:="ref.go:137",after:=#[{on:=19,ground:=Ground.data},{on:=15,ground:=Ground.chain},{on:=15,ground:=Ground.guard}],guard:=some (15,true)}) rfl (fun K hK=>?_) AllReadyH.nil)
         go_simp
         go_at_call 29
         refine(S2.out _).mono ?_;rintro e wn⟨rfl,hb⟩;have HDn20:=hid ((HD.out.start).step hb hlt1 hlt2);clear hb;go_wp2_with fail;refine hK.out _ _ (by with_reducible exact HDn20.out) (fun hHeld=>?_);clear hK K;try simp only[Act.put,List.setIfInBounds_toArray,List.set_cons_zero,List.set_cons_succ]
         refine wpAnyH_ready (rs:=[22]) (by kernel_rfl) (by simp) (AllReadyH.cons (o:={dst:=some 58,op:=Op.call {callee:=Callee.value (Operand.func 29),args:=#[Operand.tmp 57],argTypes:=#[27]},type:=3,pos:="ref.go:137",after:=#[{on:=21,ground:=Ground.data},{on:=20,ground:=Ground.chain},{on:=15,ground:=Ground.guard}],guard:=some (15,true)}) rfl (fun K hK=>?_) AllReadyH.nil)
         go_simp
         go_at_call 29
         refine(S1.out _).mono ?_;rintro e wn⟨rfl,hb⟩;have HDn22:=hid ((HDn20.out).step hb hlt1 hlt2);clear hb;go_wp2_with fail;refine hK.out _ _ (by with_reducible exact HDn22.out) (fun hHeld=>?_);clear hK K;try simp only[Act.put,List.setIfInBounds_toArray,List.set_cons_zero,List.set_cons_succ]
         refine wpAnyH_take (i:=23) (oi:={dst:=some 59,op:=Op.binOp BinOp.leq 3 (Operand.tmp 56) (Operand.tmp 58) 3,type:=4,pos:="ref.go:137",after:=#[{on:=20,ground:=Ground.data},{on:=22,ground:=Ground.data},{on:=15,ground:=Ground.guard}],guard:=some (15,true)}) (v:=?vvc23) rfl (by kernel_rfl) (by kernel_rfl) (by kernel_rfl) (fun _ _ _ h=>h) (Or.inl ⟨by rfl,?hyc23⟩) (by assumption) ?morec23;case hyc23=>(intro w' hSw;(try dsimp only at hSw);go_simp;try with_reducible rfl)
         try simp only[Act.put,List.setIfInBounds_toArray,List.set_cons_zero,List.set_cons_succ]
         refine wpAnyH_take (i:=24) (oi:={dst:=some 60,op:=Op.pick (Operand.tmp 51) (Operand.tmp 59) (Operand.const (Value.bool false)),type:=4,pos:="ref.go:137",after:=#[{on:=15,ground:=Ground.data},{on:=23,ground:=Ground.data},{on:=12,ground:=Ground.guard}],guard:=some (12,false)}) (v:=?vvc24) rfl (by kernel_rfl) (by kernel_rfl) (by kernel_rfl) (fun _ _ _ h=>h) (Or.inl ⟨by rfl,?hyc24⟩) (by assumption) ?morec24;case hyc24=>(intro w' hSw;(try dsimp only at hSw);go_simp;try with_reducible rfl)
         try simp only[Act.put,List.setIfInBounds_toArray,List.set_cons_zero,List.set_cons_succ]
         refine wpAnyH_take (i:=25) (oi:={dst:=some 61,op:=Op.pick (Operand.tmp 48) (Operand.const (Value.bool true)) (Operand.tmp 60),type:=4,pos:="ref.go:137",after:=#[{on:=12,ground:=Ground.data},{on:=24,ground:=Ground.data}],guard:=none}) (v:=?vvc25) rfl (by kernel_rfl) (by kernel_rfl) (by kernel_rfl) (fun _ _ _ h=>h) (Or.inl ⟨by rfl,?hyc25⟩) (by assumption) ?morec25;case hyc25=>(intro w' hSw;(try dsimp only at hSw);go_simp;try with_reducible rfl)
         try simp only[Act.put,List.setIfInBounds_toArray,List.set_cons_zero,List.set_cons_succ]
         refine wpAnyH_done (by kernel_rfl) ?_ _;go_wp2_with fail
         go_meet
         exact⟨rfl,HDn22.out.2⟩
        ·obtain rfl:0=x1:=by rw[if_neg (by rw[decide_eq_true_eq];exact hq)]at hwf;exact hwf
         clear hwf;go_upto_region 9 with fail;refine wp_region_held_drew (S:=(fun W=>DS w6 w.heap.size b o h h2 ks.length ks2.length W)) (by kernel_rfl) (by exact HD.out.start) (fun hHeld=>?_);refine wpAnyH_take (i:=0) (oi:={dst:=some 36,op:=Op.move (Operand.tmp 4),type:=3,pos:="ref.go:137",after:=#[],guard:=none}) (v:=?vvd0) rfl (by kernel_rfl) (by kernel_rfl) (by kernel_rfl) (fun _ _ _ h=>h) (Or.inl ⟨by rfl,?hyd0⟩) (by assumption) ?mored0;case hyd0=>(intro w' hSw;(try dsimp only at hSw);go_simp;try with_reducible rfl)
         try simp only[Act.put,List.setIfInBounds_toArray,List.set_cons_zero,List.set_cons_succ]
         refine wpAnyH_take (i:=1) (oi:={dst:=some 37,op:=Op.binOp BinOp.eql 3 (Operand.tmp 36) (Operand.const (Value.int IntKind.i64 0)) 3,type:=4,pos:="ref.go:137",after:=#[{on:=0,ground:=Ground.data}],guard:=none}) (v:=?vvd1) rfl (by kernel_rfl) (by kernel_rfl) (by kernel_rfl) (fun _ _ _ h=>h) (Or.inl ⟨by rfl,?hyd1⟩) (by assumption) ?mored1;case hyd1=>(intro w' hSw;(try dsimp only at hSw);go_simp;try with_reducible rfl)
         try simp only[Act.put,List.setIfInBounds_toArray,List.set_cons_zero,List.set_cons_succ]
         refine wpAnyH_take (i:=2) (oi:={dst:=some 38,op:=Op.move (Operand.tmp 37),type:=4,pos:="ref.go:137",after:=#[{on:=1,ground:=Ground.data}],guard:=none}) (v:=?vvd2) rfl (by kernel_rfl) (by kernel_rfl) (by kernel_rfl) (fun _ _ _ h=>h) (Or.inl ⟨by rfl,?hyd2⟩) (by assumption) ?mored2;case hyd2=>(intro w' hSw;(try dsimp only at hSw);go_simp;try with_reducible rfl)
         try simp only[Act.put,List.setIfInBounds_toArray,List.set_cons_zero,List.set_cons_succ]
         refine wpAnyH_take (i:=3) (oi:={dst:=some 39,op:=Op.fieldAddr 27 (Operand.tmp 1) 12,type:=0,pos:="ref.go:137",after:=#[{on:=2,ground:=Ground.guard}],guard:=some (2,true)}) (v:=undef) rfl (by kernel_rfl) (by kernel_rfl) (by kernel_rfl) (fun _ _ _ h=>h) (Or.inr ⟨by rfl,rfl⟩) (by assumption) ?_;try simp only[Act.put,List.setIfInBounds_toArray,List.set_cons_zero,List.set_cons_succ]
         refine wpAnyH_take (i:=4) (oi:={dst:=some 40,op:=Op.load 25 (Operand.tmp 39),type:=25,pos:="ref.go:137",after:=#[{on:=3,ground:=Ground.data},{on:=2,ground:=Ground.guard}],guard:=some (2,true)}) (v:=undef) rfl (by kernel_rfl) (by kernel_rfl) (by kernel_rfl) (fun _ _ _ h=>h) (Or.inr ⟨by rfl,rfl⟩) (by assumption) ?_;try simp only[Act.put,List.setIfInBounds_toArray,List.set_cons_zero,List.set_cons_succ]
         refine wpAnyH_take (i:=5) (oi:={dst:=some 41,op:=Op.indexAddr 25 (Operand.tmp 40) (Operand.const (Value.int IntKind.i64 0)),type:=0,pos:="ref.go:137",after:=#[{on:=4,ground:=Ground.data},{on:=2,ground:=Ground.guard}],guard:=some (2,true)}) (v:=undef) rfl (by kernel_rfl) (by kernel_rfl) (by kernel_rfl) (fun _ _ _ h=>h) (Or.inr ⟨by rfl,rfl⟩) (by assumption) ?_;try simp only[Act.put,List.setIfInBounds_toArray,List.set_cons_zero,List.set_cons_succ]
         refine wpAnyH_take (i:=6) (oi:={dst:=some 42,op:=Op.load 27 (Operand.tmp 41),type:=27,pos:="ref.go:137",after:=#[{on:=5,ground:=Ground.data},{on:=2,ground:=Ground.guard}],guard:=some (2,true)}) (v:=undef) rfl (by kernel_rfl) (by kernel_rfl) (by kernel_rfl) (fun _ _ _ h=>h) (Or.inr ⟨by rfl,rfl⟩) (by assumption) ?_;try simp only[Act.put,List.setIfInBounds_toArray,List.set_cons_zero,List.set_cons_succ]
         refine wpAnyH_take (i:=8) (oi:={dst:=some 44,op:=Op.load 27 (Operand.tmp 1),type:=27,pos:="ref.go:137",after:=#[{on:=2,ground:=Ground.guard}],guard:=some (2,true)}) (v:=undef) rfl (by kernel_rfl) (by kernel_rfl) (by kernel_rfl) (fun _ _ _ h=>h) (Or.inr ⟨by rfl,rfl⟩) (by assumption) ?_;try simp only[Act.put,List.setIfInBounds_toArray,List.set_cons_zero,List.set_cons_succ]
         refine wpAnyH_take (i:=7) (oi:={dst:=some 43,op:=Op.call {callee:=Callee.value (Operand.func 29),args:=#[Operand.tmp 42],argTypes:=#[27]},type:=3,pos:="ref.go:137",after:=#[{on:=6,ground:=Ground.data},{on:=2,ground:=Ground.chain},{on:=2,ground:=Ground.guard}],guard:=some (2,true)}) (v:=undef) rfl (by kernel_rfl) (by kernel_rfl) (by kernel_rfl) (fun _ _ _ h=>h) (Or.inr ⟨by rfl,rfl⟩) (by assumption) ?_;try simp only[Act.put,List.setIfInBounds_toArray,List.set_cons_zero,List.set_cons_succ]
         refine wpAnyH_take (i:=9) (oi:={dst:=some 45,op:=Op.call {callee:=Callee.value (Operand.func 29),args:=#[Operand.tmp 44],argTypes:=#[27]},type:=3,pos:="ref.go:137",after:=#[{on:=8,ground:=Ground.data},{on:=7,ground:=Ground.chain},{on:=2,ground:=Ground.guard}],guard:=some (2,true)}) (v:=undef) rfl (by kernel_rfl) (by kernel_rfl) (by kernel_rfl) (fun _ _ _ h=>h) (Or.inr ⟨by rfl,rfl⟩) (by assumption) ?_;try simp only[Act.put,List.setIfInBounds_toArray,List.set_cons_zero,List.set_cons_succ]
         refine wpAnyH_take (i:=10) (oi:={dst:=some 46,op:=Op.binOp BinOp.lss 3 (Operand.tmp 43) (Operand.tmp 45) 3,type:=4,pos:="ref.go:137",after:=#[{on:=7,ground:=Ground.data},{on:=9,ground:=Ground.data},{on:=2,ground:=Ground.guard}],guard:=some (2,true)}) (v:=undef) rfl (by kernel_rfl) (by kernel_rfl) (by kernel_rfl) (fun _ _ _ h=>h) (Or.inr ⟨by rfl,rfl⟩) (by assumption) ?_;try simp only[Act.put,List.setIfInBounds_toArray,List.set_cons_zero,List.set_cons_succ]
         refine wpAnyH_take (i:=11) (oi:={dst:=some 47,op:=Op.pick (Operand.tmp 38) (Operand.tmp 46) (Operand.const (Value.bool false)),type:=4,pos:="ref.go:137",after:=#[{on:=2,ground:=Ground.data},{on:=10,ground:=Ground.data}],guard:=none}) (v:=?vvd11) rfl (by kernel_rfl) (by kernel_rfl) (by kernel_rfl) (fun _ _ _ h=>h) (Or.inl ⟨by rfl,?hyd11⟩) (by assumption) ?mored11;case hyd11=>(intro w' hSw;(try dsimp only at hSw);go_simp;try with_reducible rfl)
         try simp only[Act.put,List.setIfInBounds_toArray,List.set_cons_zero,List.set_cons_succ]
         refine wpAnyH_take (i:=12) (oi:={dst:=some 48,op:=Op.move (Operand.tmp 47),type:=4,pos:="ref.go:137",after:=#[{on:=11,ground:=Ground.data},{on:=9,ground:=Ground.chain}],guard:=none}) (v:=?vvd12) rfl (by kernel_rfl) (by kernel_rfl) (by kernel_rfl) (fun _ _ _ h=>h) (Or.inl ⟨by rfl,?hyd12⟩) (by assumption) ?mored12;case hyd12=>(intro w' hSw;(try dsimp only at hSw);go_simp;try with_reducible rfl)
         try simp only[Act.put,List.setIfInBounds_toArray,List.set_cons_zero,List.set_cons_succ]
         refine wpAnyH_take (i:=13) (oi:={dst:=some 49,op:=Op.move (Operand.tmp 4),type:=3,pos:="ref.go:137",after:=#[{on:=12,ground:=Ground.guard}],guard:=some (12,false)}) (v:=?vvd13) rfl (by kernel_rfl) (by kernel_rfl) (by kernel_rfl) (fun _ _ _ h=>h) (Or.inl ⟨by rfl,?hyd13⟩) (by assumption) ?mored13;case hyd13=>(intro w' hSw;(try dsimp only at hSw);go_simp;try with_reducible rfl)
         try simp only[Act.put,List.setIfInBounds_toArray,List.set_cons_zero,List.set_cons_succ]
         refine wpAnyH_take (i:=14) (oi:={dst:=some 50,op:=Op.binOp BinOp.eql 3 (Operand.tmp 49) (Operand.const (Value.int IntKind.i64 1)) 3,type:=4,pos:="ref.go:137",after:=#[{on:=13,ground:=Ground.data},{on:=12,ground:=Ground.guard}],guard:=some (12,false)}) (v:=?vvd14) rfl (by kernel_rfl) (by kernel_rfl) (by kernel_rfl) (fun _ _ _ h=>h) (Or.inl ⟨by rfl,?hyd14⟩) (by assumption) ?mored14;case hyd14=>(intro w' hSw;(try dsimp only at hSw);go_simp;try with_reducible rfl)
         try simp only[Act.put,List.setIfInBounds_toArray,List.set_cons_zero,List.set_cons_succ]
         refine wpAnyH_take (i:=15) (oi:={dst:=some 51,op:=Op.move (Operand.tmp 50),type:=4,pos:="ref.go:137",after:=#[{on:=14,ground:=Ground.data},{on:=12,ground:=Ground.chain},{on:=12,ground:=Ground.guard}],guard:=some (12,false)}) (v:=?vvd15) rfl (by kernel_rfl) (by kernel_rfl) (by kernel_rfl) (fun _ _ _ h=>h) (Or.inl ⟨by rfl,?hyd15⟩) (by assumption) ?mored15;case hyd15=>(intro w' hSw;(try dsimp only at hSw);go_simp;try with_reducible rfl)
         try simp only[Act.put,List.setIfInBounds_toArray,List.set_cons_zero,List.set_cons_succ]
         refine wpAnyH_take (i:=16) (oi:={dst:=some 52,op:=Op.fieldAddr 27 (Operand.tmp 1) 12,type:=0,pos:="ref.go:137",after:=#[{on:=15,ground:=Ground.guard}],guard:=some (15,true)}) (v:=?vvd16) rfl (by kernel_rfl) (by kernel_rfl) (by kernel_rfl) (fun _ _ _ h=>h) (Or.inl ⟨by rfl,?hyd16⟩) (by assumption) ?mored16;case hyd16=>(intro w' hSw;(try dsimp only at hSw);go_simp;try with_reducible rfl)
         try simp only[Act.put,List.setIfInBounds_toArray,List.set_cons_zero,List.set_cons_succ]
         refine wpAnyH_take (i:=17) (oi:={dst:=some 53,op:=Op.load 25 (Operand.tmp 52),type:=25,pos:="ref.go:137",after:=#[{on:=16,ground:=Ground.data},{on:=15,ground:=Ground.guard}],guard:=some (15,true)}) (v:=?vvd17) rfl (by kernel_rfl) (by kernel_rfl) (by kernel_rfl) (fun _ _ _ h=>h) (Or.inl ⟨by rfl,?hyd17⟩) (by assumption) ?mored17;case hyd17=>(intro w' hSw;(try dsimp only at hSw);go_simp;try with_reducible rfl)
         try simp only[Act.put,List.setIfInBounds_toArray,List.set_cons_zero,List.set_cons_succ]
         refine wpAnyH_take (i:=18) (oi:={dst:=some 54,op:=Op.indexAddr 25 (Operand.tmp 53) (Operand.const (Value.int IntKind.i64 1)),type:=0,pos:="ref.go:137",after:=#[{on:=17,ground:=Ground.data},{on:=15,ground:=Ground.guard}],guard:=some (15,true)}) (v:=?vvd18) rfl (by kernel_rfl) (by kernel_rfl) (by kernel_rfl) (fun _ _ _ h=>h) (Or.inl ⟨by rfl,?hyd18⟩) (by assumption) ?mored18;case hyd18=>(intro w' hSw;(try dsimp only at hSw);go_simp;try with_reducible rfl)
         try simp only[Act.put,List.setIfInBounds_toArray,List.set_cons_zero,List.set_cons_succ]
         refine wpAnyH_take (i:=19) (oi:={dst:=some 55,op:=Op.load 27 (Operand.tmp 54),type:=27,pos:="ref.go:137",after:=#[{on:=18,ground:=Ground.data},{on:=15,ground:=Ground.guard}],guard:=some (15,true)}) (v:=?vvd19) rfl (by kernel_rfl) (by kernel_rfl) (by kernel_rfl) (fun _ _ _ h=>h) (Or.inl ⟨by rfl,?hyd19⟩) (by assumption) ?mored19;case hyd19=>(intro w' hSw;(try dsimp only at hSw);go_simp;try with_reducible rfl)
         try simp only[Act.put,List.setIfInBounds_toArray,List.set_cons_zero,List.set_cons_succ]
         refine wpAnyH_take (i:=21) (oi:={dst:=some 57,op:=Op.load 27 (Operand.tmp 1),type:=27,pos:="ref.go:137",after:=#[{on:=15,ground:=Ground.guard}],guard:=some (15,true)}) (v:=?vvd21) rfl (by kernel_rfl) (by kernel_rfl) (by kernel_rfl) (fun _ _ _ h=>h) (Or.inl ⟨by rfl,?hyd21⟩) (by assumption) ?mored21;case hyd21=>(intro w' hSw;(try dsimp only at hSw);go_simp;try with_reducible rfl)
         try simp only[Act.put,List.setIfInBounds_toArray,List.set_cons_zero,List.set_cons_succ]
         refine wpAnyH_ready (rs:=[20]) (by kernel_rfl) (by simp) (AllReadyH.cons (o:={dst:=some 56,op:=Op.call {callee:=Callee.value (Operand.func 29),args:=#[Operand.tmp 55],argTypes:=#[27]},type:=3,pos:="ref.go:137",after:=#[{on:=19,ground:=Ground.data},{on:=15,ground:=Ground.chain},{on:=15,ground:=Ground.guard}],guard:=some (15,true)}) rfl (fun K hK=>?_) AllReadyH.nil)
         go_simp
         go_at_call 29
         refine(S2.out _).mono ?_;rintro e wn⟨rfl,hb⟩;have HDn20:=hid ((HD.out.start).step hb hlt1 hlt2);clear hb;go_wp2_with fail;refine hK.out _ _ (by with_reducible exact HDn20.out) (fun hHeld=>?_);clear hK K;try simp only[Act.put,List.setIfInBounds_toArray,List.set_cons_zero,List.set_cons_succ]
         refine wpAnyH_ready (rs:=[22]) (by kernel_rfl) (by simp) (AllReadyH.cons (o:={dst:=some 58,op:=Op.call {callee:=Callee.value (Operand.func 29),args:=#[Operand.tmp 57],argTypes:=#[27]},type:=3,pos:="ref.go:137",after:=#[{on:=21,ground:=Ground.data},{on:=20,ground:=Ground.chain},{on:=15,ground:=Ground.guard}],guard:=some (15,true)}) rfl (fun K hK=>?_) AllReadyH.nil)
         go_simp
         go_at_call 29
         refine(S1.out _).mono ?_;rintro e wn⟨rfl,hb⟩;have HDn22:=hid ((HDn20.out).step hb hlt1 hlt2);clear hb;go_wp2_with fail;refine hK.out _ _ (by with_reducible exact HDn22.out) (fun hHeld=>?_);clear hK K;try simp only[Act.put,List.setIfInBounds_toArray,List.set_cons_zero,List.set_cons_succ]
         refine wpAnyH_take (i:=23) (oi:={dst:=some 59,op:=Op.binOp BinOp.leq 3 (Operand.tmp 56) (Operand.tmp 58) 3,type:=4,pos:="ref.go:137",after:=#[{on:=20,ground:=Ground.data},{on:=22,ground:=Ground.data},{on:=15,ground:=Ground.guard}],guard:=some (15,true)}) (v:=?vvd23) rfl (by kernel_rfl) (by kernel_rfl) (by kernel_rfl) (fun _ _ _ h=>h) (Or.inl ⟨by rfl,?hyd23⟩) (by assumption) ?mored23;case hyd23=>(intro w' hSw;(try dsimp only at hSw);go_simp;try with_reducible rfl)
         try simp only[Act.put,List.setIfInBounds_toArray,List.set_cons_zero,List.set_cons_succ]
         refine wpAnyH_take (i:=24) (oi:={dst:=some 60,op:=Op.pick (Operand.tmp 51) (Operand.tmp 59) (Operand.const (Value.bool false)),type:=4,pos:="ref.go:137",after:=#[{on:=15,ground:=Ground.data},{on:=23,ground:=Ground.data},{on:=12,ground:=Ground.guard}],guard:=some (12,false)}) (v:=?vvd24) rfl (by kernel_rfl) (by kernel_rfl) (by kernel_rfl) (fun _ _ _ h=>h) (Or.inl ⟨by rfl,?hyd24⟩) (by assumption) ?mored24;case hyd24=>(intro w' hSw;(try dsimp only at hSw);go_simp;try with_reducible rfl)
         try simp only[Act.put,List.setIfInBounds_toArray,List.set_cons_zero,List.set_cons_succ]
         refine wpAnyH_take (i:=25) (oi:={dst:=some 61,op:=Op.pick (Operand.tmp 48) (Operand.const (Value.bool true)) (Operand.tmp 60),type:=4,pos:="ref.go:137",after:=#[{on:=12,ground:=Ground.data},{on:=24,ground:=Ground.data}],guard:=none}) (v:=?vvd25) rfl (by kernel_rfl) (by kernel_rfl) (by kernel_rfl) (fun _ _ _ h=>h) (Or.inl ⟨by rfl,?hyd25⟩) (by assumption) ?mored25;case hyd25=>(intro w' hSw;(try dsimp only at hSw);go_simp;try with_reducible rfl)
         try simp only[Act.put,List.setIfInBounds_toArray,List.set_cons_zero,List.set_cons_succ]
         refine wpAnyH_done (by kernel_rfl) ?_ _;go_wp2_with fail
         go_meet
         exact⟨rfl,HDn22.out.2⟩
     case rest=>
      obtain⟨hs5,HB7⟩:=hcut;obtain⟨y1,hy1⟩:∃y1,v+x1=y1:=⟨_,rfl⟩
      rw[hy1]at hs5;subst hs5;have HY1:=hid hy1;clear hy1;have HD7:=hid (HD.out.step HB7.out hlt1 hlt2);have HBX7:=hid (HBX6.out.trans (HB7.out.mono HBX6.out.size));obtain⟨p2,hp2⟩:∃p,decide (h.k=7∧ks.length=1∧h2.k=6)=p:=⟨_,rfl⟩
      have HP2:=hid hp2;clear hp2;generalize hw7:wc=w7 at*
      go_upto_region 11 with fail
      go_cut [80]from 14 to 86 (fun s80 wx=>s80=.bool p2∧w7=wx)
      case first=>
       obtain⟨⟨⟨c0,c1,c2,c3,c4,c5,c6,c7,c8,c9,c10,c11,c12⟩,⟨e0,e1,e2,e3,e4,e5,e6,e7,e8,e9,e10,e11,e12⟩⟩,_⟩:=HD7.out;by_cases h7:h.k=7
       ·have b7:(h.k==7)=true:=by simp;omega
        by_cases hn1:ks.length=1
        ·have n1:((ks.length:Int)==1)=true:=by simp;omega
         have h20:(0:Int)<(ks.length:Int):=by omega
         have hix0:∀W,(Instr.indexAt 25 (.slice h.ka ks.length h.kc) (.int .i64 0)).run Tryz.prog W=.ok (.pointer (some ⟨b,o,none⟩)) W:=fun W=>by have:=index_kid h.ka ks.length h.kc 0 b off HA.out (by omega) W;rw[show off+0*13=o by rw[←HHO.out,show k=0 by omega]]at this;exact this
         by_cases hg6:h2.k=6
         ·have g6:(h2.k==6)=true:=by simp;omega
          obtain rfl:true=p2:=by rw[←HP2.out];exact(decide_eq_true ⟨h7,hn1,hg6⟩).symm
          clear h7 hn1 hg6;go_wp2_with fail
          go_meet
          exact⟨rfl,rfl⟩
         ·have g6:(h2.k==6)=false:=by simp;omega
          obtain rfl:false=p2:=by rw[←HP2.out];exact(decide_eq_false (fun x=>hg6 x.2.2)).symm
          clear h7 hn1 hg6;go_wp2_with fail
          go_meet
          exact⟨rfl,rfl⟩
        ·have n1:((ks.length:Int)==1)=false:=by simp;omega
         obtain rfl:false=p2:=by rw[←HP2.out];exact(decide_eq_false (fun x=>hn1 x.2.1)).symm
         clear h7 hn1;go_wp2_with fail
         go_meet
         exact⟨rfl,rfl⟩
       ·have b7:(h.k==7)=false:=by simp;omega
        obtain rfl:false=p2:=by rw[←HP2.out];exact(decide_eq_false (fun x=>h7 x.1)).symm
        clear h7;go_wp2_with fail
        go_meet
        exact⟨rfl,rfl⟩
      case rest=>
       obtain⟨rfl,rfl⟩:=hcut;have hs1:=HS1.out;cases p2 with
       |true=>
        have hx2:x2=1:=by rw[←HX2.out];unfold bump2F;exact if_pos (of_decide_eq_true HP2.out)
        obtain⟨u,hu⟩:∃u,y1+1=u:=⟨_,rfl⟩
        have hwr:IntKind.i64.wrap ((y1:Int)+1)=(u:Int):=by have:=HY1.out;rw[IntKind.wrap_i64];omega
        have HUU:=hid hu;have HXX2:=hid hx2;clear hu hx2;by_cases hgt:m<u
        ·have hgi:(m:Int)<(u:Int):=by omega
         clear hgt;go_wp2_with fail
         go_roundg g'
         case measure=>omega
         case rel=>exact⟨k+1,u,by omega,by omega,rfl,by go_num,by have:=HUU.out;have:=HXX2.out;have:=HY1.out;rw[HZ.out];show _=_;omega,HBX7⟩
        ·have hgi:¬(m:Int)<(u:Int):=by omega
         have HNG:=hid hgt;clear hgt;go_wp2_with fail
         go_roundg g'
         case measure=>omega
         case rel=>exact⟨k+1,m,by omega,by omega,rfl,by go_num,by have:=HUU.out;have:=HXX2.out;have:=HY1.out;have:=HNG.out;rw[HZ.out];show _=_;omega,HBX7⟩
       |false=>
        have hx2:x2=0:=by rw[←HX2.out];unfold bump2F;exact if_neg (of_decide_eq_false HP2.out)
        have HXX2:=hid hx2;clear hx2;by_cases hgt:m<y1
        ·have hgi:(m:Int)<(y1:Int):=by omega
         clear hgt;go_wp2_with fail
         go_roundg g'
         case measure=>omega
         case rel=>exact⟨k+1,y1,by omega,by omega,rfl,by go_num,by have:=HXX2.out;have:=HY1.out;rw[HZ.out];show _=_;omega,HBX7⟩
        ·have hgi:¬(m:Int)<(y1:Int):=by omega
         have HNG:=hid hgt;clear hgt;go_wp2_with fail
         go_roundg g'
         case measure=>omega
         case rel=>exact⟨k+1,m,by omega,by omega,rfl,by go_num,by have:=HXX2.out;have:=HY1.out;have:=HNG.out;rw[HZ.out];show _=_;omega,HBX7⟩
  ·have hrm:m+c=r:=by have:=HS.out;rw[List.drop_eq_nil_of_le (by omega),nestL]at this;omega
   have c0:=hbk.cell 0;simp at c0;by_cases h6:h.k=6∧ks.length=2
   ·have hc1:c=0:=by rw[←HC0.out];unfold baseF;exact if_pos h6
    obtain rfl:m=r:=by omega
    have b6:(h.k==6)=true:=by simp;omega
    have n2:((ks.length:Int)==2)=true:=by simp;omega
    clear h6 hrm hc1 d1 d2 hbk;go_wp2_with fail;go_ret;exact⟨rfl,HBF.out⟩
   ·have hc1:c=1:=by rw[←HC0.out];unfold baseF;exact if_neg h6
    have hwr:IntKind.i64.wrap ((m:Int)+1)=(r:Int):=by rw[IntKind.wrap_i64];omega
    by_cases h66:h.k=6
    ·have b6:(h.k==6)=true:=by simp;omega
     have n2:((ks.length:Int)==2)=false:=by simp;omega
     clear h6 h66 hrm hc1 d1 d2 hbk;go_wp2_with fail;go_ret;exact⟨rfl,HBF.out⟩
    ·have b6:(h.k==6)=false:=by simp;omega
     clear h6 h66 hrm hc1 d1 d2 hbk;go_wp2_with fail;go_ret;exact⟨rfl,HBF.out⟩
theorem dnest_any(n:Nat):∀x:Tr,szF x≤n→n≤700→DNestIs x:=by
 induction n with
 |zero=>intro x hx;have:=szF_pos x;omega
 |succ n ih=>intro x hx hn;obtain⟨h,ks⟩:=x;exact dnest_step h ks (fun y hy=>ih y (by have:=szL_mem hy;rw[szF]at hx;omega) (by omega)) (by omega)
end Go.Proofs.YticmkabafmmlhaaGreatDoor.Ck

set_option linter.unusedVariables false
set_option linter.unusedSimpArgs false
set_option maxRecDepth 100000
namespace Go.Proofs.YticmkabafmmlhaaGreatDoor.Ck
open Go.RowKit
theorem self_ba (a : ByteArray) : (a == a) = true := by
 first | exact beq_self_eq_true a | exact decide_eq_true rfl | (show (a.data == a.data) = true; simp)
theorem eq3 (a : Int) (w : World) (n : Nat) : (Op.equalIn (n + 1) 3 (.int .i64 a) (.int .i64 a)).run Tryz.prog w = .ok true w := by
 have hu : ∀ W, (underlying 3).run Tryz.prog W = .ok (.int .i64) W := fun W => run_underlying Tryz.underlying3 W
 unfold Op.equalIn
 simp [hu]
theorem eq9 (a : ByteArray) (w : World) (n : Nat) : (Op.equalIn (n + 1) 9 (.string a) (.string a)).run Tryz.prog w = .ok true w := by
 have hu : ∀ W, (underlying 9).run Tryz.prog W = .ok .string W := fun W => run_underlying Tryz.underlying9 W
 unfold Op.equalIn
 simp [hu, self_ba]
theorem eq40 (a : Int) (b c : ByteArray) (w : World) : (Op.equalIn 10000 39 (.agg #[.int .i64 a, .string b, .string c]) (.agg #[.int .i64 a, .string b, .string c])).run Tryz.prog w = .ok true w := by
 have hu := fun W => run_underlying Tryz.underlying39 W
 have e1 : ∀ W, (Op.equalIn 9999 3 (.int .i64 a) (.int .i64 a)).run Tryz.prog W = .ok true W := fun W => eq3 a W 9998
 have e2 : ∀ x W, (Op.equalIn 9999 9 (.string x) (.string x)).run Tryz.prog W = .ok true W := fun x W => eq9 x W 9998
 have p0 : ∀ W, (part 3 #[.int .i64 a, .string b, .string c] 0).run Tryz.prog W = .ok (.int .i64 a) W := fun W => by kernel_rfl
 have p1 : ∀ W, (part 9 #[.int .i64 a, .string b, .string c] 1).run Tryz.prog W = .ok (.string b) W := fun W => by kernel_rfl
 have p2 : ∀ W, (part 9 #[.int .i64 a, .string b, .string c] 2).run Tryz.prog W = .ok (.string c) W := fun W => by kernel_rfl
 show (Op.equalIn (9999 + 1) 39 _ _).run _ _ = _
 unfold Op.equalIn
 simp [hu, p0, p1, p2, e1, e2]
def headF (g h : Hd) (gs ks : List Tr) : Bool := decide (g.k = h.k ∧ g.o = h.o ∧ g.v = h.v ∧ g.s.toList = h.s.toList ∧ g.ms.length = h.ms.length ∧ g.wd = h.wd ∧ g.off = h.off ∧ g.ha = h.ha ∧ g.tm = h.tm ∧ g.how = h.how ∧ g.ns.length = h.ns.length ∧ g.bo = h.bo ∧ gs.length = ks.length)
structure Cut (g h : Hd) (gs ks : List Tr) : Prop where
 m : g.ms.length = h.ms.length → g.ms = h.ms
 n : g.ns.length = h.ns.length → g.ns = h.ns
 c : gs.length = ks.length → gs = ks
def SameSelf (x : Tr) : Prop := ∀ W, Lies W x → Calls Tryz.prog 28 #[valT x, valT x] W fun e w' => e = .returned (.bool true) ∧ Below W.heap.size W w'
end Go.Proofs.YticmkabafmmlhaaGreatDoor.Ck

/- The document's Kind: of what type a right tree is. Conditions: the tree lies in memory, is right, and has at most 700 parts. -/
import Derived.Test.YtmodehfedhgcbaaGreatDoorD7
import Derived.Test.YtmodehfedhgcbaaGreatDoorN24
import Derived.Test.YtmodehfedhgcbaaGreatDoorN27
import Derived.Test.YtmodehfedhgcbaaGreatDoorD10
set_option linter.unusedVariables false
set_option linter.unusedSimpArgs false
set_option maxRecDepth 100000
set_option maxHeartbeats 16000000
namespace Go.Proofs.YtmodehfedhgcbaaGreatDoor.Ck
open Go.RowKit
open Lib (hid)
theorem in11_any(s:ByteArray)(A:Option Addr)(l:List ByteArray)(c:Nat)(w:World)(hN:Nms w A l)(hl:l.length≤140737488355328):
 Calls Tryz.prog 26 #[.string s,.slice A l.length c] w fun e w'=>e=.returned (.bool (inF s l))∧w=w':=by
 obtain⟨r,hr⟩:∃r,inF s l=r:=⟨_,rfl⟩
 rw[hr];have HR:=hid hr;have HN:=hid hN;clear hr hN;obtain⟨n,hn⟩:∃n,l.length=n:=⟨_,rfl⟩
 rw[hn]at hl⊢
 have HL:=hid hn;clear hn;go_enter Tryz.func26,Tryz.ntmps26;go_wp2_with fail
 go_loopg [5] n (fun gq s5 wx=>∃k:Nat,k≤n∧n≤gq+k∧s5=.int .i64 (k:Int)∧Hid (NotIn s l k)∧w=wx)
 case atStart=>exact⟨0,Nat.zero_le _,Nat.le_refl _,rfl,fun i hi=>absurd hi (Nat.not_lt_zero _),rfl⟩
 case round=>
  obtain⟨k,hkn,hg,rfl,HG,rfl⟩:=hrel;by_cases hlt:k<n
  ·obtain⟨b,off,hA,hb,hc⟩:=HN.out (by rw[HL.out];omega)
   have hix:=fun W=>index_nm A n c k b off hA hlt W;have y1:=hc k (by rw[HL.out];exact hlt);have hki:(k:Int)<(n:Int):=by omega
   clear hc hA;obtain⟨m,hm⟩:∃m,l.getD k n0=m:=⟨_,rfl⟩
   rw[hm]at y1;have HMK:=hid hm;clear hm;obtain⟨g',rfl⟩:∃g',gk=g'+1:=⟨gk-1,by omega⟩
   cases he:(m.toList==s.toList)with
   |true=>
    obtain rfl:true=r:=by rw[←HR.out];exact(in_hit (k:=k) (by rw[HL.out];exact hlt) (by rw[HMK.out];exact he)).symm
    go_wp2_with fail;all_goals(go_ret;exact⟨rfl,rfl⟩)
   |false=>
    have HG2:Hid (NotIn s l (k+1)):=fun i hi=>by
     by_cases e:i=k
     ·rw[e,HMK.out];exact he
     ·exact HG.out i (by omega)
    go_wp2_with fail
    go_roundg g'
    case measure=>omega
    case rel=>exact⟨k+1,by omega,by omega,by go_num,HG2,rfl⟩
  ·obtain rfl:false=r:=by
    have hkn2:k=n:=by omega
    have:=HG.out;rw[hkn2,←HL.out]at this;rw[←HR.out,in_miss this]
   go_wp2_with fail;go_ret;exact⟨rfl,rfl⟩
def ints(l:List Int):List Value:=l.map (.int .i64 ·)
theorem info3:(Tryz.prog.info? 3).map (fun i=>(i.zero.map (·.cells.size),i.size,i.bytes))=some (some 1,1,8):=by kernel_rfl
theorem wpList_append_int{ops:Array Oper}{rest:List Oper}{o:Oper}{a:Act}{Q:Exit→Act→World→Prop}(w:World)(hgd:o.guard=none)(s x:Operand)
 (ho:o.op=.call {callee:=.builtin .append,args:=#[s,x],argTypes:=#[48,48]})
 (base:Nat) (v:Value) (l:List Int) (hs:a.eval s=v) (hown:w.ownsRow base 3 1 v l.length (ints l))
 (g c:Nat) (y:Int) (hx:a.eval x=.slice (some ⟨g,0,none⟩) 1 c) (hK:Blk w g 3 #[.int .i64 y])
 (hlen:l.length≤1400) (hbase:base≤w.heap.size)
 (hh:∀v' w',w'.ownsRow base 3 1 v' (l++[y]).length (ints (l++[y]))→w.grownBy w' v.ownBlock→wpList Tryz.prog ops Q rest (a.put o.dst v') w'):
 wpList Tryz.prog ops Q (o::rest) a w:=by
 obtain⟨i,z,hi,hz,hzs,hsz,hby⟩:=info_of info3;refine wpList_append_own w hgd s x 48 ho base 3 i z 1 8 Tryz.underlying48 hi hz hsz hby hzs (by decide) v l.length (ints l) hs hown ⟨g,0,none⟩ 1 c [.int .i64 y] hx rfl ?_ (by intro u hu;rw[List.mem_singleton.1 hu];rfl) (by unfold maxLen;omega) (by omega) hbase ?_
 ·intro j u hu
  rw[addr_plus,hK.cell j];simpa using hu
 ·intro v' w' h1 h2 _
  refine hh v' w' ?_ h2;have e:ints (l++[y])=ints l++[.int .i64 y]:=by simp[ints]
  rw[e,List.length_append];exact h1
theorem of_take{ks:List Tr}{k:Nat}(hk:k<ks.length):ofL (ks.take (k+1))=ofL (ks.take k)++[ofF (ks.getD k t0)]:=by
 have ap:∀a b:List Tr,ofL (a++b)=ofL a++ofL b:=by
  intro a b
  induction a with
  |nil=>rfl
  |cons x a ih=>rw[List.cons_append,ofL,ofL,ih,List.cons_append]
 rw[List.take_add_one,List.getElem?_eq_getElem hk,ap];rw[List.getD_eq_getElem?_getD,List.getElem?_eq_getElem hk];rfl
def growthL:List ByteArray:=[⟨#[114,97,116,101]⟩,⟨#[105,110,99,114,101,97,115,101]⟩,⟨#[100,101,108,116,97]⟩]
def bestL:List ByteArray:=[⟨#[116,111,112,107]⟩,⟨#[98,111,116,116,111,109,107]⟩]
theorem in_growth(s:ByteArray):inF s growthL=(s.toList==[114,97,116,101]||(s.toList==[105,110,99,114,101,97,115,101]||s.toList==[100,101,108,116,97])):=by
 have e:growthL.map ByteArray.toList=[[114,97,116,101],[105,110,99,114,101,97,115,101],[100,101,108,116,97]]:=by decide+kernel
 have:inF s growthL=(growthL.map ByteArray.toList).any (fun x=>x==s.toList):=by unfold inF;rw[List.any_map];rfl
 rw[this,e];simp only[List.any_cons,List.any_nil,Bool.or_false,beq_comm' _ s.toList]
theorem in_best(s:ByteArray):inF s bestL=(s.toList==[116,111,112,107]||s.toList==[98,111,116,116,111,109,107]):=by
 have e:bestL.map ByteArray.toList=[[116,111,112,107],[98,111,116,116,111,109,107]]:=by decide+kernel
 have:inF s bestL=(bestL.map ByteArray.toList).any (fun x=>x==s.toList):=by unfold inF;rw[List.any_map];rfl
 rw[this,e];simp only[List.any_cons,List.any_nil,Bool.or_false,beq_comm' _ s.toList]
theorem in11_is(s:ByteArray)(A:Option Addr)(l:List ByteArray)(n c:Nat)(w:World)(r:Bool)(hn:l.length=n)(hr:inF s l=r)(hN:Nms w A l)(hl:n≤140737488355328):
 Calls Tryz.prog 26 #[.string s,.slice A n c] w fun e w'=>e=.returned (.bool r)∧w=w':=by
 subst hn hr;exact in11_any s A l c w hN hl
theorem call_of{h:Hd}{ks:List Tr}(h1:¬h.k=1)(h2:¬h.k=2)(h3:¬h.k=3)(h6:¬h.k=6)(h7:¬h.k=7):ofF (.mk h ks)=callF h.s.toList (ofL ks):=by rw[ofF,if_neg h1,if_neg h2,if_neg h3,if_neg h7,if_neg h6]
def KindIs(x:Tr):Prop:=∀W,Lies W x→rightF okHd x=true→szF x≤700→Calls Tryz.prog 17 #[valT x] W fun e w'=>e=.returned (.int .i64 (ofF x))∧Below W.heap.size W w'
theorem kind_step(h:Hd)(ks:List Tr)(hk:∀x,x∈ks→KindIs x):KindIs (.mk h ks):=by
 intro w hL hrt hsz;obtain⟨v,hv⟩:∃v,ofF (.mk h ks)=v:=⟨_,rfl⟩
 rw[hv,valT_arr];have hb0:Below w.heap.size w (w.alloc (.cells (arr h ks.length) 27)):=(Below.refl _ _).alloc (Nat.le_refl _) _;have hl1:=hL.below hb0;rw[Lies]at hl1;obtain⟨hok,hkl,_,_,htr,hkk⟩:=hl1;have hn7:ks.length≤700:=by have:=szL_length ks;rw[szF]at hsz;omega
 have hkr:∀x,x∈ks→rightF okHd x=true∧szF x≤700:=fun x hx=>⟨kid_right okR hrt hx,by have:=szL_mem hx;rw[szF]at hsz;omega⟩
 have hz0:∀x,x∈ks→ofF x=0→v=0:=fun x hx h0=>by
  rw[←hv];by_cases e:ofF (.mk h ks)=0
  ·exact e
  ·exact absurd h0 (kid_fits okR hrt e hx)
 have hoh:okHd h ks.length=true:=by unfold rightF at hrt;rw[Bool.and_eq_true,allF,Bool.and_eq_true]at hrt;exact hrt.2.1
 have HB0:=hid hb0;have HTR:=hid htr;have HKK:=hid hkk;have HK:=hid (Blk.new w 27 (arr h ks.length));have HKS:=hid hk;have HKR:=hid hkr;have HZ0:=hid hz0;have HOH:=hid hoh;have HV:=hid hv;have hW1:(w.alloc (.cells (arr h ks.length) 27)).heap.size=w.heap.size+1:=World.size_alloc _ _;have HW1:=hid hW1;clear hb0 htr hkk hk hkr hz0 hoh hv hok hL hrt hsz hW1;unfold arr at*
 go_enter Tryz.func17,Tryz.ntmps17;go_wp2_with fail;generalize (w.alloc (.cells _ 27))=W1 at*
 go_loopg [3,4] ks.length (fun gq s3 s4 wx=>∃k:Nat,k≤ks.length∧ks.length≤gq+k∧s4=.int .i64 (k:Int)∧Hid (wx.ownsRow (w.heap.size+1) 3 1 s3 (ofL (ks.take k)).length (ints (ofL (ks.take k))))∧Hid (∀y,y∈ofL (ks.take k)→y≠0)∧Hid (Below W1.heap.size W1 wx))
 case atStart=>exact⟨0,Nat.zero_le _,Nat.le_refl _,rfl,⟨rfl,.inl ⟨rfl,rfl⟩⟩,(fun y hy=>by cases hy),Below.refl _ _⟩
 case round=>
  obtain⟨k,hkn,hg,rfl,HOW,HNZ,HBX⟩:=hrel;have HKX:=hid (HK.out.below HBX.out);have HBF:=hid (HB0.out.trans (HBX.out.mono HB0.out.size));by_cases hlt:k<ks.length
  ·have c12:=HKX.out.cell 12
   simp at c12;have hki:(k:Int)<(ks.length:Int):=by omega
   obtain⟨b,off,hA,hb,hc⟩:=HTR.out (by omega);cases ht:ks.getD k t0 with
   |mk h2 ks2=>
    have hix:=fun W=>index_kid h.ka ks.length h.kc k b off hA hlt W;have hmem:Tr.mk h2 ks2∈ks:=by rw[←ht];exact kid_mem2 hlt
    obtain⟨d0,d1,d2,d3,d4,d5,d6,d7,d8,d9,d10,d11,d12⟩:=KC.below (Trs.kc hc hlt ht) HBX.out hb;obtain⟨y,hy⟩:∃y,ofF (Tr.mk h2 ks2)=y:=⟨_,rfl⟩
    have hcl:=HKS.out _ hmem wr ((LiesL.mem HKK.out hmem).below HBX.out) (HKR.out _ hmem).1 (HKR.out _ hmem).2;rw[hy,valT_arr]at hcl;have HCL:=hid hcl;have hnx:=of_take hlt;rw[ht,hy]at hnx;have HNX:=hid hnx;have HY0:=hid (fun(h0:y=0)=>HZ0.out _ hmem (hy.trans h0));have hll:(ofL (ks.take k)).length≤1400:=by rw[ofL_length,List.length_take];omega
    have HLL:=hid hll;obtain⟨g',rfl⟩:∃g',gk=g'+1:=⟨gk-1,by omega⟩
    clear hA hc hy hcl ht hnx hll;unfold arr at HCL;go_wp2_with fail;refine(HCL.out).mono ?_;rintro e w6⟨rfl,hb6⟩;have HB6:=hid (HBX.out.trans (hb6.mono HBX.out.size));have HBF6:=hid (HBF.out.trans (hb6.mono HBF.out.size));have HOW6:=hid (own_below HOW.out hb6);clear hb6 HCL d0 d1 d2 d3 d4 d5 d6 d7 d8 d9 d10 d11 d12 hix c12;by_cases hy0:y=0
    ·have ey:(y==0)=true:=by rw[beq_iff_eq];exact hy0
     obtain rfl:v=0:=HY0.out hy0;clear hy0;go_wp2_with fail;go_ret;exact⟨rfl,HBF6.out⟩
    ·have ey:(y==0)=false:=by rw[beq_eq_false_iff_ne];exact hy0
     have HYN:=hid hy0;clear hy0;have HBK:=hid (Blk.new w6 3 #[.int .i64 y]);have hbs:w.heap.size+1≤w6.heap.size:=by have:=HB6.out.size;have:=HW1.out;omega
     go_wp2_with (at_builtin;refine wpList_append_int (w6.alloc (.cells #[.int .i64 y] 3)) rfl _ _ rfl (w.heap.size+1) _ (ofL (ks.take k)) rfl (HOW6.out.alloc (.cells #[.int .i64 y] 3)) w6.heap.size 1 y rfl HBK.out HLL.out (by simp;omega) ?_);intro v9 w9 hown9 hgr9;have HO9:=hid hown9;have hb9:Below W1.heap.size W1 w9:=(HB6.out.alloc HB6.out.size (.cells #[.int .i64 y] 3)).grown hgr9 (by simp;have:=HB6.out.size;omega) (fun g hg=>by have:=((HOW6.out.alloc (.cells #[.int .i64 y] 3)).lt g hg).1;have:=HW1.out;omega);have HB9:=hid hb9;clear hb9 hown9 hgr9;go_wp2_with fail
     go_roundg g'
     case measure=>omega
     case rel=>exact⟨k+1,by omega,by omega,by go_num,(by rw[HNX.out,List.length_append];exact HO9.out),(fun z hz=>by rw[HNX.out]at hz;rcases List.mem_append.1 hz with h1|h1;exact HNZ.out z h1;rw[List.mem_singleton.1 h1];exact HYN.out),HB9⟩
  ·have hki:¬(k:Int)<(ks.length:Int):=by omega
   have hkk:ks.take k=ks:=List.take_of_length_le (by omega);rw[hkk,ofL_length]at HOW;rw[hkk]at HNZ;clear hkk;have c12:=HKX.out.cell 12;have c0:=HKX.out.cell 0;have c5:=HKX.out.cell 5;simp at c0 c5 c12;have hv:=HV.out;by_cases h1:h.k=1
   ·have b1:(h.k==1)=true:=by rw[beq_iff_eq];exact h1
    obtain rfl:1=v:=by rw[←hv,ofF,if_pos h1]
    clear h1 hv;go_wp2_with fail;go_ret;exact⟨rfl,HBF.out⟩
   have b1:(h.k==1)=false:=by rw[beq_eq_false_iff_ne];exact h1
   by_cases h2:h.k=2
   ·have b2:(h.k==2)=true:=by rw[beq_iff_eq];exact h2
    obtain rfl:4=v:=by rw[←hv,ofF,if_neg h1,if_pos h2]
    clear h1 h2 hv;go_wp2_with fail;go_ret;exact⟨rfl,HBF.out⟩
   have b2:(h.k==2)=false:=by rw[beq_eq_false_iff_ne];exact h2
   by_cases h3:h.k=3
   ·have b3:(h.k==3)=true:=by rw[beq_iff_eq];exact h3
    rw[ofF,if_neg h1,if_neg h2,if_pos h3]at hv;by_cases hw0:h.wd=0
    ·have f0:(h.wd != 0)=false:=by rw[bne_eq_false_iff_eq];exact hw0
     obtain rfl:2=v:=by rw[←hv,if_pos hw0]
     clear h1 h2 h3 hv hw0;go_wp2_with fail;go_ret;exact⟨rfl,HBF.out⟩
    ·have f0:(h.wd != 0)=true:=by rw[bne_iff_ne];exact hw0
     obtain rfl:3=v:=by rw[←hv,if_neg hw0]
     clear h1 h2 h3 hv hw0;go_wp2_with fail;go_ret;exact⟨rfl,HBF.out⟩
   have b3:(h.k==3)=false:=by rw[beq_eq_false_iff_ne];exact h3
   by_cases h4:h.k=4
   ·have b4:(h.k==4)=true:=by rw[beq_iff_eq];exact h4
    have hng:groupB h.s.toList=false:=by
     have:=HOH.out;unfold okHd callOk freeB at this;rw[if_neg h1,if_neg h2,if_neg h3,if_pos h4]at this;cases hg:groupB h.s.toList
     ·rfl
     ·rw[hg]at this;simp at this
    rw[call_of h1 h2 h3 (by omega) (by omega)]at hv;obtain⟨l,hl⟩:∃l,ofL ks=l:=⟨_,rfl⟩
    have hll:l.length=ks.length:=by rw[←hl,ofL_length]
    rw[hl]at hv HOW;have c3:=HKX.out.cell 3;simp at c3;obtain⟨b,hb⟩:∃b,inF h.s growthL=b:=⟨_,rfl⟩
    have hin:=in11_is h.s _ growthL 3 3 _ b rfl hb (nms_new (Blk.new wr 9 _)) (by decide);have HIN:=hid hin;have HK9:=hid (HKX.out.alloc (.cells (growthL.map Value.string).toArray 9));have HO9:=hid (HOW.out.alloc (.cells (growthL.map Value.string).toArray 9));have HB9:=hid (show Below w.heap.size w (wr.alloc (.cells (growthL.map Value.string).toArray 9))from HBF.out.alloc HBF.out.size _);have HV4:=hid hv;have HLL:=hid hll;have HIB:=hid hb;have HNG:=hid hng;clear hin hv hl hll hb hng h1 h2 h3 h4;go_wp2_with fail;refine(HIN.out).mono ?_;rintro e w9⟨rfl,rfl⟩;clear c3 c0 c5 c12 HIN HBF HKX HOW;generalize hW9:wr.alloc (.cells _ 9)=W9 at*
    clear hW9;have c3:=HK9.out.cell 3;simp at c3;cases b with
    |true=>
     have hS:h.s.toList=[114,97,116,101]∨h.s.toList=[105,110,99,114,101,97,115,101]∨h.s.toList=[100,101,108,116,97]:=by have:=HIB.out;rw[in_growth,Bool.or_eq_true,Bool.or_eq_true,beq_iff_eq,beq_iff_eq,beq_iff_eq]at this;exact this
     have hfit:fitsF h.s.toList=some ([3],2):=by unfold fitsF;rw[if_pos hS]
     have fa:(h.s.toList==[97,98,115])=false:=by rcases hS with e|e|e<;>rw[e]<;>rfl
     have ft:(h.s.toList==[116,105,109,101])=false:=by rcases hS with e|e|e<;>rw[e]<;>rfl
     have fv:(h.s.toList==[118,101,99,116,111,114])=false:=by rcases hS with e|e|e<;>rw[e]<;>rfl
     clear hS
     match l,HLL.out,HO9,HV4 with
     |[],hlen,HO,HV=>
      have hn:ks.length=0:=hlen.symm;rw[hn]at HO;obtain⟨A,cap,rfl,_⟩:=own_len HO.out;clear HO HLL HV4 HO9;obtain rfl:0=v:=by rw[←HV.out];rw[callF,hfit];rfl
      clear HV;go_wp2_with fail;all_goals(go_ret;exact⟨rfl,HB9.out⟩)
     |[x],hlen,HO,HV=>
      have hn:ks.length=1:=hlen.symm;rw[hn]at HO;obtain⟨g,cap,rfl,_⟩:=own_addr HO.out (by decide);have p0:W9.cell? ⟨g,0,none⟩=some (.int .i64 x):=by have:=HO.out.cells (g:=g) rfl 0 (.int .i64 x) rfl;rwa[addr_plus]at this
      clear HO HLL HV4 HO9 hlen hn;by_cases hx:x=3
      ·subst hx
       obtain rfl:2=v:=by rw[←HV.out];rw[callF,hfit];rfl
       clear HV;go_wp2_with fail;all_goals(go_ret;exact⟨rfl,HB9.out⟩)
      ·have ex:(x==3)=false:=by rw[beq_eq_false_iff_ne];exact hx
       have hne:¬[x]=[3]:=by intro e;injection e with e1;exact hx e1
       have HNE:=hid hne;clear hx hne;obtain rfl:0=v:=by rw[←HV.out];rw[callF,hfit];exact(if_neg HNE.out).symm
       clear HV;go_wp2_with fail;all_goals(go_ret;exact⟨rfl,HB9.out⟩)
     |x::y::l',hlen,HO,HV=>
      have hn:ks.length=l'.length+2:=hlen.symm;obtain⟨g,cap,rfl,_⟩:=own_addr HO.out (by omega);have n1:((ks.length:Int)==1)=false:=by rw[beq_eq_false_iff_ne];omega
      have n0':((ks.length:Int)==0)=false:=by rw[beq_eq_false_iff_ne];omega
      clear HO HLL HV4 HO9 hlen hn;obtain rfl:0=v:=by rw[←HV.out];rw[callF,hfit];exact(if_neg (fun e=>by cases e)).symm
      clear HV;go_wp2_with fail;all_goals(go_ret;exact⟨rfl,HB9.out⟩)
    |false=>
     have hS:¬(h.s.toList=[114,97,116,101]∨h.s.toList=[105,110,99,114,101,97,115,101]∨h.s.toList=[100,101,108,116,97]):=by have:=HIB.out;rw[in_growth]at this;intro hh;rcases hh with e|e|e<;>rw[e]at this<;>exact absurd this (by decide)
     by_cases ea:h.s.toList=[97,98,115]
     ·have hfit:fitsF h.s.toList=some ([2],2):=by rw[ea];rfl
      have fa:(h.s.toList==[97,98,115])=true:=by rw[beq_iff_eq];exact ea
      have ft:(h.s.toList==[116,105,109,101])=false:=by rw[ea];rfl
      have fv:(h.s.toList==[118,101,99,116,111,114])=false:=by rw[ea];rfl
      clear hS ea
      match l,HLL.out,HO9,HV4 with
      |[],hlen,HO,HV=>
       have hn:ks.length=0:=hlen.symm;rw[hn]at HO;obtain⟨A,cap,rfl,_⟩:=own_len HO.out;clear HO HLL HV4 HO9;obtain rfl:0=v:=by rw[←HV.out];rw[callF,hfit];rfl
       clear HV;go_wp2_with fail;all_goals(go_ret;exact⟨rfl,HB9.out⟩)
      |[x],hlen,HO,HV=>
       have hn:ks.length=1:=hlen.symm;rw[hn]at HO;obtain⟨g,cap,rfl,_⟩:=own_addr HO.out (by decide);have p0:W9.cell? ⟨g,0,none⟩=some (.int .i64 x):=by have:=HO.out.cells (g:=g) rfl 0 (.int .i64 x) rfl;rwa[addr_plus]at this
       clear HO HLL HV4 HO9 hlen hn;by_cases hx:x=2
       ·subst hx
        obtain rfl:2=v:=by rw[←HV.out];rw[callF,hfit];rfl
        clear HV;go_wp2_with fail;all_goals(go_ret;exact⟨rfl,HB9.out⟩)
       ·have ex:(x==2)=false:=by rw[beq_eq_false_iff_ne];exact hx
        have hne:¬[x]=[2]:=by intro e;injection e with e1;exact hx e1
        have HNE:=hid hne;clear hx hne;obtain rfl:0=v:=by rw[←HV.out];rw[callF,hfit];exact(if_neg HNE.out).symm
        clear HV;go_wp2_with fail;all_goals(go_ret;exact⟨rfl,HB9.out⟩)
      |x::y::l',hlen,HO,HV=>
       have hn:ks.length=l'.length+2:=hlen.symm;obtain⟨g,cap,rfl,_⟩:=own_addr HO.out (by omega);have n1:((ks.length:Int)==1)=false:=by rw[beq_eq_false_iff_ne];omega
       have n0':((ks.length:Int)==0)=false:=by rw[beq_eq_false_iff_ne];omega
       clear HO HLL HV4 HO9 hlen hn;obtain rfl:0=v:=by rw[←HV.out];rw[callF,hfit];exact(if_neg (fun e=>by cases e)).symm
       clear HV;go_wp2_with fail;all_goals(go_ret;exact⟨rfl,HB9.out⟩)
     have fa:(h.s.toList==[97,98,115])=false:=by rw[beq_eq_false_iff_ne];exact ea
     by_cases et:h.s.toList=[116,105,109,101]
     ·have hfit:fitsF h.s.toList=some ([],1):=by rw[et];rfl
      have fa:(h.s.toList==[97,98,115])=false:=by rw[et];rfl
      have ft:(h.s.toList==[116,105,109,101])=true:=by rw[beq_iff_eq];exact et
      have fv:(h.s.toList==[118,101,99,116,111,114])=false:=by rw[et];rfl
      clear hS et
      match l,HLL.out,HO9,HV4 with
      |[],hlen,HO,HV=>
       have hn:ks.length=0:=hlen.symm;rw[hn]at HO;obtain⟨A,cap,rfl,_⟩:=own_len HO.out;clear HO HLL HV4 HO9;obtain rfl:1=v:=by rw[←HV.out];rw[callF,hfit];rfl
       clear HV;go_wp2_with fail;all_goals(go_ret;exact⟨rfl,HB9.out⟩)
      |[x],hlen,HO,HV=>
       have hn:ks.length=1:=hlen.symm;rw[hn]at HO;obtain⟨g,cap,rfl,_⟩:=own_addr HO.out (by decide);have p0:W9.cell? ⟨g,0,none⟩=some (.int .i64 x):=by have:=HO.out.cells (g:=g) rfl 0 (.int .i64 x) rfl;rwa[addr_plus]at this
       clear HO HLL HV4 HO9 hlen hn;obtain rfl:0=v:=by rw[←HV.out];rw[callF,hfit];exact(if_neg (fun e=>by cases e)).symm
       clear HV;go_wp2_with fail;all_goals(go_ret;exact⟨rfl,HB9.out⟩)
      |x::y::l',hlen,HO,HV=>
       have hn:ks.length=l'.length+2:=hlen.symm;obtain⟨g,cap,rfl,_⟩:=own_addr HO.out (by omega);have n1:((ks.length:Int)==1)=false:=by rw[beq_eq_false_iff_ne];omega
       have n0':((ks.length:Int)==0)=false:=by rw[beq_eq_false_iff_ne];omega
       clear HO HLL HV4 HO9 hlen hn;obtain rfl:0=v:=by rw[←HV.out];rw[callF,hfit];exact(if_neg (fun e=>by cases e)).symm
       clear HV;go_wp2_with fail;all_goals(go_ret;exact⟨rfl,HB9.out⟩)
     have ft:(h.s.toList==[116,105,109,101])=false:=by rw[beq_eq_false_iff_ne];exact et
     by_cases ev:h.s.toList=[118,101,99,116,111,114]
     ·have hfit:fitsF h.s.toList=some ([1],2):=by rw[ev];rfl
      have fa:(h.s.toList==[97,98,115])=false:=by rw[ev];rfl
      have ft:(h.s.toList==[116,105,109,101])=false:=by rw[ev];rfl
      have fv:(h.s.toList==[118,101,99,116,111,114])=true:=by rw[beq_iff_eq];exact ev
      clear hS ev
      match l,HLL.out,HO9,HV4 with
      |[],hlen,HO,HV=>
       have hn:ks.length=0:=hlen.symm;rw[hn]at HO;obtain⟨A,cap,rfl,_⟩:=own_len HO.out;clear HO HLL HV4 HO9;obtain rfl:0=v:=by rw[←HV.out];rw[callF,hfit];rfl
       clear HV;go_wp2_with fail;all_goals(go_ret;exact⟨rfl,HB9.out⟩)
      |[x],hlen,HO,HV=>
       have hn:ks.length=1:=hlen.symm;rw[hn]at HO;obtain⟨g,cap,rfl,_⟩:=own_addr HO.out (by decide);have p0:W9.cell? ⟨g,0,none⟩=some (.int .i64 x):=by have:=HO.out.cells (g:=g) rfl 0 (.int .i64 x) rfl;rwa[addr_plus]at this
       clear HO HLL HV4 HO9 hlen hn;by_cases hx:x=1
       ·subst hx
        obtain rfl:2=v:=by rw[←HV.out];rw[callF,hfit];rfl
        clear HV;go_wp2_with fail;all_goals(go_ret;exact⟨rfl,HB9.out⟩)
       ·have ex:(x==1)=false:=by rw[beq_eq_false_iff_ne];exact hx
        have hne:¬[x]=[1]:=by intro e;injection e with e1;exact hx e1
        have HNE:=hid hne;clear hx hne;obtain rfl:0=v:=by rw[←HV.out];rw[callF,hfit];exact(if_neg HNE.out).symm
        clear HV;go_wp2_with fail;all_goals(go_ret;exact⟨rfl,HB9.out⟩)
      |x::y::l',hlen,HO,HV=>
       have hn:ks.length=l'.length+2:=hlen.symm;obtain⟨g,cap,rfl,_⟩:=own_addr HO.out (by omega);have n1:((ks.length:Int)==1)=false:=by rw[beq_eq_false_iff_ne];omega
       have n0':((ks.length:Int)==0)=false:=by rw[beq_eq_false_iff_ne];omega
       clear HO HLL HV4 HO9 hlen hn;obtain rfl:0=v:=by rw[←HV.out];rw[callF,hfit];exact(if_neg (fun e=>by cases e)).symm
       clear HV;go_wp2_with fail;all_goals(go_ret;exact⟨rfl,HB9.out⟩)
     have fv:(h.s.toList==[118,101,99,116,111,114])=false:=by rw[beq_eq_false_iff_ne];exact ev
     have hfit:fitsF h.s.toList=none:=by have hg:=HNG.out;unfold fitsF;rw[if_neg hS,if_neg et,if_neg ev];unfold groupB at hg;simp only[Bool.or_eq_false_iff,beq_eq_false_iff_ne]at hg;obtain⟨g1,g2,g3,g4,g5,g6,g7⟩:=hg;rw[if_neg (by rintro(e|e|e|e|e|e);exact ea e;exact g1 e;exact g2 e;exact g3 e;exact g4 e;exact g5 e),if_neg (by rintro(e|e);exact g6 e;exact g7 e)]
     clear hS ea et ev
     match l,HLL.out,HO9,HV4 with
     |[],hlen,HO,HV=>
      have hn:ks.length=0:=hlen.symm;rw[hn]at HO;obtain⟨A,cap,rfl,_⟩:=own_len HO.out;clear HO HLL HV4 HO9;obtain rfl:0=v:=by rw[←HV.out];rw[callF,hfit]
      clear HV;go_wp2_with fail;all_goals(go_ret;exact⟨rfl,HB9.out⟩)
     |[x],hlen,HO,HV=>
      have hn:ks.length=1:=hlen.symm;rw[hn]at HO;obtain⟨g,cap,rfl,_⟩:=own_addr HO.out (by decide);have p0:W9.cell? ⟨g,0,none⟩=some (.int .i64 x):=by have:=HO.out.cells (g:=g) rfl 0 (.int .i64 x) rfl;rwa[addr_plus]at this
      clear HO HLL HV4 HO9 hlen hn;obtain rfl:0=v:=by rw[←HV.out];rw[callF,hfit]
      clear HV;go_wp2_with fail;all_goals(go_ret;exact⟨rfl,HB9.out⟩)
     |x::y::l',hlen,HO,HV=>
      have hn:ks.length=l'.length+2:=hlen.symm;obtain⟨g,cap,rfl,_⟩:=own_addr HO.out (by omega);have n1:((ks.length:Int)==1)=false:=by rw[beq_eq_false_iff_ne];omega
      have n0':((ks.length:Int)==0)=false:=by rw[beq_eq_false_iff_ne];omega
      clear HO HLL HV4 HO9 hlen hn;obtain rfl:0=v:=by rw[←HV.out];rw[callF,hfit]
      clear HV;go_wp2_with fail;all_goals(go_ret;exact⟨rfl,HB9.out⟩)
   have b4:(h.k==4)=false:=by rw[beq_eq_false_iff_ne];exact h4
   by_cases h5:h.k=5
   ·have b5:(h.k==5)=true:=by rw[beq_iff_eq];exact h5
    have hgr:groupB h.s.toList=true:=by
     have:=HOH.out;unfold okHd groupOk at this;rw[if_neg h1,if_neg h2,if_neg h3,if_neg h4,if_pos h5]at this;cases hg:groupB h.s.toList
     ·rw[hg]at this;simp at this
     ·rfl
    rw[call_of h1 h2 h3 (by omega) (by omega)]at hv;obtain⟨l,hl⟩:∃l,ofL ks=l:=⟨_,rfl⟩
    have hll:l.length=ks.length:=by rw[←hl,ofL_length]
    rw[hl]at hv HOW;have c3:=HKX.out.cell 3;simp at c3;obtain⟨b,hb⟩:∃b,inF h.s bestL=b:=⟨_,rfl⟩
    have hin:=in11_is h.s _ bestL 2 2 _ b rfl hb (nms_new (Blk.new wr 9 _)) (by decide);have HIN:=hid hin;have HK9:=hid (HKX.out.alloc (.cells (bestL.map Value.string).toArray 9));have HO9:=hid (HOW.out.alloc (.cells (bestL.map Value.string).toArray 9));have HB9:=hid (show Below w.heap.size w (wr.alloc (.cells (bestL.map Value.string).toArray 9))from HBF.out.alloc HBF.out.size _);have HV4:=hid hv;have HLL:=hid hll;have HIB:=hid hb;have HGR:=hid hgr;clear hin hv hl hll hb hgr h1 h2 h3 h4 h5;go_wp2_with fail;refine(HIN.out).mono ?_;rintro e w9⟨rfl,rfl⟩;clear c3 c0 c5 c12 HIN HBF HKX HOW;generalize hW9:wr.alloc (.cells _ 9)=W9 at*
    clear hW9;cases b with
    |true=>
     have hS:h.s.toList=[116,111,112,107]∨h.s.toList=[98,111,116,116,111,109,107]:=by have:=HIB.out;rw[in_best,Bool.or_eq_true,beq_iff_eq,beq_iff_eq]at this;exact this
     have hfit:fitsF h.s.toList=some ([1,2],2):=by rcases hS with e|e<;>rw[e]<;>rfl
     clear hS
     match l,HLL.out,HO9,HV4 with
     |[],hlen,HO,HV=>
      have hn:ks.length=0:=hlen.symm;rw[hn]at HO;obtain⟨A,cap,rfl,_⟩:=own_len HO.out;clear HO HLL HV4 HO9;obtain rfl:0=v:=by rw[←HV.out];rw[callF,hfit];exact(if_neg (fun e=>by cases e)).symm
      clear HV;go_wp2_with fail;all_goals(go_ret;exact⟨rfl,HB9.out⟩)
     |[x],hlen,HO,HV=>
      have hn:ks.length=1:=hlen.symm;rw[hn]at HO;obtain⟨g,cap,rfl,_⟩:=own_addr HO.out (by decide);clear HO HLL HV4 HO9 hlen hn;obtain rfl:0=v:=by rw[←HV.out];rw[callF,hfit];exact(if_neg (fun e=>by cases e)).symm
      clear HV;go_wp2_with fail;all_goals(go_ret;exact⟨rfl,HB9.out⟩)
     |[x,y],hlen,HO,HV=>
      have hn:ks.length=2:=hlen.symm;rw[hn]at HO;obtain⟨g,cap,rfl,_⟩:=own_addr HO.out (by decide);have p0:W9.cell? ⟨g,0,none⟩=some (.int .i64 x):=by have:=HO.out.cells (g:=g) rfl 0 (.int .i64 x) rfl;rwa[addr_plus]at this
      have p1:W9.cell? ⟨g,1,none⟩=some (.int .i64 y):=by have:=HO.out.cells (g:=g) rfl 1 (.int .i64 y) rfl;rwa[addr_plus]at this
      clear HO HLL HV4 HO9 hlen hn;by_cases hx:x=1
      ·subst hx
       by_cases hy:y=2
       ·subst hy
        obtain rfl:2=v:=by rw[←HV.out];rw[callF,hfit];rfl
        clear HV;go_wp2_with fail;all_goals(go_ret;exact⟨rfl,HB9.out⟩)
       ·have ey:(y==2)=false:=by rw[beq_eq_false_iff_ne];exact hy
        have hne:¬[1,y]=[1,2]:=by intro e;injection e with _ e1;injection e1 with e2;exact hy e2
        have HNE:=hid hne;clear hy hne;obtain rfl:0=v:=by rw[←HV.out];rw[callF,hfit];exact(if_neg HNE.out).symm
        clear HV;go_wp2_with fail;all_goals(go_ret;exact⟨rfl,HB9.out⟩)
      ·have ex:(x==1)=false:=by rw[beq_eq_false_iff_ne];exact hx
       have hne:¬[x,y]=[1,2]:=by intro e;injection e with e1;exact hx e1
       have HNE:=hid hne;clear hx hne;obtain rfl:0=v:=by rw[←HV.out];rw[callF,hfit];exact(if_neg HNE.out).symm
       clear HV;go_wp2_with fail;all_goals(go_ret;exact⟨rfl,HB9.out⟩)
     |x::y::z::l',hlen,HO,HV=>
      have hn:ks.length=l'.length+3:=hlen.symm;obtain⟨g,cap,rfl,_⟩:=own_addr HO.out (by omega);have n2:((ks.length:Int)==2)=false:=by rw[beq_eq_false_iff_ne];omega
      clear HO HLL HV4 HO9 hlen hn;obtain rfl:0=v:=by rw[←HV.out];rw[callF,hfit];exact(if_neg (fun e=>by cases e)).symm
      clear HV;go_wp2_with fail;all_goals(go_ret;exact⟨rfl,HB9.out⟩)
    |false=>
     have hfit:fitsF h.s.toList=some ([2],2):=by have hg:=HGR.out;have hb:=HIB.out;rw[in_best]at hb;unfold groupB at hg;simp only[Bool.or_eq_true,beq_iff_eq]at hg;rcases hg with e|e|e|e|e|e|e;all_goals first|(rw[e];rfl)|(rw[e]at hb;exact absurd hb (by decide))
     match l,HLL.out,HO9,HV4 with
     |[],hlen,HO,HV=>
      have hn:ks.length=0:=hlen.symm;rw[hn]at HO;obtain⟨A,cap,rfl,_⟩:=own_len HO.out;clear HO HLL HV4 HO9;obtain rfl:0=v:=by rw[←HV.out];rw[callF,hfit];exact(if_neg (fun e=>by cases e)).symm
      clear HV;go_wp2_with fail;all_goals(go_ret;exact⟨rfl,HB9.out⟩)
     |[x],hlen,HO,HV=>
      have hn:ks.length=1:=hlen.symm;rw[hn]at HO;obtain⟨g,cap,rfl,_⟩:=own_addr HO.out (by decide);have p0:W9.cell? ⟨g,0,none⟩=some (.int .i64 x):=by have:=HO.out.cells (g:=g) rfl 0 (.int .i64 x) rfl;rwa[addr_plus]at this
      clear HO HLL HV4 HO9 hlen hn;by_cases hx:x=2
      ·subst hx
       obtain rfl:2=v:=by rw[←HV.out];rw[callF,hfit];rfl
       clear HV;go_wp2_with fail;all_goals(go_ret;exact⟨rfl,HB9.out⟩)
      ·have ex:(x==2)=false:=by rw[beq_eq_false_iff_ne];exact hx
       have hne:¬[x]=[2]:=by intro e;injection e with e1;exact hx e1
       have HNE:=hid hne;clear hx hne;obtain rfl:0=v:=by rw[←HV.out];rw[callF,hfit];exact(if_neg HNE.out).symm
       clear HV;go_wp2_with fail;all_goals(go_ret;exact⟨rfl,HB9.out⟩)
     |x::y::l',hlen,HO,HV=>
      have hn:ks.length=l'.length+2:=hlen.symm;obtain⟨g,cap,rfl,_⟩:=own_addr HO.out (by omega);have n1:((ks.length:Int)==1)=false:=by rw[beq_eq_false_iff_ne];omega
      clear HO HLL HV4 HO9 hlen hn;obtain rfl:0=v:=by rw[←HV.out];rw[callF,hfit];exact(if_neg (fun e=>by cases e)).symm
      clear HV;go_wp2_with fail;all_goals(go_ret;exact⟨rfl,HB9.out⟩)
   have b5:(h.k==5)=false:=by rw[beq_eq_false_iff_ne];exact h5
   by_cases h6:h.k=6
   ·have b6:(h.k==6)=true:=by rw[beq_iff_eq];exact h6
    have hn2:ks.length=2:=okR.pair _ _ HOH.out h6;obtain⟨t1,t2,ht1⟩:∃a b,ks=[a,b]:=by
     match ks,hn2 with
     |[a,b],_=>exact⟨a,b,rfl⟩
    have hl:ofL ks=[ofF t1,ofF t2]:=by rw[ht1];rfl
    have hx14:=of_in t1;have hy14:=of_in t2;obtain⟨x,hx⟩:∃x,ofF t1=x:=⟨_,rfl⟩
    obtain⟨y,hy⟩:∃x,ofF t2=x:=⟨_,rfl⟩
    rw[hx,hy]at hl;rw[hx]at hx14;rw[hy]at hy14;rw[hn2,hl]at HOW;have hx0:=HNZ.out x (by rw[hl];simp);have hy0:=HNZ.out y (by rw[hl];simp);rw[ofF,if_neg h1,if_neg h2,if_neg h3,if_neg (by omega),if_pos h6,hl]at hv;have hv6:heldF h.o h.bo h.how (numberF x) (numberF y)=v:=hv;obtain⟨g,cap,rfl,_⟩:=own_addr HOW.out (by decide);have p0:wr.cell? ⟨g,0,none⟩=some (.int .i64 x):=by have:=HOW.out.cells (g:=g) rfl 0 (.int .i64 x) rfl;rwa[addr_plus]at this
    have p1:wr.cell? ⟨g,1,none⟩=some (.int .i64 y):=by have:=HOW.out.cells (g:=g) rfl 1 (.int .i64 y) rfl;rwa[addr_plus]at this
    have c1:=HKX.out.cell 1;have c9:=HKX.out.cell 9;have c11:=HKX.out.cell 11;simp at c1 c9 c11;have HV6:=hid hv6;have HX14:=hid hx14;have HY14:=hid hy14;have HX0:=hid hx0;have HY0:=hid hy0;clear hv hv6 h1 h2 h3 h4 h5 h6 hl ht1 hx hy hn2 hx14 hy14 hx0 hy0;by_cases hx2:2<x
    ·have ex1:(x==1)=false:=by rw[beq_eq_false_iff_ne];omega
     obtain rfl:0=v:=by rw[←HV6.out];unfold heldF;rw[if_pos (.inl (by unfold numberF;rw[if_pos (by have:=HX14.out;omega)]))]
     go_wp2_with fail;all_goals(go_ret;exact⟨rfl,HBF.out⟩)
    by_cases hy2:2<y
    ·have ey1:(y==1)=false:=by rw[beq_eq_false_iff_ne];omega
     obtain rfl:0=v:=by rw[←HV6.out];unfold heldF;rw[if_pos (.inr (by unfold numberF;rw[if_pos (by have:=HY14.out;omega)]))]
     have hx2i:¬2<x:=hx2;cases ex1:(x==1)
     all_goals(
      go_wp2_with fail;all_goals(go_ret;exact⟨rfl,HBF.out⟩))
    have hxx:x=1∨x=2:=by have:=HX14.out;have:=HX0.out;omega
    have hyy:y=1∨y=2:=by have:=HY14.out;have:=HY0.out;omega
    clear HX14 HX0 HY14 HY0 hx2 hy2;obtain⟨bo,hbo⟩:∃b,h.bo=b:=⟨_,rfl⟩
    rw[hbo]at c11;have HV6:Hid (heldF h.o bo h.how (numberF x) (numberF y)=v):=by rw[←hbo];exact HV6.out
    clear hbo;cases e0:(h.how != 0)<;>cases bo<;>by_cases o6:h.o≤6<;>rcases hxx with rfl|rfl<;>rcases hyy with rfl|rfl
    all_goals(
     have o6i:(6:Int)<h.o↔¬h.o≤6:=by omega
     have hvv:=HV6.out;first|rw[bne_eq_false_iff_eq]at e0|rw[bne_iff_ne]at e0
     simp[heldF,numberF,e0,o6,o6i]at hvv;subst hvv;have f0:(h.how != 0)=false∨(h.how != 0)=true:=by cases (h.how != 0)<;>simp
     clear HV6 o6i f0;first|(have f1:(h.how != 0)=false:=by rw[bne_eq_false_iff_eq];exact e0)|(have f1:(h.how != 0)=true:=by rw[bne_iff_ne];exact e0)
     first|(have o7:¬(6:Int)<h.o:=by omega)|(have o7:(6:Int)<h.o:=by omega)
     clear e0;go_wp2_with fail;all_goals(go_ret;exact⟨rfl,HBF.out⟩))
   have b6:(h.k==6)=false:=by rw[beq_eq_false_iff_ne];exact h6
   have h7:h.k=7:=by have:=okR.kind _ _ HOH.out;omega
   have b7:(h.k==7)=true:=by rw[beq_iff_eq];exact h7
   have hn1:ks.length=1:=okR.less _ _ HOH.out h7;obtain⟨t1,ht1⟩:=List.length_eq_one_iff.1 hn1;have hl:ofL ks=[ofF t1]:=by rw[ht1];rfl
   have hx14:=of_in t1;obtain⟨x,hx⟩:∃x,ofF t1=x:=⟨_,rfl⟩
   rw[hx]at hl hx14;rw[hn1,hl]at HOW;have hx0:=HNZ.out x (by rw[hl];simp);rw[ofF,if_neg h1,if_neg h2,if_neg h3,if_pos h7,hl]at hv;have hv7:numberF x=v:=hv;obtain⟨g,cap,rfl,_⟩:=own_addr HOW.out (by decide);have p0:wr.cell? ⟨g,0,none⟩=some (.int .i64 x):=by have:=HOW.out.cells (g:=g) rfl 0 (.int .i64 x) rfl;rwa[addr_plus]at this
   clear hv h1 h2 h3 h4 h5 h6 h7 hl ht1 hx hn1;by_cases hx3:x<3
   ·obtain rfl:x=v:=by rw[←hv7];unfold numberF;split<;>omega
    clear hv7 hx14 hx0;go_wp2_with fail;go_ret;exact⟨rfl,HBF.out⟩
   ·obtain rfl:0=v:=by rw[←hv7];unfold numberF;split<;>omega
    clear hv7 hx14 hx0;go_wp2_with fail;go_ret;exact⟨rfl,HBF.out⟩
theorem kind_doc(n:Nat):∀x:Tr,szF x≤n→KindIs x:=by
 induction n with
 |zero=>intro x hx;have:=szF_pos x;omega
 |succ n ih=>intro x hx;obtain⟨h,ks⟩:=x;exact kind_step h ks fun y hy=>ih y (by have:=szL_mem hy;rw[szF]at hx;omega)
end Go.Proofs.YtmodehfedhgcbaaGreatDoor.Ck

set_option linter.unusedVariables false
set_option linter.unusedSimpArgs false
set_option maxRecDepth 100000
set_option maxHeartbeats 8000000
namespace Go.Proofs.YtmodehfedhgcbaaGreatDoor.Ck
open Go.RowKit
open Lib (hid)
theorem dright_any(t:Tr)(w:World)(hL:Lies w t)(hs:shortF t=true):Calls Tryz.prog 16 #[valT t] w fun e w'=>e=.returned (.bool (rightF okHd t))∧Below w.heap.size w w':=by
 have h25:∀W,Below w.heap.size w W→Calls Tryz.prog 25 #[valT t] W fun e w'=>e=.returned (.bool (allF okHd t))∧Below W.heap.size W w':=fun W hW=>right_doc _ t (Nat.le_refl _) W (hL.below hW) hs;have h10:∀W,Below w.heap.size w W→Calls Tryz.prog 10 #[valT t] W fun e w'=>e=.returned (.int .i64 (nestF t:Nat))∧Below W.heap.size W w':=fun W hW=>dnest_any 300 t (short_size hs).2 (by decide) W (hL.below hW);unfold rightF;obtain⟨z,hz⟩:∃z,nestF t=z:=⟨_,rfl⟩
 obtain⟨q,hq⟩:∃q,allF okHd t=q:=⟨_,rfl⟩
 rw[hq]at h25⊢
 rw[hz]at h10⊢
 obtain⟨rr,hrr⟩:∃rr,(decide (z≤64)&&q)=rr:=⟨_,rfl⟩
 rw[hrr];have HRR:=hid hrr;have hb1:Below w.heap.size w (w.alloc (.cells (cellsT t).toArray 27)):=(Below.refl _ _).alloc (Nat.le_refl _) _;have hk1:=Blk.new w 27 (cellsT t).toArray;clear hz hq hs hL hrr;obtain⟨h,ks⟩:=t;rw[valT_arr]at h25 h10⊢
 have H25:=hid h25;have H10:=hid h10;have HB1:Hid (Below w.heap.size w (w.alloc (.cells (arr h ks.length) 27))):=hb1;have HK1:Hid (Blk (w.alloc (.cells (arr h ks.length) 27)) w.heap.size 27 (arr h ks.length)):=hk1;clear h25 h10 hb1 hk1;unfold arr at*
 go_enter Tryz.func16,Tryz.ntmps16;go_wp2_with fail;refine(H25.out _ HB1.out).mono ?_;rintro e w2⟨rfl,hb2⟩;have HK2:=hid (HK1.out.below hb2);have HB2:=hid (HB1.out.trans (hb2.mono HB1.out.size));clear hb2 H25 HK1 HB1;obtain⟨c0,c1,c2,c3,c4,c5,c6,c7,c8,c9,c10,c11,c12⟩:=blk13 (h:=h) (n:=ks.length) HK2.out;cases q with
 |false=>
  obtain rfl:false=rr:=by rw[←HRR.out,Bool.and_false]
  go_wp2_with fail;go_ret;exact⟨rfl,HB2.out⟩
 |true=>
  go_wp2_with fail;refine(H10.out _ HB2.out).mono ?_;rintro e w3⟨rfl,hb3⟩;have HB3:=hid (HB2.out.trans (hb3.mono HB2.out.size));clear hb3 H10 HB2 c0 c1 c2 c3 c4 c5 c6 c7 c8 c9 c10 c11 c12;obtain rfl:decide ((z:Int)≤64)=rr:=by rw[←HRR.out,Bool.and_true,Bool.eq_iff_iff,decide_eq_true_eq,decide_eq_true_eq];omega
  go_wp2_with fail;go_ret;exact⟨rfl,HB3.out⟩
def dtypV(t:Tr):Value:=if rightF okHd t=true then(if ofF t=0 then .tuple #[.int .i64 0,.int .i64 7]else .tuple #[.int .i64 (ofF t),.int .i64 0])else .tuple #[.int .i64 0,.int .i64 6]
theorem dtype_any(t:Tr)(w:World)(hL:Lies w t)(hs:shortF t=true):Calls Tryz.prog 8 #[valT t] w fun e w'=>e=.returned (dtypV t)∧Below w.heap.size w w':=by
 have h16:∀W,Below w.heap.size w W→Calls Tryz.prog 16 #[valT t] W fun e w'=>e=.returned (.bool (rightF okHd t))∧Below W.heap.size W w':=fun W hW=>dright_any t W (hL.below hW) hs;have h17:rightF okHd t=true→∀W,Below w.heap.size w W→Calls Tryz.prog 17 #[valT t] W fun e w'=>e=.returned (.int .i64 (ofF t))∧Below W.heap.size W w':=fun hr W hW=>kind_doc _ t (Nat.le_refl _) W (hL.below hW) hr (by have:=(short_size hs).2;omega);unfold dtypV;obtain⟨r,hr⟩:∃r,rightF okHd t=r:=⟨_,rfl⟩
 obtain⟨v,hv⟩:∃v,ofF t=v:=⟨_,rfl⟩
 rw[hr]at h16 h17⊢
 rw[hv]at h17⊢
 obtain⟨A,hA⟩:∃A,(if r=true then(if v=0 then Value.tuple #[.int .i64 0,.int .i64 7]else .tuple #[.int .i64 v,.int .i64 0])else .tuple #[.int .i64 0,.int .i64 6])=A:=⟨_,rfl⟩
 rw[hA];have HAQ:=hid hA;have hb1:Below w.heap.size w (w.alloc (.cells (cellsT t).toArray 27)):=(Below.refl _ _).alloc (Nat.le_refl _) _;have hk1:=Blk.new w 27 (cellsT t).toArray;clear hr hv hs hL hA;obtain⟨h,ks⟩:=t;rw[valT_arr]at h16 h17⊢
 have H16:=hid h16;have H17:=hid h17;have HB1:Hid (Below w.heap.size w (w.alloc (.cells (arr h ks.length) 27))):=hb1;have HK1:Hid (Blk (w.alloc (.cells (arr h ks.length) 27)) w.heap.size 27 (arr h ks.length)):=hk1;clear h16 h17 hb1 hk1;unfold arr at*
 go_enter Tryz.func8,Tryz.ntmps8;go_wp2_with fail;refine(H16.out _ HB1.out).mono ?_;rintro e w2⟨rfl,hb2⟩;have HK2:=hid (HK1.out.below hb2);have HB2:=hid (HB1.out.trans (hb2.mono HB1.out.size));clear hb2 H16 HK1 HB1;cases r with
 |false=>
  have hav:=HAQ.out;rw[if_neg (by simp)]at hav;subst hav;go_wp2_with fail
  go_ret2
  exact⟨rfl,HB2.out⟩
 |true=>
  obtain⟨c0,c1,c2,c3,c4,c5,c6,c7,c8,c9,c10,c11,c12⟩:=blk13 (h:=h) (n:=ks.length) HK2.out;have hav:=HAQ.out;rw[if_pos rfl]at hav;by_cases h0:v=0
  ·have e0:(v==0)=true:=by rw[beq_iff_eq];exact h0
   rw[if_pos h0]at hav;subst hav;clear h0 HAQ;go_wp2_with fail;refine(H17.out (by first|rfl|trivial) _ HB2.out).mono ?_;rintro e w3⟨rfl,hb3⟩;have HB3:=hid (HB2.out.trans (hb3.mono HB2.out.size));clear hb3 H17 HB2 c0 c1 c2 c3 c4 c5 c6 c7 c8 c9 c10 c11 c12;go_wp2_with fail
   go_ret2
   exact⟨rfl,HB3.out⟩
  ·have e0:(v==0)=false:=by rw[beq_eq_false_iff_ne];exact h0
   rw[if_neg h0]at hav;subst hav;clear h0 HAQ;go_wp2_with fail;refine(H17.out (by first|rfl|trivial) _ HB2.out).mono ?_;rintro e w3⟨rfl,hb3⟩;have HB3:=hid (HB2.out.trans (hb3.mono HB2.out.size));clear hb3 H17 HB2 c0 c1 c2 c3 c4 c5 c6 c7 c8 c9 c10 c11 c12;go_wp2_with fail
   go_ret2
   exact⟨rfl,HB3.out⟩
theorem code_same(t:Tr):∃(n c:Int),(typV t=.tuple #[.int .i64 n,.nilIface]∧dtypV t=.tuple #[.int .i64 n,.int .i64 0])∨(0<c∧typV t=.tuple #[.int .i64 n,.iface 41 (.int .i64 c)]∧dtypV t=.tuple #[.int .i64 n,.int .i64 c]):=by
 unfold typV dtypV;by_cases hr:rightF okHd t=true
 ·rw[if_pos hr,if_pos hr]
  by_cases h0:ofF t=0
  ·rw[if_pos h0,if_pos h0];exact⟨0,7,.inr ⟨by decide,rfl,rfl⟩⟩
  ·rw[if_neg h0,if_neg h0];exact⟨ofF t,0,.inl ⟨rfl,rfl⟩⟩
 ·rw[if_neg hr,if_neg hr];exact⟨0,6,.inr ⟨by decide,rfl,rfl⟩⟩
section
variable {Q qo qc P off c F fo fc:Nat}
theorem types_law(t:Tr)(w:World)(hT:Tabl Q qo qc P off c F fo fc w)(hE:Er.ErrT w)(hL:Lies w t):Calls Tryz.prog 3 #[valT t] w fun e w'=>e=.returned (.bool true)∧Below w.heap.size w w':=by
 obtain⟨r,hr⟩:∃r,shortF t=r:=⟨_,rfl⟩
 have h5:∀W,Below w.heap.size w W→Calls Tryz.prog 5 #[] W fun e w'=>e=.returned (.bool true)∧Below W.heap.size W w':=fun W hW=>awake_any W (hT.below hW) (err_below hE hW);have h6:∀W,Below w.heap.size w W→Calls Tryz.prog 6 #[valT t] W fun e w'=>e=.returned (.bool r)∧Below W.heap.size W w':=fun W hW=>by rw[←hr];exact short_any _ t (Nat.le_refl _) W (hL.below hW)
 have h7:r=true→∀W,Below w.heap.size w W→Calls Tryz.prog 7 #[valT t] W fun e w'=>e=.returned (typV t)∧Below W.heap.size W w':=fun h1 W hW=>by subst h1;exact type_any t W (hT.below hW) (hL.below hW) (by have:=(short_size hr).2;omega)
 have h8:r=true→∀W,Below w.heap.size w W→Calls Tryz.prog 8 #[valT t] W fun e w'=>e=.returned (dtypV t)∧Below W.heap.size W w':=fun h1 W hW=>by subst h1;exact dtype_any t W (hL.below hW) hr
 obtain⟨n,c,hcs⟩:=code_same t;have hb1:Below w.heap.size w (w.alloc (.cells (cellsT t).toArray 27)):=(Below.refl _ _).alloc (Nat.le_refl _) _;have hk1:=Blk.new w 27 (cellsT t).toArray;have hee:∀W,Below w.heap.size w W→Er.ErrT W:=fun W hW=>err_below hE hW;clear hr hT hE hL;generalize typV t=tv at*
 generalize dtypV t=dv at*
 obtain⟨h,ks⟩:=t;rw[valT_arr]at h6 h7 h8⊢
 have H5:=hid h5;have H6:=hid h6;have H7:=hid h7;have H8:=hid h8;have HCS:=hid hcs;have HEE:=hid hee;have HB1:Hid (Below w.heap.size w (w.alloc (.cells (arr h ks.length) 27))):=hb1;have HK1:Hid (Blk (w.alloc (.cells (arr h ks.length) 27)) w.heap.size 27 (arr h ks.length)):=hk1;clear h5 h6 h7 h8 hcs hb1 hk1 hee;unfold arr at*
 go_enter Tryz.func3,Tryz.ntmps3;go_wp2_with fail;refine(H5.out _ HB1.out).mono ?_;rintro e w2⟨rfl,hb2⟩;have HK2:=hid (HK1.out.below hb2);have HB2:=hid (HB1.out.trans (hb2.mono HB1.out.size));clear hb2 H5 HK1 HB1;obtain⟨c0,c1,c2,c3,c4,c5,c6,c7,c8,c9,c10,c11,c12⟩:=blk13 (h:=h) (n:=ks.length) HK2.out;go_wp2_with fail;refine(H6.out _ HB2.out).mono ?_;rintro e w3⟨rfl,hb3⟩;have HK3:=hid (HK2.out.below hb3);have HB3:=hid (HB2.out.trans (hb3.mono HB2.out.size));clear hb3 H6 HK2 HB2 c0 c1 c2 c3 c4 c5 c6 c7 c8 c9 c10 c11 c12;cases r with
 |false=>go_wp2_with fail;go_ret;exact⟨rfl,HB3.out⟩
 |true=>
  obtain⟨c0,c1,c2,c3,c4,c5,c6,c7,c8,c9,c10,c11,c12⟩:=blk13 (h:=h) (n:=ks.length) HK3.out;rcases HCS.out with ⟨e1,e2⟩|⟨hc,e1,e2⟩
  ·subst e1 e2
   go_wp2_with fail;refine(H7.out (by first|rfl|trivial) _ HB3.out).mono ?_;rintro e w4⟨rfl,hb4⟩;have HK4:=hid (HK3.out.below hb4);have HB4:=hid (HB3.out.trans (hb4.mono HB3.out.size));clear hb4 H7 HK3 HB3 c0 c1 c2 c3 c4 c5 c6 c7 c8 c9 c10 c11 c12;obtain⟨c0,c1,c2,c3,c4,c5,c6,c7,c8,c9,c10,c11,c12⟩:=blk13 (h:=h) (n:=ks.length) HK4.out;go_wp2_with fail;refine(H8.out (by first|rfl|trivial) _ HB4.out).mono ?_;rintro e w5⟨rfl,hb5⟩;have HB5:=hid (HB4.out.trans (hb5.mono HB4.out.size));clear hb5 H8 HK4 HB4 c0 c1 c2 c3 c4 c5 c6 c7 c8 c9 c10 c11 c12;go_wp2_with fail;refine(Er.code_nil _).mono ?_;rintro e w6⟨rfl,rfl⟩;go_wp2_with fail;go_ret;exact⟨rfl,HB5.out⟩
  ·subst e1 e2
   go_wp2_with fail;refine(H7.out (by first|rfl|trivial) _ HB3.out).mono ?_;rintro e w4⟨rfl,hb4⟩;have HK4:=hid (HK3.out.below hb4);have HB4:=hid (HB3.out.trans (hb4.mono HB3.out.size));clear hb4 H7 HK3 HB3 c0 c1 c2 c3 c4 c5 c6 c7 c8 c9 c10 c11 c12;obtain⟨c0,c1,c2,c3,c4,c5,c6,c7,c8,c9,c10,c11,c12⟩:=blk13 (h:=h) (n:=ks.length) HK4.out;go_wp2_with fail;refine(H8.out (by first|rfl|trivial) _ HB4.out).mono ?_;rintro e w5⟨rfl,hb5⟩;have HB5:=hid (HB4.out.trans (hb5.mono HB4.out.size));clear hb5 H8 HK4 HB4 c0 c1 c2 c3 c4 c5 c6 c7 c8 c9 c10 c11 c12;go_wp2_with fail;refine(Er.code_is c hc w5 (HEE.out _ HB5.out)).mono ?_;rintro e w6⟨rfl,hb6⟩;have HB6:=hid (HB5.out.trans (hb6.mono HB5.out.size));clear hb6;go_wp2_with fail;go_ret;exact⟨rfl,HB6.out⟩
end
end Go.Proofs.YtmodehfedhgcbaaGreatDoor.Ck

/- A call: what it takes looked up, held against what its kids are. Conditions: the map as newChecker makes it; of the kids it is known what they come to. -/
import Derived.Test.YtmodehfedhgcbaaGreatDoorN20
import Derived.Test.YtmodehfedhgcbaaGreatDoorN16
import Derived.Deep.RegionHeld3
import Derived.Test.YtmodehfedhgcbaaGreatDoorN15
set_option linter.unusedVariables false
set_option linter.unusedSimpArgs false
set_option maxRecDepth 100000
set_option maxHeartbeats 4000000
namespace Go.Proofs.YtmodehfedhgcbaaGreatDoor.Ck
open Go.RowKit
open Lib (hid)
def Ints(w:World)(A:Option Addr)(a:List Int):Prop:=∀i,i<a.length→∃b,A=some ⟨b,0,none⟩∧b<w.heap.size∧w.cell? ⟨b,i,none⟩=some (.int .i64 (a.getD i 0))
theorem Ints.below{w w':World}{A:Option Addr}{a:List Int}(h:Ints w A a)(hb:Below w.heap.size w w'):Ints w' A a:=fun i hi=>by obtain⟨b,h1,h2,h3⟩:=h i hi;exact⟨b,h1,Nat.lt_of_lt_of_le h2 hb.size,(hb.cell (p:=⟨b,i,none⟩) h2).trans h3⟩
theorem ba_toList(l:List UInt8):(⟨l.toArray⟩:ByteArray).toList=l:=by simp
theorem bytes_eq{s:ByteArray}{l:List UInt8}(h:s.toList=l):s=⟨l.toArray⟩:=by obtain⟨⟨d⟩⟩:=s;rw[ba_toList]at h;rw[h]
theorem ints1{w:World}{b:Nat}{x:Int}(h:Blk w b 3 #[.int .i64 x]):Ints w (some ⟨b,0,none⟩) [x]:=fun i hi=>by
 obtain rfl:i=0:=by simpa using hi
 exact⟨b,rfl,h.lt,h.cell 0⟩
theorem ints2{w:World}{b:Nat}{x y:Int}(h:Blk w b 3 #[.int .i64 x,.int .i64 y]):Ints w (some ⟨b,0,none⟩) [x,y]:=fun i hi=>by
 have:i=0∨i=1:=by simp at hi;omega
 rcases this with rfl|rfl
 ·exact⟨b,rfl,h.lt,h.cell 0⟩
 ·exact⟨b,rfl,h.lt,h.cell 1⟩
theorem look_fits{w:World}{mp b1 b2 b3 b4:Nat}(hC:ChkM w mp b1 b2 b3 b4)(s:ByteArray)(hs:s.size≤200):
 (fitsF s.toList=none∧(Instr.lookup 42 (.map (some mp)) (.string s) true).run Tryz.prog w=.ok (.tuple #[.agg #[.slice none 0 0,.int .i64 0],.bool false]) w)∨
 ∃(a:List Int) (g:Int) (A:Option Addr) (c:Nat),fitsF s.toList=some (a,g)∧(Instr.lookup 42 (.map (some mp)) (.string s) true).run Tryz.prog w=.ok (.tuple #[.agg #[.slice A a.length c,.int .i64 g],.bool true]) w∧Ints w A a∧a.length≤2:=by
 rcases look_new hC.map s hs with ⟨p,hp,rfl,hl⟩|⟨hn,hl⟩
 ·right
  have nil:Ints w none []:=fun i hi=>absurd hi (Nat.not_lt_zero _);have q1:=ints1 hC.x1;have q2:=ints1 hC.x2;have q3:=ints2 hC.x3;have q4:=ints1 hC.x4;unfold chk13 at hp;simp only[List.mem_cons,List.not_mem_nil,or_false]at hp;rcases hp with rfl|rfl|rfl|rfl|rfl|rfl|rfl|rfl|rfl|rfl|rfl|rfl|rfl
  ·exact⟨[3],2,_,1,by rw[ba_toList];rfl,hl,q1,by decide⟩
  ·exact⟨[3],2,_,1,by rw[ba_toList];rfl,hl,q1,by decide⟩
  ·exact⟨[3],2,_,1,by rw[ba_toList];rfl,hl,q1,by decide⟩
  ·exact⟨[2],2,_,1,by rw[ba_toList];rfl,hl,q2,by decide⟩
  ·exact⟨[],1,_,0,by rw[ba_toList];rfl,hl,nil,by decide⟩
  ·exact⟨[1],2,_,1,by rw[ba_toList];rfl,hl,q4,by decide⟩
  ·exact⟨[2],2,_,1,by rw[ba_toList];rfl,hl,q2,by decide⟩
  ·exact⟨[2],2,_,1,by rw[ba_toList];rfl,hl,q2,by decide⟩
  ·exact⟨[2],2,_,1,by rw[ba_toList];rfl,hl,q2,by decide⟩
  ·exact⟨[2],2,_,1,by rw[ba_toList];rfl,hl,q2,by decide⟩
  ·exact⟨[2],2,_,1,by rw[ba_toList];rfl,hl,q2,by decide⟩
  ·exact⟨[1,2],2,_,2,by rw[ba_toList];rfl,hl,q3,by decide⟩
  ·exact⟨[1,2],2,_,2,by rw[ba_toList];rfl,hl,q3,by decide⟩
 ·left
  refine⟨?_,hl⟩;have n0:s.toList≠[114,97,116,101]:=fun h=>hn _ (List.mem_of_getElem? (show(chk13 b1 b2 b3 b4)[0]? =some _ from rfl)) (bytes_eq h).symm;have n1:s.toList≠[105,110,99,114,101,97,115,101]:=fun h=>hn _ (List.mem_of_getElem? (show(chk13 b1 b2 b3 b4)[1]? =some _ from rfl)) (bytes_eq h).symm;have n2:s.toList≠[100,101,108,116,97]:=fun h=>hn _ (List.mem_of_getElem? (show(chk13 b1 b2 b3 b4)[2]? =some _ from rfl)) (bytes_eq h).symm;have n3:s.toList≠[97,98,115]:=fun h=>hn _ (List.mem_of_getElem? (show(chk13 b1 b2 b3 b4)[3]? =some _ from rfl)) (bytes_eq h).symm;have n4:s.toList≠[116,105,109,101]:=fun h=>hn _ (List.mem_of_getElem? (show(chk13 b1 b2 b3 b4)[4]? =some _ from rfl)) (bytes_eq h).symm;have n5:s.toList≠[118,101,99,116,111,114]:=fun h=>hn _ (List.mem_of_getElem? (show(chk13 b1 b2 b3 b4)[5]? =some _ from rfl)) (bytes_eq h).symm;have n6:s.toList≠[115,117,109]:=fun h=>hn _ (List.mem_of_getElem? (show(chk13 b1 b2 b3 b4)[6]? =some _ from rfl)) (bytes_eq h).symm;have n7:s.toList≠[97,118,103]:=fun h=>hn _ (List.mem_of_getElem? (show(chk13 b1 b2 b3 b4)[7]? =some _ from rfl)) (bytes_eq h).symm;have n8:s.toList≠[109,105,110]:=fun h=>hn _ (List.mem_of_getElem? (show(chk13 b1 b2 b3 b4)[8]? =some _ from rfl)) (bytes_eq h).symm;have n9:s.toList≠[109,97,120]:=fun h=>hn _ (List.mem_of_getElem? (show(chk13 b1 b2 b3 b4)[9]? =some _ from rfl)) (bytes_eq h).symm;have n10:s.toList≠[99,111,117,110,116]:=fun h=>hn _ (List.mem_of_getElem? (show(chk13 b1 b2 b3 b4)[10]? =some _ from rfl)) (bytes_eq h).symm;have n11:s.toList≠[116,111,112,107]:=fun h=>hn _ (List.mem_of_getElem? (show(chk13 b1 b2 b3 b4)[11]? =some _ from rfl)) (bytes_eq h).symm;have n12:s.toList≠[98,111,116,116,111,109,107]:=fun h=>hn _ (List.mem_of_getElem? (show(chk13 b1 b2 b3 b4)[12]? =some _ from rfl)) (bytes_eq h).symm;unfold fitsF;simp only[n0,n1,n2,n3,n4,n5,n6,n7,n8,n9,n10,n11,n12,or_self,if_false]
section
variable {mp b1 b2 b3 b4:Nat}
theorem ofL_getD:∀(ks:List Tr) (k:Nat),k<ks.length→(ofL ks).getD k 0=ofF (ks.getD k t0)
 |[],k,h=>by simp at h
 |t::ts,0,h=>by rw[ofL];rfl
 |t::ts,k+1,h=>by rw[ofL];have:=ofL_getD ts k (by simpa using h);simpa using this
theorem getD_mem{l:List Tr}{k:Nat}(h:k<l.length):l.getD k t0∈l:=by rw[List.getD_eq_getElem?_getD,List.getElem?_eq_getElem h];exact List.getElem_mem h
abbrev CallS(W4:World)(kb mb fb tb k:Nat)(h:Hd)(n:Nat)(mp:Nat)(A:Option Addr)(an c:Nat)(v:Int)(W:World):Prop:=(C13 W kb h n∧W.cell? ⟨mb,0,none⟩=some (.map (some mp))∧W.cell? ⟨fb,0,none⟩=some (.slice A an c)∧W.cell? ⟨tb,k,none⟩=some (.int .i64 v))∧Below W4.heap.size W4 W
theorem CallS.start{W4:World}{kb mb fb tb k n mp an c:Nat}{h:Hd}{A:Option Addr}{v:Int}(t:CallS W4 kb mb fb tb k h n mp A an c v W4):CallS W4 kb mb fb tb k h n mp A an c v W4.drew:=⟨t.1,⟨t.2.os,t.2.tape,t.2.output,t.2.size,t.2.block⟩⟩
theorem CallS.step{W4 W W':World}{kb mb fb tb k n mp an c:Nat}{h:Hd}{A:Option Addr}{v:Int}(t:CallS W4 kb mb fb tb k h n mp A an c v W)(hb:Below W.heap.size W W')(h1:kb<W4.heap.size)(h2:mb<W4.heap.size)(h3:fb<W4.heap.size)(h4:tb<W4.heap.size):CallS W4 kb mb fb tb k h n mp A an c v W':=⟨⟨t.1.1.below hb (Nat.lt_of_lt_of_le h1 t.2.size),(hb.cell (p:=⟨mb,0,none⟩) (Nat.lt_of_lt_of_le h2 t.2.size)).trans t.1.2.1,(hb.cell (p:=⟨fb,0,none⟩) (Nat.lt_of_lt_of_le h3 t.2.size)).trans t.1.2.2.1,(hb.cell (p:=⟨tb,k,none⟩) (Nat.lt_of_lt_of_le h4 t.2.size)).trans t.1.2.2.2⟩,t.2.trans (hb.mono t.2.size)⟩
def OfIs(mp b1 b2 b3 b4:Nat)(x:Tr):Prop:=∀W,ChkM W mp b1 b2 b3 b4→Lies W x→Calls Tryz.prog 15 #[.agg #[.map (some mp)],valT x] W fun e w'=>e=.returned (.int .i64 (ofF x))∧Below W.heap.size W w'
theorem index_int(A:Option Addr)(n c k b:Nat)(hA:A=some ⟨b,0,none⟩)(hk:k<n)(W:World):(Instr.indexAt 48 (.slice A n c) (.int .i64 (k:Int))).run Tryz.prog W=.ok (.pointer (some ⟨b,k,none⟩)) W:=by
 subst hA;have hs:∀W,(sizeOf 3).run Tryz.prog W=.ok 1 W:=fun W=>by kernel_rfl
 simp[Instr.indexAt,run_underlying Tryz.underlying48,asIntOf,hs,hk,Addr.add];omega
theorem call_step(h:Hd)(ks:List Tr)(hk:∀x,x∈ks→OfIs mp b1 b2 b3 b4 x)(hs:h.s.size≤200)(hn:ks.length≤700)(w:World)(hC:ChkM w mp b1 b2 b3 b4)(hL:Lies w (.mk h ks)):
 Calls Tryz.prog 24 #[.agg #[.map (some mp)],valT (.mk h ks)] w fun e w'=>e=.returned (.int .i64 (callF h.s.toList (ofL ks)))∧Below w.heap.size w w':=by
 obtain⟨r,hr⟩:∃r,callF h.s.toList (ofL ks)=r:=⟨_,rfl⟩
 rw[hr,valT_arr];have hb2:Below w.heap.size w ((w.alloc (.cells #[.map (some mp)] 44)).alloc (.cells (arr h ks.length) 27)):=((Below.refl _ _).alloc (Nat.le_refl _) _).alloc (by simp) _;have HB2:=hid hb2;have HR:=hid hr;have hC2:=hC.below hb2;have HL2:=hid (hL.below hb2);have hlen:=ofL_length ks;rcases look_fits hC2 h.s hs with ⟨hf,hl⟩|⟨a,g,A,c,hf,hl,hi,ha2⟩
 ·obtain rfl:0=r:=by rw[←hr];unfold callF;rw[hf]
  clear hr hC hC2 hL hf hb2 hlen;unfold arr at*
  go_enter Tryz.func24,Tryz.ntmps24;go_wp2_with fail;go_ret;exact⟨rfl,by have:=HB2.out;go_grown⟩
 ·have hr2:(if ofL ks=a then g else 0)=r:=by rw[←hr];unfold callF;rw[hf]
  have HR2:=hid hr2;by_cases hne:ks.length=a.length
  ·skip
   have e1:(((ks.length:Nat):Int) != (a.length:Int))=false:=by simp;omega
   have hli:=HL2.out;rw[Lies]at hli;obtain⟨_,_,_,_,htr,hkk⟩:=hli;have HTR:=hid htr;have HKK:=hid hkk;have HI:=hid hi;have HC2:=hid hC2;have HKS:=hid hk;have HLN:=hid hlen;have HNE:=hid hne;have hw3:Below ((w.alloc (.cells #[.map (some mp)] 44)).alloc (.cells (arr h ks.length) 27)).heap.size ((w.alloc (.cells #[.map (some mp)] 44)).alloc (.cells (arr h ks.length) 27)) (((w.alloc (.cells #[.map (some mp)] 44)).alloc (.cells (arr h ks.length) 27)).alloc (.cells #[.slice A a.length c,.int .i64 g] 50)):=(Below.refl _ _).alloc (Nat.le_refl _) _;have HW3:=hid hw3;have HF3:=hid (Blk.new ((w.alloc (.cells #[.map (some mp)] 44)).alloc (.cells (arr h ks.length) 27)) 50 #[.slice A a.length c,.int .i64 g]);have HM3:Hid (Blk (((w.alloc (.cells #[.map (some mp)] 44)).alloc (.cells (arr h ks.length) 27)).alloc (.cells #[.slice A a.length c,.int .i64 g] 50)) w.heap.size 44 #[.map (some mp)]):=((Blk.new w 44 #[.map (some mp)]).alloc _).alloc _;clear hr hr2 hC hC2 hL hf hb2 hlen hi HR htr hkk hk hne hw3;unfold arr at*
   go_enter Tryz.func24,Tryz.ntmps24;go_wp2_with fail;have HZ2:Hid (((w.alloc (.cells #[.map (some mp)] 44)).alloc (.cells (arr h ks.length) 27)).heap.size=w.heap.size+1+1):=by show _=_;simp
   unfold arr at HZ2;generalize ((w.alloc (.cells _ 44)).alloc (.cells _ 27))=W2 at*
   rw[HZ2.out]at HF3;generalize W2.alloc (.cells _ 50)=W3 at*
   clear hl e1
   go_loopw [31] (fun s31 wx=>∃k:Nat,k≤ks.length∧s31=.int .i64 (k:Int)∧Hid (∀i,i<k→(ofL ks).getD i 0=a.getD i 0)∧Hid (Below W3.heap.size W3 wx)) (fun i _=>ks.length-(intOf i).toNat)
   case atStart=>exact⟨0,Nat.zero_le _,rfl,fun i hi=>absurd hi (Nat.not_lt_zero _),Below.refl _ _⟩
   case round=>
    obtain⟨k,hkn,rfl,HG,HBX⟩:=hrel;by_cases hlt:k<ks.length
    ·have hki:(k:Int)<(ks.length:Int):=by omega
     have hka:k<a.length:=by rw[←HNE.out];exact hlt
     have HB2X:=hid (HW3.out.trans (HBX.out.mono HW3.out.size));obtain⟨b,off,hA,hb,hc⟩:=HTR.out (by omega);obtain⟨tb,hAt,htb,hct⟩:=HI.out k hka;obtain⟨v,hv⟩:∃v,a.getD k 0=v:=⟨_,rfl⟩
     rw[hv]at hct;cases ht:ks.getD k t0 with
     |mk h2 ks2=>
      have hix:=fun W=>index_kid h.ka ks.length h.kc k b off hA hlt W;have hiy:=fun W=>index_int A a.length c k tb hAt hka W;obtain⟨e0,e1,e2,e3,e4,e5,e6,e7,e8,e9,e10,e11,e12⟩:=Trs.at hc hlt ht;have c0:=(HB2X.out.cell (p:=⟨b,off+k*13,none⟩) hb).trans e0;have c1:=(HB2X.out.cell (p:=⟨b,off+k*13+1,none⟩) hb).trans e1;have c2:=(HB2X.out.cell (p:=⟨b,off+k*13+2,none⟩) hb).trans e2;have c3:=(HB2X.out.cell (p:=⟨b,off+k*13+3,none⟩) hb).trans e3;have c4:=(HB2X.out.cell (p:=⟨b,off+k*13+4,none⟩) hb).trans e4;have c5:=(HB2X.out.cell (p:=⟨b,off+k*13+5,none⟩) hb).trans e5;have c6:=(HB2X.out.cell (p:=⟨b,off+k*13+6,none⟩) hb).trans e6;have c7:=(HB2X.out.cell (p:=⟨b,off+k*13+7,none⟩) hb).trans e7;have c8:=(HB2X.out.cell (p:=⟨b,off+k*13+8,none⟩) hb).trans e8;have c9:=(HB2X.out.cell (p:=⟨b,off+k*13+9,none⟩) hb).trans e9;have c10:=(HB2X.out.cell (p:=⟨b,off+k*13+10,none⟩) hb).trans e10;have c11:=(HB2X.out.cell (p:=⟨b,off+k*13+11,none⟩) hb).trans e11;have c12:=(HB2X.out.cell (p:=⟨b,off+k*13+12,none⟩) hb).trans e12;have ct:=(HB2X.out.cell (p:=⟨tb,k,none⟩) htb).trans hct;obtain⟨x,hx⟩:∃x,ofF (Tr.mk h2 ks2)=x:=⟨_,rfl⟩
      have hxk:(ofL ks).getD k 0=x:=by rw[ofL_getD ks k hlt,ht];exact hx
      have hmem:Tr.mk h2 ks2∈ks:=by rw[←ht];exact getD_mem hlt
      have hof:∀W,Below W2.heap.size W2 W→Calls Tryz.prog 15 #[.agg #[.map (some mp)],.agg (arr h2 ks2.length)] W fun e w'=>e=.returned (.int .i64 x)∧Below W.heap.size W w':=fun W hW=>by have:=HKS.out _ hmem W (HC2.out.below hW) ((LiesL.mem HKK.out hmem).below hW);rw[hx,valT_arr]at this;exact this
      have HOF:=hid hof;have HXK:=hid hxk;have HV:=hid hv;have HB5:Hid (Below W3.heap.size W3 (wr.alloc (.cells (arr h2 ks2.length) 27))):=HBX.out.alloc HBX.out.size _;have hbw5:Below wr.heap.size wr (wr.alloc (.cells (arr h2 ks2.length) 27)):=(Below.refl _ _).alloc (Nat.le_refl _) _;have hsz3:=HBX.out.size;have hm3:=HM3.out.lt;have hf3:=HF3.out.lt;have htbx:tb<wr.heap.size:=Nat.lt_of_lt_of_le htb HB2X.out.size;have HY:Hid (CallS (wr.alloc (.cells (arr h2 ks2.length) 27)) wr.heap.size w.heap.size (w.heap.size+1+1) tb k h2 ks2.length mp A a.length c v (wr.alloc (.cells (arr h2 ks2.length) 27))):=⟨⟨c13_new wr h2 ks2.length 27,((HM3.out.below HBX.out).alloc _).cell 0,((HF3.out.below HBX.out).alloc _).cell 0,(hbw5.cell (p:=⟨tb,k,none⟩) htbx).trans ct⟩,Below.refl _ _⟩
      have l1:wr.heap.size<(wr.alloc (.cells (arr h2 ks2.length) 27)).heap.size:=by simp
      have l2:w.heap.size<(wr.alloc (.cells (arr h2 ks2.length) 27)).heap.size:=by simp;omega
      have l3:w.heap.size+1+1<(wr.alloc (.cells (arr h2 ks2.length) 27)).heap.size:=by simp;omega
      have l4:tb<(wr.alloc (.cells (arr h2 ks2.length) 27)).heap.size:=by simp;omega
      have HLL:Hid ((wr.heap.size<(wr.alloc (.cells (arr h2 ks2.length) 27)).heap.size∧w.heap.size<(wr.alloc (.cells (arr h2 ks2.length) 27)).heap.size)∧w.heap.size+1+1<(wr.alloc (.cells (arr h2 ks2.length) 27)).heap.size∧tb<(wr.alloc (.cells (arr h2 ks2.length) 27)).heap.size):=⟨⟨l1,l2⟩,l3,l4⟩
      clear hc ht hA e0 e1 e2 e3 e4 e5 e6 e7 e8 e9 e10 e11 e12 hx hxk hof hv hct hAt hbw5 ct l1 l2 l3 l4;unfold arr at HOF HB5 HY HLL;go_upto_region 7 with fail;clear c0 c1 c2 c3 c4 c5 c6 c7 c8 c9 c10 c11 c12 hix;generalize (wr.alloc (.cells _ 27))=W5 at*
      generalize wr.heap.size=kb at*
      go_region_held3 (fun W=>CallS W5 kb w.heap.size (w.heap.size+1+1) tb k h2 ks2.length mp A a.length c v W)
       (first|(exact HY.out.start)|(exact hS0.step hb5 HLL.out.1.1 HLL.out.1.2 HLL.out.2.1 HLL.out.2.2)|assumption)
       (first
         |(have hS0:=‹CallS W5 kb w.heap.size (w.heap.size+1+1) tb k h2 ks2.length mp A a.length c v _›
           (with_reducible refine(HOF.out _ (HW3.out.trans ((HB5.out.trans (hS0.2.mono HB5.out.size)).mono HW3.out.size))).mono ?_)
           rintro e w'⟨rfl,hb5⟩))
      all_goals(
       have hSE:=‹CallS W5 kb w.heap.size (w.heap.size+1+1) tb k h2 ks2.length mp A a.length c v _›
       have HBE:=hid (HB5.out.trans (hSE.2.mono HB5.out.size));have HBF:Hid (Below w.heap.size w _):=HB2.out.trans ((HW3.out.trans (HBE.out.mono HW3.out.size)).mono HB2.out.size);clear hSE HY HOF;by_cases hxv:x=v
       ·have hne0:(x != v)=false:=by rw[hxv];simp
        have HG2:Hid (∀i,i<k+1→(ofL ks).getD i 0=a.getD i 0):=fun i hi=>by
         by_cases e:i=k
         ·rw[e,HXK.out,HV.out];exact hxv
         ·exact HG.out i (by omega)
        clear hxv;go_wp2_with fail
        go_roundw
        case rel=>exact⟨k+1,by omega,by go_num,HG2,HBE⟩
        case measure=>(first|omega|(simp only[intOf];omega))
       ·have hne1:(x != v)=true:=by simp[hxv]
        have hr0:r=0:=by rw[←HR2.out,if_neg];intro e;have h1:=HXK.out;rw[e,HV.out]at h1;exact hxv h1.symm
        subst hr0;clear hxv;go_wp2_with fail;go_ret;exact⟨rfl,HBF.out⟩)
    ·have hka:k=ks.length:=by omega
     have hrg:r=g:=by
      rw[←HR2.out,if_pos];apply List.ext_getElem?;intro i;by_cases hi:i<ks.length
      ·have h1:=HG.out i (by omega)
       have l1:i<(ofL ks).length:=by rw[HLN.out];exact hi
       have l2:i<a.length:=by rw[←HNE.out];exact hi
       rw[List.getD_eq_getElem?_getD,List.getD_eq_getElem?_getD,List.getElem?_eq_getElem l1,List.getElem?_eq_getElem l2]at h1;rw[List.getElem?_eq_getElem l1,List.getElem?_eq_getElem l2];simpa using h1
      ·rw[List.getElem?_eq_none (by rw[HLN.out];omega),List.getElem?_eq_none (by rw[←HNE.out];omega)]
     subst hrg;have cg:=(HF3.out.below HBX.out).cell 1;simp at cg;have HBF:Hid (Below w.heap.size w wr):=HB2.out.trans ((HW3.out.trans (HBX.out.mono HW3.out.size)).mono HB2.out.size);clear hka;go_wp2_with fail;go_ret;exact⟨rfl,HBF.out⟩
  ·obtain rfl:0=r:=by rw[←hr2,if_neg];intro e;rw[←hlen,e]at hne;exact hne rfl
   have e1:(((ks.length:Nat):Int) != (a.length:Int))=true:=by simp;omega
   clear hr hr2 hC hC2 hL hf hb2 hlen hi HR HR2;unfold arr at*
   go_enter Tryz.func24,Tryz.ntmps24;go_wp2_with fail;go_ret;exact⟨rfl,by have:=HB2.out;go_grown⟩
end
end Go.Proofs.YtmodehfedhgcbaaGreatDoor.Ck

set_option linter.unusedVariables false
set_option linter.unusedSimpArgs false
set_option maxRecDepth 100000
set_option maxHeartbeats 4000000
namespace Go.Proofs.YtmodehfedhgcbaaGreatDoor.Ck
open Go.RowKit
def Spine:Tr→List Tr→Tr→Prop
 |t,[],e=>t=e
 |t,d::l,e=>t=d∧∃h x y,d=.mk h [x,y]∧h.k=6∧Spine x l e
theorem spine_snoc{h:Hd}{x y:Tr}(hk:h.k=6):∀(l:List Tr) (t:Tr),Spine t l (.mk h [x,y])→Spine t (l++[.mk h [x,y]]) x
 |[],t,hs=>by rw[Spine]at hs;rw[List.nil_append,Spine];exact⟨hs,h,x,y,rfl,hk,by rw[Spine]⟩
 |d::l,t,hs=>by rw[Spine]at hs;obtain⟨h1,h2,a,b,h3,h4,h5⟩:=hs;rw[List.cons_append,Spine];exact⟨h1,h2,a,b,h3,h4,spine_snoc hk l a h5⟩
def upF:List Tr→Int→Int
 |[],v=>v
 |d::l,v=>heldF d.h.o d.h.bo d.h.how (numberF (upF l v)) (numberF (ofF (d.ks.getD 1 t0)))
theorem of_pair(h:Hd)(x y:Tr)(hk:h.k=6):ofF (.mk h [x,y])=heldF h.o h.bo h.how (numberF (ofF x)) (numberF (ofF y)):=by rw[ofF,hk,if_neg (by decide),if_neg (by decide),if_neg (by decide),if_neg (by decide),if_pos rfl,ofL,ofL,ofL];rfl
theorem up_spine:∀(l:List Tr) (t e:Tr),Spine t l e→ofF t=upF l (ofF e)
 |[],t,e,hs=>by rw[Spine]at hs;rw[upF,hs]
 |d::l,t,e,hs=>by rw[Spine]at hs;obtain⟨rfl,h,x,y,rfl,hk,h5⟩:=hs;rw[upF,of_pair h x y hk,up_spine l x e h5];rfl
theorem spine_pair:∀(l:List Tr) (t e:Tr),Spine t l e→∀d,d∈l→∃h x y,d=.mk h [x,y]∧h.k=6
 |[],t,e,_,d,hd=>by cases hd
 |d0::l,t,e,hs,d,hd=>by
  rw[Spine]at hs;obtain⟨_,h,x,y,h3,hk,h5⟩:=hs;rcases List.mem_cons.1 hd with rfl|hd
  ·exact⟨h,x,y,h3,hk⟩
  ·exact spine_pair l x e h5 d hd
def Fine(w:World)(n:Nat)(x:Tr):Prop:=allF okHd x=true∧Lies w x∧szF x≤n
theorem fine_kid{w:World}{n:Nat}{h:Hd}{ks:List Tr}{x:Tr}(hf:Fine w n (.mk h ks))(hx:x∈ks):Fine w (n-1) x∧szF x+1≤szF (.mk h ks):=by
 obtain⟨h1,h2,h3⟩:=hf;rw[allF,Bool.and_eq_true]at h1;rw[Lies]at h2;have h4:=szL_mem hx;rw[szF]at h3⊢
 exact⟨⟨allL_mem h1.2 hx,LiesL.mem h2.2.2.2.2.2 hx,by omega⟩,by omega⟩
theorem Fine.mono{w:World}{n m:Nat}{x:Tr}(h:Fine w n x)(hn:n≤m):Fine w m x:=⟨h.1,h.2.1,Nat.le_trans h.2.2 hn⟩
theorem blkg{w w':World}{g:Nat}{t:TypeId}{cs:Array Value}{row:Option Nat}(h:Blk w g t cs)(hg:w.grownBy w' row)(hne:row≠some g):Blk w' g t cs:=(hg.block g h.lt (Ne.symm hne)).trans h
theorem up_drop{l:List Tr}{m:Nat}{h:Hd}{x y:Tr}{v:Int}(hm:m<l.length)(hd:l.getD m t0=.mk h [x,y]):upF (l.drop m) v=heldF h.o h.bo h.how (numberF (upF (l.drop (m+1)) v)) (numberF (ofF y)):=by
 have e:l.drop m=l.getD m t0::l.drop (m+1):=by rw[List.getD_eq_getElem?_getD,List.getElem?_eq_getElem hm];exact List.drop_eq_getElem_cons hm
 rw[e,hd,upF];rfl
abbrev C13o(W:World)(b o:Nat)(h:Hd)(n:Nat):Prop:=W.cell? ⟨b,o,none⟩=some (.int .i64 h.k)∧W.cell? ⟨b,o+1,none⟩=some (.int .i64 h.o)∧W.cell? ⟨b,o+2,none⟩=some (.int .u64 (h.v:Int))∧W.cell? ⟨b,o+3,none⟩=some (.string h.s)∧W.cell? ⟨b,o+4,none⟩=some (.slice h.ma h.ms.length h.mc)∧W.cell? ⟨b,o+5,none⟩=some (.int .i64 h.wd)∧W.cell? ⟨b,o+6,none⟩=some (.int .i64 h.off)∧W.cell? ⟨b,o+7,none⟩=some (.bool h.ha)∧W.cell? ⟨b,o+8,none⟩=some (.int .i64 h.tm)∧W.cell? ⟨b,o+9,none⟩=some (.int .i64 h.how)∧W.cell? ⟨b,o+10,none⟩=some (.slice h.na h.ns.length h.nc)∧W.cell? ⟨b,o+11,none⟩=some (.bool h.bo)∧W.cell? ⟨b,o+12,none⟩=some (.slice h.ka n h.kc)
theorem C13o.below{W W':World}{b o:Nat}{h:Hd}{n:Nat}(c:C13o W b o h n)(hb:Below W.heap.size W W')(hlt:b<W.heap.size):C13o W' b o h n:=by obtain⟨c0,c1,c2,c3,c4,c5,c6,c7,c8,c9,c10,c11,c12⟩:=c;exact⟨(hb.cell (p:=⟨b,o,none⟩) hlt).trans c0,(hb.cell (p:=⟨b,o+1,none⟩) hlt).trans c1,(hb.cell (p:=⟨b,o+2,none⟩) hlt).trans c2,(hb.cell (p:=⟨b,o+3,none⟩) hlt).trans c3,(hb.cell (p:=⟨b,o+4,none⟩) hlt).trans c4,(hb.cell (p:=⟨b,o+5,none⟩) hlt).trans c5,(hb.cell (p:=⟨b,o+6,none⟩) hlt).trans c6,(hb.cell (p:=⟨b,o+7,none⟩) hlt).trans c7,(hb.cell (p:=⟨b,o+8,none⟩) hlt).trans c8,(hb.cell (p:=⟨b,o+9,none⟩) hlt).trans c9,(hb.cell (p:=⟨b,o+10,none⟩) hlt).trans c10,(hb.cell (p:=⟨b,o+11,none⟩) hlt).trans c11,(hb.cell (p:=⟨b,o+12,none⟩) hlt).trans c12⟩
abbrev UpS(W4:World)(cb mp b o b' o':Nat)(h g:Hd)(n m:Nat)(W:World):Prop:=(C13o W b o h n∧C13o W b' o' g m∧W.cell? ⟨cb,0,none⟩=some (.map (some mp)))∧Below W4.heap.size W4 W
theorem UpS.start{W4:World}{cb mp b o b' o':Nat}{h g:Hd}{n m:Nat}(t:UpS W4 cb mp b o b' o' h g n m W4):UpS W4 cb mp b o b' o' h g n m W4.drew:=⟨t.1,⟨t.2.os,t.2.tape,t.2.output,t.2.size,t.2.block⟩⟩
theorem UpS.step{W4 W W':World}{cb mp b o b' o':Nat}{h g:Hd}{n m:Nat}(t:UpS W4 cb mp b o b' o' h g n m W)(hb:Below W.heap.size W W')(h1:cb<W4.heap.size)(h2:b<W4.heap.size)(h3:b'<W4.heap.size):UpS W4 cb mp b o b' o' h g n m W':=⟨⟨t.1.1.below hb (Nat.lt_of_lt_of_le h2 t.2.size),t.1.2.1.below hb (Nat.lt_of_lt_of_le h3 t.2.size),(hb.cell (p:=⟨cb,0,none⟩) (Nat.lt_of_lt_of_le h1 t.2.size)).trans t.1.2.2⟩,t.2.trans (hb.mono t.2.size)⟩
theorem okR:OkR okHd:=by
 have bare0:∀{o:Int} {v:Nat} {s:ByteArray} {nm:Nat} {wd off:Int} {ha:Bool} {tm how:Int} {nn:Nat} {bo:Bool} {nk:Nat},bareF o v s nm wd off ha tm how nn bo nk=true→nk=0:=fun h=>by unfold bareF at h;exact(of_decide_eq_true h).2.2.2.2.2.2.2.2.2.2.2
 refine⟨fun h n hk hc=>?_,fun h n hk=>?_,fun h n hk h6=>?_,fun h n hk h7=>?_⟩
 ·unfold okHd at hk
  rcases hc with hc|hc|hc
  ·rw[if_pos hc]at hk
   unfold numF at hk;exact bare0 (Bool.and_eq_true_iff.1 hk).2
  ·rw[if_neg (by omega),if_pos hc]at hk
   unfold textOk at hk;exact bare0 (Bool.and_eq_true_iff.1 hk).2
  ·rw[if_neg (by omega),if_neg (by omega),if_pos hc]at hk
   unfold pickOk at hk;exact bare0 (Bool.and_eq_true_iff.1 hk).2
 ·by_cases ho:h.k<1∨7<h.k
  ·rw[ok_out ho]at hk;cases hk
  ·omega
 ·unfold okHd at hk
  rw[if_neg (by omega),if_neg (by omega),if_neg (by omega),if_neg (by omega),if_neg (by omega),if_pos h6]at hk;unfold pairOk at hk;simp only[Bool.and_eq_true,decide_eq_true_eq]at hk;exact hk.1.2.2
 ·unfold okHd at hk
  rw[if_neg (by omega),if_neg (by omega),if_neg (by omega),if_neg (by omega),if_neg (by omega),if_neg (by omega),if_pos h7]at hk;unfold lessF at hk;simp only[Bool.and_eq_true,decide_eq_true_eq]at hk;exact hk.1
theorem two_kids{l:List Tr}(h:l.length=2):∃x y,l=[x,y]:=by
 match l,h with
 |[x,y],_=>exact⟨x,y,rfl⟩
theorem one_kid{l:List Tr}(h:l.length=1):∃x,l=[x]:=by
 match l,h with
 |[x],_=>exact⟨x,rfl⟩
theorem trs_one(w:World)(g:Hd)(gs:List Tr)(t:TypeId):Trs (w.alloc (.cells (arr g gs.length) t)) (some ⟨w.heap.size,0,none⟩) [.mk g gs]:=fun _=>by
 refine⟨w.heap.size,0,rfl,by simp,fun i hi j x hx=>?_⟩;obtain rfl:i=0:=by simpa using hi
 have c:=(Blk.new w t (arr g gs.length)).cell j;have e:(0:Nat)+0*13+j=j:=by omega
 rw[e,c];simpa[arr,cellsT]using hx
def put13(W:World)(b:Nat)(h:Hd)(n:Nat):World:=(((((((((((((W.setCell ⟨b,0,none⟩ (.int .i64 h.k)).setCell ⟨b,1,none⟩ (.int .i64 h.o)).setCell ⟨b,2,none⟩ (.int .u64 (h.v:Int))).setCell ⟨b,3,none⟩ (.string h.s)).setCell ⟨b,4,none⟩ (.slice h.ma h.ms.length h.mc)).setCell ⟨b,5,none⟩ (.int .i64 h.wd)).setCell ⟨b,6,none⟩ (.int .i64 h.off)).setCell ⟨b,7,none⟩ (.bool h.ha)).setCell ⟨b,8,none⟩ (.int .i64 h.tm)).setCell ⟨b,9,none⟩ (.int .i64 h.how)).setCell ⟨b,10,none⟩ (.slice h.na h.ns.length h.nc)).setCell ⟨b,11,none⟩ (.bool h.bo)).setCell ⟨b,12,none⟩ (.slice h.ka n h.kc))
theorem put13_blk{W:World}{b:Nat}{t:TypeId}{g h:Hd}{m n:Nat}(c:Blk W b t (arr g m)):Blk (put13 W b h n) b t (arr h n):=by
 have q:=((((((((((((c.set_ 0 (.int .i64 h.k)).set_ 1 (.int .i64 h.o)).set_ 2 (.int .u64 (h.v:Int))).set_ 3 (.string h.s)).set_ 4 (.slice h.ma h.ms.length h.mc)).set_ 5 (.int .i64 h.wd)).set_ 6 (.int .i64 h.off)).set_ 7 (.bool h.ha)).set_ 8 (.int .i64 h.tm)).set_ 9 (.int .i64 h.how)).set_ 10 (.slice h.na h.ns.length h.nc)).set_ 11 (.bool h.bo)).set_ 12 (.slice h.ka n h.kc);unfold put13;simp only[arr,List.setIfInBounds_toArray,List.set_cons_zero,List.set_cons_succ]at q⊢
 exact q
theorem gset{W W':World}{b:Nat}(h:W.grownBy W' (some b))(i:Nat)(v:Value):W.grownBy (W'.setCell ⟨b,i,none⟩ v) (some b):=⟨h.os,h.tape,h.output,by have:=h.size;simpa[World.setCell]using this,fun k hk hne=>(Below.heap_setCell _ ⟨b,i,none⟩ v k (fun e=>hne (by rw[e]))).trans (h.block k hk hne)⟩
theorem put13_grown(W:World)(b:Nat)(h:Hd)(n:Nat):W.grownBy (put13 W b h n) (some b):=by unfold put13;exact gset (gset (gset (gset (gset (gset (gset (gset (gset (gset (gset (gset (gset ⟨rfl,rfl,rfl,Nat.le_refl _,fun _ _ _=>rfl⟩ 0 _) 1 _) 2 _) 3 _) 4 _) 5 _) 6 _) 7 _) 8 _) 9 _) 10 _) 11 _) 12 _
section
variable {mp b1 b2 b3 b4:Nat}
structure PRel (w:World) (n eb:Nat) (t:Tr) (l:List Tr) (e:Tr) (v:Value) (wx:World):Prop where
 spine:Spine t l e
 fine:Fine w n e
 fines:∀d,d∈l→Fine w n d
 size:szF e+l.length≤n
 own:wx.ownsRow (eb+1) 27 13 v l.length (flatE l)
 box:Blk wx eb 27 (arr e.h e.ks.length)
 low:Below eb w wx
theorem pair_step(h:Hd)(ks:List Tr)(hk6:h.k=6)(hr:allF okHd (.mk h ks)=true)(hsz:szF (.mk h ks)≤700)
 (hk:∀x,szF x<szF (.mk h ks)→allF okHd x=true→OfIs mp b1 b2 b3 b4 x) (w:World) (hC:ChkM w mp b1 b2 b3 b4) (hL:Lies w (.mk h ks)):
 Calls Tryz.prog 23 #[.agg #[.map (some mp)],valT (.mk h ks)] w fun e w'=>e=.returned (.int .i64 (ofF (.mk h ks)))∧Below w.heap.size w w':=by
 obtain⟨r,hr0⟩:∃r,ofF (.mk h ks)=r:=⟨_,rfl⟩
 rw[hr0,valT_arr];have HR:=Lib.hid hr0;have HC:=Lib.hid hC;have HKD:=Lib.hid hk;have HK6:=Lib.hid hk6;have hb1:Below w.heap.size w (w.alloc (.cells #[.map (some mp)] 44)):=(Below.refl _ _).alloc (Nat.le_refl _) _;have hz1:(w.alloc (.cells #[.map (some mp)] 44)).heap.size=w.heap.size+1:=by simp
 have hbx:Blk ((w.alloc (.cells #[.map (some mp)] 44)).alloc (.cells (arr h ks.length) 27)) (w.heap.size+1) 27 (arr h ks.length):=by have:=Blk.new (w.alloc (.cells #[.map (some mp)] 44)) 27 (arr h ks.length);rwa[hz1]at this
 have HB1:=Lib.hid hb1;have HZ1:=Lib.hid hz1;have HM1:=Lib.hid (Blk.new w 44 #[.map (some mp)]);have HP0:Hid (PRel (w.alloc (.cells #[.map (some mp)] 44)) (szF (.mk h ks)) (w.heap.size+1) (.mk h ks) [] (.mk h ks) (.slice none 0 0) ((w.alloc (.cells #[.map (some mp)] 44)).alloc (.cells (arr h ks.length) 27))):=⟨by rw[Spine],⟨hr,hL.below hb1,Nat.le_refl _⟩,(fun d hd=>by cases hd),(by simp),World.ownsRow_nil _ _ _ _,hbx,(Below.refl _ _).alloc (by rw[hz1];exact Nat.le_refl _) _⟩
 clear hr0 hC hk hb1 hz1 hbx hL hr hk6;obtain⟨n,hn⟩:∃n,szF (.mk h ks)=n:=⟨_,rfl⟩
 rw[hn]at HP0 HKD hsz;have HN:=Lib.hid hn;clear hn;unfold arr at*
 go_enter Tryz.func23,Tryz.ntmps23;go_wp2_with fail;generalize hW1:w.alloc (.cells _ 44)=W1 at*
 generalize (W1.alloc (.cells _ 27))=W2 at*
 clear hW1;obtain⟨eb,heb⟩:∃eb,w.heap.size+1=eb:=⟨_,rfl⟩
 rw[heb]at HP0 HZ1⊢
 have HEB:=Lib.hid heb;clear heb
 go_loopg [5] n (fun g s5 wx=>∃(l:List Tr) (e:Tr),szF e≤g∧Hid (PRel W1 n eb (.mk h ks) l e s5 wx))
 case atStart=>exact⟨[],.mk h ks,by rw[HN.out];exact Nat.le_refl _,HP0⟩
 case round=>
  obtain⟨l,⟨g,gs⟩,hg,HR1⟩:=hrel;obtain⟨q1,q2,q3,q4,q5,q6,q7⟩:=HR1.out;have HQ1:=Lib.hid q1;have HQ2:=Lib.hid q2;have HQ3:=Lib.hid q3;have HQ4:=Lib.hid q4;have HQ5:=Lib.hid q5;have HQ6:=Lib.hid (show Blk wr eb 27 (arr g gs.length)from q6);have HQ7:=Lib.hid q7;clear q1 q2 q3 q4 q5 q6 q7 HR1;obtain⟨c0,c1,c2,c3,c4,c5,c6,c7,c8,c9,c10,c11,c12⟩:=blk13 (h:=g) (n:=gs.length) HQ6.out;by_cases hg6:g.k=6
  ·have e6:(g.k==6)=true:=by simp[hg6]
   have HG6:=Lib.hid hg6;clear hg6;have hfg:=HQ2.out.1;rw[allF,Bool.and_eq_true]at hfg;obtain⟨x,y,hgs⟩:=two_kids (okR.pair _ _ hfg.1 HG6.out);subst hgs;have hlg:=HQ2.out.2.1;rw[Lies]at hlg;obtain⟨b,off,hA,hb,hc⟩:=hlg.2.2.2.2.1 (by simp);obtain⟨g2,gs2⟩:=x;obtain⟨d0,d1,d2,d3,d4,d5,d6,d7,d8,d9,d10,d11,d12⟩:=Trs.at (i:=0) hc (by simp) rfl;have hix:∀W,(Instr.indexAt 25 (.slice g.ka 2 g.kc) (.int .i64 0)).run Tryz.prog W=.ok (.pointer (some ⟨b,off,none⟩)) W:=fun W=>by have:=index_kid g.ka 2 g.kc 0 b off hA (by decide) W;simpa using this
   have HD:=Lib.hid (And.intro d0 (And.intro d1 (And.intro d2 (And.intro d3 (And.intro d4 (And.intro d5 (And.intro d6 (And.intro d7 (And.intro d8 (And.intro d9 (And.intro d10 (And.intro d11 d12))))))))))));have HBL:=Lib.hid (show b<eb from by have:=HZ1.out;omega);have hlr:=HQ7.out.size;have hsl:l.length≤700:=by have:=HQ4.out;omega
   have HLS:=Lib.hid hsl;have HAP:=Lib.hid (HQ5.out.alloc (.cells (arr g [Tr.mk g2 gs2,y].length) 27));have HT1:=Lib.hid (trs_one wr g [Tr.mk g2 gs2,y] 27);have hebw:=HQ6.out.lt;clear hfg hlg hA hc d0 d1 d2 d3 d4 d5 d6 d7 d8 d9 d10 d11 d12 hb;obtain⟨gk1,rfl⟩:∃g1,gk=g1+1:=⟨gk-1,by have:=szF_pos (Tr.mk g [Tr.mk g2 gs2,y]);omega⟩
   go_wp2_with (at_builtin;refine wpList_append_trs (wr.alloc (.cells (arr g [Tr.mk g2 gs2,y].length) 27)) rfl _ _ rfl (eb+1) _ l rfl HAP.out (some ⟨wr.heap.size,0,none⟩) 1 [Tr.mk g [Tr.mk g2 gs2,y]] rfl HT1.out (fun h=>by cases h) ?c1 ?c2 ?_);case c1=>simp;omega
   case c2=>simp;omega
   intro v9 w9 hown9 hgr9;have HO9:=Lib.hid hown9;have hl9:Below eb W1 w9:=(HQ7.out.alloc (by omega) (.cells (arr g [Tr.mk g2 gs2,y].length) 27)).grown hgr9 (by simp;omega) (fun g hg=>by have:=(HAP.out.lt g hg).1;omega);have HL9:=Lib.hid hl9;have hbx9:Blk w9 eb 27 (arr g [Tr.mk g2 gs2,y].length):=blkg (HQ6.out.alloc (.cells (arr g [Tr.mk g2 gs2,y].length) 27)) hgr9 (fun h=>by have:=(HAP.out.lt eb h).1;omega);have HBX9:=Lib.hid hbx9;have k12:=hbx9.cell 12;simp[arr]at k12;have hble:=HBL.out;obtain⟨d0,d1,d2,d3,d4,d5,d6,d7,d8,d9,d10,d11,d12⟩:=HD.out;have m0:w9.cell? ⟨b,off,none⟩=_:=(hl9.cell (p:=⟨b,off,none⟩) hble).trans (by simpa using d0);have m1:w9.cell? ⟨b,off+1,none⟩=_:=(hl9.cell (p:=⟨b,off+1,none⟩) hble).trans (by simpa using d1);have m2:w9.cell? ⟨b,off+2,none⟩=_:=(hl9.cell (p:=⟨b,off+2,none⟩) hble).trans (by simpa using d2);have m3:w9.cell? ⟨b,off+3,none⟩=_:=(hl9.cell (p:=⟨b,off+3,none⟩) hble).trans (by simpa using d3);have m4:w9.cell? ⟨b,off+4,none⟩=_:=(hl9.cell (p:=⟨b,off+4,none⟩) hble).trans (by simpa using d4);have m5:w9.cell? ⟨b,off+5,none⟩=_:=(hl9.cell (p:=⟨b,off+5,none⟩) hble).trans (by simpa using d5);have m6:w9.cell? ⟨b,off+6,none⟩=_:=(hl9.cell (p:=⟨b,off+6,none⟩) hble).trans (by simpa using d6);have m7:w9.cell? ⟨b,off+7,none⟩=_:=(hl9.cell (p:=⟨b,off+7,none⟩) hble).trans (by simpa using d7);have m8:w9.cell? ⟨b,off+8,none⟩=_:=(hl9.cell (p:=⟨b,off+8,none⟩) hble).trans (by simpa using d8);have m9:w9.cell? ⟨b,off+9,none⟩=_:=(hl9.cell (p:=⟨b,off+9,none⟩) hble).trans (by simpa using d9);have m10:w9.cell? ⟨b,off+10,none⟩=_:=(hl9.cell (p:=⟨b,off+10,none⟩) hble).trans (by simpa using d10);have m11:w9.cell? ⟨b,off+11,none⟩=_:=(hl9.cell (p:=⟨b,off+11,none⟩) hble).trans (by simpa using d11);have m12:w9.cell? ⟨b,off+12,none⟩=_:=(hl9.cell (p:=⟨b,off+12,none⟩) hble).trans (by simpa using d12);obtain⟨p0,p1,p2,p3,p4,p5,p6,p7,p8,p9,p10,p11,p12⟩:=blk13 (h:=g) (n:=2) hbx9;have f0:=Blk.frozen hbx9 0;have f1:=Blk.frozen hbx9 1;have f2:=Blk.frozen hbx9 2;have f3:=Blk.frozen hbx9 3;have f4:=Blk.frozen hbx9 4;have f5:=Blk.frozen hbx9 5;have f6:=Blk.frozen hbx9 6;have f7:=Blk.frozen hbx9 7;have f8:=Blk.frozen hbx9 8;have f9:=Blk.frozen hbx9 9;have f10:=Blk.frozen hbx9 10;have f11:=Blk.frozen hbx9 11;have f12:=Blk.frozen hbx9 12;clear hown9 hgr9 hl9 hbx9 d0 d1 d2 d3 d4 d5 d6 d7 d8 d9 d10 d11 d12 c0 c1 c2 c3 c4 c5 c6 c7 c8 c9 c10 c11 c12 HT1 HAP HD k12;go_wp2_with fail;have HPR:Hid (PRel W1 n eb (.mk h ks) (l++[Tr.mk g [Tr.mk g2 gs2,y]]) (.mk g2 gs2) v9 (put13 w9 eb g2 gs2.length)):=
    ⟨spine_snoc HG6.out l _ HQ1.out,(fine_kid HQ2.out (by simp)).1.mono (by omega),fun d hd=>by
      rcases List.mem_append.1 hd with hd|hd
      ·exact HQ3.out d hd
      ·rw[List.mem_singleton.1 hd];exact HQ2.out,by
      have:=(fine_kid HQ2.out (show Tr.mk g2 gs2∈[Tr.mk g2 gs2,y] by simp)).2;have:=HQ4.out;rw[List.length_append];simp;omega,(by rw[List.length_append];exact HO9.out:w9.ownsRow (eb+1) 27 13 v9 (l++[Tr.mk g [Tr.mk g2 gs2,y]]).length (flatE (l++[Tr.mk g [Tr.mk g2 gs2,y]]))).kept (put13_grown w9 eb g2 gs2.length) (by
      cases hv:v9.ownBlock with
      |none=>exact .inl rfl
      |some q=>exact .inr (fun e=>by have:=(HO9.out.lt q hv).1;simp at e;omega)),put13_blk HBX9.out,below_grown HL9.out (Nat.le_refl _) (by have:=HZ1.out;omega) (put13_grown w9 eb g2 gs2.length)⟩
   clear m0 m1 m2 m3 m4 m5 m6 m7 m8 m9 m10 m11 m12 p0 p1 p2 p3 p4 p5 p6 p7 p8 p9 p10 p11 p12 f0 f1 f2 f3 f4 f5 f6 f7 f8 f9 f10 f11 f12 hix;have hszk:=(fine_kid HQ2.out (show Tr.mk g2 gs2∈[Tr.mk g2 gs2,y] by simp)).2
   go_roundg gk1
   case measure=>omega
   case rel=>exact⟨_,Tr.mk g2 gs2,by omega,HPR⟩
  ·have e6:(g.k==6)=false:=by simp[hg6]
   have hwe:w.heap.size<eb:=by have:=HEB.out;omega
   have hlne:l≠[]:=fun h0=>by subst h0;have:=HQ1.out;rw[Spine]at this;injection this with q1 q2;exact hg6 (q1▸HK6.out)
   have hlp:0<l.length:=List.length_pos_iff.2 hlne;have hlt:szF (Tr.mk g gs)<n:=by have:=HQ4.out;omega
   have cm:wr.cell? ⟨w.heap.size,0,none⟩=some (.map (some mp)):=(HQ7.out.cell (p:=⟨w.heap.size,0,none⟩) hwe).trans (HM1.out.cell 0);have hbw:Below w.heap.size w wr:=HB1.out.trans (HQ7.out.mono (by omega));obtain⟨ve,hve⟩:∃ve,ofF (Tr.mk g gs)=ve:=⟨_,rfl⟩
   have hof:=HKD.out _ hlt HQ2.out.1 wr (HC.out.below hbw) ((HQ2.out.2.1.below (HQ7.out.mono (by have:=HZ1.out;omega))));rw[hve,valT_arr]at hof;have HOF:=Lib.hid hof;have HBW:=Lib.hid hbw;have HUP:Hid (r=upF l ve):=by show r=upF l ve;rw[←HR.out,←hve];exact up_spine l _ _ HQ1.out
   have hl3:l.length≤700:=by have:=HQ4.out;omega
   obtain⟨gg,cap,rfl,hgb,hgl,hcap⟩:=own_addr HQ5.out hlp;clear hg6 hlne hbw hve hof hlt;unfold arr at HOF;go_wp2_with fail;refine(HOF.out).mono ?_;rintro e w4⟨rfl,hb4⟩;have HB4:=Lib.hid hb4;have HO4:=Lib.hid (own_below HQ5.out hb4);have cm4:=(hb4.cell (p:=⟨w.heap.size,0,none⟩) (World.block_lt_of_cell? _ _ cm)).trans cm;have HCM:=Lib.hid cm4;have hlow:Below eb W1 w4:=HQ7.out.trans (hb4.mono (by have:=HQ6.out.lt;omega));have HLO:=Lib.hid hlow;have hww4:Below w.heap.size w w4:=HBW.out.trans (hb4.mono HBW.out.size);have HW4:=Lib.hid hww4;have hgl4:gg<w4.heap.size:=Nat.lt_of_lt_of_le hgl hb4.size;have hcw4:w.heap.size<w4.heap.size:=World.block_lt_of_cell? _ _ cm4;have heb4:eb≤w4.heap.size:=by have:=HQ6.out.lt;have:=hb4.size;omega
   clear hb4 HOF cm c0 c1 c2 c3 c4 c5 c6 c7 c8 c9 c10 c11 c12 cm4 hlow hww4;go_wp2_with fail
   go_loopg [6,7] l.length (fun gq s6 s7 wx=>∃j:Nat,j≤l.length∧j≤gq∧s7=.int .i64 ((j:Int)-1)∧s6=.int .i64 (upF (l.drop j) ve)∧Hid (Below w4.heap.size w4 wx))
   case atStart=>exact⟨l.length,Nat.le_refl _,Nat.le_refl _,rfl,by rw[List.drop_length,upF],Below.refl _ _⟩
   case round=>
    obtain⟨j,hj,hjg,rfl,rfl,HBX⟩:=hrel;by_cases hj0:j=0
    ·subst hj0
     rw[List.drop_zero];have HBF:Hid (Below w.heap.size w wr):=HW4.out.trans (HBX.out.mono HW4.out.size);obtain⟨u,hu⟩:∃u,upF l ve=u:=⟨_,rfl⟩
     rw[hu];have hru:r=u:=by rw[HUP.out,hu]
     subst hru;clear hu;go_wp2_with fail;go_ret;exact⟨rfl,HBF.out⟩
    ·obtain⟨m,rfl⟩:∃m,j=m+1:=⟨j-1,by omega⟩
     have hml:m<l.length:=by omega
     have hmi:(((m+1:Nat):Int)-1)=(m:Int):=by omega
     rw[hmi];obtain⟨hd,x,y,hdd,hd6⟩:=spine_pair l _ _ HQ1.out (l.getD m t0) (getD_mem hml);obtain⟨hy,ys⟩:=y;have hfd:=HQ3.out _ (getD_mem hml);rw[hdd]at hfd;have hfy:=fine_kid hfd (show Tr.mk hy ys∈[x,Tr.mk hy ys] by simp);have hox:=own_below HO4.out HBX.out;obtain⟨a0,a1,a2,a3,a4,a5,a6,a7,a8,a9,a10,a11,a12⟩:=own_at (i:=m) hox hml hdd;have hld:=hfd.2.1;rw[Lies]at hld;obtain⟨b,off,hA,hb,hc⟩:=hld.2.2.2.2.1 (by simp);obtain⟨d0,d1,d2,d3,d4,d5,d6,d7,d8,d9,d10,d11,d12⟩:=Trs.at (i:=1) hc (by simp) rfl;have hix:∀W,(Instr.indexAt 25 (.slice hd.ka 2 hd.kc) (.int .i64 1)).run Tryz.prog W=.ok (.pointer (some ⟨b,off+13,none⟩)) W:=fun W=>by have:=index_kid hd.ka 2 hd.kc 1 b off hA (by decide) W;simpa using this
     have hid:∀W,(Instr.indexAt 25 (.slice (some ⟨gg,0,none⟩) l.length cap) (.int .i64 (m:Int))).run Tryz.prog W=.ok (.pointer (some ⟨gg,m*13,none⟩)) W:=fun W=>by have:=index_kid (some ⟨gg,0,none⟩) l.length cap m gg 0 rfl hml W;simpa using this
     have hble:b<eb:=by have:=HZ1.out;omega
     have hlx:Below eb W1 wr:=HLO.out.trans (HBX.out.mono heb4);have HD:Hid (C13o wr b (off+13) hy ys.length):=⟨(hlx.cell (p:=⟨b,off+13,none⟩) hble).trans (by simpa using d0),(hlx.cell (p:=⟨b,off+13+1,none⟩) hble).trans (by simpa using d1),(hlx.cell (p:=⟨b,off+13+2,none⟩) hble).trans (by simpa using d2),(hlx.cell (p:=⟨b,off+13+3,none⟩) hble).trans (by simpa using d3),(hlx.cell (p:=⟨b,off+13+4,none⟩) hble).trans (by simpa using d4),(hlx.cell (p:=⟨b,off+13+5,none⟩) hble).trans (by simpa using d5),(hlx.cell (p:=⟨b,off+13+6,none⟩) hble).trans (by simpa using d6),(hlx.cell (p:=⟨b,off+13+7,none⟩) hble).trans (by simpa using d7),(hlx.cell (p:=⟨b,off+13+8,none⟩) hble).trans (by simpa using d8),(hlx.cell (p:=⟨b,off+13+9,none⟩) hble).trans (by simpa using d9),(hlx.cell (p:=⟨b,off+13+10,none⟩) hble).trans (by simpa using d10),(hlx.cell (p:=⟨b,off+13+11,none⟩) hble).trans (by simpa using d11),(hlx.cell (p:=⟨b,off+13+12,none⟩) hble).trans (by simpa using d12)⟩
     have hcx:wr.cell? ⟨w.heap.size,0,none⟩=some (.map (some mp)):=(HBX.out.cell (p:=⟨w.heap.size,0,none⟩) hcw4).trans HCM.out;have HY:Hid (UpS wr w.heap.size mp gg (m*13) b (off+13) hd hy 2 ys.length wr):=⟨⟨⟨a0,a1,a2,a3,a4,a5,a6,a7,a8,a9,a10,a11,a12⟩,HD.out,hcx⟩,Below.refl _ _⟩
     have q1:w.heap.size<wr.heap.size:=Nat.lt_of_lt_of_le hcw4 HBX.out.size;have q2:gg<wr.heap.size:=Nat.lt_of_lt_of_le hgl4 HBX.out.size;have q3:b<wr.heap.size:=World.block_lt_of_cell? _ _ HD.out.1;obtain⟨vy,hvy⟩:∃vy,ofF (Tr.mk hy ys)=vy:=⟨_,rfl⟩
     obtain⟨vl,hvl⟩:∃vl,upF (l.drop (m+1)) ve=vl:=⟨_,rfl⟩
     rw[hvl];have hup:upF (l.drop m) ve=heldF hd.o hd.bo hd.how (numberF vl) (numberF vy):=by rw[up_drop hml hdd,hvl,hvy]
     have HUM:=Lib.hid hup;have hlty:szF (Tr.mk hy ys)<n:=by have:=hfd.2.2;omega
     have hwx:Below w.heap.size w wr:=HW4.out.trans (HBX.out.mono HW4.out.size);have hof:∀W,Below wr.heap.size wr W→Calls Tryz.prog 15 #[.agg #[.map (some mp)],.agg (arr hy ys.length)] W fun e w'=>e=.returned (.int .i64 vy)∧Below W.heap.size W w':=fun W hW=>by have:=HKD.out _ hlty hfy.1.1 W (HC.out.below (hwx.trans (hW.mono hwx.size))) (hfy.1.2.1.below ((hlx.trans (hW.mono (by have:=hlx.size;have:=HZ1.out;omega))).mono (by have:=HZ1.out;omega)));rw[hvy,valT_arr]at this;exact this
     have hhd:∀p q W,Calls Tryz.prog 40 #[.agg (arr hd 2),.int .i64 p,.int .i64 q] W fun e w'=>e=.returned (.int .i64 (heldF hd.o hd.bo hd.how p q))∧Below W.heap.size W w':=fun p q W=>held_any hd.k hd.o hd.v hd.s _ hd.wd hd.off hd.ha hd.tm hd.how _ hd.bo _ p q W;have HOF:=Lib.hid hof;have HHD:=Lib.hid hhd;clear hdd hd6 hfd hfy hox a0 a1 a2 a3 a4 a5 a6 a7 a8 a9 a10 a11 a12 hld hA hb hc d0 d1 d2 d3 d4 d5 d6 d7 d8 d9 d10 d11 d12 hlx HD hcx hvy hvl hup hlty hwx hof hhd hj0 hmi;unfold arr at HOF HHD;obtain⟨g',rfl⟩:∃g',gk=g'+1:=⟨gk-1,by omega⟩
     go_upto_region 9 with fail
     go_region_held3 (fun W=>UpS wr w.heap.size mp gg (m*13) b (off+13) hd hy 2 ys.length W)
      (first|(exact HY.out.start)|(exact hS0.step hb5 q1 q2 q3)|assumption)
      (first
        |(go_at_call 22;(with_reducible refine(number_any _ _).mono ?_);rintro e w' ⟨rfl,rfl⟩)
        |(go_at_call 15
          have hS0:=‹UpS wr w.heap.size mp gg (m*13) b (off+13) hd hy 2 ys.length _›
          (with_reducible refine(HOF.out _ hS0.2).mono ?_)
          rintro e w'⟨rfl,hb5⟩)
        |(go_at_call 40
          have hS0:=‹UpS wr w.heap.size mp gg (m*13) b (off+13) hd hy 2 ys.length _›
          (with_reducible refine(HHD.out _ _ _).mono ?_)
          rintro e w'⟨rfl,hb5⟩))
     all_goals(
      have hSE:=‹UpS wr w.heap.size mp gg (m*13) b (off+13) hd hy 2 ys.length _›
      have HBE:=Lib.hid (HBX.out.trans (hSE.2.mono HBX.out.size));clear hSE HY HOF HHD;go_wp2_with fail
      go_roundg g'
      case measure=>omega
      case rel=>exact⟨m,by omega,by omega,by first|rfl|go_num,by rw[HUM.out],HBE⟩)
end
end Go.Proofs.YtmodehfedhgcbaaGreatDoor.Ck

set_option linter.unusedVariables false
set_option linter.unusedSimpArgs false
set_option maxRecDepth 100000
set_option maxHeartbeats 4000000
namespace Go.Proofs.YtmodehfedhgcbaaGreatDoor.Ck
open Go.RowKit
open Lib (hid)
theorem size_list(s:ByteArray):s.size=s.toList.length:=by obtain⟨⟨l⟩⟩:=s;rw[ba_toList];rfl
theorem call_short{h:Hd}{n:Nat}(hk:okHd h n=true)(h4:h.k=4∨h.k=5):h.s.size≤200:=by
 unfold okHd at hk;rcases h4 with h4|h4
 ·rw[if_neg (by omega),if_neg (by omega),if_neg (by omega),if_pos h4]at hk
  unfold callOk freeB wordB at hk;simp only[Bool.and_eq_true,decide_eq_true_eq]at hk;exact hk.1.1.2.2.1
 ·rw[if_neg (by omega),if_neg (by omega),if_neg (by omega),if_neg (by omega),if_pos h4]at hk
  unfold groupOk groupB at hk;simp only[Bool.and_eq_true,Bool.or_eq_true,beq_iff_eq]at hk;have:=hk.1.1;rw[size_list];rcases this with e|e|e|e|e|e|e<;>rw[e]<;>decide
section
variable {mp b1 b2 b3 b4:Nat}
abbrev LessS(W4:World)(cb mp b o:Nat)(g:Hd)(m:Nat)(W:World):Prop:=(C13o W b o g m∧W.cell? ⟨cb,0,none⟩=some (.map (some mp)))∧Below W4.heap.size W4 W
theorem LessS.start{W4:World}{cb mp b o:Nat}{g:Hd}{m:Nat}(t:LessS W4 cb mp b o g m W4):LessS W4 cb mp b o g m W4.drew:=⟨t.1,⟨t.2.os,t.2.tape,t.2.output,t.2.size,t.2.block⟩⟩
theorem LessS.step{W4 W W':World}{cb mp b o:Nat}{g:Hd}{m:Nat}(t:LessS W4 cb mp b o g m W)(hb:Below W.heap.size W W')(h1:cb<W4.heap.size)(h2:b<W4.heap.size):LessS W4 cb mp b o g m W':=⟨⟨t.1.1.below hb (Nat.lt_of_lt_of_le h2 t.2.size),(hb.cell (p:=⟨cb,0,none⟩) (Nat.lt_of_lt_of_le h1 t.2.size)).trans t.1.2⟩,t.2.trans (hb.mono t.2.size)⟩
theorem of_step(h:Hd)(ks:List Tr)(hr:allF okHd (.mk h ks)=true)(hsz:szF (.mk h ks)≤700)
 (hk:∀x,szF x<szF (.mk h ks)→allF okHd x=true→OfIs mp b1 b2 b3 b4 x):OfIs mp b1 b2 b3 b4 (.mk h ks):=by
 intro w hC hL;have hr1:=hr;rw[allF,Bool.and_eq_true]at hr1;have hkind:=okR.kind _ _ hr1.1;have hb2:Below w.heap.size w ((w.alloc (.cells #[.map (some mp)] 44)).alloc (.cells (arr h ks.length) 27)):=((Below.refl _ _).alloc (Nat.le_refl _) _).alloc (by simp) _;have HB2:=hid hb2;have HKD:=hid hk;have HC:=hid hC;have HL:=hid hL;have hlen:ks.length≤700:=by have:=szL_length ks;rw[szF]at hsz;omega
 have hsub:∀x,x∈ks→OfIs mp b1 b2 b3 b4 x:=fun x hx=>hk x (by have:=szL_mem hx;rw[szF];omega) (allL_mem hr1.2 hx);have HSUB:=hid hsub;obtain⟨r,hr0⟩:∃r,ofF (.mk h ks)=r:=⟨_,rfl⟩
 rw[hr0,valT_arr];have hrr:=hr0;rw[ofF]at hrr;by_cases k1:h.k=1
 ·rw[if_pos k1]at hrr
  subst hrr;have e1:(h.k==1)=true:=by simp[k1]
  clear k1 hkind hr hr0 hr1 hk hC hL hb2 hsub hsz hlen HKD HC HL HSUB;unfold arr at*
  go_enter Tryz.func15,Tryz.ntmps15;go_wp2_with fail;go_ret;exact⟨rfl,HB2.out⟩
 have e1:(h.k==1)=false:=by simp[k1]
 rw[if_neg k1]at hrr;by_cases k2:h.k=2
 ·rw[if_pos k2]at hrr
  subst hrr;have e2:(h.k==2)=true:=by simp[k2]
  clear k1 k2 hkind hr hr0 hr1 hk hC hL hb2 hsub hsz hlen HKD HC HL HSUB;unfold arr at*
  go_enter Tryz.func15,Tryz.ntmps15;go_wp2_with fail;go_ret;exact⟨rfl,HB2.out⟩
 have e2:(h.k==2)=false:=by simp[k2]
 rw[if_neg k2]at hrr;by_cases k3:h.k=3
 ·rw[if_pos k3]at hrr
  have e3:(h.k==3)=true:=by simp[k3]
  by_cases kw:h.wd=0
  ·have ew:(h.wd != 0)=false:=by simp[kw]
   rw[if_pos kw]at hrr;subst hrr;clear kw k1 k2 k3 hkind hr hr0 hr1 hk hC hL hb2 hsub hsz hlen HKD HC HL HSUB;unfold arr at*
   go_enter Tryz.func15,Tryz.ntmps15;go_wp2_with fail;go_ret;exact⟨rfl,HB2.out⟩
  ·have ew:(h.wd != 0)=true:=by simp[kw]
   rw[if_neg kw]at hrr;subst hrr;clear kw k1 k2 k3 hkind hr hr0 hr1 hk hC hL hb2 hsub hsz hlen HKD HC HL HSUB;unfold arr at*
   go_enter Tryz.func15,Tryz.ntmps15;go_wp2_with fail;go_ret;exact⟨rfl,HB2.out⟩
 have e3:(h.k==3)=false:=by simp[k3]
 rw[if_neg k3]at hrr;by_cases k7:h.k=7
 ·rw[if_pos k7]at hrr
  have e7:(h.k==7)=true:=by simp[k7]
  obtain⟨x,hks⟩:=one_kid (okR.less _ _ hr1.1 k7);subst hks;obtain⟨g,gs⟩:=x;have hli:=HL.out;rw[Lies]at hli;obtain⟨b,off,hA,hb,hc⟩:=hli.2.2.2.2.1 (by simp);obtain⟨d0,d1,d2,d3,d4,d5,d6,d7,d8,d9,d10,d11,d12⟩:=Trs.at (i:=0) hc (by simp) rfl;have hix:∀W,(Instr.indexAt 25 (.slice h.ka 1 h.kc) (.int .i64 0)).run Tryz.prog W=.ok (.pointer (some ⟨b,off,none⟩)) W:=fun W=>by have:=index_kid h.ka 1 h.kc 0 b off hA (by decide) W;simpa using this
  obtain⟨v,hv⟩:∃v,ofF (Tr.mk g gs)=v:=⟨_,rfl⟩
  have hrv:numberF v=r:=by rw[←hrr,ofL,hv];rfl
  obtain⟨W2,hW2⟩:∃W2,(w.alloc (.cells #[.map (some mp)] 44)).alloc (.cells (arr h 1) 27)=W2:=⟨_,rfl⟩
  have hb2':Below w.heap.size w W2:=by rw[←hW2];exact hb2
  have hof:∀W,Below W2.heap.size W2 W→Calls Tryz.prog 15 #[.agg #[.map (some mp)],.agg (arr g gs.length)] W fun e w'=>e=.returned (.int .i64 v)∧Below W.heap.size W w':=fun W hW=>by have hww:=hb2'.trans (hW.mono hb2'.size);have:=HSUB.out (Tr.mk g gs) (by simp) W (HC.out.below hww) ((LiesL.mem hli.2.2.2.2.2 (by simp:Tr.mk g gs∈[Tr.mk g gs])).below hww);rw[hv,valT_arr]at this;exact this
  have HOF:=hid hof;have HB2':=hid hb2';have hz:W2.heap.size=w.heap.size+1+1:=by rw[←hW2];simp
  have hm:Blk W2 w.heap.size 44 #[.map (some mp)]:=by rw[←hW2];exact(Blk.new w 44 _).alloc _
  have HY:Hid (LessS W2 w.heap.size mp b off g gs.length W2):=⟨⟨⟨(hb2'.cell (p:=⟨b,off,none⟩) hb).trans (by simpa using d0),(hb2'.cell (p:=⟨b,off+1,none⟩) hb).trans (by simpa using d1),(hb2'.cell (p:=⟨b,off+2,none⟩) hb).trans (by simpa using d2),(hb2'.cell (p:=⟨b,off+3,none⟩) hb).trans (by simpa using d3),(hb2'.cell (p:=⟨b,off+4,none⟩) hb).trans (by simpa using d4),(hb2'.cell (p:=⟨b,off+5,none⟩) hb).trans (by simpa using d5),(hb2'.cell (p:=⟨b,off+6,none⟩) hb).trans (by simpa using d6),(hb2'.cell (p:=⟨b,off+7,none⟩) hb).trans (by simpa using d7),(hb2'.cell (p:=⟨b,off+8,none⟩) hb).trans (by simpa using d8),(hb2'.cell (p:=⟨b,off+9,none⟩) hb).trans (by simpa using d9),(hb2'.cell (p:=⟨b,off+10,none⟩) hb).trans (by simpa using d10),(hb2'.cell (p:=⟨b,off+11,none⟩) hb).trans (by simpa using d11),(hb2'.cell (p:=⟨b,off+12,none⟩) hb).trans (by simpa using d12)⟩,hm.cell 0⟩,Below.refl _ _⟩
  have HBX:Hid (Blk W2 (w.heap.size+1) 27 (arr h 1)):=by have:=Blk.new (w.alloc (.cells #[.map (some mp)] 44)) 27 (arr h 1);rw[World.size_alloc]at this;rw[←hW2];exact this
  have q1:w.heap.size<W2.heap.size:=hm.lt;have q2:b<W2.heap.size:=Nat.lt_of_lt_of_le hb hb2'.size;have HW2:=hid hW2;clear k1 k2 k3 k7 hkind hr hr0 hr1 hk hC hL hb2 hsub hsz hlen HKD HC HL HSUB hrr hv hli hA hb hc d0 d1 d2 d3 d4 d5 d6 d7 d8 d9 d10 d11 d12 hof hb2' hz hm HB2 hW2;have hW2:=HW2.out;obtain⟨c0,c1,c2,c3,c4,c5,c6,c7,c8,c9,c10,c11,c12⟩:=blk13 (h:=h) (n:=1) HBX.out;unfold arr at*
  go_enter Tryz.func15,Tryz.ntmps15;go_upto_region 11 with fail;clear hW2 c0 c1 c2 c3 c4 c5 c6 c7 c8 c9 c10 c11;have HK:Hid (W2.drew.cell? ⟨w.heap.size+1,12,none⟩=some (.slice h.ka 1 h.kc)):=c12
  go_region_held3 (fun W=>(C13o W b off g gs.length∧W.cell? ⟨w.heap.size,0,none⟩=some (.map (some mp))∧W.cell? ⟨w.heap.size+1,12,none⟩=some (.slice h.ka 1 h.kc))∧Below W2.heap.size W2 W)
   (first|(exact⟨⟨HY.out.1.1,HY.out.1.2,HK.out⟩,HY.out.start.2⟩)|(exact⟨⟨hS0.1.1.below hb5 (Nat.lt_of_lt_of_le q2 hS0.2.size),(hb5.cell (p:=⟨w.heap.size,0,none⟩) (Nat.lt_of_lt_of_le q1 hS0.2.size)).trans hS0.1.2.1,(hb5.cell (p:=⟨w.heap.size+1,12,none⟩) (World.block_lt_of_cell? _ _ hS0.1.2.2)).trans hS0.1.2.2⟩,hS0.2.trans (hb5.mono hS0.2.size)⟩)|assumption)
   (first
     |(go_at_call 22;(with_reducible refine(number_any _ _).mono ?_);rintro e w' ⟨rfl,rfl⟩)
     |(go_at_call 15
       have hS0:=‹(C13o _ b off g gs.length∧World.cell? _ ⟨w.heap.size,0,none⟩=some (.map (some mp))∧World.cell? _ ⟨w.heap.size+1,12,none⟩=some (.slice h.ka 1 h.kc))∧Below W2.heap.size W2 _›
       (with_reducible refine(HOF.out _ hS0.2).mono ?_)
       rintro e w'⟨rfl,hb5⟩))
  all_goals(
   have hSE:=‹(C13o _ b off g gs.length∧World.cell? _ ⟨w.heap.size,0,none⟩=some (.map (some mp))∧World.cell? _ ⟨w.heap.size+1,12,none⟩=some (.slice h.ka 1 h.kc))∧Below W2.heap.size W2 _›
   have HBE:=hid (HB2'.out.trans (hSE.2.mono HB2'.out.size));clear hSE HY HOF HK;go_wp2_with fail;go_ret;exact⟨by first|rfl|(rw[←hrv];rfl),HBE.out⟩)
 have e7:(h.k==7)=false:=by simp[k7]
 rw[if_neg k7]at hrr;by_cases k6:h.k=6
 ·rw[if_pos k6]at hrr
  have e6:(h.k==6)=true:=by simp[k6]
  have hst:=pair_step (mp:=mp) (b1:=b1) (b2:=b2) (b3:=b3) (b4:=b4) h ks k6 hr hsz hk _ (hC.below hb2) (hL.below hb2);rw[hr0,valT_arr]at hst;have HST:=hid hst;clear k1 k2 k3 k7 k6 hkind hr hr0 hr1 hk hC hL hb2 hsub hsz hlen HKD HC HL HSUB hrr hst;unfold arr at*
  go_enter Tryz.func15,Tryz.ntmps15;go_wp2_with fail;refine(HST.out).mono ?_;rintro e w3⟨rfl,hb3⟩;have HB3:=hid (HB2.out.trans (hb3.mono HB2.out.size));clear hb3;go_wp2_with fail;go_ret;exact⟨rfl,HB3.out⟩
 ·rw[if_neg k6]at hrr
  have e6:(h.k==6)=false:=by simp[k6]
  have hst:=call_step (mp:=mp) (b1:=b1) (b2:=b2) (b3:=b3) (b4:=b4) h ks hsub (call_short hr1.1 (by omega)) hlen _ (hC.below hb2) (hL.below hb2);rw[hrr,valT_arr]at hst;have HST:=hid hst;clear k1 k2 k3 k7 k6 hkind hr hr0 hr1 hk hC hL hb2 hsub hsz hlen HKD HC HL HSUB hrr hst;unfold arr at*
  go_enter Tryz.func15,Tryz.ntmps15;go_wp2_with fail;refine(HST.out).mono ?_;rintro e w3⟨rfl,hb3⟩;have HB3:=hid (HB2.out.trans (hb3.mono HB2.out.size));clear hb3;go_wp2_with fail;go_ret;exact⟨rfl,HB3.out⟩
theorem of_any(n:Nat):∀x:Tr,szF x≤n→szF x≤700→allF okHd x=true→OfIs mp b1 b2 b3 b4 x:=by
 induction n with
 |zero=>intro x hx;have:=szF_pos x;omega
 |succ n ih=>intro x hx h3 hr;obtain⟨h,ks⟩:=x;exact of_step h ks hr h3 fun y hy hyr=>ih y (by omega) (by omega) hyr
end
end Go.Proofs.YtmodehfedhgcbaaGreatDoor.Ck

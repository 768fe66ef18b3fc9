/- The document's right: whether all parts of a tree are right. Conditions: the tree lies in memory, and isn't too much for a look. -/
import Derived.Test.YticmkabafmmlhaaGreatDoorD9j
import Derived.Deep.DeepCutAuto
import Derived.Deep.CutBlock
import Derived.Deep.RegionHeld3
import Derived.BigRegion
set_option linter.unusedVariables false
set_option linter.unusedSimpArgs false
set_option maxRecDepth 100000
set_option maxHeartbeats 16000000
namespace Go.Proofs.YticmkabafmmlhaaGreatDoor.Ck
open Go.RowKit
open Lib (hid)
def RightIs(x:Tr):Prop:=∀W,Lies W x→shortF x=true→Calls Tryz.prog 14 #[valT x] W fun e w'=>e=.returned (.bool (allF okHd x))∧Below W.heap.size W w'
theorem allL_bad{ok:Hd→Nat→Bool}:∀{l:List Tr} {x:Tr},x∈l→allF ok x=false→allL ok l=false
 |[],_,h,_=>by cases h
 |y::l,x,h,hx=>by
  rw[allL];rcases List.mem_cons.1 h with rfl|h
  ·rw[hx,Bool.false_and]
  ·rw[allL_bad h hx,Bool.and_false]
theorem allL_all{ok:Hd→Nat→Bool}:∀{l:List Tr},(∀k,k<l.length→allF ok (l.getD k t0)=true)→allL ok l=true
 |[],_=>by rw[allL]
 |y::l,h=>by rw[allL,allL_all (l:=l) (fun k hk=>by simpa using h (k+1) (by simpa using hk))];have:=h 0 (by simp);simpa using this
theorem short_kid{h:Hd}{ks:List Tr}(hs:shortF (.mk h ks)=true):∀x,x∈ks→shortF x=true:=by
 rw[shortF,Bool.and_eq_true,Bool.and_eq_true,Bool.and_eq_true,Bool.and_eq_true]at hs;obtain⟨_,_,_,_,h5⟩:=hs;intro x hx;have:∀(l:List Tr),shortL l=true→x∈l→shortF x=true:=by
  intro l
  induction l with
  |nil=>intro _ h;cases h
  |cons y l ih=>
   intro h1 h2;rw[shortL,Bool.and_eq_true]at h1;rcases List.mem_cons.1 h2 with rfl|h2
   ·exact h1.1
   ·exact ih h1.2 h2
 exact this ks h5 hx
theorem short_s{h:Hd}{ks:List Tr}(hs:shortF (.mk h ks)=true):h.s.size≤400:=by rw[shortF,Bool.and_eq_true,Bool.and_eq_true,decide_eq_true_eq,decide_eq_true_eq]at hs;exact hs.2.1
theorem short_n{h:Hd}{ks:List Tr}(hs:shortF (.mk h ks)=true):∀x,x∈h.ns→x.size≤65536:=by rw[shortF,Bool.and_eq_true,Bool.and_eq_true,Bool.and_eq_true,Bool.and_eq_true]at hs;intro x hx;have:=List.all_eq_true.1 hs.2.2.2.1 x hx;unfold nmOk at this;rw[decide_eq_true_eq]at this;omega
theorem short_m{h:Hd}{ks:List Tr}(hs:shortF (.mk h ks)=true):∀m,m∈h.ms→m.2.1.size≤65536:=by rw[shortF,Bool.and_eq_true,Bool.and_eq_true,Bool.and_eq_true,Bool.and_eq_true]at hs;intro x hx;have:=List.all_eq_true.1 hs.2.2.1 x hx;unfold mtOk at this;rw[Bool.and_eq_true,decide_eq_true_eq,decide_eq_true_eq]at this;omega
theorem take_all{l:List Mt}{k:Nat}(hk:k<l.length):(l.take (k+1)).all dmtB=((l.take k).all dmtB&&dmtB (l.getD k m0)):=by rw[List.take_add_one,List.all_append,List.getElem?_eq_getElem hk,List.getD_eq_getElem?_getD,List.getElem?_eq_getElem hk];simp
def bareC(k:Int):Array Value:=#[.int .i64 k,.int .i64 0,.int .u64 0,.string ⟨#[]⟩,.slice none 0 0,.int .i64 0,.int .i64 0,.bool false,.int .i64 0,.int .i64 0,.slice none 0 0,.bool false,.slice none 0 0]
theorem x_cut(h:Hd)(ks:List Tr):Cut (xH h) h (xK h ks) ks:=by
 refine⟨?_,?_,?_⟩
 ·unfold xH
  repeat' split
  all_goals intro e
  all_goals first|rfl|(exact(List.length_eq_zero_iff.1 e.symm).symm)
 ·unfold xH
  repeat' split
  all_goals intro e
  all_goals first|rfl|(exact(List.length_eq_zero_iff.1 e.symm).symm)
 ·unfold xK
  split;all_goals intro e
  all_goals first|rfl|(exact(List.length_eq_zero_iff.1 e.symm).symm)
theorem x_lies{h:Hd}{ks:List Tr}{w:World}(hL:Lies w (.mk h ks)):Lies w (.mk (xH h) (xK h ks)):=by
 rw[Lies]at hL⊢
 obtain⟨ok,hk,hm,hn,ht,hl⟩:=hL;have m0':Mts w none []:=fun h=>absurd h (Nat.not_lt_zero _);have n0':Nms w none []:=fun h=>absurd h (Nat.not_lt_zero _);have k0':Trs w none []:=fun h=>absurd h (Nat.not_lt_zero _);have hkk:(xH h).ka=h.ka∧(xH h).kc=h.kc∧xK h ks=ks∨(xH h).ka=none∧(xH h).kc=0∧xK h ks=[]:=by
  by_cases hh:4≤h.k∧h.k≤7
  ·left
   have:h.k=4∨h.k=5∨h.k=6∨h.k=7:=by omega
   rcases this with e|e|e|e
   ·rw[xH_4 e];exact⟨rfl,rfl,if_pos hh⟩
   ·rw[xH_5 e];exact⟨rfl,rfl,if_pos hh⟩
   ·rw[xH_6 e];exact⟨rfl,rfl,if_pos hh⟩
   ·rw[xH_7 e];exact⟨rfl,rfl,if_pos hh⟩
  ·right
   refine⟨?_,?_,if_neg hh⟩
   ·unfold xH
    repeat' split
    all_goals first|rfl|(exfalso;omega)
   ·unfold xH
    repeat' split
    all_goals first|rfl|(exfalso;omega)
 have hmm:(xH h).ma=h.ma∧(xH h).ms=h.ms∨(xH h).ma=none∧(xH h).ms=[]:=by
  unfold xH
  repeat' split
  all_goals first|exact .inl ⟨rfl,rfl⟩|exact .inr ⟨rfl,rfl⟩
 have hnn:(xH h).na=h.na∧(xH h).ns=h.ns∧(xH h).nc=h.nc∨(xH h).na=none∧(xH h).ns=[]∧(xH h).nc=0:=by
  unfold xH
  repeat' split
  all_goals first|exact .inl ⟨rfl,rfl,rfl⟩|exact .inr ⟨rfl,rfl,rfl⟩
 have hvv:(xH h).v=h.v∨(xH h).v=0:=by
  unfold xH
  repeat' split
  all_goals first|exact .inl rfl|exact .inr rfl
 refine⟨⟨?_,?_,?_,?_,?_⟩,?_,?_,?_,?_,?_⟩
 ·rcases hvv with e|e
  ·rw[e];exact ok.v
  ·rw[e];decide
 ·rcases hmm with e|e
  ·rw[e.2];exact ok.ms
  ·rw[e.2];simp
 ·rcases hnn with e|e
  ·rw[e.2.1];exact ok.ns
  ·rw[e.2.1];simp
 ·rcases hkk with e|e
  ·rw[e.1,e.2.1];exact ok.kn
  ·intro _;exact e.2.1
 ·rcases hnn with e|e
  ·rw[e.2.1,e.2.2];exact ok.nc
  ·rw[e.2.1];exact Nat.zero_le _
 ·rcases hkk with e|e
  ·rw[e.2.2];exact hk
  ·rw[e.2.2];simp
 ·rcases hmm with e|e
  ·rw[e.1,e.2];exact hm
  ·rw[e.1,e.2];exact m0'
 ·rcases hnn with e|e
  ·rw[e.1,e.2.1];exact hn
  ·rw[e.1,e.2.1];exact n0'
 ·rcases hkk with e|e
  ·rw[e.1,e.2.2];exact ht
  ·rw[e.1,e.2.2];exact k0'
 ·rcases hkk with e|e
  ·rw[e.2.2];exact hl
  ·rw[e.2.2,LiesL];trivial
theorem blk_past{W:World}{a b:Nat}{t:TypeId}{cs:Array Value}(h:Blk W a t cs)(hne:a≠b)(i:Nat)(u:Value):Blk (W.setCell ⟨b,i,none⟩ u) a t cs:=(Below.heap_setCell W ⟨b,i,none⟩ u a hne).trans h
abbrev RP(h:Hd)(ks:List Tr)(w wx:World)(a xb:Nat):Prop:=Hid (Blk wx xb 27 (arr (xH h) (xK h ks).length))∧Hid (Blk wx a 27 (arr h ks.length))∧Hid (Below w.heap.size w wx)
theorem right_0{h:Hd}{ks:List Tr}{w W:World}{a xb:Nat}(h1:¬h.k=1)(h2:¬h.k=2)(h3:¬h.k=3)(h4:¬h.k=4)(h5:¬h.k=5)(h6:¬h.k=6)(h7:¬h.k=7)(hX:Blk W xb 27 (bareC h.k))(hE:Blk W a 27 (arr h ks.length))(hB:Below w.heap.size w W):RP h ks w W a xb:=by
 refine⟨?_,hE,hB⟩;have e:xH h=⟨h.k,0,0,⟨#[]⟩,none,0,[],0,0,false,0,0,none,0,[],false,none,0⟩:=by unfold xH;rw[if_neg h1,if_neg h2,if_neg h3,if_neg h4,if_neg h5,if_neg h6,if_neg h7]
 have e2:xK h ks=[]:=if_neg (by omega);rw[e,e2];exact hX
theorem right_1{h:Hd}{ks:List Tr}{w W:World}{xb:Nat}(h1:h.k=1)(hX:Blk W xb 27 (bareC h.k))(hE:Blk W w.heap.size 27 (arr h ks.length))(hB:Below w.heap.size w W)(hne:w.heap.size≠xb)(hle:w.heap.size≤xb):RP h ks w (W.setCell ⟨xb,2,none⟩ (.int .u64 (h.v:Int))) w.heap.size xb:=by refine⟨?_,blk_past hE hne _ _,set_below hB hle _ _⟩;rw[xH_1 h1,show xK h ks=[]from if_neg (by omega)];exact hX.set_ 2 _
theorem right_2{h:Hd}{ks:List Tr}{w W:World}{xb:Nat}(h2:h.k=2)(hX:Blk W xb 27 (bareC h.k))(hE:Blk W w.heap.size 27 (arr h ks.length))(hB:Below w.heap.size w W)(hne:w.heap.size≠xb)(hle:w.heap.size≤xb):RP h ks w (W.setCell ⟨xb,3,none⟩ (.string h.s)) w.heap.size xb:=by refine⟨?_,blk_past hE hne _ _,set_below hB hle _ _⟩;rw[xH_2 h2,show xK h ks=[]from if_neg (by omega)];exact hX.set_ 3 _
theorem right_7{h:Hd}{ks:List Tr}{w W:World}{xb:Nat}(h7:h.k=7)(hX:Blk W xb 27 (bareC h.k))(hE:Blk W w.heap.size 27 (arr h ks.length))(hB:Below w.heap.size w W)(hne:w.heap.size≠xb)(hle:w.heap.size≤xb):RP h ks w (W.setCell ⟨xb,12,none⟩ (.slice h.ka ks.length h.kc)) w.heap.size xb:=by refine⟨?_,blk_past hE hne _ _,set_below hB hle _ _⟩;rw[xH_7 h7,show xK h ks=ks from if_pos (by omega)];exact hX.set_ 12 _
theorem arr_all(h:Hd)(n:Nat):((((((((((((((bareC h.k).setIfInBounds 0 (.int .i64 h.k)).setIfInBounds 1 (.int .i64 h.o)).setIfInBounds 2 (.int .u64 (h.v:Int))).setIfInBounds 3 (.string h.s)).setIfInBounds 4 (.slice h.ma h.ms.length h.mc)).setIfInBounds 5 (.int .i64 h.wd)).setIfInBounds 6 (.int .i64 h.off)).setIfInBounds 7 (.bool h.ha)).setIfInBounds 8 (.int .i64 h.tm)).setIfInBounds 9 (.int .i64 h.how)).setIfInBounds 10 (.slice h.na h.ns.length h.nc)).setIfInBounds 11 (.bool h.bo)).setIfInBounds 12 (.slice h.ka n h.kc))=arr h n:=by kernel_rfl
theorem arr_pick(h:Hd)(n:Nat):(((((((arr h n).setIfInBounds 1 (.int .i64 0)).setIfInBounds 2 (.int .u64 0)).setIfInBounds 9 (.int .i64 0)).setIfInBounds 10 (.slice none 0 0)).setIfInBounds 11 (.bool false)).setIfInBounds 12 (.slice none 0 0))=arr ⟨h.k,0,0,h.s,h.ma,h.mc,h.ms,h.wd,h.off,h.ha,h.tm,0,none,0,[],false,none,0⟩ 0:=by kernel_rfl
theorem right_3a{h:Hd}{n:Nat}{W:World}{xb:Nat}(hX:Blk W xb 27 (bareC h.k)):Blk (((((((((((((W.setCell ⟨xb,0,none⟩ (.int .i64 h.k)).setCell ⟨xb,1,none⟩ (.int .i64 h.o)).setCell ⟨xb,2,none⟩ (.int .u64 (h.v:Int))).setCell ⟨xb,3,none⟩ (.string h.s)).setCell ⟨xb,4,none⟩ (.slice h.ma h.ms.length h.mc)).setCell ⟨xb,5,none⟩ (.int .i64 h.wd)).setCell ⟨xb,6,none⟩ (.int .i64 h.off)).setCell ⟨xb,7,none⟩ (.bool h.ha)).setCell ⟨xb,8,none⟩ (.int .i64 h.tm)).setCell ⟨xb,9,none⟩ (.int .i64 h.how)).setCell ⟨xb,10,none⟩ (.slice h.na h.ns.length h.nc)).setCell ⟨xb,11,none⟩ (.bool h.bo)).setCell ⟨xb,12,none⟩ (.slice h.ka n h.kc)) xb 27 (arr h n):=by
 have e:=(Blk.set_ (Blk.set_ (Blk.set_ (Blk.set_ (Blk.set_ (Blk.set_ (Blk.set_ (Blk.set_ (Blk.set_ (Blk.set_ (Blk.set_ (Blk.set_ (Blk.set_ hX 0 (.int .i64 h.k)) 1 (.int .i64 h.o)) 2 (.int .u64 (h.v:Int))) 3 (.string h.s)) 4 (.slice h.ma h.ms.length h.mc)) 5 (.int .i64 h.wd)) 6 (.int .i64 h.off)) 7 (.bool h.ha)) 8 (.int .i64 h.tm)) 9 (.int .i64 h.how)) 10 (.slice h.na h.ns.length h.nc)) 11 (.bool h.bo)) 12 (.slice h.ka n h.kc))
 rw[arr_all]at e;exact e
theorem right_3b{h:Hd}{n:Nat}{W:World}{xb:Nat}(hX:Blk W xb 27 (arr h n)):Blk ((((((W.setCell ⟨xb,1,none⟩ (.int .i64 0)).setCell ⟨xb,2,none⟩ (.int .u64 0)).setCell ⟨xb,9,none⟩ (.int .i64 0)).setCell ⟨xb,10,none⟩ (.slice none 0 0)).setCell ⟨xb,11,none⟩ (.bool false)).setCell ⟨xb,12,none⟩ (.slice none 0 0)) xb 27 (arr ⟨h.k,0,0,h.s,h.ma,h.mc,h.ms,h.wd,h.off,h.ha,h.tm,0,none,0,[],false,none,0⟩ 0):=by
 have e:=(Blk.set_ (Blk.set_ (Blk.set_ (Blk.set_ (Blk.set_ (Blk.set_ hX 1 (.int .i64 0)) 2 (.int .u64 0)) 9 (.int .i64 0)) 10 (.slice none 0 0)) 11 (.bool false)) 12 (.slice none 0 0))
 rw[arr_pick]at e;exact e
abbrev zd10_0:Oper:={dst:=some 162,op:=Op.fieldAddr 27 (Operand.tmp 1) 3,type:=0,pos:="ref.go:103",after:=#[],guard:=none}
abbrev zd10_1:Oper:={dst:=some 163,op:=Op.load 9 (Operand.tmp 162),type:=9,pos:="ref.go:103",after:=#[{on:=0,ground:=Ground.data}],guard:=none}
abbrev zd10_2:Oper:={dst:=some 164,op:=Op.call {callee:=Callee.value (Operand.func 26),args:=#[],argTypes:=#[]},type:=24,pos:="ref.go:103",after:=#[],guard:=none}
abbrev zd10_3:Oper:={dst:=some 165,op:=Op.call {callee:=Callee.value (Operand.func 25),args:=#[Operand.tmp 163,Operand.tmp 164],argTypes:=#[9,24]},type:=4,pos:="ref.go:103",after:=#[{on:=1,ground:=Ground.data},{on:=2,ground:=Ground.data},{on:=2,ground:=Ground.chain}],guard:=none}
abbrev zd10_4:Oper:={dst:=some 166,op:=Op.move (Operand.tmp 165),type:=4,pos:="ref.go:103",after:=#[{on:=3,ground:=Ground.data},{on:=3,ground:=Ground.chain}],guard:=none}
abbrev zd10_5:Oper:={dst:=some 167,op:=Op.load 27 (Operand.tmp 1),type:=27,pos:="ref.go:103",after:=#[{on:=4,ground:=Ground.guard}],guard:=some (4,true)}
abbrev zd10_6:Oper:={dst:=some 168,op:=Op.call {callee:=Callee.value (Operand.func 27),args:=#[Operand.tmp 167],argTypes:=#[27]},type:=4,pos:="ref.go:103",after:=#[{on:=5,ground:=Ground.data},{on:=4,ground:=Ground.chain},{on:=4,ground:=Ground.guard}],guard:=some (4,true)}
abbrev zd10_7:Oper:={dst:=some 169,op:=Op.pick (Operand.tmp 166) (Operand.tmp 168) (Operand.const (Value.bool false)),type:=4,pos:="ref.go:103",after:=#[{on:=4,ground:=Ground.data},{on:=6,ground:=Ground.data}],guard:=none}
abbrev zd10_8:Oper:={dst:=some 170,op:=Op.move (Operand.tmp 169),type:=4,pos:="ref.go:103",after:=#[{on:=7,ground:=Ground.data},{on:=6,ground:=Ground.chain}],guard:=none}
abbrev zd10_9:Oper:={dst:=some 171,op:=Op.fieldAddr 27 (Operand.tmp 1) 12,type:=0,pos:="ref.go:103",after:=#[{on:=8,ground:=Ground.guard}],guard:=some (8,true)}
abbrev zd10_10:Oper:={dst:=some 172,op:=Op.load 25 (Operand.tmp 171),type:=25,pos:="ref.go:103",after:=#[{on:=9,ground:=Ground.data},{on:=8,ground:=Ground.guard}],guard:=some (8,true)}
abbrev zd10_11:Oper:={dst:=some 173,op:=Op.call {callee:=Callee.builtin Builtin.len,args:=#[Operand.tmp 172],argTypes:=#[25]},type:=3,pos:="ref.go:103",after:=#[{on:=10,ground:=Ground.data},{on:=8,ground:=Ground.guard}],guard:=some (8,true)}
abbrev zd10_12:Oper:={dst:=some 174,op:=Op.binOp BinOp.leq 3 (Operand.tmp 173) (Operand.const (Value.int IntKind.i64 4)) 3,type:=4,pos:="ref.go:103",after:=#[{on:=11,ground:=Ground.data},{on:=8,ground:=Ground.guard}],guard:=some (8,true)}
abbrev zd10_13:Oper:={dst:=some 175,op:=Op.pick (Operand.tmp 170) (Operand.tmp 174) (Operand.const (Value.bool false)),type:=4,pos:="ref.go:103",after:=#[{on:=8,ground:=Ground.data},{on:=12,ground:=Ground.data}],guard:=none}
abbrev zd10_14:Oper:={dst:=some 5,op:=Op.assign (Operand.tmp 175),type:=4,pos:="ref.go:103",after:=#[{on:=13,ground:=Ground.data},{on:=8,ground:=Ground.chain},{on:=0,ground:=Ground.phase},{on:=1,ground:=Ground.phase},{on:=2,ground:=Ground.phase},{on:=3,ground:=Ground.phase},{on:=4,ground:=Ground.phase},{on:=5,ground:=Ground.phase},{on:=6,ground:=Ground.phase},{on:=7,ground:=Ground.phase},{on:=8,ground:=Ground.phase},{on:=9,ground:=Ground.phase},{on:=10,ground:=Ground.phase},{on:=11,ground:=Ground.phase},{on:=12,ground:=Ground.phase},{on:=13,ground:=Ground.phase}],guard:=none}
theorem right_step3(h:Hd)(ks:List Tr)(hq0:Hid (h.k=3))(hk:∀x,x∈ks→RightIs x):RightIs (.mk h ks):=by
 intro w hL hsh;obtain⟨r,hr⟩:∃r,allF okHd (.mk h ks)=r:=⟨_,rfl⟩
 rw[hr,valT_arr];rw[allF]at hr;have hb0:Below w.heap.size w (w.alloc (.cells (arr h ks.length) 27)):=(Below.refl _ _).alloc (Nat.le_refl _) _;have hl1:=hL.below hb0;rw[Lies]at hl1;obtain⟨hok,hkl,hms,hnm,htr,hkk⟩:=hl1;have hv:=hok.v;have hm:=hok.ms;have hns:=hok.ns;have HB0:=hid hb0;have HMS:=hid hms;have HNM:=hid hnm;have HTR:=hid htr;have HKK:=hid hkk;have HK:=hid (Blk.new w 27 (arr h ks.length));have HKS:=hid hk;have HR:=hid hr;have HSH:=hid (short_kid hsh);have HS0:=hid hsh;have HSS:=hid (short_s hsh);have HSN:=hid (short_n hsh);have HSM0:=hid (short_m hsh);have HMW:=hid (show Mts w h.ma h.ms from by rw[Lies]at hL;exact hL.2.2.1);have HNW:=hid (show Nms w h.na h.ns from by rw[Lies]at hL;exact hL.2.2.2.1);have HL0:=hid hL;clear hr hb0 hms hnm htr hkk hk hok hL hsh;unfold arr at*
 go_enter Tryz.func14,Tryz.ntmps14;go_wp2_with fail;generalize (w.alloc (.cells _ 27))=W1 at*
 go_loopg [3] ks.length (fun gq s3 wx=>∃k:Nat,k≤ks.length∧ks.length≤gq+k∧s3=.int .i64 (k:Int)∧Hid (∀i,i<k→allF okHd (ks.getD i t0)=true)∧Hid (Below W1.heap.size W1 wx))
 case atStart=>exact⟨0,Nat.zero_le _,Nat.le_refl _,rfl,fun i hi=>absurd hi (Nat.not_lt_zero _),Below.refl _ _⟩
 case round=>
  obtain⟨k,hkn,hg,rfl,HG,HBX⟩:=hrel;have HKX:=hid (HK.out.below HBX.out);have HBF:=hid (HB0.out.trans (HBX.out.mono HB0.out.size));by_cases hlt:k<ks.length
  ·have c12:=HKX.out.cell 12
   simp at c12;have hki:(k:Int)<(ks.length:Int):=by omega
   obtain⟨b,off,hA,hb,hc⟩:=HTR.out (by omega);cases ht:ks.getD k t0 with
   |mk h2 ks2=>
    have hix:=fun W=>index_kid h.ka ks.length h.kc k b off hA hlt W;have hmem:Tr.mk h2 ks2∈ks:=by rw[←ht];exact kid_mem2 hlt
    obtain⟨d0,d1,d2,d3,d4,d5,d6,d7,d8,d9,d10,d11,d12⟩:=KC.below (Trs.kc hc hlt ht) HBX.out hb;obtain⟨x,hx⟩:∃x,allF okHd (Tr.mk h2 ks2)=x:=⟨_,rfl⟩
    have hcl:=HKS.out _ hmem wr ((LiesL.mem HKK.out hmem).below HBX.out) (HSH.out _ hmem);rw[hx,valT_arr]at hcl;have HCL:=hid hcl;have HX:=hid hx;have HTT:=hid ht;obtain⟨g',rfl⟩:∃g',gk=g'+1:=⟨gk-1,by omega⟩
    clear hA hc hx hcl ht;unfold arr at HCL;go_wp2_with fail;refine(HCL.out).mono ?_;rintro e w6⟨rfl,hb6⟩;have HB6:=hid (HBX.out.trans (hb6.mono HBX.out.size));have HBF6:=hid (HBF.out.trans (hb6.mono HBF.out.size));clear hb6 HCL d0 d1 d2 d3 d4 d5 d6 d7 d8 d9 d10 d11 d12 hix c12;cases x with
    |false=>
     obtain rfl:false=r:=by rw[←HR.out,allL_bad hmem HX.out,Bool.and_false]
     go_wp2_with fail;go_ret;exact⟨rfl,HBF6.out⟩
    |true=>
     have HGK2:Hid (∀q,q<k+1→allF okHd (ks.getD q t0)=true):=fun q hq=>by
      by_cases e:q=k
      ·rw[e,HTT.out];exact HX.out
      ·exact HG.out q (by omega)
     go_wp2_with fail
     go_roundg g'
     case measure=>omega
     case rel=>exact⟨k+1,by omega,by omega,by go_num,HGK2,HB6⟩
  ·have hki:¬(k:Int)<(ks.length:Int):=by omega
   have hr2:okHd h ks.length=r:=by rw[←HR.out,allL_all (fun q hq=>HG.out q (by omega)),Bool.and_true]
   rw[←doc_ok h ks hv]at hr2;have HR2:=hid hr2;obtain⟨c0,c1,c2,c3,c4,c5,c6,c7,c8,c9,c10,c11,c12⟩:=blk13 (h:=h) (n:=ks.length) HKX.out;clear hr2 HR HG HKS HSH HTR HKK;have hb6:Below w.heap.size w (wr.alloc (.cells (bareC h.k) 27)):=HBF.out.alloc HBF.out.size _;have hx6:=Blk.new wr 27 (bareC h.k);have he6:=HKX.out.alloc (.cells (bareC h.k) 27);have hne:w.heap.size≠wr.heap.size:=by have:=HKX.out.lt;omega
   have HB6:=hid hb6;have HX6:=hid hx6;have HE6:=hid he6;have HNE:=hid hne;have HLE:=hid (show w.heap.size≤wr.heap.size by have:=HKX.out.lt;omega);clear hb6 hx6 he6 hne;unfold bareC at*
   clear c0 c1 c2 c3 c4 c5 c6 c7 c8 c9 c10 c11 c12;have c0:=HKX.out.cell 0;have c12:=HKX.out.cell 12;simp at c0 c12;go_upto_region 8 with fail;generalize hW6:wr.alloc (.cells _ 27)=W6 at*
   clear hW6 c0 c12;generalize wr.heap.size=xb at*
   have c0:=HE6.out.cell 0;simp at c0;go_upto_block 2 with fail;clear c0
   go_cut [5,6]from 26 to 219 (fun s5 s6 wx=>s5=.bool (dok h ks.length)∧Hid (Blk wx xb 27 (arr (xH h) (xK h ks).length))∧Hid (Blk wx w.heap.size 27 (arr h ks.length))∧Hid (Below w.heap.size w wx))
   case first=>
    clear HR2 HL0 HBX HBF HKX hkn hg hki;have h1:¬h.k=1:=by have:=hq0.out;omega
    have b1:(h.k==1)=false:=by rw[beq_eq_false_iff_ne];exact h1
    have h2:¬h.k=2:=by have:=hq0.out;omega
    have b2:(h.k==2)=false:=by rw[beq_eq_false_iff_ne];exact h2
    by_cases h3:h.k=3
    ·have b3:(h.k==3)=true:=by rw[beq_iff_eq];exact h3
     have hd:dok h ks.length=(((h.s.toList.isEmpty||freeD h.s)&&(decide (h.ms.length≤10)&&decide (PureOk h)))&&h.ms.all dmtB):=by unfold dok;rw[if_neg h1,if_neg h2,if_pos h3]
     have HD:=hid hd;have HXX:=hid (xH_3 h3);have HXK:=hid (show xK h ks=[]from if_neg (by omega));clear hd h1 h2 h3;obtain⟨c0,c1,c2,c3,c4,c5,c6,c7,c8,c9,c10,c11,c12⟩:=blk13 (h:=h) (n:=ks.length) HE6.out;have x0:=HX6.out.cell 0;have x1:=HX6.out.cell 1;have x2:=HX6.out.cell 2;have x3:=HX6.out.cell 3;have x4:=HX6.out.cell 4;have x5:=HX6.out.cell 5;have x6:=HX6.out.cell 6;have x7:=HX6.out.cell 7;have x8:=HX6.out.cell 8;have x9:=HX6.out.cell 9;have x10:=HX6.out.cell 10;have x11:=HX6.out.cell 11;have x12:=HX6.out.cell 12;have z:=fun i=>HX6.out.frozen i;simp at x0 x1 x2 x3 x4 x5 x6 x7 x8 x9 x10 x11 x12;go_upto_region 17 with fail;have HX7:=hid (right_3a (n:=ks.length) HX6.out);have HE7:=hid (blk_past (blk_past (blk_past (blk_past (blk_past (blk_past (blk_past (blk_past (blk_past (blk_past (blk_past (blk_past (blk_past HE6.out HNE.out 0 (.int .i64 h.k)) HNE.out 1 (.int .i64 h.o)) HNE.out 2 (.int .u64 (h.v:Int))) HNE.out 3 (.string h.s)) HNE.out 4 (.slice h.ma h.ms.length h.mc)) HNE.out 5 (.int .i64 h.wd)) HNE.out 6 (.int .i64 h.off)) HNE.out 7 (.bool h.ha)) HNE.out 8 (.int .i64 h.tm)) HNE.out 9 (.int .i64 h.how)) HNE.out 10 (.slice h.na h.ns.length h.nc)) HNE.out 11 (.bool h.bo)) HNE.out 12 (.slice h.ka ks.length h.kc));have HB7:=hid (set_below (set_below (set_below (set_below (set_below (set_below (set_below (set_below (set_below (set_below (set_below (set_below (set_below HB6.out HLE.out 0 (.int .i64 h.k)) HLE.out 1 (.int .i64 h.o)) HLE.out 2 (.int .u64 (h.v:Int))) HLE.out 3 (.string h.s)) HLE.out 4 (.slice h.ma h.ms.length h.mc)) HLE.out 5 (.int .i64 h.wd)) HLE.out 6 (.int .i64 h.off)) HLE.out 7 (.bool h.ha)) HLE.out 8 (.int .i64 h.tm)) HLE.out 9 (.int .i64 h.how)) HLE.out 10 (.slice h.na h.ns.length h.nc)) HLE.out 11 (.bool h.bo)) HLE.out 12 (.slice h.ka ks.length h.kc));clear z x0 c0 x1 c1 x2 c2 x3 c3 x4 c4 x5 c5 x6 c6 x7 c7 x8 c8 x9 c9 x10 c10 x11 c11 x12 c12 HX6 HE6 HB6;generalize World.setCell _ ⟨xb,12,none⟩ _=W7 at*
     obtain⟨x0,x1,x2,x3,x4,x5,x6,x7,x8,x9,x10,x11,x12⟩:=blk13 (h:=h) (n:=ks.length) HX7.out;have z:=fun i=>HX7.out.frozen i;go_upto_region 18 with fail;have HX8:=hid (right_3b HX7.out);have HE8:=hid (blk_past (blk_past (blk_past (blk_past (blk_past (blk_past HE7.out HNE.out 1 (.int .i64 0)) HNE.out 2 (.int .u64 0)) HNE.out 9 (.int .i64 0)) HNE.out 10 (.slice none 0 0)) HNE.out 11 (.bool false)) HNE.out 12 (.slice none 0 0));have HB8:=hid (set_below (set_below (set_below (set_below (set_below (set_below HB7.out HLE.out 1 (.int .i64 0)) HLE.out 2 (.int .u64 0)) HLE.out 9 (.int .i64 0)) HLE.out 10 (.slice none 0 0)) HLE.out 11 (.bool false)) HLE.out 12 (.slice none 0 0));clear z x0 x1 x2 x3 x4 x5 x6 x7 x8 x9 x10 x11 x12 HX7 HE7 HB7;generalize World.setCell _ ⟨xb,12,none⟩ _=W8 at*
     have HX8:Hid (Blk W8 xb 27 (arr (xH h) (xK h ks).length)):=by rw[HXX.out,HXK.out];exact HX8.out
     obtain⟨c0,c1,c2,c3,c4,c5,c6,c7,c8,c9,c10,c11,c12⟩:=blk13 (h:=h) (n:=ks.length) HE8.out;obtain⟨d1,hd1⟩:∃d,((h.s.toList.isEmpty||freeD h.s)&&(decide (h.ms.length≤10)&&decide (PureOk h)))=d:=⟨_,rfl⟩
     have hd2:=HD.out;rw[hd1]at hd2;have HD2:=hid hd2;have HD1:=hid hd1;clear hd1 hd2 HD HXX HXK
     go_cut [5]from 56 to 115 (fun s5 wx=>s5=.bool d1∧RP h ks w wx w.heap.size xb)
     case first=>
      clear HD2;cases he:h.s.toList.isEmpty with
      |true=>
       by_cases t0:¬(h.ms.length:Int)≤10
       ·obtain rfl:false=d1:=by rw[←HD1.out,decide_eq_false (show¬h.ms.length≤10 by omega),Bool.false_and,Bool.and_false]
        go_wp2_with fail
        go_meet
        exact⟨rfl,HX8,HE8,HB8⟩
       have t0:=Classical.not_not.1 t0;by_cases t1:¬(0:Int)≤h.wd
       ·obtain rfl:false=d1:=by rw[←HD1.out,decide_eq_false (fun(x:PureOk h)=>t1 x.1),Bool.and_false,Bool.and_false]
        go_wp2_with fail
        go_meet
        exact⟨rfl,HX8,HE8,HB8⟩
       have t1:=Classical.not_not.1 t1;by_cases t2:¬h.wd≤35184372088832
       ·obtain rfl:false=d1:=by rw[←HD1.out,decide_eq_false (fun(x:PureOk h)=>t2 x.2.1),Bool.and_false,Bool.and_false]
        go_wp2_with fail
        go_meet
        exact⟨rfl,HX8,HE8,HB8⟩
       have t2:=Classical.not_not.1 t2;by_cases t3:¬ -35184372088832≤h.off
       ·obtain rfl:false=d1:=by rw[←HD1.out,decide_eq_false (fun(x:PureOk h)=>t3 x.2.2.1),Bool.and_false,Bool.and_false]
        go_wp2_with fail
        go_meet
        exact⟨rfl,HX8,HE8,HB8⟩
       have t3:=Classical.not_not.1 t3;by_cases t4:¬h.off≤35184372088832
       ·obtain rfl:false=d1:=by rw[←HD1.out,decide_eq_false (fun(x:PureOk h)=>t4 x.2.2.2.1),Bool.and_false,Bool.and_false]
        go_wp2_with fail
        go_meet
        exact⟨rfl,HX8,HE8,HB8⟩
       have t4:=Classical.not_not.1 t4;by_cases t5:¬ -1125899906842624≤h.tm
       ·obtain rfl:false=d1:=by rw[←HD1.out,decide_eq_false (fun(x:PureOk h)=>t5 x.2.2.2.2.2.1),Bool.and_false,Bool.and_false]
        go_wp2_with fail
        go_meet
        exact⟨rfl,HX8,HE8,HB8⟩
       have t5:=Classical.not_not.1 t5;by_cases t6:¬h.tm≤1125899906842624
       ·obtain rfl:false=d1:=by rw[←HD1.out,decide_eq_false (fun(x:PureOk h)=>t6 x.2.2.2.2.2.2.1),Bool.and_false,Bool.and_false]
        go_wp2_with fail
        go_meet
        exact⟨rfl,HX8,HE8,HB8⟩
       have t6:=Classical.not_not.1 t6;cases t7:(h.tm.tmod 1000==0)with
       |false=>
        obtain rfl:false=d1:=by rw[←HD1.out,decide_eq_false (fun(x:PureOk h)=>by have:=x.2.2.2.2.2.2.2;rw[beq_eq_false_iff_ne]at t7;exact t7 this),Bool.and_false,Bool.and_false]
        go_wp2_with fail
        go_meet
        exact⟨rfl,HX8,HE8,HB8⟩
       |true=>
        by_cases hha:h.ha=true
        ·obtain rfl:true=d1:=by rw[←HD1.out,show(h.s.toList.isEmpty||freeD h.s)=true from by rw[he];rfl,decide_eq_true (show h.ms.length≤10 by omega),decide_eq_true (show PureOk h from⟨t1,t2,t3,t4,.inl hha,t5,t6,by rw[beq_iff_eq]at t7;exact t7⟩)];rfl
         rw[hha]at c7;clear hha;go_wp2_with fail
         go_meet
         exact⟨rfl,HX8,HE8,HB8⟩
        ·have hhb:h.ha=false:=by simpa using hha
         clear hha;cases t8:(h.tm==0)with
         |true=>
          obtain rfl:true=d1:=by rw[←HD1.out,show(h.s.toList.isEmpty||freeD h.s)=true from by rw[he];rfl,decide_eq_true (show h.ms.length≤10 by omega),decide_eq_true (show PureOk h from⟨t1,t2,t3,t4,.inr (by rw[beq_iff_eq]at t8;exact t8),t5,t6,by rw[beq_iff_eq]at t7;exact t7⟩)];rfl
          rw[hhb]at c7;clear hhb;go_wp2_with fail
          go_meet
          exact⟨rfl,HX8,HE8,HB8⟩
         |false=>
          obtain rfl:false=d1:=by rw[←HD1.out,decide_eq_false (fun(x:PureOk h)=>by rw[beq_eq_false_iff_ne]at t8;exact(x.2.2.2.2.1).elim (fun e=>by rw[hhb]at e;cases e) (fun e=>t8 e)),Bool.and_false,Bool.and_false]
          rw[hhb]at c7;clear hhb;go_wp2_with fail
          go_meet
          exact⟨rfl,HX8,HE8,HB8⟩
      |false=>
       obtain⟨q,hq⟩:∃q,freeD h.s=q:=⟨_,rfl⟩
       have hvl:=dfree_any h.s (by have:=HSS.out;omega) W8;rw[hq]at hvl;have HVL:=hid hvl;have HQ:=hid hq;clear hvl hq;go_wp2_with fail;refine(HVL.out).mono ?_;rintro e w9⟨rfl,hb9⟩;have HX9:=hid (HX8.out.below hb9);have HE9:=hid (HE8.out.below hb9);have HB9:=hid (HB8.out.trans (hb9.mono HB8.out.size));clear hb9 HVL c0 c1 c2 c3 c4 c5 c6 c7 c8 c9 c10 c11 c12 HX8 HE8 HB8;obtain⟨c0,c1,c2,c3,c4,c5,c6,c7,c8,c9,c10,c11,c12⟩:=blk13 (h:=h) (n:=ks.length) HE9.out;cases q with
       |false=>
        obtain rfl:false=d1:=by rw[←HD1.out,he,HQ.out];rfl
        go_wp2_with fail
        go_meet
        exact⟨rfl,HX9,HE9,HB9⟩
       |true=>
        by_cases t0:¬(h.ms.length:Int)≤10
        ·obtain rfl:false=d1:=by rw[←HD1.out,decide_eq_false (show¬h.ms.length≤10 by omega),Bool.false_and,Bool.and_false]
         go_wp2_with fail
         go_meet
         exact⟨rfl,HX9,HE9,HB9⟩
        have t0:=Classical.not_not.1 t0;by_cases t1:¬(0:Int)≤h.wd
        ·obtain rfl:false=d1:=by rw[←HD1.out,decide_eq_false (fun(x:PureOk h)=>t1 x.1),Bool.and_false,Bool.and_false]
         go_wp2_with fail
         go_meet
         exact⟨rfl,HX9,HE9,HB9⟩
        have t1:=Classical.not_not.1 t1;by_cases t2:¬h.wd≤35184372088832
        ·obtain rfl:false=d1:=by rw[←HD1.out,decide_eq_false (fun(x:PureOk h)=>t2 x.2.1),Bool.and_false,Bool.and_false]
         go_wp2_with fail
         go_meet
         exact⟨rfl,HX9,HE9,HB9⟩
        have t2:=Classical.not_not.1 t2;by_cases t3:¬ -35184372088832≤h.off
        ·obtain rfl:false=d1:=by rw[←HD1.out,decide_eq_false (fun(x:PureOk h)=>t3 x.2.2.1),Bool.and_false,Bool.and_false]
         go_wp2_with fail
         go_meet
         exact⟨rfl,HX9,HE9,HB9⟩
        have t3:=Classical.not_not.1 t3;by_cases t4:¬h.off≤35184372088832
        ·obtain rfl:false=d1:=by rw[←HD1.out,decide_eq_false (fun(x:PureOk h)=>t4 x.2.2.2.1),Bool.and_false,Bool.and_false]
         go_wp2_with fail
         go_meet
         exact⟨rfl,HX9,HE9,HB9⟩
        have t4:=Classical.not_not.1 t4;by_cases t5:¬ -1125899906842624≤h.tm
        ·obtain rfl:false=d1:=by rw[←HD1.out,decide_eq_false (fun(x:PureOk h)=>t5 x.2.2.2.2.2.1),Bool.and_false,Bool.and_false]
         go_wp2_with fail
         go_meet
         exact⟨rfl,HX9,HE9,HB9⟩
        have t5:=Classical.not_not.1 t5;by_cases t6:¬h.tm≤1125899906842624
        ·obtain rfl:false=d1:=by rw[←HD1.out,decide_eq_false (fun(x:PureOk h)=>t6 x.2.2.2.2.2.2.1),Bool.and_false,Bool.and_false]
         go_wp2_with fail
         go_meet
         exact⟨rfl,HX9,HE9,HB9⟩
        have t6:=Classical.not_not.1 t6;cases t7:(h.tm.tmod 1000==0)with
        |false=>
         obtain rfl:false=d1:=by rw[←HD1.out,decide_eq_false (fun(x:PureOk h)=>by have:=x.2.2.2.2.2.2.2;rw[beq_eq_false_iff_ne]at t7;exact t7 this),Bool.and_false,Bool.and_false]
         go_wp2_with fail
         go_meet
         exact⟨rfl,HX9,HE9,HB9⟩
        |true=>
         by_cases hha:h.ha=true
         ·obtain rfl:true=d1:=by rw[←HD1.out,show(h.s.toList.isEmpty||freeD h.s)=true from by rw[HQ.out,Bool.or_true],decide_eq_true (show h.ms.length≤10 by omega),decide_eq_true (show PureOk h from⟨t1,t2,t3,t4,.inl hha,t5,t6,by rw[beq_iff_eq]at t7;exact t7⟩)];rfl
          rw[hha]at c7;clear hha;go_wp2_with fail
          go_meet
          exact⟨rfl,HX9,HE9,HB9⟩
         ·have hhb:h.ha=false:=by simpa using hha
          clear hha;cases t8:(h.tm==0)with
          |true=>
           obtain rfl:true=d1:=by rw[←HD1.out,show(h.s.toList.isEmpty||freeD h.s)=true from by rw[HQ.out,Bool.or_true],decide_eq_true (show h.ms.length≤10 by omega),decide_eq_true (show PureOk h from⟨t1,t2,t3,t4,.inr (by rw[beq_iff_eq]at t8;exact t8),t5,t6,by rw[beq_iff_eq]at t7;exact t7⟩)];rfl
           rw[hhb]at c7;clear hhb;go_wp2_with fail
           go_meet
           exact⟨rfl,HX9,HE9,HB9⟩
          |false=>
           obtain rfl:false=d1:=by rw[←HD1.out,decide_eq_false (fun(x:PureOk h)=>by rw[beq_eq_false_iff_ne]at t8;exact(x.2.2.2.2.1).elim (fun e=>by rw[hhb]at e;cases e) (fun e=>t8 e)),Bool.and_false,Bool.and_false]
           rw[hhb]at c7;clear hhb;go_wp2_with fail
           go_meet
           exact⟨rfl,HX9,HE9,HB9⟩
     case rest=>
      obtain⟨rfl,HX9,HE9,HB9⟩:=hcut;clear c0 c1 c2 c3 c4 c5 c6 c7 c8 c9 c10 c11 c12 HX8 HE8 HB8 HD1;obtain⟨_,_,_,_,c4,_,_,_,_,_,_,_,_⟩:=blk13 (h:=h) (n:=ks.length) HE9.out;go_wp2_with fail;clear c4
      go_loopg [5,6] h.ms.length (fun gq s5 s6 wx=>∃(k:Nat) (d:Bool),k≤h.ms.length∧h.ms.length≤gq+k∧s5=.bool d∧s6=.int .i64 (k:Int)∧Hid ((d1&&(h.ms.take k).all dmtB)=d)∧RP h ks w wx w.heap.size xb)
      case atStart=>exact⟨0,d1,Nat.zero_le _,Nat.le_refl _,rfl,rfl,by show(d1&&true)=d1;rw[Bool.and_true],HX9,HE9,HB9⟩
      case round=>
       obtain⟨k2,d,hkn2,hg2,rfl,rfl,HDK,HXA,HEA,HBA⟩:=hrel;obtain⟨_,_,_,_,c4,_,_,_,_,_,_,_,_⟩:=blk13 (h:=h) (n:=ks.length) HEA.out;by_cases hlt2:k2<h.ms.length
       ·have hki2:(k2:Int)<(h.ms.length:Int):=by omega
        obtain⟨b,off,hA,hb,hc⟩:=HMW.out (by omega);have hix:=fun W=>index_mt h.ma h.ms.length h.mc k2 b off hA hlt2 W;obtain⟨y0,y1,y2⟩:=hc k2 hlt2;have y0:=(HBA.out.cell (p:=⟨b,off+k2*3,none⟩) hb).trans y0;have y1:=(HBA.out.cell (p:=⟨b,off+k2*3+1,none⟩) hb).trans y1;have y2:=(HBA.out.cell (p:=⟨b,off+k2*3+2,none⟩) hb).trans y2;obtain⟨⟨op,nm,v⟩,hm2⟩:∃m,h.ms.getD k2 m0=m:=⟨_,rfl⟩
        rw[hm2]at y0 y1 y2;dsimp only at y0 y1 y2;have hmem:(op,nm,v)∈h.ms:=by rw[←hm2,List.getD_eq_getElem?_getD,List.getElem?_eq_getElem hlt2];exact List.getElem_mem hlt2
        obtain⟨q,hq⟩:∃q,dmtB (op,nm,v)=q:=⟨_,rfl⟩
        have hvl:=dmright_any op nm v (HSM0.out _ hmem) wr;rw[hq]at hvl;have hnext:(d1&&(h.ms.take (k2+1)).all dmtB)=(d&&q):=by rw[take_all hlt2,hm2,hq,←Bool.and_assoc,HDK.out]
        have HVL:=hid hvl;have HNX:=hid hnext;clear hA hc hm2 hmem hvl hnext hq;obtain⟨g',rfl⟩:∃g',gk=g'+1:=⟨gk-1,by omega⟩
        cases d with
        |false=>
         go_wp2_with fail
         go_roundg g'
         case measure=>omega
         case rel=>exact⟨k2+1,false,by omega,by omega,rfl,by go_num,by rw[HNX.out];rfl,HXA,HEA,HBA⟩
        |true=>
         go_wp2_with fail;refine(HVL.out).mono ?_;rintro e w9⟨rfl,hb9⟩;have HX9:=hid (HXA.out.below hb9);have HE9:=hid (HEA.out.below hb9);have HB9:=hid (HBA.out.trans (hb9.mono HBA.out.size));clear hb9 HVL c4 y0 y1 y2;go_wp2_with fail
         go_roundg g'
         case measure=>omega
         case rel=>exact⟨k2+1,q,by omega,by omega,rfl,by go_num,by rw[HNX.out];rfl,HX9,HE9,HB9⟩
       ·have hki2:¬(k2:Int)<(h.ms.length:Int):=by omega
        have hdd:dok h ks.length=d:=by rw[HD2.out,←HDK.out,List.take_of_length_le (by omega)]
        have HDD:=hid hdd;clear hdd;go_wp2_with fail
        go_meet
        exact⟨by rw[HDD.out],HXA,HEA,HBA⟩
    exact absurd hq0.out h3
   case rest=>
    obtain⟨hs5,HXC,HEC,HBC⟩:=hcut;obtain⟨d,hd⟩:∃d,dok h ks.length=d:=⟨_,rfl⟩
    obtain⟨q,hq⟩:∃q,headF (xH h) h (xK h ks) ks=q:=⟨_,rfl⟩
    have hr3:=HR2.out;rw[hd,hq]at hr3;rw[hd]at hs5;subst hs5;cases d with
    |false=>obtain rfl:false=r:=hr3;clear hq hd;go_wp2_with fail;go_ret;exact⟨rfl,HBC.out⟩
    |true=>
     obtain rfl:q=r:=hr3;have hsm:=same_gen (xH h) h (xK h ks) ks (fun x _=>same_self _ x (Nat.le_refl _)) (x_cut h ks) wc (x_lies (HL0.out.below HBC.out)) (HL0.out.below HBC.out);rw[hq,valT_arr,valT_arr]at hsm;have HSM:=hid hsm;obtain⟨g,hg5⟩:∃g,xH h=g:=⟨_,rfl⟩
     obtain⟨gn,hgn⟩:∃n,(xK h ks).length=n:=⟨_,rfl⟩
     rw[hg5,hgn]at HSM HXC;obtain⟨x0,x1,x2,x3,x4,x5,x6,x7,x8,x9,x10,x11,x12⟩:=blk13 (h:=g) (n:=gn) HXC.out;obtain⟨c0,c1,c2,c3,c4,c5,c6,c7,c8,c9,c10,c11,c12⟩:=blk13 (h:=h) (n:=ks.length) HEC.out;clear hsm hq hd hg5 hgn;unfold arr at HSM;go_wp2_with fail;refine(HSM.out).mono ?_;rintro e w9⟨rfl,hb9⟩;have HB9:=hid (HBC.out.trans (hb9.mono HBC.out.size));clear hb9 HSM;go_wp2_with fail;go_ret;exact⟨rfl,HB9.out⟩
theorem right_step5(h:Hd)(ks:List Tr)(hq0:Hid (h.k=5))(hk:∀x,x∈ks→RightIs x):RightIs (.mk h ks):=by
 intro w hL hsh;obtain⟨r,hr⟩:∃r,allF okHd (.mk h ks)=r:=⟨_,rfl⟩
 rw[hr,valT_arr];rw[allF]at hr;have hb0:Below w.heap.size w (w.alloc (.cells (arr h ks.length) 27)):=(Below.refl _ _).alloc (Nat.le_refl _) _;have hl1:=hL.below hb0;rw[Lies]at hl1;obtain⟨hok,hkl,hms,hnm,htr,hkk⟩:=hl1;have hv:=hok.v;have hm:=hok.ms;have hns:=hok.ns;have HB0:=hid hb0;have HMS:=hid hms;have HNM:=hid hnm;have HTR:=hid htr;have HKK:=hid hkk;have HK:=hid (Blk.new w 27 (arr h ks.length));have HKS:=hid hk;have HR:=hid hr;have HSH:=hid (short_kid hsh);have HS0:=hid hsh;have HSS:=hid (short_s hsh);have HSN:=hid (short_n hsh);have HSM0:=hid (short_m hsh);have HMW:=hid (show Mts w h.ma h.ms from by rw[Lies]at hL;exact hL.2.2.1);have HNW:=hid (show Nms w h.na h.ns from by rw[Lies]at hL;exact hL.2.2.2.1);have HL0:=hid hL;clear hr hb0 hms hnm htr hkk hk hok hL hsh;unfold arr at*
 go_enter Tryz.func14,Tryz.ntmps14;go_wp2_with fail;generalize (w.alloc (.cells _ 27))=W1 at*
 go_loopg [3] ks.length (fun gq s3 wx=>∃k:Nat,k≤ks.length∧ks.length≤gq+k∧s3=.int .i64 (k:Int)∧Hid (∀i,i<k→allF okHd (ks.getD i t0)=true)∧Hid (Below W1.heap.size W1 wx))
 case atStart=>exact⟨0,Nat.zero_le _,Nat.le_refl _,rfl,fun i hi=>absurd hi (Nat.not_lt_zero _),Below.refl _ _⟩
 case round=>
  obtain⟨k,hkn,hg,rfl,HG,HBX⟩:=hrel;have HKX:=hid (HK.out.below HBX.out);have HBF:=hid (HB0.out.trans (HBX.out.mono HB0.out.size));by_cases hlt:k<ks.length
  ·have c12:=HKX.out.cell 12
   simp at c12;have hki:(k:Int)<(ks.length:Int):=by omega
   obtain⟨b,off,hA,hb,hc⟩:=HTR.out (by omega);cases ht:ks.getD k t0 with
   |mk h2 ks2=>
    have hix:=fun W=>index_kid h.ka ks.length h.kc k b off hA hlt W;have hmem:Tr.mk h2 ks2∈ks:=by rw[←ht];exact kid_mem2 hlt
    obtain⟨d0,d1,d2,d3,d4,d5,d6,d7,d8,d9,d10,d11,d12⟩:=KC.below (Trs.kc hc hlt ht) HBX.out hb;obtain⟨x,hx⟩:∃x,allF okHd (Tr.mk h2 ks2)=x:=⟨_,rfl⟩
    have hcl:=HKS.out _ hmem wr ((LiesL.mem HKK.out hmem).below HBX.out) (HSH.out _ hmem);rw[hx,valT_arr]at hcl;have HCL:=hid hcl;have HX:=hid hx;have HTT:=hid ht;obtain⟨g',rfl⟩:∃g',gk=g'+1:=⟨gk-1,by omega⟩
    clear hA hc hx hcl ht;unfold arr at HCL;go_wp2_with fail;refine(HCL.out).mono ?_;rintro e w6⟨rfl,hb6⟩;have HB6:=hid (HBX.out.trans (hb6.mono HBX.out.size));have HBF6:=hid (HBF.out.trans (hb6.mono HBF.out.size));clear hb6 HCL d0 d1 d2 d3 d4 d5 d6 d7 d8 d9 d10 d11 d12 hix c12;cases x with
    |false=>
     obtain rfl:false=r:=by rw[←HR.out,allL_bad hmem HX.out,Bool.and_false]
     go_wp2_with fail;go_ret;exact⟨rfl,HBF6.out⟩
    |true=>
     have HGK2:Hid (∀q,q<k+1→allF okHd (ks.getD q t0)=true):=fun q hq=>by
      by_cases e:q=k
      ·rw[e,HTT.out];exact HX.out
      ·exact HG.out q (by omega)
     go_wp2_with fail
     go_roundg g'
     case measure=>omega
     case rel=>exact⟨k+1,by omega,by omega,by go_num,HGK2,HB6⟩
  ·have hki:¬(k:Int)<(ks.length:Int):=by omega
   have hr2:okHd h ks.length=r:=by rw[←HR.out,allL_all (fun q hq=>HG.out q (by omega)),Bool.and_true]
   rw[←doc_ok h ks hv]at hr2;have HR2:=hid hr2;obtain⟨c0,c1,c2,c3,c4,c5,c6,c7,c8,c9,c10,c11,c12⟩:=blk13 (h:=h) (n:=ks.length) HKX.out;clear hr2 HR HG HKS HSH HTR HKK;have hb6:Below w.heap.size w (wr.alloc (.cells (bareC h.k) 27)):=HBF.out.alloc HBF.out.size _;have hx6:=Blk.new wr 27 (bareC h.k);have he6:=HKX.out.alloc (.cells (bareC h.k) 27);have hne:w.heap.size≠wr.heap.size:=by have:=HKX.out.lt;omega
   have HB6:=hid hb6;have HX6:=hid hx6;have HE6:=hid he6;have HNE:=hid hne;have HLE:=hid (show w.heap.size≤wr.heap.size by have:=HKX.out.lt;omega);clear hb6 hx6 he6 hne;unfold bareC at*
   clear c0 c1 c2 c3 c4 c5 c6 c7 c8 c9 c10 c11 c12;have c0:=HKX.out.cell 0;have c12:=HKX.out.cell 12;simp at c0 c12;go_upto_region 8 with fail;generalize hW6:wr.alloc (.cells _ 27)=W6 at*
   clear hW6 c0 c12;generalize wr.heap.size=xb at*
   have c0:=HE6.out.cell 0;simp at c0;go_upto_block 2 with fail;clear c0
   go_cut [5,6]from 26 to 219 (fun s5 s6 wx=>s5=.bool (dok h ks.length)∧Hid (Blk wx xb 27 (arr (xH h) (xK h ks).length))∧Hid (Blk wx w.heap.size 27 (arr h ks.length))∧Hid (Below w.heap.size w wx))
   case first=>
    clear HR2 HL0 HBX HBF HKX hkn hg hki;have h1:¬h.k=1:=by have:=hq0.out;omega
    have b1:(h.k==1)=false:=by rw[beq_eq_false_iff_ne];exact h1
    have h2:¬h.k=2:=by have:=hq0.out;omega
    have b2:(h.k==2)=false:=by rw[beq_eq_false_iff_ne];exact h2
    have h3:¬h.k=3:=by have:=hq0.out;omega
    have b3:(h.k==3)=false:=by rw[beq_eq_false_iff_ne];exact h3
    have h4:¬h.k=4:=by have:=hq0.out;omega
    have b4:(h.k==4)=false:=by rw[beq_eq_false_iff_ne];exact h4
    by_cases h5:h.k=5
    ·have b5:(h.k==5)=true:=by rw[beq_iff_eq];exact h5
     have hd:dok h ks.length=(groupB h.s.toList&&(howF h.how h.ns&&decide ((ks.length:Int)≤4))):=by unfold dok;rw[if_neg h1,if_neg h2,if_neg h3,if_neg h4,if_pos h5];congr 2;rw[Bool.eq_iff_iff,decide_eq_true_eq,decide_eq_true_eq];omega
     have HD:=hid hd;have HXX:=hid (xH_5 h5);have HXK:=hid (show xK h ks=ks from if_pos (by omega));clear hd h1 h2 h3 h4 h5;go_upto_region 27 with fail
     go_cut []from 150 to 162 (fun wx=>RP h ks w wx w.heap.size xb)
     case first=>
      clear HD;have c3:=HE6.out.cell 3;have c9:=HE6.out.cell 9;have c10:=HE6.out.cell 10;have c12:=HE6.out.cell 12;have x3:=HX6.out.cell 3;have x9:=HX6.out.cell 9;have x10:=HX6.out.cell 10;have x12:=HX6.out.cell 12;have z3:=HX6.out.frozen 3;have z9:=HX6.out.frozen 9;have z10:=HX6.out.frozen 10;have z12:=HX6.out.frozen 12;simp at c3 c9 c10 c12 x3 x9 x10 x12;go_region;all_goals(
       (try go_wp2_with fail)
       go_meet
       refine⟨?_,?_,?_⟩
       ·rw[HXX.out,HXK.out];exact(Blk.set_ (Blk.set_ (Blk.set_ (Blk.set_ (HX6.out:Blk W6 xb 27 (bareC h.k)) _ _) _ _) _ _) _ _)
       ·exact blk_past (blk_past (blk_past (blk_past (HE6.out:Blk W6 w.heap.size 27 (arr h ks.length)) HNE.out _ _) HNE.out _ _) HNE.out _ _) HNE.out _ _
       ·exact(set_below (set_below (set_below (set_below HB6.out HLE.out _ _) HLE.out _ _) HLE.out _ _) HLE.out _ _).drew)
     case rest=>
      obtain⟨HX7,HE7,HB7⟩:=hcut;have hlt7:w.heap.size<wc.heap.size:=HE7.out.lt;have HS7:Hid (C13 wc.drew w.heap.size h ks.length∧Below wc.heap.size wc wc.drew):=⟨blk13 (h:=h) (n:=ks.length) HE7.out,⟨rfl,rfl,rfl,Nat.le_refl _,fun _ _=>rfl⟩⟩
      have hba:Below wc.heap.size wc (wc.alloc (.cells (groupsL.map Value.string).toArray 9)).drew:=((Below.refl _ _).alloc (Nat.le_refl _) _).drew;have HS8:Hid (C13 ((wc.alloc (.cells (groupsL.map Value.string).toArray 9)).drew) w.heap.size h ks.length∧Below wc.heap.size wc (wc.alloc (.cells (groupsL.map Value.string).toArray 9)).drew):=⟨(blk13 (h:=h) (n:=ks.length) HE7.out).below hba hlt7,hba⟩
      have hlt8:w.heap.size<(wc.alloc (.cells (groupsL.map Value.string).toArray 9)).drew.heap.size:=Nat.lt_of_lt_of_le hlt7 hba.size;obtain⟨gq,hgq⟩:∃q,groupB h.s.toList=q:=⟨_,rfl⟩
      obtain⟨q,hq⟩:∃q,howF h.how h.ns=q:=⟨_,rfl⟩
      have hin:Calls Tryz.prog 25 #[.string h.s,.slice (some ⟨wc.heap.size,0,none⟩) 7 7] (wc.alloc (.cells (groupsL.map Value.string).toArray 9)).drew fun e w'=>e=.returned (.bool gq)∧(wc.alloc (.cells (groupsL.map Value.string).toArray 9)).drew=w':=in_is h.s _ groupsL 7 7 _ gq rfl (by rw[in_groups,hgq]) (nms_new (Blk.new wc 9 _:Blk (wc.alloc (.cells (groupsL.map Value.string).toArray 9)).drew wc.heap.size 9 _)) (by decide)
      have hnm2:∀W,Below wc.heap.size wc W→Calls Tryz.prog 27 #[.agg (arr h ks.length)] W fun e w'=>e=.returned (.bool q)∧Below W.heap.size W w':=fun W hW=>by rw[←hq];exact dnamed_any h ks.length W (HNW.out.below (HB7.out.trans (hW.mono HB7.out.size))) hns HSN.out
      rw[hgq,hq]at HD;have HIN:=hid hin;have HNM2:=hid hnm2;clear hin hnm2 hgq hq hba;unfold arr at HNM2;go_upto_region 28 with fail;cases gq with
      |false=>
       refine wp_region_held_drew (S:=(fun W=>C13 W w.heap.size h ks.length∧Below wc.heap.size wc W)) (by kernel_rfl) (by exact HS7.out) (fun hHeld=>?_);refine wpAnyH_take (i:=0) (oi:=zd10_0) (v:=?vva0) rfl (by kernel_rfl) (by kernel_rfl) (by kernel_rfl) (fun _ _ _ h=>h) (Or.inl ⟨by rfl,?hya0⟩) (by assumption) ?morea0;case hya0=>(intro w' hSw;(try dsimp only at hSw);go_simp;try with_reducible rfl)
       try simp only[Act.put,zd10_0,List.setIfInBounds_toArray,List.set_cons_zero,List.set_cons_succ]
       refine wpAnyH_take (i:=1) (oi:=zd10_1) (v:=?vva1) rfl (by kernel_rfl) (by kernel_rfl) (by kernel_rfl) (fun _ _ _ h=>h) (Or.inl ⟨by rfl,?hya1⟩) (by assumption) ?morea1;case hya1=>(intro w' hSw;(try dsimp only at hSw);go_simp;try with_reducible rfl)
       try simp only[Act.put,zd10_1,List.setIfInBounds_toArray,List.set_cons_zero,List.set_cons_succ]
       refine wpAnyH_ready (rs:=[2]) (by kernel_rfl) (by simp) (AllReadyH.cons (o:=zd10_2) rfl (fun K hK=>?_) AllReadyH.nil)
       go_simp
       go_at_call 26
       refine(groups_any _).mono ?_;rintro e wn⟨rfl,rfl⟩;go_wp2_with fail;refine hK.out _ _ (by with_reducible exact HS8.out) (fun hHeld2=>?_);clear hK K;try simp only[Act.put,zd10_2,List.setIfInBounds_toArray,List.set_cons_zero,List.set_cons_succ]
       refine wpAnyH_ready (rs:=[3]) (by kernel_rfl) (by simp) (AllReadyH.cons (o:=zd10_3) rfl (fun K hK=>?_) AllReadyH.nil)
       go_simp
       go_at_call 25
       refine(HIN.out).mono ?_;rintro e wn⟨rfl,rfl⟩;go_wp2_with fail;refine hK.out _ _ (by with_reducible exact HS8.out) (fun hHeld3=>?_);clear hK K;try simp only[Act.put,zd10_3,List.setIfInBounds_toArray,List.set_cons_zero,List.set_cons_succ]
       refine wpAnyH_take (i:=4) (oi:=zd10_4) (v:=?vva4) rfl (by kernel_rfl) (by kernel_rfl) (by kernel_rfl) (fun _ _ _ h=>h) (Or.inl ⟨by rfl,?hya4⟩) (by assumption) ?morea4;case hya4=>(intro w' hSw;(try dsimp only at hSw);go_simp;try with_reducible rfl)
       try simp only[Act.put,zd10_4,List.setIfInBounds_toArray,List.set_cons_zero,List.set_cons_succ]
       refine wpAnyH_take (i:=5) (oi:=zd10_5) (v:=undef) rfl (by kernel_rfl) (by kernel_rfl) (by kernel_rfl) (fun _ _ _ h=>h) (Or.inr ⟨by rfl,rfl⟩) (by assumption) ?_;try simp only[Act.put,zd10_5,List.setIfInBounds_toArray,List.set_cons_zero,List.set_cons_succ]
       refine wpAnyH_take (i:=6) (oi:=zd10_6) (v:=undef) rfl (by kernel_rfl) (by kernel_rfl) (by kernel_rfl) (fun _ _ _ h=>h) (Or.inr ⟨by rfl,rfl⟩) (by assumption) ?_;try simp only[Act.put,zd10_6,List.setIfInBounds_toArray,List.set_cons_zero,List.set_cons_succ]
       refine wpAnyH_take (i:=7) (oi:=zd10_7) (v:=?vva7) rfl (by kernel_rfl) (by kernel_rfl) (by kernel_rfl) (fun _ _ _ h=>h) (Or.inl ⟨by rfl,?hya7⟩) (by assumption) ?morea7;case hya7=>(intro w' hSw;(try dsimp only at hSw);go_simp;try with_reducible rfl)
       try simp only[Act.put,zd10_7,List.setIfInBounds_toArray,List.set_cons_zero,List.set_cons_succ]
       refine wpAnyH_take (i:=8) (oi:=zd10_8) (v:=?vva8) rfl (by kernel_rfl) (by kernel_rfl) (by kernel_rfl) (fun _ _ _ h=>h) (Or.inl ⟨by rfl,?hya8⟩) (by assumption) ?morea8;case hya8=>(intro w' hSw;(try dsimp only at hSw);go_simp;try with_reducible rfl)
       try simp only[Act.put,zd10_8,List.setIfInBounds_toArray,List.set_cons_zero,List.set_cons_succ]
       refine wpAnyH_take (i:=9) (oi:=zd10_9) (v:=undef) rfl (by kernel_rfl) (by kernel_rfl) (by kernel_rfl) (fun _ _ _ h=>h) (Or.inr ⟨by rfl,rfl⟩) (by assumption) ?_;try simp only[Act.put,zd10_9,List.setIfInBounds_toArray,List.set_cons_zero,List.set_cons_succ]
       refine wpAnyH_take (i:=10) (oi:=zd10_10) (v:=undef) rfl (by kernel_rfl) (by kernel_rfl) (by kernel_rfl) (fun _ _ _ h=>h) (Or.inr ⟨by rfl,rfl⟩) (by assumption) ?_;try simp only[Act.put,zd10_10,List.setIfInBounds_toArray,List.set_cons_zero,List.set_cons_succ]
       refine wpAnyH_take (i:=11) (oi:=zd10_11) (v:=undef) rfl (by kernel_rfl) (by kernel_rfl) (by kernel_rfl) (fun _ _ _ h=>h) (Or.inr ⟨by rfl,rfl⟩) (by assumption) ?_;try simp only[Act.put,zd10_11,List.setIfInBounds_toArray,List.set_cons_zero,List.set_cons_succ]
       refine wpAnyH_take (i:=12) (oi:=zd10_12) (v:=undef) rfl (by kernel_rfl) (by kernel_rfl) (by kernel_rfl) (fun _ _ _ h=>h) (Or.inr ⟨by rfl,rfl⟩) (by assumption) ?_;try simp only[Act.put,zd10_12,List.setIfInBounds_toArray,List.set_cons_zero,List.set_cons_succ]
       refine wpAnyH_take (i:=13) (oi:=zd10_13) (v:=?vva13) rfl (by kernel_rfl) (by kernel_rfl) (by kernel_rfl) (fun _ _ _ h=>h) (Or.inl ⟨by rfl,?hya13⟩) (by assumption) ?morea13;case hya13=>(intro w' hSw;(try dsimp only at hSw);go_simp;try with_reducible rfl)
       try simp only[Act.put,zd10_13,List.setIfInBounds_toArray,List.set_cons_zero,List.set_cons_succ]
       refine wpAnyH_take (i:=14) (oi:=zd10_14) (v:=?vva14) rfl (by kernel_rfl) (by kernel_rfl) (by kernel_rfl) (fun _ _ _ h=>h) (Or.inl ⟨by rfl,?hya14⟩) (by assumption) ?morea14;case hya14=>(intro w' hSw;(try dsimp only at hSw);go_simp;try with_reducible rfl)
       try simp only[Act.put,zd10_14,List.setIfInBounds_toArray,List.set_cons_zero,List.set_cons_succ]
       refine wpAnyH_done (by kernel_rfl) ?_ _;have HBE:=hid (HB7.out.trans (HS8.out.2.mono HB7.out.size));go_wp2_with fail
       go_meet
       exact⟨by rw[HD.out,Bool.false_and],HX7.out.below HS8.out.2,HE7.out.below HS8.out.2,HBE⟩
      |true=>
       cases q with
       |false=>
        refine wp_region_held_drew (S:=(fun W=>C13 W w.heap.size h ks.length∧Below wc.heap.size wc W)) (by kernel_rfl) (by exact HS7.out) (fun hHeld=>?_);refine wpAnyH_take (i:=0) (oi:=zd10_0) (v:=?vvb0) rfl (by kernel_rfl) (by kernel_rfl) (by kernel_rfl) (fun _ _ _ h=>h) (Or.inl ⟨by rfl,?hyb0⟩) (by assumption) ?moreb0;case hyb0=>(intro w' hSw;(try dsimp only at hSw);go_simp;try with_reducible rfl)
        try simp only[Act.put,zd10_0,List.setIfInBounds_toArray,List.set_cons_zero,List.set_cons_succ]
        refine wpAnyH_take (i:=1) (oi:=zd10_1) (v:=?vvb1) rfl (by kernel_rfl) (by kernel_rfl) (by kernel_rfl) (fun _ _ _ h=>h) (Or.inl ⟨by rfl,?hyb1⟩) (by assumption) ?moreb1;case hyb1=>(intro w' hSw;(try dsimp only at hSw);go_simp;try with_reducible rfl)
        try simp only[Act.put,zd10_1,List.setIfInBounds_toArray,List.set_cons_zero,List.set_cons_succ]
        refine wpAnyH_ready (rs:=[2]) (by kernel_rfl) (by simp) (AllReadyH.cons (o:=zd10_2) rfl (fun K hK=>?_) AllReadyH.nil)
        go_simp
        go_at_call 26
        refine(groups_any _).mono ?_;rintro e wn⟨rfl,rfl⟩;go_wp2_with fail;refine hK.out _ _ (by with_reducible exact HS8.out) (fun hHeld2=>?_);clear hK K;try simp only[Act.put,zd10_2,List.setIfInBounds_toArray,List.set_cons_zero,List.set_cons_succ]
        refine wpAnyH_ready (rs:=[3]) (by kernel_rfl) (by simp) (AllReadyH.cons (o:=zd10_3) rfl (fun K hK=>?_) AllReadyH.nil)
        go_simp
        go_at_call 25
        refine(HIN.out).mono ?_;rintro e wn⟨rfl,rfl⟩;go_wp2_with fail;refine hK.out _ _ (by with_reducible exact HS8.out) (fun hHeld3=>?_);clear hK K;try simp only[Act.put,zd10_3,List.setIfInBounds_toArray,List.set_cons_zero,List.set_cons_succ]
        refine wpAnyH_take (i:=4) (oi:=zd10_4) (v:=?vvb4) rfl (by kernel_rfl) (by kernel_rfl) (by kernel_rfl) (fun _ _ _ h=>h) (Or.inl ⟨by rfl,?hyb4⟩) (by assumption) ?moreb4;case hyb4=>(intro w' hSw;(try dsimp only at hSw);go_simp;try with_reducible rfl)
        try simp only[Act.put,zd10_4,List.setIfInBounds_toArray,List.set_cons_zero,List.set_cons_succ]
        refine wpAnyH_take (i:=5) (oi:=zd10_5) (v:=?vvb5) rfl (by kernel_rfl) (by kernel_rfl) (by kernel_rfl) (fun _ _ _ h=>h) (Or.inl ⟨by rfl,?hyb5⟩) (by assumption) ?moreb5;case hyb5=>(intro w' hSw;(try dsimp only at hSw);go_simp;try with_reducible rfl)
        try simp only[Act.put,zd10_5,List.setIfInBounds_toArray,List.set_cons_zero,List.set_cons_succ]
        refine wpAnyH_ready (rs:=[6]) (by kernel_rfl) (by simp) (AllReadyH.cons (o:=zd10_6) rfl (fun K hK=>?_) AllReadyH.nil)
        go_simp
        go_at_call 27
        refine(HNM2.out _ HS8.out.2).mono ?_;rintro e wn⟨rfl,hb9⟩;have HS9:=hid (And.intro (HS8.out.1.below hb9 hlt8) (HS8.out.2.trans (hb9.mono HS8.out.2.size)));clear hb9;go_wp2_with fail;refine hK.out _ _ (by with_reducible exact HS9.out) (fun hHeld6=>?_);clear hK K;try simp only[Act.put,zd10_6,List.setIfInBounds_toArray,List.set_cons_zero,List.set_cons_succ]
        refine wpAnyH_take (i:=7) (oi:=zd10_7) (v:=?vvb7) rfl (by kernel_rfl) (by kernel_rfl) (by kernel_rfl) (fun _ _ _ h=>h) (Or.inl ⟨by rfl,?hyb7⟩) (by assumption) ?moreb7;case hyb7=>(intro w' hSw;(try dsimp only at hSw);go_simp;try with_reducible rfl)
        try simp only[Act.put,zd10_7,List.setIfInBounds_toArray,List.set_cons_zero,List.set_cons_succ]
        refine wpAnyH_take (i:=8) (oi:=zd10_8) (v:=?vvb8) rfl (by kernel_rfl) (by kernel_rfl) (by kernel_rfl) (fun _ _ _ h=>h) (Or.inl ⟨by rfl,?hyb8⟩) (by assumption) ?moreb8;case hyb8=>(intro w' hSw;(try dsimp only at hSw);go_simp;try with_reducible rfl)
        try simp only[Act.put,zd10_8,List.setIfInBounds_toArray,List.set_cons_zero,List.set_cons_succ]
        refine wpAnyH_take (i:=9) (oi:=zd10_9) (v:=undef) rfl (by kernel_rfl) (by kernel_rfl) (by kernel_rfl) (fun _ _ _ h=>h) (Or.inr ⟨by rfl,rfl⟩) (by assumption) ?_;try simp only[Act.put,zd10_9,List.setIfInBounds_toArray,List.set_cons_zero,List.set_cons_succ]
        refine wpAnyH_take (i:=10) (oi:=zd10_10) (v:=undef) rfl (by kernel_rfl) (by kernel_rfl) (by kernel_rfl) (fun _ _ _ h=>h) (Or.inr ⟨by rfl,rfl⟩) (by assumption) ?_;try simp only[Act.put,zd10_10,List.setIfInBounds_toArray,List.set_cons_zero,List.set_cons_succ]
        refine wpAnyH_take (i:=11) (oi:=zd10_11) (v:=undef) rfl (by kernel_rfl) (by kernel_rfl) (by kernel_rfl) (fun _ _ _ h=>h) (Or.inr ⟨by rfl,rfl⟩) (by assumption) ?_;try simp only[Act.put,zd10_11,List.setIfInBounds_toArray,List.set_cons_zero,List.set_cons_succ]
        refine wpAnyH_take (i:=12) (oi:=zd10_12) (v:=undef) rfl (by kernel_rfl) (by kernel_rfl) (by kernel_rfl) (fun _ _ _ h=>h) (Or.inr ⟨by rfl,rfl⟩) (by assumption) ?_;try simp only[Act.put,zd10_12,List.setIfInBounds_toArray,List.set_cons_zero,List.set_cons_succ]
        refine wpAnyH_take (i:=13) (oi:=zd10_13) (v:=?vvb13) rfl (by kernel_rfl) (by kernel_rfl) (by kernel_rfl) (fun _ _ _ h=>h) (Or.inl ⟨by rfl,?hyb13⟩) (by assumption) ?moreb13;case hyb13=>(intro w' hSw;(try dsimp only at hSw);go_simp;try with_reducible rfl)
        try simp only[Act.put,zd10_13,List.setIfInBounds_toArray,List.set_cons_zero,List.set_cons_succ]
        refine wpAnyH_take (i:=14) (oi:=zd10_14) (v:=?vvb14) rfl (by kernel_rfl) (by kernel_rfl) (by kernel_rfl) (fun _ _ _ h=>h) (Or.inl ⟨by rfl,?hyb14⟩) (by assumption) ?moreb14;case hyb14=>(intro w' hSw;(try dsimp only at hSw);go_simp;try with_reducible rfl)
        try simp only[Act.put,zd10_14,List.setIfInBounds_toArray,List.set_cons_zero,List.set_cons_succ]
        refine wpAnyH_done (by kernel_rfl) ?_ _;have HBE:=hid (HB7.out.trans (HS9.out.2.mono HB7.out.size));go_wp2_with fail
        go_meet
        exact⟨by rw[HD.out,Bool.true_and,Bool.false_and],HX7.out.below HS9.out.2,HE7.out.below HS9.out.2,HBE⟩
       |true=>
        refine wp_region_held_drew (S:=(fun W=>C13 W w.heap.size h ks.length∧Below wc.heap.size wc W)) (by kernel_rfl) (by exact HS7.out) (fun hHeld=>?_);refine wpAnyH_take (i:=0) (oi:=zd10_0) (v:=?vvc0) rfl (by kernel_rfl) (by kernel_rfl) (by kernel_rfl) (fun _ _ _ h=>h) (Or.inl ⟨by rfl,?hyc0⟩) (by assumption) ?morec0;case hyc0=>(intro w' hSw;(try dsimp only at hSw);go_simp;try with_reducible rfl)
        try simp only[Act.put,zd10_0,List.setIfInBounds_toArray,List.set_cons_zero,List.set_cons_succ]
        refine wpAnyH_take (i:=1) (oi:=zd10_1) (v:=?vvc1) rfl (by kernel_rfl) (by kernel_rfl) (by kernel_rfl) (fun _ _ _ h=>h) (Or.inl ⟨by rfl,?hyc1⟩) (by assumption) ?morec1;case hyc1=>(intro w' hSw;(try dsimp only at hSw);go_simp;try with_reducible rfl)
        try simp only[Act.put,zd10_1,List.setIfInBounds_toArray,List.set_cons_zero,List.set_cons_succ]
        refine wpAnyH_ready (rs:=[2]) (by kernel_rfl) (by simp) (AllReadyH.cons (o:=zd10_2) rfl (fun K hK=>?_) AllReadyH.nil)
        go_simp
        go_at_call 26
        refine(groups_any _).mono ?_;rintro e wn⟨rfl,rfl⟩;go_wp2_with fail;refine hK.out _ _ (by with_reducible exact HS8.out) (fun hHeld2=>?_);clear hK K;try simp only[Act.put,zd10_2,List.setIfInBounds_toArray,List.set_cons_zero,List.set_cons_succ]
        refine wpAnyH_ready (rs:=[3]) (by kernel_rfl) (by simp) (AllReadyH.cons (o:=zd10_3) rfl (fun K hK=>?_) AllReadyH.nil)
        go_simp
        go_at_call 25
        refine(HIN.out).mono ?_;rintro e wn⟨rfl,rfl⟩;go_wp2_with fail;refine hK.out _ _ (by with_reducible exact HS8.out) (fun hHeld3=>?_);clear hK K;try simp only[Act.put,zd10_3,List.setIfInBounds_toArray,List.set_cons_zero,List.set_cons_succ]
        refine wpAnyH_take (i:=4) (oi:=zd10_4) (v:=?vvc4) rfl (by kernel_rfl) (by kernel_rfl) (by kernel_rfl) (fun _ _ _ h=>h) (Or.inl ⟨by rfl,?hyc4⟩) (by assumption) ?morec4;case hyc4=>(intro w' hSw;(try dsimp only at hSw);go_simp;try with_reducible rfl)
        try simp only[Act.put,zd10_4,List.setIfInBounds_toArray,List.set_cons_zero,List.set_cons_succ]
        refine wpAnyH_take (i:=5) (oi:=zd10_5) (v:=?vvc5) rfl (by kernel_rfl) (by kernel_rfl) (by kernel_rfl) (fun _ _ _ h=>h) (Or.inl ⟨by rfl,?hyc5⟩) (by assumption) ?morec5;case hyc5=>(intro w' hSw;(try dsimp only at hSw);go_simp;try with_reducible rfl)
        try simp only[Act.put,zd10_5,List.setIfInBounds_toArray,List.set_cons_zero,List.set_cons_succ]
        refine wpAnyH_ready (rs:=[6]) (by kernel_rfl) (by simp) (AllReadyH.cons (o:=zd10_6) rfl (fun K hK=>?_) AllReadyH.nil)
        go_simp
        go_at_call 27
        refine(HNM2.out _ HS8.out.2).mono ?_;rintro e wn⟨rfl,hb9⟩;have HS9:=hid (And.intro (HS8.out.1.below hb9 hlt8) (HS8.out.2.trans (hb9.mono HS8.out.2.size)));clear hb9;go_wp2_with fail;refine hK.out _ _ (by with_reducible exact HS9.out) (fun hHeld6=>?_);clear hK K;try simp only[Act.put,zd10_6,List.setIfInBounds_toArray,List.set_cons_zero,List.set_cons_succ]
        refine wpAnyH_take (i:=7) (oi:=zd10_7) (v:=?vvc7) rfl (by kernel_rfl) (by kernel_rfl) (by kernel_rfl) (fun _ _ _ h=>h) (Or.inl ⟨by rfl,?hyc7⟩) (by assumption) ?morec7;case hyc7=>(intro w' hSw;(try dsimp only at hSw);go_simp;try with_reducible rfl)
        try simp only[Act.put,zd10_7,List.setIfInBounds_toArray,List.set_cons_zero,List.set_cons_succ]
        refine wpAnyH_take (i:=8) (oi:=zd10_8) (v:=?vvc8) rfl (by kernel_rfl) (by kernel_rfl) (by kernel_rfl) (fun _ _ _ h=>h) (Or.inl ⟨by rfl,?hyc8⟩) (by assumption) ?morec8;case hyc8=>(intro w' hSw;(try dsimp only at hSw);go_simp;try with_reducible rfl)
        try simp only[Act.put,zd10_8,List.setIfInBounds_toArray,List.set_cons_zero,List.set_cons_succ]
        refine wpAnyH_take (i:=9) (oi:=zd10_9) (v:=?vvc9) rfl (by kernel_rfl) (by kernel_rfl) (by kernel_rfl) (fun _ _ _ h=>h) (Or.inl ⟨by rfl,?hyc9⟩) (by assumption) ?morec9;case hyc9=>(intro w' hSw;(try dsimp only at hSw);go_simp;try with_reducible rfl)
        try simp only[Act.put,zd10_9,List.setIfInBounds_toArray,List.set_cons_zero,List.set_cons_succ]
        refine wpAnyH_take (i:=10) (oi:=zd10_10) (v:=?vvc10) rfl (by kernel_rfl) (by kernel_rfl) (by kernel_rfl) (fun _ _ _ h=>h) (Or.inl ⟨by rfl,?hyc10⟩) (by assumption) ?morec10;case hyc10=>(intro w' hSw;(try dsimp only at hSw);go_simp;try with_reducible rfl)
        try simp only[Act.put,zd10_10,List.setIfInBounds_toArray,List.set_cons_zero,List.set_cons_succ]
        refine wpAnyH_take (i:=11) (oi:=zd10_11) (v:=?vvc11) rfl (by kernel_rfl) (by kernel_rfl) (by kernel_rfl) (fun _ _ _ h=>h) (Or.inl ⟨by rfl,?hyc11⟩) (by assumption) ?morec11;case hyc11=>(intro w' hSw;(try dsimp only at hSw);go_simp;try with_reducible rfl)
        try simp only[Act.put,zd10_11,List.setIfInBounds_toArray,List.set_cons_zero,List.set_cons_succ]
        refine wpAnyH_take (i:=12) (oi:=zd10_12) (v:=?vvc12) rfl (by kernel_rfl) (by kernel_rfl) (by kernel_rfl) (fun _ _ _ h=>h) (Or.inl ⟨by rfl,?hyc12⟩) (by assumption) ?morec12;case hyc12=>(intro w' hSw;(try dsimp only at hSw);go_simp;try with_reducible rfl)
        try simp only[Act.put,zd10_12,List.setIfInBounds_toArray,List.set_cons_zero,List.set_cons_succ]
        refine wpAnyH_take (i:=13) (oi:=zd10_13) (v:=?vvc13) rfl (by kernel_rfl) (by kernel_rfl) (by kernel_rfl) (fun _ _ _ h=>h) (Or.inl ⟨by rfl,?hyc13⟩) (by assumption) ?morec13;case hyc13=>(intro w' hSw;(try dsimp only at hSw);go_simp;try with_reducible rfl)
        try simp only[Act.put,zd10_13,List.setIfInBounds_toArray,List.set_cons_zero,List.set_cons_succ]
        refine wpAnyH_take (i:=14) (oi:=zd10_14) (v:=?vvc14) rfl (by kernel_rfl) (by kernel_rfl) (by kernel_rfl) (fun _ _ _ h=>h) (Or.inl ⟨by rfl,?hyc14⟩) (by assumption) ?morec14;case hyc14=>(intro w' hSw;(try dsimp only at hSw);go_simp;try with_reducible rfl)
        try simp only[Act.put,zd10_14,List.setIfInBounds_toArray,List.set_cons_zero,List.set_cons_succ]
        refine wpAnyH_done (by kernel_rfl) ?_ _;have HBE:=hid (HB7.out.trans (HS9.out.2.mono HB7.out.size));go_wp2_with fail
        go_meet
        exact⟨by rw[HD.out,Bool.true_and,Bool.true_and],HX7.out.below HS9.out.2,HE7.out.below HS9.out.2,HBE⟩
    exact absurd hq0.out h5
   case rest=>
    obtain⟨hs5,HXC,HEC,HBC⟩:=hcut;obtain⟨d,hd⟩:∃d,dok h ks.length=d:=⟨_,rfl⟩
    obtain⟨q,hq⟩:∃q,headF (xH h) h (xK h ks) ks=q:=⟨_,rfl⟩
    have hr3:=HR2.out;rw[hd,hq]at hr3;rw[hd]at hs5;subst hs5;cases d with
    |false=>obtain rfl:false=r:=hr3;clear hq hd;go_wp2_with fail;go_ret;exact⟨rfl,HBC.out⟩
    |true=>
     obtain rfl:q=r:=hr3;have hsm:=same_gen (xH h) h (xK h ks) ks (fun x _=>same_self _ x (Nat.le_refl _)) (x_cut h ks) wc (x_lies (HL0.out.below HBC.out)) (HL0.out.below HBC.out);rw[hq,valT_arr,valT_arr]at hsm;have HSM:=hid hsm;obtain⟨g,hg5⟩:∃g,xH h=g:=⟨_,rfl⟩
     obtain⟨gn,hgn⟩:∃n,(xK h ks).length=n:=⟨_,rfl⟩
     rw[hg5,hgn]at HSM HXC;obtain⟨x0,x1,x2,x3,x4,x5,x6,x7,x8,x9,x10,x11,x12⟩:=blk13 (h:=g) (n:=gn) HXC.out;obtain⟨c0,c1,c2,c3,c4,c5,c6,c7,c8,c9,c10,c11,c12⟩:=blk13 (h:=h) (n:=ks.length) HEC.out;clear hsm hq hd hg5 hgn;unfold arr at HSM;go_wp2_with fail;refine(HSM.out).mono ?_;rintro e w9⟨rfl,hb9⟩;have HB9:=hid (HBC.out.trans (hb9.mono HBC.out.size));clear hb9 HSM;go_wp2_with fail;go_ret;exact⟨rfl,HB9.out⟩
theorem right_stepr(h:Hd)(ks:List Tr)(hq0:Hid (¬h.k=3∧¬h.k=5))(hk:∀x,x∈ks→RightIs x):RightIs (.mk h ks):=by
 intro w hL hsh;obtain⟨r,hr⟩:∃r,allF okHd (.mk h ks)=r:=⟨_,rfl⟩
 rw[hr,valT_arr];rw[allF]at hr;have hb0:Below w.heap.size w (w.alloc (.cells (arr h ks.length) 27)):=(Below.refl _ _).alloc (Nat.le_refl _) _;have hl1:=hL.below hb0;rw[Lies]at hl1;obtain⟨hok,hkl,hms,hnm,htr,hkk⟩:=hl1;have hv:=hok.v;have hm:=hok.ms;have hns:=hok.ns;have HB0:=hid hb0;have HMS:=hid hms;have HNM:=hid hnm;have HTR:=hid htr;have HKK:=hid hkk;have HK:=hid (Blk.new w 27 (arr h ks.length));have HKS:=hid hk;have HR:=hid hr;have HSH:=hid (short_kid hsh);have HS0:=hid hsh;have HSS:=hid (short_s hsh);have HSN:=hid (short_n hsh);have HSM0:=hid (short_m hsh);have HMW:=hid (show Mts w h.ma h.ms from by rw[Lies]at hL;exact hL.2.2.1);have HNW:=hid (show Nms w h.na h.ns from by rw[Lies]at hL;exact hL.2.2.2.1);have HL0:=hid hL;clear hr hb0 hms hnm htr hkk hk hok hL hsh;unfold arr at*
 go_enter Tryz.func14,Tryz.ntmps14;go_wp2_with fail;generalize (w.alloc (.cells _ 27))=W1 at*
 go_loopg [3] ks.length (fun gq s3 wx=>∃k:Nat,k≤ks.length∧ks.length≤gq+k∧s3=.int .i64 (k:Int)∧Hid (∀i,i<k→allF okHd (ks.getD i t0)=true)∧Hid (Below W1.heap.size W1 wx))
 case atStart=>exact⟨0,Nat.zero_le _,Nat.le_refl _,rfl,fun i hi=>absurd hi (Nat.not_lt_zero _),Below.refl _ _⟩
 case round=>
  obtain⟨k,hkn,hg,rfl,HG,HBX⟩:=hrel;have HKX:=hid (HK.out.below HBX.out);have HBF:=hid (HB0.out.trans (HBX.out.mono HB0.out.size));by_cases hlt:k<ks.length
  ·have c12:=HKX.out.cell 12
   simp at c12;have hki:(k:Int)<(ks.length:Int):=by omega
   obtain⟨b,off,hA,hb,hc⟩:=HTR.out (by omega);cases ht:ks.getD k t0 with
   |mk h2 ks2=>
    have hix:=fun W=>index_kid h.ka ks.length h.kc k b off hA hlt W;have hmem:Tr.mk h2 ks2∈ks:=by rw[←ht];exact kid_mem2 hlt
    obtain⟨d0,d1,d2,d3,d4,d5,d6,d7,d8,d9,d10,d11,d12⟩:=KC.below (Trs.kc hc hlt ht) HBX.out hb;obtain⟨x,hx⟩:∃x,allF okHd (Tr.mk h2 ks2)=x:=⟨_,rfl⟩
    have hcl:=HKS.out _ hmem wr ((LiesL.mem HKK.out hmem).below HBX.out) (HSH.out _ hmem);rw[hx,valT_arr]at hcl;have HCL:=hid hcl;have HX:=hid hx;have HTT:=hid ht;obtain⟨g',rfl⟩:∃g',gk=g'+1:=⟨gk-1,by omega⟩
    clear hA hc hx hcl ht;unfold arr at HCL;go_wp2_with fail;refine(HCL.out).mono ?_;rintro e w6⟨rfl,hb6⟩;have HB6:=hid (HBX.out.trans (hb6.mono HBX.out.size));have HBF6:=hid (HBF.out.trans (hb6.mono HBF.out.size));clear hb6 HCL d0 d1 d2 d3 d4 d5 d6 d7 d8 d9 d10 d11 d12 hix c12;cases x with
    |false=>
     obtain rfl:false=r:=by rw[←HR.out,allL_bad hmem HX.out,Bool.and_false]
     go_wp2_with fail;go_ret;exact⟨rfl,HBF6.out⟩
    |true=>
     have HGK2:Hid (∀q,q<k+1→allF okHd (ks.getD q t0)=true):=fun q hq=>by
      by_cases e:q=k
      ·rw[e,HTT.out];exact HX.out
      ·exact HG.out q (by omega)
     go_wp2_with fail
     go_roundg g'
     case measure=>omega
     case rel=>exact⟨k+1,by omega,by omega,by go_num,HGK2,HB6⟩
  ·have hki:¬(k:Int)<(ks.length:Int):=by omega
   have hr2:okHd h ks.length=r:=by rw[←HR.out,allL_all (fun q hq=>HG.out q (by omega)),Bool.and_true]
   rw[←doc_ok h ks hv]at hr2;have HR2:=hid hr2;obtain⟨c0,c1,c2,c3,c4,c5,c6,c7,c8,c9,c10,c11,c12⟩:=blk13 (h:=h) (n:=ks.length) HKX.out;clear hr2 HR HG HKS HSH HTR HKK;have hb6:Below w.heap.size w (wr.alloc (.cells (bareC h.k) 27)):=HBF.out.alloc HBF.out.size _;have hx6:=Blk.new wr 27 (bareC h.k);have he6:=HKX.out.alloc (.cells (bareC h.k) 27);have hne:w.heap.size≠wr.heap.size:=by have:=HKX.out.lt;omega
   have HB6:=hid hb6;have HX6:=hid hx6;have HE6:=hid he6;have HNE:=hid hne;have HLE:=hid (show w.heap.size≤wr.heap.size by have:=HKX.out.lt;omega);clear hb6 hx6 he6 hne;unfold bareC at*
   clear c0 c1 c2 c3 c4 c5 c6 c7 c8 c9 c10 c11 c12;have c0:=HKX.out.cell 0;have c12:=HKX.out.cell 12;simp at c0 c12;go_upto_region 8 with fail;generalize hW6:wr.alloc (.cells _ 27)=W6 at*
   clear hW6 c0 c12;generalize wr.heap.size=xb at*
   have c0:=HE6.out.cell 0;simp at c0;go_upto_block 2 with fail;clear c0
   go_cut [5,6]from 26 to 219 (fun s5 s6 wx=>s5=.bool (dok h ks.length)∧Hid (Blk wx xb 27 (arr (xH h) (xK h ks).length))∧Hid (Blk wx w.heap.size 27 (arr h ks.length))∧Hid (Below w.heap.size w wx))
   case first=>
    clear HR2 HL0 HBX HBF HKX hkn hg hki;by_cases h1:h.k=1
    ·have HA:=hid (right_1 (ks:=ks) h1 HX6.out HE6.out HB6.out HNE.out HLE.out)
     have b1:(h.k==1)=true:=by rw[beq_iff_eq];exact h1
     have c2:=HE6.out.cell 2;have x2:=HX6.out.cell 2;have z2:=HX6.out.frozen 2;have k2:=fun u=>(World.cell?_setCell_other W6 ⟨xb,2,none⟩ ⟨w.heap.size,2,none⟩ u (by intro e;exact HNE.out (by injection e with e1;exact e1.symm))).trans c2;simp at c2 x2 k2;have hd:dok h ks.length=(decide (h.v≤9218868437227405312)||decide (h.v=9221120237041090561)):=by unfold dok;rw[if_pos h1]
     have HD:=hid hd;clear hd h1;by_cases a1:h.v≤9218868437227405312
     ·have a1i:(h.v:Int)≤9218868437227405312:=by omega
      go_wp2_with fail
      go_meet
      exact⟨by rw[HD.out,decide_eq_true a1];rfl,HA.out⟩
     ·have a1i:¬(h.v:Int)≤9218868437227405312:=by omega
      by_cases a2:h.v=9221120237041090561
      ·have a2i:((h.v:Int)==9221120237041090561)=true:=by rw[beq_iff_eq];omega
       have hd2:(decide (h.v≤9218868437227405312)||decide (h.v=9221120237041090561))=true:=by rw[decide_eq_true a2,Bool.or_true]
       rw[hd2]at HD;clear a1 a2 hd2;go_wp2_with fail
       go_meet
       exact⟨by rw[HD.out],HA.out⟩
      ·have a2i:((h.v:Int)==9221120237041090561)=false:=by rw[beq_eq_false_iff_ne];omega
       have hd2:(decide (h.v≤9218868437227405312)||decide (h.v=9221120237041090561))=false:=by rw[decide_eq_false a2,decide_eq_false a1];rfl
       rw[hd2]at HD;clear a1 a2 hd2;go_wp2_with fail
       go_meet
       exact⟨by rw[HD.out],HA.out⟩
    have b1:(h.k==1)=false:=by rw[beq_eq_false_iff_ne];exact h1
    by_cases h2:h.k=2
    ·have HA:=hid (right_2 (ks:=ks) h2 HX6.out HE6.out HB6.out HNE.out HLE.out)
     have b2:(h.k==2)=true:=by rw[beq_iff_eq];exact h2
     have c3:=HE6.out.cell 3;have x3:=HX6.out.cell 3;have z3:=HX6.out.frozen 3;have k3:=fun u=>(World.cell?_setCell_other W6 ⟨xb,3,none⟩ ⟨w.heap.size,3,none⟩ u (by intro e;exact HNE.out (by injection e with e1;exact e1.symm))).trans c3;simp at c3 x3 k3;have hd:dok h ks.length=Rg.valB h.s:=by unfold dok;rw[if_neg (by omega),if_pos h2]
     obtain⟨q,hq⟩:∃q,Rg.valB h.s=q:=⟨_,rfl⟩
     have hvl:=fun W=>Dn.refvalue_any h.s W;rw[hq]at hd hvl;have HD:=hid hd;have HVL:=hid hvl;clear hd hvl hq h1 h2;go_wp2_with fail;refine(HVL.out _).mono ?_;rintro e w9⟨rfl,rfl⟩;go_wp2_with fail
     go_meet
     exact⟨by rw[HD.out],HA.out⟩
    have b2:(h.k==2)=false:=by rw[beq_eq_false_iff_ne];exact h2
    have h3:¬h.k=3:=by have:=hq0.out;omega
    have b3:(h.k==3)=false:=by rw[beq_eq_false_iff_ne];exact h3
    by_cases h4:h.k=4
    ·have b4:(h.k==4)=true:=by rw[beq_iff_eq];exact h4
     have hd:dok h ks.length=(freeD h.s&&decide ((ks.length:Int)≤4)):=by unfold dok;rw[if_neg h1,if_neg h2,if_neg h3,if_pos h4];congr 1;rw[Bool.eq_iff_iff,decide_eq_true_eq,decide_eq_true_eq];omega
     have HD:=hid hd;have HXX:=hid (xH_4 h4);have HXK:=hid (show xK h ks=ks from if_pos (by omega));clear hd h1 h2 h3 h4;go_upto_region 24 with fail
     go_cut []from 133 to 139 (fun wx=>RP h ks w wx w.heap.size xb)
     case first=>
      clear HD;have c3:=HE6.out.cell 3;have c12:=HE6.out.cell 12;have x3:=HX6.out.cell 3;have x12:=HX6.out.cell 12;have z3:=HX6.out.frozen 3;have z12:=HX6.out.frozen 12;simp at c3 c12 x3 x12;go_region;all_goals(
       (try go_wp2_with fail)
       go_meet
       refine⟨?_,?_,?_⟩
       ·rw[HXX.out,HXK.out];exact(Blk.set_ (Blk.set_ (HX6.out:Blk W6 xb 27 (bareC h.k)) _ _) _ _)
       ·exact blk_past (blk_past (HE6.out:Blk W6 w.heap.size 27 (arr h ks.length)) HNE.out _ _) HNE.out _ _
       ·exact(set_below (set_below HB6.out HLE.out _ _) HLE.out _ _).drew)
     case rest=>
      obtain⟨HX7,HE7,HB7⟩:=hcut;obtain⟨_,_,_,c3,_,_,_,_,_,_,_,_,c12⟩:=blk13 (h:=h) (n:=ks.length) HE7.out;obtain⟨q,hq⟩:∃q,freeD h.s=q:=⟨_,rfl⟩
      have hvl:=fun W=>dfree_any h.s (by have:=HSS.out;omega) W;rw[hq]at hvl HD;have HVL:=hid hvl;clear hvl hq;go_wp2_with fail;refine(HVL.out _).mono ?_;rintro e w9⟨rfl,hb9⟩;have HX9:=hid (HX7.out.below hb9);have HE9:=hid (HE7.out.below hb9);have HB9:=hid (HB7.out.trans (hb9.mono HB7.out.size));clear hb9 c3 c12;obtain⟨_,_,_,_,_,_,_,_,_,_,_,_,c12⟩:=blk13 (h:=h) (n:=ks.length) HE9.out;cases q with
      |false=>
       go_wp2_with fail
       go_meet
       exact⟨by rw[HD.out,Bool.false_and],HX9,HE9,HB9⟩
      |true=>
       go_wp2_with fail
       go_meet
       exact⟨by rw[HD.out,Bool.true_and],HX9,HE9,HB9⟩
    have b4:(h.k==4)=false:=by rw[beq_eq_false_iff_ne];exact h4
    have h5:¬h.k=5:=by have:=hq0.out;omega
    have b5:(h.k==5)=false:=by rw[beq_eq_false_iff_ne];exact h5
    by_cases h6:h.k=6
    ·have b6:(h.k==6)=true:=by rw[beq_iff_eq];exact h6
     have hd:dok h ks.length=((decide (1≤h.o)&&decide (h.o≤11))&&(howF h.how h.ns&&((ks.length:Int)==2))):=by unfold dok;rw[if_neg h1,if_neg h2,if_neg h3,if_neg h4,if_neg h5,if_pos h6];congr 2;rw[Bool.eq_iff_iff,decide_eq_true_eq,beq_iff_eq];omega
     have HD:=hid hd;have HXX:=hid (xH_6 h6);have HXK:=hid (show xK h ks=ks from if_pos (by omega));clear hd h1 h2 h3 h4 h5 h6;go_upto_region 30 with fail
     go_cut []from 178 to 193 (fun wx=>RP h ks w wx w.heap.size xb)
     case first=>
      clear HD;have c1:=HE6.out.cell 1;have c9:=HE6.out.cell 9;have c10:=HE6.out.cell 10;have c11:=HE6.out.cell 11;have c12:=HE6.out.cell 12;have x1:=HX6.out.cell 1;have x9:=HX6.out.cell 9;have x10:=HX6.out.cell 10;have x11:=HX6.out.cell 11;have x12:=HX6.out.cell 12;have z1:=HX6.out.frozen 1;have z9:=HX6.out.frozen 9;have z10:=HX6.out.frozen 10;have z11:=HX6.out.frozen 11;have z12:=HX6.out.frozen 12;simp at c1 c9 c10 c11 c12 x1 x9 x10 x11 x12;go_region;all_goals(
       (try go_wp2_with fail)
       go_meet
       refine⟨?_,?_,?_⟩
       ·rw[HXX.out,HXK.out];exact(Blk.set_ (Blk.set_ (Blk.set_ (Blk.set_ (Blk.set_ (HX6.out:Blk W6 xb 27 (bareC h.k)) _ _) _ _) _ _) _ _) _ _)
       ·exact blk_past (blk_past (blk_past (blk_past (blk_past (HE6.out:Blk W6 w.heap.size 27 (arr h ks.length)) HNE.out _ _) HNE.out _ _) HNE.out _ _) HNE.out _ _) HNE.out _ _
       ·exact(set_below (set_below (set_below (set_below (set_below HB6.out HLE.out _ _) HLE.out _ _) HLE.out _ _) HLE.out _ _) HLE.out _ _).drew)
     case rest=>
      obtain⟨HX7,HE7,HB7⟩:=hcut;obtain⟨c0,c1,c2,c3,c4,c5,c6,c7,c8,c9,c10,c11,c12⟩:=blk13 (h:=h) (n:=ks.length) HE7.out;obtain⟨q,hq⟩:∃q,howF h.how h.ns=q:=⟨_,rfl⟩
      have hvl:=dnamed_any h ks.length wc ((HNW.out).below HB7.out) hns HSN.out;rw[hq]at hvl HD;have HVL:=hid hvl;clear hvl hq;unfold arr at HVL;by_cases o1:1≤h.o
      ·by_cases o2:h.o≤11
       ·have hd2:dok h ks.length=(q&&((ks.length:Int)==2)):=by rw[HD.out,decide_eq_true o1,decide_eq_true o2];rfl
        have HD2:=hid hd2;clear HD hd2;go_wp2_with fail;refine(HVL.out).mono ?_;rintro e w9⟨rfl,hb9⟩;have HX9:=hid (HX7.out.below hb9);have HE9:=hid (HE7.out.below hb9);have HB9:=hid (HB7.out.trans (hb9.mono HB7.out.size));clear hb9 c0 c1 c2 c3 c4 c5 c6 c7 c8 c9 c10 c11 c12;obtain⟨_,_,_,_,_,_,_,_,_,_,_,_,c12⟩:=blk13 (h:=h) (n:=ks.length) HE9.out;cases q with
        |false=>
         go_wp2_with fail
         go_meet
         exact⟨by rw[HD2.out,Bool.false_and],HX9,HE9,HB9⟩
        |true=>
         go_wp2_with fail
         go_meet
         exact⟨by rw[HD2.out,Bool.true_and],HX9,HE9,HB9⟩
       ·have hd2:dok h ks.length=false:=by rw[HD.out,decide_eq_false o2,Bool.and_false,Bool.false_and]
        have HD2:=hid hd2;clear HD hd2;go_wp2_with fail
        go_meet
        exact⟨by rw[HD2.out],HX7,HE7,HB7⟩
      ·have hd2:dok h ks.length=false:=by rw[HD.out,decide_eq_false o1,Bool.false_and,Bool.false_and]
       have HD2:=hid hd2;clear HD hd2;go_wp2_with fail
       go_meet
       exact⟨by rw[HD2.out],HX7,HE7,HB7⟩
    have b6:(h.k==6)=false:=by rw[beq_eq_false_iff_ne];exact h6
    by_cases h7:h.k=7
    ·have HA:=hid (right_7 (ks:=ks) h7 HX6.out HE6.out HB6.out HNE.out HLE.out)
     have b7:(h.k==7)=true:=by rw[beq_iff_eq];exact h7
     have c12:=HE6.out.cell 12;have x12:=HX6.out.cell 12;have z12:=HX6.out.frozen 12;have k12:=fun u=>(World.cell?_setCell_other W6 ⟨xb,12,none⟩ ⟨w.heap.size,12,none⟩ u (by intro e;exact HNE.out (by injection e with e1;exact e1.symm))).trans c12;simp at c12 x12 k12;have hd:dok h ks.length=((ks.length:Int)==1):=by unfold dok;rw[if_neg h1,if_neg h2,if_neg h3,if_neg h4,if_neg h5,if_neg h6,if_pos h7,Bool.eq_iff_iff,decide_eq_true_eq,beq_iff_eq];omega
     have HD:=hid hd;clear hd h1 h2 h3 h4 h5 h6 h7;go_wp2_with fail
     go_meet
     exact⟨by rw[HD.out],HA.out⟩
    have b7:(h.k==7)=false:=by rw[beq_eq_false_iff_ne];exact h7
    have HA:=hid (right_0 (ks:=ks) h1 h2 h3 h4 h5 h6 h7 HX6.out HE6.out HB6.out);have hd:dok h ks.length=false:=by unfold dok;rw[if_neg h1,if_neg h2,if_neg h3,if_neg h4,if_neg h5,if_neg h6,if_neg h7]
    have HD:=hid hd;clear hd h1 h2 h3 h4 h5 h6 h7;go_wp2_with fail
    go_meet
    exact⟨by rw[HD.out],HA.out⟩
   case rest=>
    obtain⟨hs5,HXC,HEC,HBC⟩:=hcut;obtain⟨d,hd⟩:∃d,dok h ks.length=d:=⟨_,rfl⟩
    obtain⟨q,hq⟩:∃q,headF (xH h) h (xK h ks) ks=q:=⟨_,rfl⟩
    have hr3:=HR2.out;rw[hd,hq]at hr3;rw[hd]at hs5;subst hs5;cases d with
    |false=>obtain rfl:false=r:=hr3;clear hq hd;go_wp2_with fail;go_ret;exact⟨rfl,HBC.out⟩
    |true=>
     obtain rfl:q=r:=hr3;have hsm:=same_gen (xH h) h (xK h ks) ks (fun x _=>same_self _ x (Nat.le_refl _)) (x_cut h ks) wc (x_lies (HL0.out.below HBC.out)) (HL0.out.below HBC.out);rw[hq,valT_arr,valT_arr]at hsm;have HSM:=hid hsm;obtain⟨g,hg5⟩:∃g,xH h=g:=⟨_,rfl⟩
     obtain⟨gn,hgn⟩:∃n,(xK h ks).length=n:=⟨_,rfl⟩
     rw[hg5,hgn]at HSM HXC;obtain⟨x0,x1,x2,x3,x4,x5,x6,x7,x8,x9,x10,x11,x12⟩:=blk13 (h:=g) (n:=gn) HXC.out;obtain⟨c0,c1,c2,c3,c4,c5,c6,c7,c8,c9,c10,c11,c12⟩:=blk13 (h:=h) (n:=ks.length) HEC.out;clear hsm hq hd hg5 hgn;unfold arr at HSM;go_wp2_with fail;refine(HSM.out).mono ?_;rintro e w9⟨rfl,hb9⟩;have HB9:=hid (HBC.out.trans (hb9.mono HBC.out.size));clear hb9 HSM;go_wp2_with fail;go_ret;exact⟨rfl,HB9.out⟩
theorem right_step(h:Hd)(ks:List Tr)(hk:∀x,x∈ks→RightIs x):RightIs (.mk h ks):=by
 by_cases h3:h.k=3
 ·exact right_step3 h ks h3 hk
 by_cases h5:h.k=5
 ·exact right_step5 h ks h5 hk
 exact right_stepr h ks ⟨h3,h5⟩ hk
theorem right_doc(n:Nat):∀x:Tr,szF x≤n→RightIs x:=by
 induction n with
 |zero=>intro x hx;have:=szF_pos x;omega
 |succ n ih=>intro x hx;obtain⟨h,ks⟩:=x;exact right_step h ks fun y hy=>ih y (by have:=szL_mem hy;rw[szF]at hx;omega)
end Go.Proofs.YticmkabafmmlhaaGreatDoor.Ck

/- tree.Right: whether a tree is right. Conditions: the tables as they are laid; the tree lies in memory, and has at most 700 parts. -/
import Derived.Test.YtmodehfedhgcbaaGreatDoorN15
import Derived.Test.YtmodehfedhgcbaaGreatDoorN17
import Derived.Test.YtmodehfedhgcbaaGreatDoorN22
import Derived.Test.YtmodehfedhgcbaaGreatDoorGa
import Derived.Deep.DeepCutAuto
set_option linter.unusedVariables false
set_option linter.unusedSimpArgs false
set_option maxRecDepth 100000
set_option maxHeartbeats 2000000
namespace Go.Proofs.YtmodehfedhgcbaaGreatDoor.Ck
open Go.RowKit
open Lib (hid)
section
variable {Q qo qc P off c F fo fc:Nat}
theorem right_any(t:Tr)(w:World)(hT:Tabl Q qo qc P off c F fo fc w)(hL:Lies w t)(hs:szF t≤700):
 Calls Tryz.prog 13 #[valT t] w fun e w'=>e=.returned (.bool (rightF okHd t))∧Below w.heap.size w w':=by
 obtain⟨n,hn⟩:∃n,nestF t=n:=⟨_,rfl⟩
 obtain⟨r,hr⟩:∃r,allF okHd t=r:=⟨_,rfl⟩
 have hB:∀o,Below w.heap.size w (w.alloc o):=fun o=>(Below.refl _ _).alloc (Nat.le_refl _) _;have HB:=hid hB;have h1:∀W,Below w.heap.size w W→Calls Tryz.prog 20 #[valT t] W fun e w'=>e=.returned (.int .i64 (n:Int))∧Below W.heap.size W w':=fun W hW=>by rw[←hn];exact nest_any t W (hL.below hW) hs
 have h2:∀W,Below w.heap.size w W→Calls Tryz.prog 21 #[valT t] W fun e w'=>e=.returned (.bool r)∧Below W.heap.size W w':=fun W hW=>by rw[←hr];exact all_any t W (hT.below hW) (hL.below hW) hs
 unfold rightF;rw[hn,hr];obtain⟨h,ks⟩:=t;have HK:=hid (Blk.new w 27 (arr h ks.length));rw[valT_arr]at h1 h2⊢
 have H1:=hid h1;have H2:=hid h2;clear h1 h2 hn hr hB hT hL hs;unfold arr at*
 by_cases h64:n≤64
 ·have d:decide ((n:Int)≤64)=true:=by rw[decide_eq_true_eq];omega
  rw[decide_eq_true h64,Bool.true_and];clear h64;go_enter Tryz.func13,Tryz.ntmps13;go_wp2_with fail;refine(H1.out _ (HB.out _)).mono ?_;rintro e w1⟨rfl,hb1⟩;have HB1:=hid ((HB.out _).trans (hb1.mono (HB.out _).size));have HK1:=hid (HK.out.below hb1);clear hb1 H1 HK;obtain⟨c0,c1,c2,c3,c4,c5,c6,c7,c8,c9,c10,c11,c12⟩:=blk13 (h:=h) (n:=ks.length) HK1.out;go_wp2_with fail;refine(H2.out _ HB1.out).mono ?_;rintro e w2⟨rfl,hb2⟩;have HB2:=hid (HB1.out.trans (hb2.mono HB1.out.size));clear hb2;go_wp2_with fail;go_ret;exact⟨rfl,HB2.out⟩
 ·have d:decide ((n:Int)≤64)=false:=by rw[decide_eq_false_iff_not];omega
  rw[decide_eq_false h64,Bool.false_and];clear h64 H2;go_enter Tryz.func13,Tryz.ntmps13;go_wp2_with fail;refine(H1.out _ (HB.out _)).mono ?_;rintro e w1⟨rfl,hb1⟩;have HB1:=hid ((HB.out _).trans (hb1.mono (HB.out _).size));clear hb1 H1 HK;go_wp2_with fail;go_ret;exact⟨rfl,HB1.out⟩
end
end Go.Proofs.YtmodehfedhgcbaaGreatDoor.Ck

set_option linter.unusedVariables false
set_option linter.unusedSimpArgs false
set_option maxRecDepth 100000
set_option maxHeartbeats 4000000
namespace Go.Proofs.YtmodehfedhgcbaaGreatDoor.Ck
open Go.RowKit
open Lib (hid)
def typV(t:Tr):Value:=if rightF okHd t=true then(if ofF t=0 then .tuple #[.int .i64 0,.iface 41 (.int .i64 7)]else .tuple #[.int .i64 (ofF t),.nilIface])else .tuple #[.int .i64 0,.iface 41 (.int .i64 6)]
section
variable {Q qo qc P off c F fo fc:Nat}
theorem type_any(t:Tr)(w:World)(hT:Tabl Q qo qc P off c F fo fc w)(hL:Lies w t)(hs:szF t≤700):
 Calls Tryz.prog 7 #[valT t] w fun e w'=>e=.returned (typV t)∧Below w.heap.size w w':=by
 have hb0:∀o,Below w.heap.size w (w.alloc o):=fun o=>(Below.refl _ _).alloc (Nat.le_refl _) _;have hrt:∀W,Below w.heap.size w W→Calls Tryz.prog 13 #[valT t] W fun e w'=>e=.returned (.bool (rightF okHd t))∧Below W.heap.size W w':=fun W hW=>right_any t W (hT.below hW) (hL.below hW) hs;unfold typV;by_cases hr:rightF okHd t=true
 ·rw[if_pos hr]
  rw[hr]at hrt;have har:allF okHd t=true:=by unfold rightF at hr;exact(Bool.and_eq_true_iff.1 hr).2
  obtain⟨v,hv⟩:∃v,ofF t=v:=⟨_,rfl⟩
  have hof:∀(mp b1 b2 b3 b4:Nat) W,ChkM W mp b1 b2 b3 b4→Below w.heap.size w W→Calls Tryz.prog 15 #[.agg #[.map (some mp)],valT t] W fun e w'=>e=.returned (.int .i64 v)∧Below W.heap.size W w':=fun mp b1 b2 b3 b4 W hC hW=>by rw[←hv];exact of_any _ t (Nat.le_refl _) hs har W hC (hL.below hW)
  rw[hv];obtain⟨A,hA⟩:∃A,(if v=0 then Value.tuple #[.int .i64 0,.iface 41 (.int .i64 7)]else .tuple #[.int .i64 v,.nilIface])=A:=⟨_,rfl⟩
  rw[hA];have HAQ:=hid hA;clear hA;obtain⟨h,ks⟩:=t;rw[valT_arr]at hrt hof⊢
  have HRT:=hid hrt;have HOF:=hid hof;have HB0:=hid (hb0 (.cells (arr h ks.length) 27));have HK:=hid (Blk.new w 27 (arr h ks.length));clear hrt hof hb0 hr har hv hL hT;unfold arr at*
  go_enter Tryz.func7,Tryz.ntmps7;go_wp2_with fail;refine(HRT.out _ HB0.out).mono ?_;rintro e w1⟨rfl,hb1⟩;have HB1:=hid (HB0.out.trans (hb1.mono HB0.out.size));have HK1:=hid (HK.out.below hb1);have hlt:=HK1.out.lt;clear hb1 HK HRT HB0;have HY:Hid (C13 w1 w.heap.size h ks.length):=blk13 (h:=h) (n:=ks.length) HK1.out;go_upto_region 3 with fail
  go_region_held3 (fun W=>C13 W w.heap.size h ks.length∧Below w1.heap.size w1 W)
   (first|(exact⟨HY.out,⟨rfl,rfl,rfl,Nat.le_refl _,fun _ _=>rfl⟩⟩)|(exact⟨hS0.1.below hb5 (Nat.lt_of_lt_of_le hlt hS0.2.size),hS0.2.trans (hb5.mono hS0.2.size)⟩)|assumption)
   (first
     |(go_at_call 14
       have hS0:=‹C13 _ w.heap.size h ks.length∧Below w1.heap.size w1 _›
       (with_reducible refine(new_any _).mono ?_)
       rintro e w'⟨mp,b1,b2,b3,b4,rfl,hch,hb5⟩;have HCH:=hid hch;clear hch)
     |(go_at_call 15
       have hS0:=‹C13 _ w.heap.size h ks.length∧Below w1.heap.size w1 _›
       (with_reducible refine(HOF.out _ _ _ _ _ _ HCH.out (HB1.out.trans (hS0.2.mono HB1.out.size))).mono ?_)
       rintro e w'⟨rfl,hb5⟩))
  all_goals(
   have hSE:=‹C13 _ w.heap.size h ks.length∧Below w1.heap.size w1 _›
   have HBE:=hid (HB1.out.trans (hSE.2.mono HB1.out.size));clear hSE HY HOF;by_cases hv0:v=0
   ·have e0:(v==0)=true:=by simp[hv0]
    have hav:=HAQ.out;rw[if_pos hv0]at hav;subst hav;clear hv0 HAQ;go_wp2_with fail
    go_ret2
    exact⟨rfl,HBE.out⟩
   ·have e0:(v==0)=false:=by simp[hv0]
    have hav:=HAQ.out;rw[if_neg hv0]at hav;subst hav;clear hv0 HAQ;go_wp2_with fail
    go_ret2
    exact⟨rfl,HBE.out⟩)
 ·rw[if_neg hr]
  have hrf:rightF okHd t=false:=by simpa using hr
  rw[hrf]at hrt;obtain⟨h,ks⟩:=t;rw[valT_arr]at hrt⊢
  have HRT:=hid hrt;have HB0:=hid (hb0 (.cells (arr h ks.length) 27));clear hrt hb0 hr hrf hL hT;unfold arr at*
  go_enter Tryz.func7,Tryz.ntmps7;go_wp2_with fail;refine(HRT.out _ HB0.out).mono ?_;rintro e w1⟨rfl,hb1⟩;have HB1:=hid (HB0.out.trans (hb1.mono HB0.out.size));clear hb1;go_wp2_with fail
  go_ret2
  exact⟨rfl,HB1.out⟩
end
end Go.Proofs.YtmodehfedhgcbaaGreatDoor.Ck

set_option linter.unusedVariables false
set_option linter.unusedSimpArgs false
set_option maxRecDepth 100000
set_option maxHeartbeats 4000000
namespace Go.Proofs.YtmodehfedhgcbaaGreatDoor.Ck
open Go.RowKit
open Lib (hid)
def xpickH(wd:Int):Hd:=⟨3,0,0,⟨#[120]⟩,none,0,[],wd,0,false,0,0,none,0,[],false,none,0⟩
def rateH(B:Nat):Hd:=⟨4,0,0,⟨#[114,97,116,101]⟩,none,0,[],0,0,false,0,0,none,0,[],false,some ⟨B,0,none⟩,1⟩
def rateT(B:Nat)(wd:Int):Tr:=.mk (rateH B) [.mk (xpickH wd) []]
theorem typ_fits(B:Nat):typV (rateT B 300000)=.tuple #[.int .i64 2,.nilIface]:=by kernel_rfl
theorem typ_not(B:Nat):typV (rateT B 0)=.tuple #[.int .i64 0,.iface 41 (.int .i64 7)]:=by kernel_rfl
theorem err_below{w w':World}(h:Er.ErrT w)(hb:Below w.heap.size w w'):Er.ErrT w':=(hb.cell (p:=⟨0,0,none⟩) (World.block_lt_of_cell? _ _ h)).trans h
section
variable {Q qo qc P off c F fo fc:Nat}
theorem xpick_lies(wd:Int)(W:World):Lies W (.mk (xpickH wd) []):=by rw[Lies];refine⟨⟨by show(0:Nat)<_;decide,by show(0:Nat)≤_;decide,by show(0:Nat)≤_;decide,fun _=>rfl⟩,by show(0:Nat)≤_;decide,fun h=>absurd h (Nat.not_lt_zero _),fun h=>absurd h (Nat.not_lt_zero _),fun h=>absurd h (Nat.not_lt_zero _),?_⟩;rw[LiesL];trivial
theorem rate_lies(wd:Int)(W:World)(B:Nat)(hB:Blk W B 27 (arr (xpickH wd) 0)):Lies W (rateT B wd):=by
 unfold rateT;rw[Lies];refine⟨⟨by show(0:Nat)<_;decide,by show(0:Nat)≤_;decide,by show(0:Nat)≤_;decide,fun h=>by cases h⟩,by show(1:Nat)≤_;decide,fun h=>absurd h (Nat.not_lt_zero _),fun h=>absurd h (Nat.not_lt_zero _),fun _=>⟨B,0,rfl,hB.lt,?_⟩,?_⟩
 ·intro i hi j x hx
  obtain rfl:i=0:=by simp at hi;exact hi
  rw[show 0+0*13+j=j by omega,hB.cell j,show arr (xpickH wd) 0=(cellsT (.mk (xpickH wd) [])).toArray from rfl,List.getElem?_toArray];exact hx
 ·rw[LiesL,LiesL]
  exact⟨xpick_lies wd W,trivial⟩
theorem rate_call(wd:Int)(W:World)(B:Nat)(hT:Tabl Q qo qc P off c F fo fc W)(hB:Blk W B 27 (arr (xpickH wd) 0))(v:Value)(hv:typV (rateT B wd)=v):
 Calls Tryz.prog 7 #[.agg #[.int .i64 4,.int .i64 0,.int .u64 0,.string ⟨#[114,97,116,101]⟩,.slice none 0 0,.int .i64 0,.int .i64 0,.bool false,.int .i64 0,.int .i64 0,.slice none 0 0,.bool false,.slice (some ⟨B,0,none⟩) 1 1]] W
  fun e w'=>e=.returned v∧Below W.heap.size W w':=by
 rw[←hv];exact type_any (rateT B wd) W hT (rate_lies wd W B hB) (by show 2≤700;decide)
theorem awake_any(w:World)(hT:Tabl Q qo qc P off c F fo fc w)(hE:Er.ErrT w):Calls Tryz.prog 5 #[] w fun e w'=>e=.returned (.bool true)∧Below w.heap.size w w':=by
 have hb3:Below w.heap.size w (((w.alloc (.cells (arr (xpickH 0) 0) 27)).alloc (.cells (arr (xpickH 300000) 0) 27)).alloc (.cells (arr (xpickH 300000) 0) 27)):=(((Below.refl _ _).alloc (Nat.le_refl _) _).alloc (by simp) _).alloc (by simp;omega) _
 have hk3:Blk (((w.alloc (.cells (arr (xpickH 0) 0) 27)).alloc (.cells (arr (xpickH 300000) 0) 27)).alloc (.cells (arr (xpickH 300000) 0) 27)) (w.heap.size+1+1) 27 (arr (xpickH 300000) 0):=by have:=Blk.new ((w.alloc (.cells (arr (xpickH 0) 0) 27)).alloc (.cells (arr (xpickH 300000) 0) 27)) 27 (arr (xpickH 300000) 0);rw[World.size_alloc,World.size_alloc]at this;exact this
 have hx3:Blk (((w.alloc (.cells (arr (xpickH 0) 0) 27)).alloc (.cells (arr (xpickH 300000) 0) 27)).alloc (.cells (arr (xpickH 300000) 0) 27)) w.heap.size 27 (arr (xpickH 0) 0):=((Blk.new w 27 _).alloc _).alloc _;have H1:=hid (rate_call 300000 _ _ (hT.below hb3) hk3 _ (typ_fits _));have HT:=hid hT;have HE:=hid hE;have HB3:=hid hb3;have HX3:=hid hx3;clear hb3 hk3 hx3 hT hE;go_enter Tryz.func5,Tryz.ntmps5;go_wp2_with fail;refine(H1.out).mono ?_;rintro e w4⟨rfl,hb4⟩;have HX4:=hid (HX3.out.below hb4);have HB4:=hid (HB3.out.trans (hb4.mono HB3.out.size));clear hb4 H1 HX3 HB3;have hb5:Below w.heap.size w (w4.alloc (.cells (arr (xpickH 0) 0) 27)):=HB4.out.alloc HB4.out.size _;have H2:=hid (rate_call 0 _ _ (HT.out.below hb5) (Blk.new w4 27 (arr (xpickH 0) 0)) _ (typ_not _));have HB5:=hid hb5;clear hb5;obtain⟨c0,c1,c2,c3,c4,c5,c6,c7,c8,c9,c10,c11,c12⟩:=blk13 (h:=xpickH 0) (n:=0) HX4.out;go_wp2_with fail;refine(H2.out).mono ?_;rintro e w6⟨rfl,hb6⟩;have HB6:=hid (HB5.out.trans (hb6.mono HB5.out.size));clear hb6 H2 HB5 HB4 c0 c1 c2 c3 c4 c5 c6 c7 c8 c9 c10 c11 c12 HX4;have hE6:=err_below HE.out HB6.out;have HC:=hid (fun W (hW:Below w6.heap.size w6 W)=>Er.code_is 7 (by decide) W (err_below hE6 hW));clear hE6;go_wp2_with fail;refine(HC.out _ (Below.refl _ _)).mono ?_;rintro e w7⟨rfl,hb7⟩;have HB7:=hid (HB6.out.trans (hb7.mono HB6.out.size));clear hb7 HC;go_wp2_with fail;go_ret;exact⟨rfl,HB7.out⟩
end
end Go.Proofs.YtmodehfedhgcbaaGreatDoor.Ck

/- Lemmas. No condition. -/
import Derived.Test.YtmodehfedhgcbaaGreatDoorB3
import Derived.Test.YtmodehfedhgcbaaGreatDoorB6
import Derived.Test.YtmodehfedhgcbaaGreatDoorD2
set_option linter.unusedVariables false
namespace Go.Proofs.YtmodehfedhgcbaaGreatDoor
open Go.RowKit Ieee
theorem below_cell{w w':World}(h:Below w.heap.size w w'){a:Addr}{v:Value}(hc:w.cell? a=some v):w'.cell? a=some v:=(h.cell (World.block_lt_of_cell? _ _ hc)).trans hc
structure Tabs (Q qo qc P off c F fo fc:Nat) (w:World):Prop where
 f0:w.cell? ⟨11,0,none⟩=some (.int .u64 52)
 f1:w.cell? ⟨11,1,none⟩=some (.int .u64 11)
 f2:w.cell? ⟨11,2,none⟩=some (.int .i64 (-1023))
 pt:w.cell? ⟨13,0,none⟩=some (.slice (some ⟨Q,qo,none⟩) 9 qc)
 pw:∀i,i<9→w.cell? ⟨Q,qo+i,none⟩=some (.int .i64 (powN i:Int))
 ch:Cheat w P off c
 flp:FlP w F fo fc
 p10:P10 w
 opt:w.cell? ⟨10,0,none⟩=some (.bool true)
 e6:∃te pe,w.cell? ⟨6,0,none⟩=some (.iface te pe)
 e7:∃te pe,w.cell? ⟨7,0,none⟩=some (.iface te pe)
 size:17≤w.heap.size
section
variable {Q qo qc P off c F fo fc:Nat} {w w':World}
theorem Tabs.below(h:Tabs Q qo qc P off c F fo fc w)(hb:Below w.heap.size w w'):Tabs Q qo qc P off c F fo fc w':=by
 obtain⟨te6,pe6,h6⟩:=h.e6;obtain⟨te7,pe7,h7⟩:=h.e7;exact⟨below_cell hb h.f0,below_cell hb h.f1,below_cell hb h.f2,below_cell hb h.pt,fun i hi=>below_cell hb (h.pw i hi),⟨below_cell hb h.ch.1,fun k hk=>⟨below_cell hb (h.ch.2 k hk).1,below_cell hb (h.ch.2 k hk).2⟩⟩,
  ⟨below_cell hb h.flp.1,fun i hi=>by obtain⟨y,a,b⟩:=h.flp.2 i hi;exact⟨y,below_cell hb a,b⟩⟩,fun i hi=>⟨below_cell hb (h.p10 i hi).1,below_cell hb (h.p10 i hi).2⟩,below_cell hb h.opt,
  ⟨te6,pe6,below_cell hb h6⟩,⟨te7,pe7,below_cell hb h7⟩,Nat.le_trans h.size hb.size⟩
theorem Tabs.env(h:Tabs Q qo qc P off c F fo fc w)(hb:Below w.heap.size w w'):Env w' w.heap.size Q qo qc P off c:=by have h':=h.below hb;have l (p:Addr) (v:Value) (hc:w.cell? p=some v):p.block<w.heap.size:=World.block_lt_of_cell? _ _ hc;have l10:=l _ _ h.f0;have l12:=l _ _ h.pt;have l15:=l _ _ h.ch.1;have lQ:=l _ _ (h.pw 0 (by omega));have lP:=l _ _ (h.ch.2 0 (by omega)).1;exact⟨h'.f0,h'.f1,h'.f2,h'.pt,h'.pw,h'.ch,by dsimp only at l10;omega,by dsimp only at l12;omega,by dsimp only at l15;omega,by dsimp only at lQ;omega,by dsimp only at lP;omega⟩
end
def isZ(v:Option Value):Bool:=match v with|some (.int .u8 0)=>true|_=>false
theorem isZ_is{v:Option Value}(h:isZ v=true):v=some (.int .u8 0):=by
 unfold isZ at h;split at h
 ·rfl
 ·cases h
theorem zero_all:((List.range 800).all fun i=>isZ Tryz.zeroCells236[i]?)=true:=by decide+kernel
theorem zero_size:Tryz.zeroCells236.size=804:=by decide+kernel
theorem dz_new(w:World):Dz (w.alloc (.cells Tryz.zeroCells236 236)) w.heap.size (fun _=>0) 0 0 false false:=⟨_,Blk.new _ _ _,zero_size,fun i hi=>isZ_is (List.all_eq_true.1 zero_all i (List.mem_range.2 hi)),by kernel_rfl,by kernel_rfl,by kernel_rfl,by kernel_rfl⟩
theorem Dse.ok{w:World}{B:Nat}{f:Nat→Nat}{nd:Nat}{dp:Int}{ng tr:Bool}(h:Dse w B f nd dp ng tr):nd=0∨Dok w B f nd dp ng tr:=by
 by_cases h0:nd=0
 ·exact .inl h0
 ·exact .inr ⟨h.dz,h.dg,h.first (by omega),by omega,h.le⟩
theorem Al.cut{s:ByteArray}(h:Al s)(i:Nat)(hi:i≤s.size):Al (s.extract 0 i):=by
 intro j hj;have hj2:j<s.size:=by rw[ByteArray.size_extract]at hj;omega
 have h3:=h j hj2;have e:(s.extract 0 i)[j]=s[j]:=by simp[ByteArray.getElem_extract]
 rw[e];exact h3
end Go.Proofs.YtmodehfedhgcbaaGreatDoor

set_option linter.unusedVariables false
set_option maxRecDepth 100000
set_option maxHeartbeats 4000000
namespace Go.Proofs.YtmodehfedhgcbaaGreatDoor
open Go.RowKit Ieee
open Lib (hid)
def FlE(v:Value):Prop:=v=.nilIface∨v=.iface 197 (.int .i64 1)∨v=.iface 197 (.int .i64 2)
theorem Err.fl{v:Value}(h:Err v):FlE v:=by rcases h with h|h;exact .inl h;exact .inr (.inl h)
def A64P(w:World)(e:Ending)(w':World):Prop:=(∃(b n:Nat) (er:Value),e=.returned (.tuple #[.float .f64 b,.int .i64 (n:Int),er])∧FlE er)∧Below w.heap.size w w'
theorem u64_nat(op:BinOp)(a b:Int):∃n:Nat,bits op IntKind.u64 a b=(n:Int):=⟨(bits op IntKind.u64 a b).toNat,by have:=bits_lo_u64 op a b;omega⟩
theorem atof64_any{Q qo qc P off c F fo fc:Nat}(s:ByteArray)(w:World)(hT:Tabs Q qo qc P off c F fo fc w)(hs:s.size≤400)(ha:Al s):
 Calls Tryz.prog 160 #[.string s] w (A64P w):=by
 have HSp:=hid (special_none s w ha (by omega));have HR:=hid (read_any s w hs ha);have HT:=hid hT;have HA:=hid ha;have opt:=hT.opt;have HF:=fun(n:Nat) w=>frombits n w;clear hT ha;go_enter Tryz.func160,Tryz.ntmps160;go_wp2_with fail;refine HSp.out.mono ?_;rintro e w1⟨rfl,rfl⟩;go_wp2_with fail;refine HR.out.mono ?_;rintro e w1⟨z,x,ng,tr,i,ok,rfl,hz,x1,x2,hi,rfl⟩;clear HSp HR;cases ok with
 |false=>
  go_wp2_with fail
  ((try simp only[Exit.inBlock,Exit.then]);refine bodyPost_ret (results_tmp3 rfl _ _ _) rfl ?_)
  exact⟨⟨_,_,_,rfl,.inr (.inr rfl)⟩,Below.refl _ _⟩
 |true=>
  obtain⟨q,hq,hq1⟩:∃q:Nat,(if ng=true then(1:Int)else 0)=(q:Int)∧q≤1:=by
   cases ng
   ·exact⟨0,rfl,by omega⟩
   ·exact⟨1,rfl,by omega⟩
  have HB:=hid (fun W=>bool2_any ng W);rw[hq]at HB;clear hq;obtain⟨sg,hsg⟩:∃sg:Nat,(q:Int)*9223372036854775808=(sg:Int):=⟨q*9223372036854775808,by omega⟩
  have hsg1:sg<18446744073709551616:=by omega
  obtain⟨n0,hn0⟩:=u64_nat BinOp.or (sg:Int) 0;obtain⟨n1,hn1⟩:=u64_nat BinOp.or (sg:Int) 9218868437227405312;by_cases hz0:z=0
  ·subst hz0
   go_wp2_with fail;refine(HB.out _).mono ?_;rintro e w1⟨rfl,rfl⟩;go_wp2_with fail
   ((try simp only[Exit.inBlock,Exit.then]);refine bodyPost_ret (results_tmp3 rfl _ _ _) rfl ?_)
   exact⟨⟨_,_,_,rfl,.inl rfl⟩,Below.refl _ _⟩
  ·have hz0f:((z:Int)==0)=false:=beq_eq_false_iff_ne.2 (by omega)
   by_cases hx1:310<x
   ·go_wp2_with fail
    refine(HB.out _).mono ?_;rintro e w1⟨rfl,rfl⟩;go_wp2_with fail
    ((try simp only[Exit.inBlock,Exit.then]);refine bodyPost_ret (results_tmp3 rfl _ _ _) rfl ?_)
    exact⟨⟨_,_,_,rfl,.inr (.inl rfl)⟩,Below.refl _ _⟩
   ·have hx1f:decide (310<x)=false:=decide_eq_false hx1
    by_cases hx2:x< -345
    ·go_wp2_with fail
     refine(HB.out _).mono ?_;rintro e w1⟨rfl,rfl⟩;go_wp2_with fail
     ((try simp only[Exit.inBlock,Exit.then]);refine bodyPost_ret (results_tmp3 rfl _ _ _) rfl ?_)
     exact⟨⟨_,_,_,rfl,.inl rfl⟩,Below.refl _ _⟩
    ·have hx2f:decide (x< -345)=false:=decide_eq_false hx2
     have HP:=hid (parse64_any z sg x w (by omega) (by omega) hsg1 (by omega) (by omega) HT.out.p10 HT.out.size);have HP2:=hid (fun w1 (hb:Below w.heap.size w w1)=>parse64_any (z+1) sg x w1 (by omega) (by omega) hsg1 (by omega) (by omega) (HT.out.below hb).p10 (HT.out.below hb).size);have ec:((z+1:Nat):Int)=(z:Int)+1:=by omega
     rw[ec]at HP2;clear ec;have HX:=hid (exact_any z x ng F fo fc w (by omega) (by omega) (by omega) HT.out.f0 HT.out.flp);clear hx1 hx2 hz0;go_wp2_with fail;refine(HB.out _).mono ?_;rintro e w1⟨rfl,rfl⟩;go_upto_if 88 with fail
     go_cut [3,4,17,18] (fun s3 s4 s17 s18 wx=>s3=.int .i64 i∧s4=.nilIface∧w=wx)
     case first=>as_aux_lemma=>
      cases tr with
      |true=>
       go_wp2_with fail
       go_meet
       exact⟨rfl,rfl,rfl⟩
      |false=>
       go_wp2_with fail;refine HX.out.mono ?_;rintro e w1⟨⟨b,ok,rfl⟩,rfl⟩;cases ok with
       |true=>
        go_wp2_with fail
        ((try simp only[Exit.inBlock,Exit.then]);refine bodyPost_ret (results_tmp3 rfl _ _ _) rfl ?_)
        exact⟨⟨_,_,_,rfl,.inl rfl⟩,Below.refl _ _⟩
       |false=>
        go_wp2_with fail
        go_meet
        exact⟨rfl,rfl,rfl⟩
     case rest=>as_aux_lemma=>
      obtain⟨rfl,rfl,rfl⟩:=hcut;clear HX HB;go_wp2_with fail;refine HP.out.mono ?_;rintro e w1⟨⟨f,er,rfl,her⟩,hb1⟩;have HB1:=hid hb1;have HER:=hid her;clear hb1 her HP;cases tr with
      |false=>
       go_wp2_with fail
       ((try simp only[Exit.inBlock,Exit.then]);refine bodyPost_ret (results_tmp3 rfl _ _ _) rfl ?_)
       exact⟨⟨_,_,_,rfl,HER.out.fl⟩,HB1.out⟩
      |true=>
       go_wp2_with fail;refine(HP2.out _ HB1.out).mono ?_;rintro e w2⟨⟨f1,er1,rfl,her1⟩,hb2⟩;have HB2:=hid (HB1.out.trans (hb2.mono HB1.out.size));clear her1 hb2 HP2;obtain⟨g,hg⟩:∃b,(FloatKind.f64.format.order f f1==some .eq)=b:=⟨_,rfl⟩
       cases g with
       |true=>
        go_wp2_with fail
        ((try simp only[Exit.inBlock,Exit.then]);refine bodyPost_ret (results_tmp3 rfl _ _ _) rfl ?_)
        exact⟨⟨_,_,_,rfl,HER.out.fl⟩,HB2.out⟩
       |false=>
        have hii:(i:Int)≤(s.size:Int):=by omega
        have HST:=hid (set_any w2.heap.size (s.extract 0 i) _ _ (dz_new w2) (by rw[ByteArray.size_extract];omega) (HA.out.cut i hi));go_wp2_with fail;refine HST.out.mono ?_;rintro e w3⟨⟨bb,rfl,hset⟩,hm⟩;have HB3:=hid (hm.below (((Below.refl w2.heap.size w2).alloc (Nat.le_refl _) (.cells Tryz.zeroCells236 236))));have HB3w:=hid (HB2.out.trans (HB3.out.mono HB2.out.size));clear hm HST;cases bb with
        |false=>
         clear hset;go_wp2_with fail
         ((try simp only[Exit.inBlock,Exit.then]);refine bodyPost_ret (results_tmp3 rfl _ _ _) rfl ?_)
         exact⟨⟨_,_,_,rfl,.inr (.inr rfl)⟩,HB3w.out⟩
        |true=>
         obtain⟨fd,nd,dp,ng2,tr2,hd⟩:=hset rfl;have HBT:=hid (bits_any w2.heap.size Q qo qc P off c fd nd dp ng2 tr2 w3 hd.dz hd.ok ((HT.out.below HB2.out).env HB3.out));clear hset hd;go_wp2_with fail;refine HBT.out.mono ?_;rintro e w4⟨⟨z4,ov,rfl,z40,z41⟩,hm2⟩;obtain⟨zn,rfl⟩:∃n:Nat,z4=(n:Int):=⟨z4.toNat,by omega⟩
         have HB4:=hid (HB2.out.trans ((hm2.below HB3.out).mono HB2.out.size));clear hm2 HBT;cases ov with
         |false=>
          go_wp2_with fail
          ((try simp only[Exit.inBlock,Exit.then]);refine bodyPost_ret (results_tmp3 rfl _ _ _) rfl ?_)
          exact⟨⟨_,_,_,rfl,.inl rfl⟩,HB4.out⟩
         |true=>
          go_wp2_with fail
          ((try simp only[Exit.inBlock,Exit.then]);refine bodyPost_ret (results_tmp3 rfl _ _ _) rfl ?_)
          exact⟨⟨_,_,_,rfl,.inr (.inl rfl)⟩,HB4.out⟩
end Go.Proofs.YtmodehfedhgcbaaGreatDoor

set_option linter.unusedVariables false
namespace Go.Proofs.YtmodehfedhgcbaaGreatDoor
open Go.RowKit Ieee
open Lib (hid)
abbrev nameS:ByteArray:=⟨#[80,97,114,115,101,70,108,111,97,116]⟩
def PafP(w:World)(e:Ending)(w':World):Prop:=(∃(b:Nat) (er:Value),e=.returned (.tuple #[.float .f64 b,er])∧FlE er)∧Below w.heap.size w w'
def FltP(w:World)(e:Ending)(w':World):Prop:=(∃(b:Nat) (er:Value),e=.returned (.tuple #[.float .f64 b,er]))∧Below w.heap.size w w'
section
variable {Q qo qc P off c F fo fc:Nat}
theorem prefix64_any(s:ByteArray)(w:World)(hT:Tabs Q qo qc P off c F fo fc w)(hs:s.size≤400)(ha:Al s):
 Calls Tryz.prog 147 #[.string s,.int .i64 64] w (A64P w):=by
 have H:=hid (atof64_any s w hT hs ha);clear hT ha;go_enter Tryz.func147,Tryz.ntmps147;go_wp2_with fail;refine H.out.mono ?_;rintro e w1⟨⟨b,n,er,rfl,her⟩,hb⟩;have HE:=hid her;have HB:=hid hb;clear her hb;go_wp2_with fail
 ((try simp only[Exit.inBlock,Exit.then]);refine bodyPost_ret (results_tmp3 rfl _ _ _) rfl ?_)
 exact⟨⟨_,_,_,rfl,HE.out⟩,HB.out⟩
theorem inner_any(s:ByteArray)(w:World)(hT:Tabs Q qo qc P off c F fo fc w)(hs:s.size≤400)(ha:Al s):
 Calls Tryz.prog 135 #[.string s,.int .i64 64] w (PafP w):=by
 have H:=hid (prefix64_any s w hT hs ha);clear hT ha;go_enter Tryz.func135,Tryz.ntmps135;go_wp2_with fail;refine H.out.mono ?_;rintro e w1⟨⟨b,n,er,rfl,her⟩,hb⟩;have HE:=hid her;have HB:=hid hb;clear her hb;by_cases hn:n=s.size
 ·have hnf:((n:Int) != (s.size:Int))=false:=by simp;omega
  clear hn;go_wp2_with fail
  (try simp only[Exit.inBlock,Exit.then])
  refine bodyPost_ret (results_tmp2 rfl _ _ _) rfl ?_;exact⟨⟨_,_,rfl,HE.out⟩,HB.out⟩
 ·have hnf:((n:Int) != (s.size:Int))=true:=by simp;omega
  clear hn;go_wp2_with fail
  (try simp only[Exit.inBlock,Exit.then])
  refine bodyPost_ret (results_tmp2 rfl _ _ _) rfl ?_;exact⟨⟨_,_,rfl,.inr (.inr rfl)⟩,HB.out⟩
theorem float_any(s:ByteArray)(w:World)(hT:Tabs Q qo qc P off c F fo fc w)(hs:s.size≤400)(ha:Al s):
 Calls Tryz.prog 125 #[.string s,.int .i64 64] w (FltP w):=by
 have H:=hid (inner_any s w hT hs ha);have HT:=hid hT;clear hT ha;go_enter Tryz.func125,Tryz.ntmps125;go_wp2_with fail;refine H.out.mono ?_;rintro e w1⟨⟨b,er,rfl,her⟩,hb⟩;have HT1:=HT.out.below hb;obtain⟨te6,pe6,h6⟩:=HT1.e6;obtain⟨te7,pe7,h7⟩:=HT1.e7;have H6:=hid (Tryz.strconv_toError_syntax nameS s 0 64 _ w1 (by omega) h6 (.inr ⟨_,_,rfl⟩));have H7:=hid (Tryz.strconv_toError_range nameS s 0 64 _ w1 (by omega) h7 (.inr ⟨_,_,rfl⟩));have HB:=hid hb;clear HT1 hb h6 h7 H;rcases her with rfl|rfl|rfl
 ·go_wp2_with fail
  (try simp only[Exit.inBlock,Exit.then])
  refine bodyPost_ret (results_tmp2 rfl _ _ _) rfl ?_;exact⟨⟨_,_,rfl⟩,HB.out⟩
 ·go_wp2_with fail
  refine H7.out.mono ?_;rintro e w2⟨N,rfl,hN,hc,hb2⟩;have HB2:=hid (HB.out.trans (hb2.mono HB.out.size));clear hN hc hb2;go_wp2_with fail
  (try simp only[Exit.inBlock,Exit.then])
  refine bodyPost_ret (results_tmp2 rfl _ _ _) rfl ?_;exact⟨⟨_,_,rfl⟩,HB2.out⟩
 ·go_wp2_with fail
  refine H6.out.mono ?_;rintro e w2⟨N,rfl,hN,hc,hb2⟩;have HB2:=hid (HB.out.trans (hb2.mono HB.out.size));clear hN hc hb2;go_wp2_with fail
  (try simp only[Exit.inBlock,Exit.then])
  refine bodyPost_ret (results_tmp2 rfl _ _ _) rfl ?_;exact⟨⟨_,_,rfl⟩,HB2.out⟩
end
end Go.Proofs.YtmodehfedhgcbaaGreatDoor

set_option linter.unusedVariables false
set_option maxRecDepth 100000
set_option maxHeartbeats 1000000
namespace Go.Proofs.YtmodehfedhgcbaaGreatDoor
open Go.RowKit Ieee
open Lib (hid)
def Alk(b:UInt8):Prop:=(48≤b.toNat∧b.toNat≤57)∨b.toNat=46∨b.toNat=43∨b.toNat=45∨b.toNat=101∨b.toNat=69
theorem take_mem{g:List UInt8}{s:ByteArray}{k:Nat}(h:takeB g s k=true):∃hk:k<s.size,s[k]∈g:=by
 unfold takeB at h;split at h
 ·rename_i hk
  refine⟨hk,?_⟩;rw[←Lib.contains_iff_indexByte]at h;simpa using h
 ·cases h
theorem digs_all(s:ByteArray):∀(f k i:Nat),s.size-k≤f→k≤i→i<k+digs s k→takeB [48,49,50,51,52,53,54,55,56,57] s i=true
 |f,k,i,hf,h1,h2=>by
  cases ht:takeB [48,49,50,51,52,53,54,55,56,57] s k with
  |false=>rw[digs_no ht]at h2;omega
  |true=>
   by_cases e:i=k
   ·subst e;exact ht
   ·rw[digs_yes ht]at h2
    have hl:=take_lt ht
    match f with
    |0=>omega
    |f+1=>exact digs_all s f (k+1) i (by omega) (by omega) (by omega)
def AlTo(s:ByteArray)(n:Nat):Prop:=∀i (h:i<s.size),i<n→Alk s[i]
theorem alto_take{s:ByteArray}{k:Nat}{g:List UInt8}(h:AlTo s k)(hg:∀b∈g,Alk b):AlTo s (nxt (takeB g s k) k):=by
 intro i hi hk;cases ht:takeB g s k with
 |false=>rw[ht]at hk;exact h i hi hk
 |true=>
  rw[ht]at hk;have hk:i<k+1:=hk;by_cases e:i=k
  ·subst e
   obtain⟨_,hm⟩:=take_mem ht;exact hg _ hm
  ·exact h i hi (by omega)
theorem al_tens:∀b∈([48,49,50,51,52,53,54,55,56,57]:List UInt8),Alk b:=by
 intro b hb;have:∀b∈([48,49,50,51,52,53,54,55,56,57]:List UInt8),48≤b.toNat∧b.toNat≤57:=by decide
 exact .inl (this b hb)
theorem alto_digs{s:ByteArray}{k:Nat}(h:AlTo s k):AlTo s (k+digs s k):=by
 intro i hi hk;by_cases e:i<k
 ·exact h i hi e
 ·obtain⟨_,hm⟩:=take_mem (digs_all s _ k i (Nat.le_refl _) (by omega) hk)
  exact al_tens _ hm
theorem alto_size{s:ByteArray}{n:Nat}(h:AlTo s n)(hn:n=s.size):Al s:=by subst hn;exact fun i hi=>h i hi hi
theorem endB_al{s:ByteArray}{c:Nat}(h:AlTo s c)(he:endB s c=true):Al s:=by
 unfold endB at he;split at he
 ·exact alto_size h (Int.ofNat.inj (beq_iff_eq.1 he))
 ·rename_i ht
  split at he
  ·cases he
  ·have h1:AlTo s (c+1):=by have:=alto_take (g:=[101,69]) h (by intro b hb;simp at hb;rcases hb with rfl|rfl<;>(unfold Alk;decide));rw[ht]at this;exact this
   have h2:=alto_take (g:=[43,45]) h1 (by intro b hb;simp at hb;rcases hb with rfl|rfl<;>(unfold Alk;decide));exact alto_size (alto_digs h2) (by have he:=beq_iff_eq.1 he;exact Int.ofNat.inj he)
theorem decB_al{s:ByteArray}(h:decB s=true):Al s:=by
 have h0:AlTo s 0:=fun i _ hi=>absurd hi (Nat.not_lt_zero _);have h1:=alto_digs (alto_take (g:=[45]) h0 (by intro b hb;simp at hb;subst hb;unfold Alk;decide));unfold decB at h;split at h
 ·split at h
  ·cases h
  ·exact endB_al h1 h
 ·rename_i ht
  split at h
  ·cases h
  ·have h2:=alto_take (g:=[46]) h1 (by intro b hb;simp at hb;subst hb;unfold Alk;decide)
   rw[ht]at h2;exact endB_al (alto_digs h2) h
def numT(s:ByteArray):Bool:=decide (s.size≤200)&&decB s
theorem bits64_at(b:Nat)(w:World):(callFunc 66 #[.float .f64 b]).run Tryz.prog w=.ok (.value (.int .u64 (b:Int))) w:=by kernel_rfl
structure NoWord (s:ByteArray):Prop where
 a:(s.toList==[78,97,78])=false
 b:(s.toList==[73,110,102])=false
 c:(s.toList==[43,73,110,102])=false
 d:(s.toList==[45,73,110,102])=false
section
variable {Q qo qc P off c F fo fc:Nat}
def numEr:Bool→Value
 |true=>.nilIface
 |false=>.iface 41 (.int .i64 13)
def ValP(s:ByteArray)(w:World)(e:Ending)(w':World):Prop:=(∃v:Int,e=.returned (.tuple #[.int .u64 v,numEr (numT s)]))∧Below w.heap.size w w'
theorem value_any(s:ByteArray)(w:World)(hT:Tabs Q qo qc P off c F fo fc w)(hw:NoWord s)(hs:s.size≤65536):
 Calls Tryz.prog 110 #[.string s] w (ValP s w):=by
 obtain⟨n1,n2,n3,n4⟩:=hw;have hb:=fun b w=>bits64_at b w;by_cases h200:s.size≤200
 ·have d:decide ((200:Int)<(s.size:Int))=false:=decide_eq_false (by omega)
  have HD:=hid (dec_any s (by omega));have h400:s.size≤400:=by omega
  cases hd:decB s with
  |true=>
   have HA:=hid (decB_al hd);have HT:=hid hT;have HN:Hid (numEr (numT s)=.nilIface):=by show _=_;unfold numT;rw[hd,decide_eq_true h200];rfl
   rw[hd]at HD;clear hd hT h200;go_enter Tryz.func110,Tryz.ntmps110;go_wp2_with fail;refine(HD.out _).mono ?_;rintro e w1⟨rfl,hb1⟩;have HB1:=hid hb1;have HF:=hid (float_any s w1 (HT.out.below hb1) h400 HA.out);clear hb1;go_wp2_with fail;refine(HF.out).mono ?_;rintro e w2⟨⟨b,er,rfl⟩,hb2⟩;have HB2:=hid (HB1.out.trans (hb2.mono HB1.out.size));clear hb2;go_wp2_with fail
   go_ret2
   exact⟨⟨(b:Int),by rw[HN.out];rfl⟩,HB2.out⟩
  |false=>
   have HN:Hid (numEr (numT s)=.iface 41 (.int .i64 13)):=by show _=_;unfold numT;rw[hd,Bool.and_false];rfl
   rw[hd]at HD;clear hd hT h200;go_enter Tryz.func110,Tryz.ntmps110;go_wp2_with fail;refine(HD.out _).mono ?_;rintro e w1⟨rfl,hb1⟩;have HB1:=hid hb1;clear hb1;go_wp2_with fail
   go_ret2
   exact⟨⟨0,by rw[HN.out];rfl⟩,HB1.out⟩
 ·have d:decide ((200:Int)<(s.size:Int))=true:=decide_eq_true (by omega)
  have HN:Hid (numEr (numT s)=.iface 41 (.int .i64 13)):=by show _=_;unfold numT;rw[decide_eq_false h200];rfl
  clear hT h200;go_enter Tryz.func110,Tryz.ntmps110;go_wp2_with fail
  go_ret2
  exact⟨⟨0,by rw[HN.out];rfl⟩,Below.refl _ _⟩
end
end Go.Proofs.YtmodehfedhgcbaaGreatDoor

/- Lemmas. No condition. -/
import Derived.Test.YticmkabafmmlhaaGreatDoorRows
import Derived.WalkKit
import Derived.WalkLawsBesides
import Derived.WalkSpells
import Derived.RegionTactic
import Derived.Deep.QuietTactic
import Derived.BigQuiet
import Derived.Deep.LoopGhost
import Derived.Lib.Hide
import Derived.Handy
import Derived.Laws.BitsAllLaws
import Derived.Test.YticmkabafmmlhaaGreatDoorKXaj
import Derived.Laws.Rows
import Derived.Laws.DeepNot64
import Derived.Deep.RegionHeld3
import Derived.Deep.DeepCutAuto
import Derived.Maps.AppendAt
import Derived.Test.YticmkabafmmlhaaGreatDoorShelfj
import Derived.Deep.AppendLies
import Derived.Deep.RegionLaw
set_option linter.unusedVariables false
set_option maxRecDepth 100000
set_option maxHeartbeats 2000000
namespace Go.Proofs.YticmkabafmmlhaaGreatDoor.Rg
open Go.RowKit Rx
open Lib (hid)
def uw(n i:Nat):Int:=((wd n i:Nat):Int)
abbrev wv(n i:Nat):Value:=.int .u64 (uw n i)
abbrev setV(n:Nat):Value:=.agg #[wv n 0,wv n 1,wv n 2,wv n 3]
theorem or_word(n m i:Nat):bits .or .u64 ((wd n i:Nat):Int) ((wd m i:Nat):Int)=((wd (n|||m) i:Nat):Int):=by rw[u64_or_nat _ _ (wd_lt _ _) (wd_lt _ _),wd_or]
theorem with_any(n m:Nat)(w:World):
 Calls Tryz.prog 206 #[setV n,setV m] w fun e w'=>e=.returned (setV (n|||m))∧Below w.heap.size w w':=by
 have e0:=or_word n m 0;have e1:=or_word n m 1;have e2:=or_word n m 2;have e3:=or_word n m 3;unfold setV wv uw;generalize wd n 0=x0 at*
 generalize wd n 1=x1 at*
 generalize wd n 2=x2 at*
 generalize wd n 3=x3 at*
 generalize wd m 0=y0 at*
 generalize wd m 1=y1 at*
 generalize wd m 2=y2 at*
 generalize wd m 3=y3 at*
 go_enter Tryz.func206,Tryz.ntmps206;go_wp2;refine wp_loop_rounds 5 ?_;rw[rounds_succ];go_wp2;go_region;go_wp2;rw[rounds_succ];go_wp2;go_region;go_wp2;rw[rounds_succ];go_wp2;go_region;go_wp2;rw[rounds_succ];go_wp2;go_region;go_wp2;rw[rounds_succ];go_wp2;exact bodyPost_ret (v:=.agg #[.int .u64 (wd (n|||m) 0:Nat),.int .u64 (wd (n|||m) 1:Nat),.int .u64 (wd (n|||m) 2:Nat),.int .u64 (wd (n|||m) 3:Nat)]) (by simp[results,Tryz.results206,go_sem]) rfl ⟨rfl,by go_grown⟩
def Blk(w:World)(g:Nat)(t:TypeId)(cs:Array Value):Prop:=w.heap[g]? =some (.cells cs t (0,0))
theorem Blk.lt{w:World}{g:Nat}{t:TypeId}{cs:Array Value}(h:Blk w g t cs):g<w.heap.size:=by
 rcases Nat.lt_or_ge g w.heap.size with hlt|hge
 ·exact hlt
 ·unfold Blk at h;rw[Array.getElem?_eq_none hge]at h;cases h
theorem Blk.cell{w:World}{g:Nat}{t:TypeId}{cs:Array Value}(h:Blk w g t cs)(i:Nat):w.cell? ⟨g,i,none⟩=cs[i]? :=cell_of_row w g i cs t (0,0) h
theorem Blk.frozen{w:World}{g:Nat}{t:TypeId}{cs:Array Value}(h:Blk w g t cs)(i:Nat):w.frozen? ⟨g,i,none⟩=false:=by unfold Blk at h;simp[World.frozen?,h]
theorem Blk.new(w:World)(t:TypeId)(cs:Array Value):Blk (w.alloc (.cells cs t)) w.heap.size t cs:=heap_alloc_new w _
theorem Blk.set_{w:World}{g:Nat}{t:TypeId}{cs:Array Value}(h:Blk w g t cs)(i:Nat)(u:Value):Blk (w.setCell ⟨g,i,none⟩ u) g t (cs.setIfInBounds i u):=by
 unfold Blk at h⊢
 simp[World.setCell,Array.getElem?_modify,h]
theorem Blk.alloc{w:World}{g:Nat}{t:TypeId}{cs:Array Value}(h:Blk w g t cs)(o:Obj):Blk (w.alloc o) g t cs:=(Below.heap_alloc w o g h.lt).trans h
theorem Blk.below{w w':World}{g:Nat}{t:TypeId}{cs:Array Value}(h:Blk w g t cs)(hb:Below w.heap.size w w'):Blk w' g t cs:=(hb.block g h.lt).trans h
theorem Blk.other{w:World}{g k:Nat}{t:TypeId}{cs:Array Value}(h:Blk w g t cs)(hk:g≠k)(i:Nat)(u:Value):Blk (w.setCell ⟨k,i,none⟩ u) g t cs:=(Below.heap_setCell w ⟨k,i,none⟩ u g hk).trans h
theorem Blk.grown{w w':World}{g:Nat}{t:TypeId}{cs:Array Value}{row:Option Nat}(h:Blk w g t cs)(hg:w.grownBy w' row)(hne:row≠some g):Blk w' g t cs:=(hg.block g h.lt (fun e=>hne e.symm)).trans h
theorem below_cell{w w':World}(h:Below w.heap.size w w'){a:Addr}{v:Value}(hc:w.cell? a=some v):w'.cell? a=some v:=(h.cell (World.block_lt_of_cell? _ _ hc)).trans hc
theorem grown_set(w:World)(g i:Nat)(u:Value):w.grownBy (w.setCell ⟨g,i,none⟩ u) (some g):=⟨rfl,rfl,rfl,by simp[World.setCell],fun k _ hk=>Below.heap_setCell w ⟨g,i,none⟩ u k (fun e=>hk (by rw[e]))⟩
theorem grown_drew{w w':World}{row:Option Nat}(h:w.grownBy w' row):w.grownBy w'.drew row:=⟨h.os,h.tape,h.output,h.size,h.block⟩
theorem below_grown{w w':World}(h:Below w.heap.size w w')(row:Option Nat):w.grownBy w' row:=⟨h.os,h.tape,h.output,h.size,fun k hk _=>h.block k hk⟩
theorem wrap_pow(j:Nat)(hj:j<64):IntKind.u64.wrap (2^j)=((2^j:Nat):Int):=by
 have h:(2:Nat)^j<2^64:=two_lt hj;have e:((2:Int)^j)=((2^j:Nat):Int):=by simp
 rw[e,IntKind.wrap_u64];generalize (2:Nat)^j=z at*
 omega
theorem or_bit(n k i j:Nat)(hi:k/64=i)(hj:k% 64=j):bits .or .u64 ((wd n i:Nat):Int) (IntKind.u64.wrap (2^j))=((wd (n|||2^k) i:Nat):Int):=by subst hi;subst hj;rw[wrap_pow _ (Nat.mod_lt _ (by decide)),u64_or_nat _ _ (wd_lt _ _) (show(2:Nat)^(k% 64)<2^64 from two_lt (Nat.mod_lt _ (by decide))),wd_add]
theorem add_any(n k g:Nat)(hk:k<256)(w:World)(hg:Blk w g 202 #[wv n 0,wv n 1,wv n 2,wv n 3]):
 Calls Tryz.prog 240 #[.pointer (some ⟨g,0,none⟩),.int .i64 k] w fun e w'=>e=.returned (.tuple #[])∧Blk w' g 202 #[wv (n|||2^k) 0,wv (n|||2^k) 1,wv (n|||2^k) 2,wv (n|||2^k) 3]∧w.grownBy w' (some g):=by
 obtain⟨j,hj⟩:∃j,j=k% 64:=⟨_,rfl⟩
 have h2:(k:Int)% 64=(j:Int):=by omega
 have hj4:j<64:=by omega
 have c0:=hg.cell 0;have c1:=hg.cell 1;have c2:=hg.cell 2;have c3:=hg.cell 3;simp only[List.getElem?_toArray,List.getElem?_cons_zero,List.getElem?_cons_succ]at c0 c1 c2 c3;unfold wv uw at c0 c1 c2 c3;have f0:=hg.frozen 0;have f1:=hg.frozen 1;have f2:=hg.frozen 2;have f3:=hg.frozen 3;have HG:=hid hg;clear hg;rcases(by omega:k/64=0∨k/64=1∨k/64=2∨k/64=3)with hq|hq|hq|hq;all_goals
  have HO:=hid (or_bit n k _ j hq hj.symm);have HN:=hid (fun i (h:i≠k/64)=>wd_add_ne n k i h);rw[hq]at HN;first
   |have h1:(k:Int)/64=0:=by omega
   |have h1:(k:Int)/64=1:=by omega
   |have h1:(k:Int)/64=2:=by omega
   |have h1:(k:Int)/64=3:=by omega
  clear hq hj;go_enter Tryz.func240,Tryz.ntmps240;go_wp2;go_region;go_wp2;refine bodyPost_end (v:=.tuple #[]) (by simp[results,Tryz.results240,go_sem]) rfl ⟨rfl,?_,?_⟩
  ·rw[HO.out]
   unfold wv uw;first
    |(rw[HN.out 1 (by decide),HN.out 2 (by decide),HN.out 3 (by decide)];exact HG.out.set_ 0 _)
    |(rw[HN.out 0 (by decide),HN.out 2 (by decide),HN.out 3 (by decide)];exact HG.out.set_ 1 _)
    |(rw[HN.out 0 (by decide),HN.out 1 (by decide),HN.out 3 (by decide)];exact HG.out.set_ 2 _)
    |(rw[HN.out 0 (by decide),HN.out 1 (by decide),HN.out 2 (by decide)];exact HG.out.set_ 3 _)
  ·exact grown_drew (grown_set _ _ _ _)
theorem not_word(n i:Nat)(hn:n<2^256)(hi:i<4):bits .xor .u64 18446744073709551615 ((wd n i:Nat):Int)=((wd (notS n) i:Nat):Int):=by
 have h:=wd_lt n i;rw[wd_not n i hn hi];show IntKind.u64.wrap ((BitVec.ofInt 64 18446744073709551615^^^BitVec.ofInt 64 ((wd n i:Nat):Int)).toNat:Int)=_;have h1:BitVec.ofInt 64 18446744073709551615=BitVec.allOnes 64:=by decide
 rw[h1,BitVec.allOnes_xor,BitVec.toNat_not,ofInt_u64 _ h,IntKind.wrap_u64];omega
theorem not_any(n:Nat)(hn:n<2^256)(w:World):
 Calls Tryz.prog 225 #[setV n] w fun e w'=>e=.returned (setV (notS n))∧Below w.heap.size w w':=by
 have e0:=not_word n 0 hn (by decide);have e1:=not_word n 1 hn (by decide);have e2:=not_word n 2 hn (by decide);have e3:=not_word n 3 hn (by decide);unfold setV wv uw;generalize wd n 0=x0 at*
 generalize wd n 1=x1 at*
 generalize wd n 2=x2 at*
 generalize wd n 3=x3 at*
 generalize wd (notS n) 0=y0 at*
 generalize wd (notS n) 1=y1 at*
 generalize wd (notS n) 2=y2 at*
 generalize wd (notS n) 3=y3 at*
 clear hn;have hs:IntKind.u64.signed=false:=rfl;have hm:IntKind.u64.max=18446744073709551615:=by decide
 go_enter Tryz.func225,Tryz.ntmps225;go_wp2;refine wp_loop_rounds 5 ?_;rw[rounds_succ];go_wp2;rw[rounds_succ];go_wp2;rw[rounds_succ];go_wp2;rw[rounds_succ];go_wp2;rw[rounds_succ];go_wp2;exact bodyPost_ret (v:=.agg #[.int .u64 y0,.int .u64 y1,.int .u64 y2,.int .u64 y3]) (by simp[results,Tryz.results225,go_sem]) rfl ⟨rfl,by go_grown⟩
theorem wv_zero(i:Nat):wv 0 i=.int .u64 0:=by unfold wv uw;rw[wd_zero];rfl
theorem one_any(c:Nat)(hc:c<256)(w:World):
 Calls Tryz.prog 227 #[.int .u8 c] w fun e w'=>e=.returned (setV (2^c))∧Below w.heap.size w w':=by
 have H:=hid (fun g W hg=>add_any 0 c g hc W hg);go_enter Tryz.func227,Tryz.ntmps227;go_wp2_with fail;have hb:Blk ((w.alloc (.cells #[.int .u64 0,.int .u64 0,.int .u64 0,.int .u64 0] 202)).alloc (.cells #[.int .u64 0,.int .u64 0,.int .u64 0,.int .u64 0] 202)) (w.heap.size+1) 202 #[wv 0 0,wv 0 1,wv 0 2,wv 0 3]:=by rw[wv_zero,wv_zero,wv_zero,wv_zero];have:=Blk.new (w.alloc (.cells #[.int .u64 0,.int .u64 0,.int .u64 0,.int .u64 0] 202)) 202 #[.int .u64 0,.int .u64 0,.int .u64 0,.int .u64 0];rw[World.size_alloc]at this;exact this
 have HB:=hid hb;clear hb;refine(H.out _ _ HB.out).mono ?_;rintro e w1⟨rfl,hk,hg⟩;have hr:Blk w1 w.heap.size 202 #[.int .u64 0,.int .u64 0,.int .u64 0,.int .u64 0]:=((Blk.new w 202 _).alloc _).grown hg (by intro e;injection e;omega);have hbel:Below w.heap.size w w1:=(((Below.refl _ _).alloc (Nat.le_refl _) _).alloc (by simp) _).grown hg (by simp;omega) (fun k hk=>by injection hk;omega);rw[Nat.zero_or]at hk;have r0:=hr.cell 0;have r1:=hr.cell 1;have r2:=hr.cell 2;have r3:=hr.cell 3;have q0:=hr.frozen 0;have q1:=hr.frozen 1;have q2:=hr.frozen 2;have q3:=hr.frozen 3;have k0:=hk.cell 0;have k1:=hk.cell 1;have k2:=hk.cell 2;have k3:=hk.cell 3;simp only[List.getElem?_toArray,List.getElem?_cons_zero,List.getElem?_cons_succ]at r0 r1 r2 r3 k0 k1 k2 k3;have HL:=hid hbel;clear hr hk hg hbel HB;go_wp2;refine bodyPost_ret (v:=.agg #[wv (2^c) 0,wv (2^c) 1,wv (2^c) 2,wv (2^c) 3]) (by simp[results,Tryz.results227,go_sem,r0,r1,r2,r3]) rfl ?_;exact⟨rfl,(((HL.out.setCell (p:=⟨w.heap.size,0,none⟩) (Nat.le_refl _) _).setCell (p:=⟨w.heap.size,1,none⟩) (Nat.le_refl _) _).setCell (p:=⟨w.heap.size,2,none⟩) (Nat.le_refl _) _).setCell (p:=⟨w.heap.size,3,none⟩) (Nat.le_refl _) _⟩
def idx(t:Nat):Nat:=2^t*285870213051353865% 18446744073709551616/288230376151711744
def TzT(w:World):Prop:=∀t,t<64→w.cell? ⟨9,idx t,none⟩=some (.int .u8 t)
theorem TzT.below{w w':World}(h:TzT w)(hb:Below w.heap.size w w'):TzT w':=fun t ht=>below_cell hb (h t ht)
theorem neg_word(t q x:Nat)(hx:x=2^t*(2*q+1))(h:x<18446744073709551616):bits .and .u64 (x:Int) (IntKind.u64.wrap (-(x:Int)))=((2^t:Nat):Int):=by
 have hp:0<x:=by rw[hx];exact Nat.mul_pos (two_pos t) (by omega)
 have e:IntKind.u64.wrap (-(x:Int))=((18446744073709551616-x:Nat):Int):=by rw[IntKind.wrap_u64];omega
 rw[e,u64_and_nat _ _ h (by omega),hx,and_neg t q (by rw[←hx];exact h)]
theorem idx_lt(t:Nat):idx t<64:=by unfold idx;omega
theorem mul_word(t:Nat):IntKind.u64.wrap (((2^t:Nat):Int)*285870213051353865)=((2^t*285870213051353865% 18446744073709551616:Nat):Int):=by rw[IntKind.wrap_u64];omega
theorem tz_walk(x p m i:Nat)(t:Int)(w:World)(h0:((x:Int)==0)=false)(hA:bits .and .u64 (x:Int) (IntKind.u64.wrap (-(x:Int)))=(p:Int))
 (hm:IntKind.u64.wrap ((p:Int)*285870213051353865)=(m:Int)) (hi:(m:Int)/288230376151711744=(i:Int)) (hi4:i<64) (hc:w.cell? ⟨9,i,none⟩=some (.int .u8 t)) (ht0:0≤t) (ht:t<64):
 Calls Tryz.prog 146 #[.int .u64 (x:Int)] w fun e w'=>e=.returned (.int .i64 t)∧w=w':=by
 go_enter Tryz.func146,Tryz.ntmps146;go_wp2;go_ret;exact⟨rfl,rfl⟩
theorem tz_any(t q x:Nat)(hx:x=2^t*(2*q+1))(h:x<18446744073709551616)(w:World)(hT:TzT w):
 Calls Tryz.prog 146 #[.int .u64 (x:Int)] w fun e w'=>e=.returned (.int .i64 (t:Int))∧w=w':=by
 have ht:t<64:=low_lt t q (by rw[←hx];exact h);have hp:0<x:=by rw[hx];exact Nat.mul_pos (two_pos t) (by omega)
 refine tz_walk x (2^t) (2^t*285870213051353865% 18446744073709551616) (idx t) t w (beq_eq_false_iff_ne.2 (by omega)) (neg_word t q x hx h) (mul_word t) ?_ (idx_lt t) (hT t ht) (Int.natCast_nonneg _) (by omega);unfold idx;rw[Int.natCast_ediv];rfl
end Go.Proofs.YticmkabafmmlhaaGreatDoor.Rg

set_option linter.unusedVariables false
set_option maxRecDepth 100000
set_option maxHeartbeats 8000000
namespace Go.Proofs.YticmkabafmmlhaaGreatDoor.Rg
open Go.RowKit Rx
open Lib (hid)
theorem pred_word(t q x:Nat)(hx:x=2^t*(2*q+1))(h:x<18446744073709551616):bits .and .u64 (x:Int) ((x:Int)-1)=((2^t*(2*q):Nat):Int):=by
 have hp:0<x:=by rw[hx];exact Nat.mul_pos (two_pos t) (by omega)
 have e:((x:Int)-1)=((x-1:Nat):Int):=by omega
 rw[e,u64_and_nat _ _ h (by omega),hx,and_pred t q]
theorem inv_skip{Inv:Nat→World→Prop}{n:Nat}(hskip:∀b w,n.testBit b=false→Inv b w→Inv (b+1) w)(w:World)(c:Nat):∀d,(∀j,c≤j→j<c+d→n.testBit j=false)→Inv c w→Inv (c+d) w
 |0,_,h=>h
 |d+1,hj,h=>hskip (c+d) w (hj (c+d) (by omega) (by omega)) (inv_skip hskip w c d (fun j h1 h2=>hj j h1 (by omega)) h)
theorem agg0(a b c d:Int)(w:World):(Instr.index 202 (.agg #[.int .u64 a,.int .u64 b,.int .u64 c,.int .u64 d]) (.int .i64 0)).run Tryz.prog w=.ok (.int .u64 a) w:=by kernel_rfl
theorem agg1(a b c d:Int)(w:World):(Instr.index 202 (.agg #[.int .u64 a,.int .u64 b,.int .u64 c,.int .u64 d]) (.int .i64 1)).run Tryz.prog w=.ok (.int .u64 b) w:=by kernel_rfl
theorem agg2(a b c d:Int)(w:World):(Instr.index 202 (.agg #[.int .u64 a,.int .u64 b,.int .u64 c,.int .u64 d]) (.int .i64 2)).run Tryz.prog w=.ok (.int .u64 c) w:=by kernel_rfl
theorem agg3(a b c d:Int)(w:World):(Instr.index 202 (.agg #[.int .u64 a,.int .u64 b,.int .u64 c,.int .u64 d]) (.int .i64 3)).run Tryz.prog w=.ok (.int .u64 d) w:=by kernel_rfl
theorem each_83(n:Nat)(c1 c2:Value)(Inv:Nat→World→Prop)(w:World)
 (h0:∀o,Inv 0 (w.alloc o)) (hT:∀b w,Inv b w→TzT w)
 (hstep:∀b w,b<256→n.testBit b=true→Inv b w→Calls Tryz.prog 229 #[.int .i64 b,c1,c2] w fun e w'=>e=.returned (.tuple #[])∧Inv (b+1) w')
 (hskip:∀b w,n.testBit b=false→Inv b w→Inv (b+1) w):
 Calls Tryz.prog 228 #[setV n,.func (.func 229) #[] #[c1,c2]] w fun e w'=>e=.returned (.tuple #[])∧Inv 256 w':=by
 have H0:=hid h0;have HT:=hid hT;have HS:=hid hstep;have HK:=hid hskip;have HW:=hid (word_from n);clear h0 hT hstep hskip;have HU:Hid (∀i:Nat,uw n i=((wd (from_ n (64*i)) i:Nat):Int)):=fun i=>by unfold uw;rw[HW.out]
 clear HW;show Calls Tryz.prog 228 #[.agg #[.int .u64 (uw n 0),.int .u64 (uw n 1),.int .u64 (uw n 2),.int .u64 (uw n 3)],.func (.func 229) #[] #[c1,c2]] w _;rw[HU.out 0,HU.out 1,HU.out 2,HU.out 3];clear HU;generalize hu0:wd (from_ n (64*0)) 0=u0;generalize hu1:wd (from_ n (64*1)) 1=u1;generalize hu2:wd (from_ n (64*2)) 2=u2;generalize hu3:wd (from_ n (64*3)) 3=u3;have g0:=hid hu0;have g1:=hid hu1;have g2:=hid hu2;have g3:=hid hu3;clear hu0 hu1 hu2 hu3;go_enter Tryz.func228,Tryz.ntmps228;go_wp2
 go_loopw [4,5,7] (fun s4 s5 s7 wr=>∃i:Nat,i≤4∧s7=.int .i64 i∧Hid (Inv (64*i) wr)) (fun s4 s5 s7 _=>(4-intOf s7).toNat)
 case atStart=>exact⟨0,by omega,rfl,H0.out _⟩
 case round=>
  obtain⟨i,hi,rfl,HI⟩:=hrel;rcases(by omega:i=0∨i=1∨i=2∨i=3∨i=4)with e|e|e|e|e
  ·subst e
   rw[show((0:Nat):Int)=0 from rfl];have hx:=fun w=>agg0 u0 u1 u2 u3 w;go_wp2;clear hx
   go_loopw [5] (fun s5 wr=>∃x c:Nat,s5=.int .u64 x∧64*0≤c∧c≤64*(0+1)∧Hid (wd (from_ n c) 0=x)∧Hid (Inv c wr)) (fun s5 _=>(intOf s5).toNat)
   case atStart=>exact⟨u0,64*0,rfl,by omega,by omega,g0,HI⟩
   case round=>
    obtain⟨x,c,rfl,hc1,hc2,HX,HC⟩:=hrel;by_cases hx0:x=0
    ·subst hx0
     rw[show((0:Nat):Int)=0 from rfl];go_wp2
     go_roundw
     case rel=>refine⟨0+1,by omega,rfl,?_⟩;have:=inv_skip HK.out _ c (64*(0+1)-c) (fun j h1 h2=>word_none n c 0 HX.out hc1 j h1 (by omega)) HC.out;rw[show c+(64*(0+1)-c)=64*(0+1) by omega]at this;exact this
     case measure=>simp[intOf]
    ·obtain⟨t,q,hf⟩:=low_form x hx0
     have hlt:x<18446744073709551616:=by have:=wd_lt (from_ n c) 0;rw[HX.out]at this;exact this
     obtain⟨ht,hct,hbit,hgap,hleft⟩:=word_next n c 0 t q (HX.out.trans hf) hc1;have hxne:((x:Int) != 0)=true:=by simp;exact hx0
     have hp:=pred_word t q x hf hlt;have HT1:=hid (fun W (hI:Inv (64*0+t) W)=>tz_any t q x hf hlt W (HT.out _ W hI));have HI1:Hid (Inv (64*0+t) wr):=by have:=inv_skip HK.out _ c (64*0+t-c) (fun j h1 h2=>hgap j h1 (by omega)) HC.out;rw[show c+(64*0+t-c)=64*0+t by omega]at this;exact this
     have hs1:=HS.out (64*0+t) wr (by omega) hbit HI1.out;rw[show((64*0+t:Nat):Int)=(t:Int) by omega]at hs1;have HS1:=hid hs1;have HL:Hid (wd (from_ n (64*0+t+1)) 0=2^t*(2*q)):=hleft.symm;have hsm:2^t*(2*q)<x:=by rw[hf];exact Nat.mul_lt_mul_of_pos_left (by omega) (two_pos t)
     generalize 2^t*(2*q)=y at*
     clear hf hbit hgap hleft hs1;go_wp2_with fail;refine(HT1.out _ HI1.out).mono ?_;rintro e w1⟨rfl,rfl⟩;go_wp2_with fail;refine HS1.out.mono ?_;rintro e w1⟨rfl,hi1⟩;have HI2:=hid hi1;clear hi1;go_wp2
     go_roundw
     case rel=>exact⟨y,64*0+t+1,rfl,by omega,by omega,HL,HI2⟩
     case measure=>simp[intOf];omega
  ·subst e
   rw[show((1:Nat):Int)=1 from rfl];have hx:=fun w=>agg1 u0 u1 u2 u3 w;go_wp2;clear hx
   go_loopw [5] (fun s5 wr=>∃x c:Nat,s5=.int .u64 x∧64*1≤c∧c≤64*(1+1)∧Hid (wd (from_ n c) 1=x)∧Hid (Inv c wr)) (fun s5 _=>(intOf s5).toNat)
   case atStart=>exact⟨u1,64*1,rfl,by omega,by omega,g1,HI⟩
   case round=>
    obtain⟨x,c,rfl,hc1,hc2,HX,HC⟩:=hrel;by_cases hx0:x=0
    ·subst hx0
     rw[show((0:Nat):Int)=0 from rfl];go_wp2
     go_roundw
     case rel=>refine⟨1+1,by omega,rfl,?_⟩;have:=inv_skip HK.out _ c (64*(1+1)-c) (fun j h1 h2=>word_none n c 1 HX.out hc1 j h1 (by omega)) HC.out;rw[show c+(64*(1+1)-c)=64*(1+1) by omega]at this;exact this
     case measure=>simp[intOf]
    ·obtain⟨t,q,hf⟩:=low_form x hx0
     have hlt:x<18446744073709551616:=by have:=wd_lt (from_ n c) 1;rw[HX.out]at this;exact this
     obtain⟨ht,hct,hbit,hgap,hleft⟩:=word_next n c 1 t q (HX.out.trans hf) hc1;have hxne:((x:Int) != 0)=true:=by simp;exact hx0
     have hp:=pred_word t q x hf hlt;have HT1:=hid (fun W (hI:Inv (64*1+t) W)=>tz_any t q x hf hlt W (HT.out _ W hI));have HI1:Hid (Inv (64*1+t) wr):=by have:=inv_skip HK.out _ c (64*1+t-c) (fun j h1 h2=>hgap j h1 (by omega)) HC.out;rw[show c+(64*1+t-c)=64*1+t by omega]at this;exact this
     have hs1:=HS.out (64*1+t) wr (by omega) hbit HI1.out;rw[show((64*1+t:Nat):Int)=64+(t:Int) by omega]at hs1;have HS1:=hid hs1;have HL:Hid (wd (from_ n (64*1+t+1)) 1=2^t*(2*q)):=hleft.symm;have hsm:2^t*(2*q)<x:=by rw[hf];exact Nat.mul_lt_mul_of_pos_left (by omega) (two_pos t)
     generalize 2^t*(2*q)=y at*
     clear hf hbit hgap hleft hs1;go_wp2_with fail;refine(HT1.out _ HI1.out).mono ?_;rintro e w1⟨rfl,rfl⟩;go_wp2_with fail;refine HS1.out.mono ?_;rintro e w1⟨rfl,hi1⟩;have HI2:=hid hi1;clear hi1;go_wp2
     go_roundw
     case rel=>exact⟨y,64*1+t+1,rfl,by omega,by omega,HL,HI2⟩
     case measure=>simp[intOf];omega
  ·subst e
   rw[show((2:Nat):Int)=2 from rfl];have hx:=fun w=>agg2 u0 u1 u2 u3 w;go_wp2;clear hx
   go_loopw [5] (fun s5 wr=>∃x c:Nat,s5=.int .u64 x∧64*2≤c∧c≤64*(2+1)∧Hid (wd (from_ n c) 2=x)∧Hid (Inv c wr)) (fun s5 _=>(intOf s5).toNat)
   case atStart=>exact⟨u2,64*2,rfl,by omega,by omega,g2,HI⟩
   case round=>
    obtain⟨x,c,rfl,hc1,hc2,HX,HC⟩:=hrel;by_cases hx0:x=0
    ·subst hx0
     rw[show((0:Nat):Int)=0 from rfl];go_wp2
     go_roundw
     case rel=>refine⟨2+1,by omega,rfl,?_⟩;have:=inv_skip HK.out _ c (64*(2+1)-c) (fun j h1 h2=>word_none n c 2 HX.out hc1 j h1 (by omega)) HC.out;rw[show c+(64*(2+1)-c)=64*(2+1) by omega]at this;exact this
     case measure=>simp[intOf]
    ·obtain⟨t,q,hf⟩:=low_form x hx0
     have hlt:x<18446744073709551616:=by have:=wd_lt (from_ n c) 2;rw[HX.out]at this;exact this
     obtain⟨ht,hct,hbit,hgap,hleft⟩:=word_next n c 2 t q (HX.out.trans hf) hc1;have hxne:((x:Int) != 0)=true:=by simp;exact hx0
     have hp:=pred_word t q x hf hlt;have HT1:=hid (fun W (hI:Inv (64*2+t) W)=>tz_any t q x hf hlt W (HT.out _ W hI));have HI1:Hid (Inv (64*2+t) wr):=by have:=inv_skip HK.out _ c (64*2+t-c) (fun j h1 h2=>hgap j h1 (by omega)) HC.out;rw[show c+(64*2+t-c)=64*2+t by omega]at this;exact this
     have hs1:=HS.out (64*2+t) wr (by omega) hbit HI1.out;rw[show((64*2+t:Nat):Int)=128+(t:Int) by omega]at hs1;have HS1:=hid hs1;have HL:Hid (wd (from_ n (64*2+t+1)) 2=2^t*(2*q)):=hleft.symm;have hsm:2^t*(2*q)<x:=by rw[hf];exact Nat.mul_lt_mul_of_pos_left (by omega) (two_pos t)
     generalize 2^t*(2*q)=y at*
     clear hf hbit hgap hleft hs1;go_wp2_with fail;refine(HT1.out _ HI1.out).mono ?_;rintro e w1⟨rfl,rfl⟩;go_wp2_with fail;refine HS1.out.mono ?_;rintro e w1⟨rfl,hi1⟩;have HI2:=hid hi1;clear hi1;go_wp2
     go_roundw
     case rel=>exact⟨y,64*2+t+1,rfl,by omega,by omega,HL,HI2⟩
     case measure=>simp[intOf];omega
  ·subst e
   rw[show((3:Nat):Int)=3 from rfl];have hx:=fun w=>agg3 u0 u1 u2 u3 w;go_wp2;clear hx
   go_loopw [5] (fun s5 wr=>∃x c:Nat,s5=.int .u64 x∧64*3≤c∧c≤64*(3+1)∧Hid (wd (from_ n c) 3=x)∧Hid (Inv c wr)) (fun s5 _=>(intOf s5).toNat)
   case atStart=>exact⟨u3,64*3,rfl,by omega,by omega,g3,HI⟩
   case round=>
    obtain⟨x,c,rfl,hc1,hc2,HX,HC⟩:=hrel;by_cases hx0:x=0
    ·subst hx0
     rw[show((0:Nat):Int)=0 from rfl];go_wp2
     go_roundw
     case rel=>refine⟨3+1,by omega,rfl,?_⟩;have:=inv_skip HK.out _ c (64*(3+1)-c) (fun j h1 h2=>word_none n c 3 HX.out hc1 j h1 (by omega)) HC.out;rw[show c+(64*(3+1)-c)=64*(3+1) by omega]at this;exact this
     case measure=>simp[intOf]
    ·obtain⟨t,q,hf⟩:=low_form x hx0
     have hlt:x<18446744073709551616:=by have:=wd_lt (from_ n c) 3;rw[HX.out]at this;exact this
     obtain⟨ht,hct,hbit,hgap,hleft⟩:=word_next n c 3 t q (HX.out.trans hf) hc1;have hxne:((x:Int) != 0)=true:=by simp;exact hx0
     have hp:=pred_word t q x hf hlt;have HT1:=hid (fun W (hI:Inv (64*3+t) W)=>tz_any t q x hf hlt W (HT.out _ W hI));have HI1:Hid (Inv (64*3+t) wr):=by have:=inv_skip HK.out _ c (64*3+t-c) (fun j h1 h2=>hgap j h1 (by omega)) HC.out;rw[show c+(64*3+t-c)=64*3+t by omega]at this;exact this
     have hs1:=HS.out (64*3+t) wr (by omega) hbit HI1.out;rw[show((64*3+t:Nat):Int)=192+(t:Int) by omega]at hs1;have HS1:=hid hs1;have HL:Hid (wd (from_ n (64*3+t+1)) 3=2^t*(2*q)):=hleft.symm;have hsm:2^t*(2*q)<x:=by rw[hf];exact Nat.mul_lt_mul_of_pos_left (by omega) (two_pos t)
     generalize 2^t*(2*q)=y at*
     clear hf hbit hgap hleft hs1;go_wp2_with fail;refine(HT1.out _ HI1.out).mono ?_;rintro e w1⟨rfl,rfl⟩;go_wp2_with fail;refine HS1.out.mono ?_;rintro e w1⟨rfl,hi1⟩;have HI2:=hid hi1;clear hi1;go_wp2
     go_roundw
     case rel=>exact⟨y,64*3+t+1,rfl,by omega,by omega,HL,HI2⟩
     case measure=>simp[intOf];omega
  ·subst e
   rw[show((4:Nat):Int)=4 from rfl];go_wp2;exact bodyPost_end (v:=.tuple #[]) (by simp[results,Tryz.results228,go_sem]) rfl ⟨rfl,HI.out⟩
def flatS:List Nat→List Value
 |[]=>[]
 |t::r=>wv t 0::wv t 1::wv t 2::wv t 3::flatS r
theorem flatS_append(a b:List Nat):flatS (a++b)=flatS a++flatS b:=by
 induction a with
 |nil=>rfl
 |cons t a ih=>simp[flatS,ih]
theorem flatS_length(l:List Nat):(flatS l).length=l.length*4:=by
 induction l with
 |nil=>rfl
 |cons t a ih=>simp[flatS,ih];omega
theorem flatS_at(l:List Nat)(i:Nat)(h:i<l.length):(flatS l)[i*4]? =some (wv (l.getD i 0) 0)∧(flatS l)[i*4+1]? =some (wv (l.getD i 0) 1)∧(flatS l)[i*4+2]? =some (wv (l.getD i 0) 2)∧(flatS l)[i*4+3]? =some (wv (l.getD i 0) 3):=by
 induction l generalizing i with
 |nil=>simp at h
 |cons t a ih=>
  cases i with
  |zero=>simp[flatS]
  |succ i=>have:=ih i (by simpa using h);simp only[flatS];rw[show(i+1)*4=i*4+1+1+1+1 by omega,show i*4+1+1+1+1+1=(i*4+1)+1+1+1+1 by omega,show i*4+1+1+1+1+2=(i*4+2)+1+1+1+1 by omega,show i*4+1+1+1+1+3=(i*4+3)+1+1+1+1 by omega];simpa using this
theorem flatS_one(l:List Nat):∀u∈flatS l,u.oneCell'=true:=by
 induction l with
 |nil=>intro u hu;simp[flatS]at hu
 |cons t a ih=>
  intro u hu;simp only[flatS,List.mem_cons]at hu;rcases hu with rfl|rfl|rfl|rfl|hu
  ·rfl
  ·rfl
  ·rfl
  ·rfl
  ·exact ih u hu
theorem flatS_set(l:List Nat)(i u:Nat)(h:i<l.length):((((flatS l).set (i*4) (wv u 0)).set (i*4+1) (wv u 1)).set (i*4+2) (wv u 2)).set (i*4+3) (wv u 3)=flatS (l.set i u):=by
 induction l generalizing i with
 |nil=>simp at h
 |cons t a ih=>
  cases i with
  |zero=>simp[flatS]
  |succ i=>have:=ih i (by simpa using h);simp only[flatS,List.set_cons_succ];rw[show(i+1)*4=i*4+1+1+1+1 by omega,show i*4+1+1+1+1+1=(i*4+1)+1+1+1+1 by omega,show i*4+1+1+1+1+2=(i*4+2)+1+1+1+1 by omega,show i*4+1+1+1+1+3=(i*4+3)+1+1+1+1 by omega];simp only[List.set_cons_succ,this]
abbrev rowS(w:World)(v:Value)(l:List Nat):Prop:=w.ownsRow 10 202 4 v l.length (flatS l)
abbrev rdC(T F:Value)(l:ByteArray)(a o:Int):Array Value:=#[T,F,.int .u64 0,.int .u64 0,.int .u64 0,.int .u64 0,.int .u64 0,.int .u64 0,.int .u64 0,.int .u64 0,.bool false,.string l,.int .i64 a,.int .i64 o]
structure Rdr (w:World) (b:Nat) (T F:Value) (l:ByteArray) (m:Mach) (a o:Nat):Prop where
 blk:Blk w b 208 (rdC T F l a o)
 low:10≤b
 tk:rowS w T m.takes
 fl:rowS w F m.follow
 apart:∀g,T.ownBlock=some g→F.ownBlock≠some g
def Foot(b:Nat)(T F:Value)(j:Nat):Prop:=j=b∨T.ownBlock=some j∨F.ownBlock=some j
structure Moves (b:Nat) (T F:Value) (w:World) (T' F':Value) (w':World):Prop where
 os:w'.os=w.os
 tape:w'.tape=w.tape
 output:w'.output=w.output
 size:w.heap.size≤w'.heap.size
 block:∀j,j<w.heap.size→¬Foot b T F j→w'.heap[j]? =w.heap[j]?
 foot:∀j,j<w.heap.size→Foot b T' F' j→Foot b T F j
theorem Moves.refl(b:Nat)(T F:Value)(w:World):Moves b T F w T F w:=⟨rfl,rfl,rfl,Nat.le_refl _,fun _ _ _=>rfl,fun _ _ h=>h⟩
theorem Moves.trans{b:Nat}{T F T1 F1 T2 F2:Value}{w w1 w2:World}(h:Moves b T F w T1 F1 w1)(k:Moves b T1 F1 w1 T2 F2 w2):Moves b T F w T2 F2 w2:=
 ⟨k.os.trans h.os,k.tape.trans h.tape,k.output.trans h.output,Nat.le_trans h.size k.size,
   fun j hj hn=>(k.block j (Nat.lt_of_lt_of_le hj h.size) (fun hf=>hn (h.foot j hj hf))).trans (h.block j hj hn),
   fun j hj hf=>h.foot j hj (k.foot j (Nat.lt_of_lt_of_le hj h.size) hf)⟩
theorem Moves.below{b:Nat}{T F T1 F1:Value}{w w1 w2:World}(h:Moves b T F w T1 F1 w1)(k:Below w1.heap.size w1 w2):Moves b T F w T1 F1 w2:=h.trans ⟨k.os,k.tape,k.output,k.size,fun j hj _=>k.block j hj,fun _ _ h=>h⟩
theorem Moves.alloc{b:Nat}{T F T1 F1:Value}{w w1:World}(h:Moves b T F w T1 F1 w1)(o:Obj):Moves b T F w T1 F1 (w1.alloc o):=h.below ((Below.refl _ _).alloc (Nat.le_refl _) o)
theorem Moves.new{b:Nat}{T F T1 F1:Value}{w w1 w2:World}(h:Moves b T F w T1 F1 w1)(k:Below w.heap.size w1 w2):Moves b T F w T1 F1 w2:=⟨k.os.trans h.os,k.tape.trans h.tape,k.output.trans h.output,Nat.le_trans h.size k.size,fun j hj hn=>(k.block j hj).trans (h.block j hj hn),h.foot⟩
theorem Moves.set_new{b:Nat}{T F T1 F1:Value}{w w1:World}(h:Moves b T F w T1 F1 w1){g:Nat}(hg:w.heap.size≤g)(i:Nat)(u:Value):Moves b T F w T1 F1 (w1.setCell ⟨g,i,none⟩ u):=h.new ((Below.refl _ _).setCell (p:=⟨g,i,none⟩) hg u)
theorem Moves.set_foot{b:Nat}{T F T1 F1:Value}{w w1:World}(h:Moves b T F w T1 F1 w1){g:Nat}(hg:Foot b T1 F1 g)(i:Nat)(u:Value):Moves b T F w T1 F1 (w1.setCell ⟨g,i,none⟩ u):=h.trans ⟨rfl,rfl,rfl,by simp[World.setCell],fun j hj hn=>Below.heap_setCell w1 ⟨g,i,none⟩ u j (fun e=>hn (e▸hg)),fun _ _ h=>h⟩
theorem Moves.drewN{b:Nat}{T F T1 F1:Value}{w w1:World}(h:Moves b T F w T1 F1 w1)(n:Nat):Moves b T F w T1 F1 (w1.drewN n):=⟨h.os,h.tape,h.output,h.size,h.block,h.foot⟩
theorem Moves.drew{b:Nat}{T F T1 F1:Value}{w w1:World}(h:Moves b T F w T1 F1 w1):Moves b T F w T1 F1 w1.drew:=⟨h.os,h.tape,h.output,h.size,h.block,h.foot⟩
theorem own_blk{w:World}{base e s n g:Nat}{v:Value}{xs:List Value}(h:w.ownsRow base e s v n xs)(hv:v.ownBlock=some g):∃cur,w.heap[g]? =some (.cells cur e (0,0)):=by
 rcases h.2 with ⟨h1,_⟩|⟨q,cap,cur,h1,_,h3,_⟩
 ·rw[h1]at hv;cases hv
 ·rw[h1]at hv;injection hv with hv;subst hv;exact⟨cur,h3⟩
theorem Rdr.off{w:World}{b:Nat}{T F:Value}{l:ByteArray}{m:Mach}{a o j:Nat}{t:TypeId}{cs:Array Value}(h:Rdr w b T F l m a o)(hj:Blk w j t cs)(h1:t≠208)(h2:t≠202):¬Foot b T F j:=by
 rintro(rfl|hf|hf)
 ·have e:=h.blk
  unfold Blk at e hj;rw[e]at hj;injection hj with hj;injection hj with _ hj;exact h1 hj.symm
 ·obtain⟨cur,e⟩:=own_blk h.tk hf
  unfold Blk at hj;rw[e]at hj;injection hj with hj;injection hj with _ hj;exact h2 hj.symm
 ·obtain⟨cur,e⟩:=own_blk h.fl hf
  unfold Blk at hj;rw[e]at hj;injection hj with hj;injection hj with _ hj;exact h2 hj.symm
theorem Blk.moves{b:Nat}{T F T1 F1:Value}{w w1:World}{j:Nat}{t:TypeId}{cs:Array Value}(hj:Blk w j t cs)(h:Moves b T F w T1 F1 w1)(hn:¬Foot b T F j):Blk w1 j t cs:=(h.block j hj.lt hn).trans hj
theorem own_ne{w:World}{base e s n k:Nat}{v:Value}{xs:List Value}(h:w.ownsRow base e s v n xs)(hk:v.ownBlock≠some k)(i:Nat)(u:Value):(w.setCell ⟨k,i,none⟩ u).ownsRow base e s v n xs:=h.kept (grown_set w k i u) (.inr hk)
theorem own_below{w w':World}{base e s n:Nat}{v:Value}{xs:List Value}(h:w.ownsRow base e s v n xs)(hb:Below w.heap.size w w'):w'.ownsRow base e s v n xs:=by
 refine⟨h.1,?_⟩;rcases h.2 with h2|⟨q,cap,cur,h1,h2,h3,h4⟩
 ·exact .inl h2
 ·refine .inr ⟨q,cap,cur,h1,h2,?_,h4⟩
  rw[←h3];refine hb.block q ?_;rcases Nat.lt_or_ge q w.heap.size with h|h
  ·exact h
  ·rw[Array.getElem?_eq_none h]at h3;cases h3
theorem Rdr.below{w w':World}{b:Nat}{T F:Value}{l:ByteArray}{m:Mach}{a o:Nat}(h:Rdr w b T F l m a o)(hb:Below w.heap.size w w'):Rdr w' b T F l m a o:=⟨h.blk.below hb,h.low,own_below h.tk hb,own_below h.fl hb,h.apart⟩
theorem Rdr.alloc{w:World}{b:Nat}{T F:Value}{l:ByteArray}{m:Mach}{a o:Nat}(h:Rdr w b T F l m a o)(ob:Obj):Rdr (w.alloc ob) b T F l m a o:=h.below ((Below.refl _ _).alloc (Nat.le_refl _) ob)
theorem Rdr.other{w:World}{b:Nat}{T F:Value}{l:ByteArray}{m:Mach}{a o k:Nat}(h:Rdr w b T F l m a o)(hk:¬Foot b T F k)(i:Nat)(u:Value):Rdr (w.setCell ⟨k,i,none⟩ u) b T F l m a o:=⟨h.blk.other (fun e=>hk (.inl e.symm)) i u,h.low,own_ne h.tk (fun e=>hk (.inr (.inl e))) i u,own_ne h.fl (fun e=>hk (.inr (.inr e))) i u,h.apart⟩
theorem Rdr.t_b{w:World}{b:Nat}{T F:Value}{l:ByteArray}{m:Mach}{a o:Nat}(h:Rdr w b T F l m a o):T.ownBlock≠some b:=by intro hf;obtain⟨cur,e⟩:=own_blk h.tk hf;have hb:=h.blk;unfold Blk at hb;rw[e]at hb;injection hb with hb;injection hb with _ hb;cases hb
theorem Rdr.f_b{w:World}{b:Nat}{T F:Value}{l:ByteArray}{m:Mach}{a o:Nat}(h:Rdr w b T F l m a o):F.ownBlock≠some b:=by intro hf;obtain⟨cur,e⟩:=own_blk h.fl hf;have hb:=h.blk;unfold Blk at hb;rw[e]at hb;injection hb with hb;injection hb with _ hb;cases hb
theorem Rdr.set_at{w:World}{b:Nat}{T F:Value}{l:ByteArray}{m:Mach}{a o:Nat}(h:Rdr w b T F l m a o)(a':Nat)(u:Value)(hu:u=.int .i64 a'):Rdr (w.setCell ⟨b,12,none⟩ u) b T F l m a' o:=by subst hu;exact⟨h.blk.set_ 12 _,h.low,own_ne h.tk h.t_b _ _,own_ne h.fl h.f_b _ _,h.apart⟩
theorem Rdr.set_open{w:World}{b:Nat}{T F:Value}{l:ByteArray}{m:Mach}{a o:Nat}(h:Rdr w b T F l m a o)(o':Nat)(u:Value)(hu:u=.int .i64 o'):Rdr (w.setCell ⟨b,13,none⟩ u) b T F l m a o':=by subst hu;exact⟨h.blk.set_ 13 _,h.low,own_ne h.tk h.t_b _ _,own_ne h.fl h.f_b _ _,h.apart⟩
theorem Rdr.lt_foot{w:World}{b:Nat}{T F:Value}{l:ByteArray}{m:Mach}{a o j:Nat}(h:Rdr w b T F l m a o)(hf:Foot b T F j):j<w.heap.size∧10≤j:=by
 rcases hf with rfl|hf|hf
 ·exact⟨h.blk.lt,h.low⟩
 ·have:=h.tk.lt j hf;exact⟨this.2,this.1⟩
 ·have:=h.fl.lt j hf;exact⟨this.2,this.1⟩
theorem Moves.low{w w1:World}{b:Nat}{T F T1 F1:Value}{l:ByteArray}{m:Mach}{a o:Nat}(h:Moves b T F w T1 F1 w1)(hr:Rdr w b T F l m a o):Below 10 w w1:=⟨h.os,h.tape,h.output,h.size,fun k hk=>h.block k (by have:=hr.blk.lt;have:=hr.low;omega) (fun hf=>by have:=(hr.lt_foot hf).2;omega)⟩
theorem TzT.low{w w1:World}(h:TzT w)(hb:Below 10 w w1):TzT w1:=fun t ht=>(hb.cell (p:=⟨9,idx t,none⟩) (show(9:Nat)<10 by decide)).trans (h t ht)
def ErrAt(w:World)(e:Value)(pl code:Nat):Prop:=∃f,e=.iface 175 (.pointer (some ⟨f,0,none⟩))∧Blk w f 177 #[.int .i64 pl,.iface 40 (.int .i64 code)]
theorem below_drewN(w:World)(n:Nat):Below w.heap.size w (w.drewN n):=⟨rfl,rfl,rfl,Nat.le_refl _,fun _ _=>rfl⟩
theorem Blk.drewN{w:World}{g:Nat}{t:TypeId}{cs:Array Value}(h:Blk w g t cs)(n:Nat):Blk (w.drewN n) g t cs:=h
theorem rd_cells{w:World}{b:Nat}{T F:Value}{l:ByteArray}{m:Mach}{a o:Nat}(h:Rdr w b T F l m a o):
 w.cell? ⟨b,0,none⟩=some T∧w.cell? ⟨b,1,none⟩=some F∧w.cell? ⟨b,11,none⟩=some (.string l)∧w.cell? ⟨b,12,none⟩=some (.int .i64 a)∧w.cell? ⟨b,13,none⟩=some (.int .i64 o):=
 ⟨h.blk.cell 0,h.blk.cell 1,h.blk.cell 11,h.blk.cell 12,h.blk.cell 13⟩
theorem ended_any(b a:Nat)(l:ByteArray)(r:Bool)(hr:decide ((a:Int)=(l.size:Int))=r)(w:World)(hl:l.size≤200)(c1:w.cell? ⟨b,11,none⟩=some (.string l))(c2:w.cell? ⟨b,12,none⟩=some (.int .i64 a)):
 Calls Tryz.prog 150 #[.pointer (some ⟨b,0,none⟩)] w fun e w'=>e=.returned (.bool r)∧∃n,w'=w.drewN n:=by
 have HR:=hid hr;clear hr;go_enter Tryz.func150,Tryz.ntmps150;go_wp2
 go_quiet (fail)
 go_wp2;go_ret;exact⟨by rw[←HR.out];rfl,_,rfl⟩
theorem ib_any(s:ByteArray)(c:Int)(w:World):Calls Tryz.prog 155 #[.string s,.int .u8 c] w fun e w'=>e=.returned (.int .i64 (Lib.indexByte s.data.toList c.toNat.toUInt8))∧w'=w:=Tryz.strings_IndexByte s c w
def Signs(sg:ByteArray)(cs:List Nat):Prop:=cs=sg.data.toList.map UInt8.toNat
theorem index_in(c:UInt8):∀l:List UInt8,decide (0≤Lib.indexByte l c)=(l.map UInt8.toNat).contains c.toNat
 |[]=>by simp[Lib.indexByte]
 |b::l=>by
  have ih:=index_in c l;have hge:=Lib.indexByte_ge l c;unfold Lib.indexByte;simp only[List.map_cons,List.contains_cons];by_cases hb:b=c
  ·subst hb;simp
  ·have h1:(b==c)=false:=by simp[hb]
   have h2:(c.toNat==b.toNat)=false:=by simp only[beq_eq_false_iff_ne,ne_eq];intro h;exact hb (UInt8.toNat_inj.1 h.symm)
   rw[h1,h2,Bool.false_or,←ih,if_neg (by simp)];by_cases h3:Lib.indexByte l c= -1
   ·rw[h3];simp
   ·rw[if_neg (by simpa using h3)]
    rw[Bool.eq_iff_iff];simp;omega
theorem sees_in(b a:Nat)(l sg:ByteArray)(r:Bool)(i:Int)(hr:decide (0≤i)=r)(w:World)(hl:l.size≤200)(ha:a<l.size)(hi:Lib.indexByte sg.data.toList l[a]=i)(c1:w.cell? ⟨b,11,none⟩=some (.string l))(c2:w.cell? ⟨b,12,none⟩=some (.int .i64 a)):
 Calls Tryz.prog 186 #[.pointer (some ⟨b,0,none⟩),.string sg] w fun e w'=>e=.returned (.bool r)∧∃n,w'=w.drewN n:=by
 have hne:decide ((a:Int)=(l.size:Int))=false:=by simp;omega
 have H1:=hid (fun n=>ended_any b a l false hne (w.drewN n) hl c1 c2);have HR:=hid hr;have HI:=hid hi;clear hr hne hi;go_enter Tryz.func186,Tryz.ntmps186;go_wp2
 go_quiet (first|(go_at_call 150;exact Calls.quiet_of (H1.out _))|(go_at_call 155;exact Calls.quiet_of_same ((ib_any _ _ _).mono fun e w' ⟨h1,h2⟩=>⟨h1.trans (by simp[HI.out];rfl),h2⟩)))
 go_wp2;go_ret;exact⟨by rw[←HR.out];rfl,_,rfl⟩
theorem sees_out(b:Nat)(l sg:ByteArray)(w:World)(hl:l.size≤200)(c1:w.cell? ⟨b,11,none⟩=some (.string l))(c2:w.cell? ⟨b,12,none⟩=some (.int .i64 l.size)):
 Calls Tryz.prog 186 #[.pointer (some ⟨b,0,none⟩),.string sg] w fun e w'=>e=.returned (.bool false)∧∃n,w'=w.drewN n:=by
 have H1:=hid (fun n=>ended_any b l.size l true (by simp) (w.drewN n) hl c1 c2);go_enter Tryz.func186,Tryz.ntmps186;go_wp2
 go_quiet (first|(go_at_call 150;exact Calls.quiet_of (H1.out _)))
 go_wp2;go_ret;exact⟨rfl,_,rfl⟩
theorem sees_is(b a:Nat)(l sg:ByteArray)(cs:List Nat)(hs:Signs sg cs)(w:World)(hl:l.size≤200)(ha:a≤l.size)(c1:w.cell? ⟨b,11,none⟩=some (.string l))(c2:w.cell? ⟨b,12,none⟩=some (.int .i64 a)):
 Calls Tryz.prog 186 #[.pointer (some ⟨b,0,none⟩),.string sg] w fun e w'=>e=.returned (.bool (seesAny l a cs))∧∃n,w'=w.drewN n:=by
 by_cases h:a<l.size
 ·refine(sees_in b a l sg (seesAny l a cs) _ ?_ w hl h rfl c1 c2)
  unfold seesAny;rw[decide_eq_true h,Bool.true_and,hs,index_in,by_eq l a h]
 ·obtain rfl:a=l.size:=by omega
  rw[show seesAny l l.size cs=false by unfold seesAny;simp];exact sees_out b l sg w hl c1 c2
theorem sees_one(l:ByteArray)(a c:Nat):seesAny l a [c]=sees l a c:=by unfold seesAny sees;rw[Bool.eq_iff_iff];simp
def sg(l:List UInt8):ByteArray:=⟨l.toArray⟩
theorem sg_bar:Signs ⟨#[124]⟩ [124]:=rfl
theorem sg_cat:Signs ⟨#[124,41]⟩ [124,41]:=rfl
theorem sg_rep:Signs ⟨#[42,43,63]⟩ [42,43,63]:=rfl
theorem sg_par:Signs ⟨#[41]⟩ [41]:=rfl
theorem sg_back:Signs ⟨#[92]⟩ [92]:=rfl
theorem sg_not:Signs ⟨#[94]⟩ [94]:=rfl
theorem sg_end:Signs ⟨#[93]⟩ [93]:=rfl
theorem sg_dash:Signs ⟨#[45]⟩ [45]:=rfl
theorem sg_cls:Signs ⟨#[93,91,94,45]⟩ [93,91,94,45]:=rfl
theorem bad_any(b a:Nat)(w:World)(c2:w.cell? ⟨b,12,none⟩=some (.int .i64 a)):
 Calls Tryz.prog 151 #[.pointer (some ⟨b,0,none⟩)] w fun e w'=>∃f,e=.returned (.iface 175 (.pointer (some ⟨f,0,none⟩)))∧Blk w' f 177 #[.int .i64 a,.iface 40 (.int .i64 2)]∧Below w.heap.size w w':=by
 go_enter Tryz.func151,Tryz.ntmps151;go_wp2;go_ret;exact⟨_,rfl,Blk.new _ _ _,by go_grown⟩
def CharPost(b:Nat)(T F:Value)(l:ByteArray)(m:Mach)(o:Nat)(w:World)(r:CR)(e:Ending)(w':World):Prop:=
 Moves b T F w T F w'∧match r with
 |.bad pl=>∃err,e=.returned (.tuple #[.int .u8 0,err])∧ErrAt w' err pl 2∧Rdr w' b T F l m pl o
 |.ok a c=>e=.returned (.tuple #[.int .u8 c,.nilIface])∧Rdr w' b T F l m a o
theorem charPost_bad{b:Nat}{T F:Value}{l:ByteArray}{m:Mach}{o:Nat}{w w':World}{r:CR}{pl f:Nat}(hr:r=.bad pl)(hM:Moves b T F w T F w')(hR:Rdr w' b T F l m pl o)(hb:Blk w' f 177 #[.int .i64 pl,.iface 40 (.int .i64 2)]):
 CharPost b T F l m o w r (.returned (.tuple #[.int .u8 0,.iface 175 (.pointer (some ⟨f,0,none⟩))])) w':=by
 subst hr;exact⟨hM,_,rfl,⟨f,rfl,hb⟩,hR⟩
theorem charPost_ok{b:Nat}{T F:Value}{l:ByteArray}{m:Mach}{o:Nat}{w w':World}{r:CR}{a c:Nat}{ci:Int}(hr:r=.ok a c)(hc:ci=c)(hM:Moves b T F w T F w')(hR:Rdr w' b T F l m a o):
 CharPost b T F l m o w r (.returned (.tuple #[.int .u8 ci,.nilIface])) w':=by
 subst hr;subst hc;exact⟨hM,rfl,hR⟩
theorem Rdr.drewN{w:World}{b:Nat}{T F:Value}{l:ByteArray}{m:Mach}{a o:Nat}(h:Rdr w b T F l m a o)(n:Nat):Rdr (w.drewN n) b T F l m a o:=h.below (below_drewN w n)
theorem foot_self(b:Nat)(T F:Value):Foot b T F b:=.inl rfl
theorem char_any(b a o:Nat)(T F:Value)(l:ByteArray)(m:Mach)(w:World)(hr:Rdr w b T F l m a o)(hl:l.size≤200)(ha:a≤l.size):
 Calls Tryz.prog 226 #[.pointer (some ⟨b,0,none⟩)] w (CharPost b T F l m o w (charF l a)):=by
 have HF:Hid (∀a1,a1=(if sees l a 92=true then a+1 else a)→charF l a=if a1<l.size then .ok (a1+1) (by_ l a1)else .bad a1):=fun a1 h=>by subst h;rfl
 have HS:=hid (sees_is b a l ⟨#[92]⟩ [92] sg_back w hl ha (rd_cells hr).2.2.1 (rd_cells hr).2.2.2.1);rw[sees_one]at HS;have HE:=hid (fun(a1:Nat) (r:Bool) (h:decide ((a1:Int)=(l.size:Int))=r) W (hR:Rdr W b T F l m a1 o)=>ended_any b a1 l r h W hl (rd_cells hR).2.2.1 (rd_cells hR).2.2.2.1);have HB:=hid (fun(a1:Nat) W (hR:Rdr W b T F l m a1 o)=>bad_any b a1 W (rd_cells hR).2.2.2.1);have HR:=hid hr;clear hr;cases hs:sees l a 92 with
 |true=>
  have hlt:=sees_lt hs;rw[hs]at HS HF;have h1:=HF.out (a+1) rfl;have H1:=hid h1;clear h1 HF hs;go_enter Tryz.func226,Tryz.ntmps226;go_wp2_with fail;refine(HS.out).mono ?_;rintro e w1⟨rfl,n,rfl⟩;have q4:=(rd_cells (HR.out.drewN n)).2.2.2.1;have qf:=(HR.out.drewN n).blk.frozen 12;go_wp2_with fail;obtain⟨a1,ha1⟩:∃a1,a1=a+1:=⟨_,rfl⟩
  have HW:Hid (Rdr ((w.drewN n).setCell ⟨b,12,none⟩ (.int .i64 ((a:Int)+1))) b T F l m a1 o):=(HR.out.drewN n).set_at a1 _ (by rw[ha1];rfl);have HM:Hid (Moves b T F w T F ((w.drewN n).setCell ⟨b,12,none⟩ (.int .i64 ((a:Int)+1)))):=((Moves.refl b T F w).drewN n).set_foot (foot_self b T F) 12 _;rw[←ha1]at H1;have hle:a1≤l.size:=by omega
  generalize (w.drewN n).setCell ⟨b,12,none⟩ (.int .i64 ((a:Int)+1))=W at*
  clear q4 qf ha1;by_cases hlt1:a1<l.size
  ·have e1:=HE.out a1 false (by simp;omega) W HW.out
   have HE1:=hid e1;have h2:charF l a=.ok (a1+1) (by_ l a1):=H1.out.trans (if_pos hlt1);have H2:=hid h2;have hby:=by_eq l a1 hlt1;have HBY:=hid hby;clear e1 h2 hby HE HB H1;refine(HE1.out).mono ?_;rintro e w2⟨rfl,n2,rfl⟩;have HW2:=hid (HW.out.drewN n2);have HM2:=hid (HM.out.drewN n2);generalize W.drewN n2=W2 at*
   clear HW HM;have q3:=(rd_cells HW2.out).2.2.1;have q4:=(rd_cells HW2.out).2.2.2.1;have qf:=HW2.out.blk.frozen 12;go_wp2
   go_quiet (fail)
   go_wp2
   go_ret2
   refine charPost_ok H2.out ?_ ((HM2.out.drewN _).set_foot (foot_self b T F) 12 _) ((HW2.out.drewN _).set_at (a1+1) _ (by rfl));rw[←HBY.out];try rfl
  ·have hEq:a1=l.size:=by omega
   have e1:=HE.out a1 true (by simp;omega) W HW.out;have HE1:=hid e1;have h2:charF l a=.bad a1:=H1.out.trans (if_neg hlt1);have H2:=hid h2;clear e1 h2 HE H1 hEq;refine(HE1.out).mono ?_;rintro e w2⟨rfl,n2,rfl⟩;have HB1:=hid (HB.out a1 _ (HW.out.drewN n2));clear HB;go_wp2_with fail;refine(HB1.out).mono ?_;rintro e w3⟨f,rfl,hbk,hbl⟩;have HBK:=hid hbk;have HBL:=hid hbl;clear hbk hbl;go_wp2
   go_ret2
   exact charPost_bad H2.out ((HM.out.drewN n2).below HBL.out) ((HW.out.drewN n2).below HBL.out) HBK.out
 |false=>
  rw[hs]at HS HF;have h1:=HF.out a rfl;have H1:=hid h1;clear h1 HF hs;go_enter Tryz.func226,Tryz.ntmps226;go_wp2_with fail;refine(HS.out).mono ?_;rintro e w1⟨rfl,n,rfl⟩;have HW:Hid (Rdr (w.drewN n) b T F l m a o):=HR.out.drewN n;have HM:Hid (Moves b T F w T F (w.drewN n)):=(Moves.refl b T F w).drewN n;generalize w.drewN n=W at*
  go_wp2_with fail;by_cases hlt1:a<l.size
  ·have e1:=HE.out (a) false (by simp;omega) W HW.out
   have HE1:=hid e1;have h2:charF l a=.ok (a+1) (by_ l (a)):=H1.out.trans (if_pos hlt1);have H2:=hid h2;have hby:=by_eq l (a) hlt1;have HBY:=hid hby;clear e1 h2 hby HE HB H1;refine(HE1.out).mono ?_;rintro e w2⟨rfl,n2,rfl⟩;have HW2:=hid (HW.out.drewN n2);have HM2:=hid (HM.out.drewN n2);generalize W.drewN n2=W2 at*
   clear HW HM;have q3:=(rd_cells HW2.out).2.2.1;have q4:=(rd_cells HW2.out).2.2.2.1;have qf:=HW2.out.blk.frozen 12;go_wp2
   go_quiet (fail)
   go_wp2
   go_ret2
   refine charPost_ok H2.out ?_ ((HM2.out.drewN _).set_foot (foot_self b T F) 12 _) ((HW2.out.drewN _).set_at (a+1) _ (by rfl));rw[←HBY.out];try rfl
  ·have hEq:a=l.size:=by omega
   have e1:=HE.out (a) true (by simp;omega) W HW.out;have HE1:=hid e1;have h2:charF l a=.bad (a):=H1.out.trans (if_neg hlt1);have H2:=hid h2;clear e1 h2 HE H1 hEq;refine(HE1.out).mono ?_;rintro e w2⟨rfl,n2,rfl⟩;have HB1:=hid (HB.out (a) _ (HW.out.drewN n2));clear HB;go_wp2_with fail;refine(HB1.out).mono ?_;rintro e w3⟨f,rfl,hbk,hbl⟩;have HBK:=hid hbk;have HBL:=hid hbl;clear hbk hbl;go_wp2
   go_ret2
   exact charPost_bad H2.out ((HM.out.drewN n2).below HBL.out) ((HW.out.drewN n2).below HBL.out) HBK.out
theorem CharPost.trans{b:Nat}{T F:Value}{l:ByteArray}{m:Mach}{o:Nat}{w w1 w':World}{r:CR}{e:Ending}(h:Moves b T F w T F w1)(k:CharPost b T F l m o w1 r e w'):CharPost b T F l m o w r e w':=⟨h.trans k.1,k.2⟩
theorem cchar_any(b a o:Nat)(T F:Value)(l:ByteArray)(m:Mach)(w:World)(hr:Rdr w b T F l m a o)(hl:l.size≤200)(ha:a≤l.size):
 Calls Tryz.prog 247 #[.pointer (some ⟨b,0,none⟩)] w (CharPost b T F l m o w (ccharF l a)):=by
 have HS:=hid (sees_is b a l ⟨#[93,91,94,45]⟩ [93,91,94,45] sg_cls w hl ha (rd_cells hr).2.2.1 (rd_cells hr).2.2.2.1);have HB:=hid (fun n=>bad_any b a (w.drewN n) (rd_cells (hr.drewN n)).2.2.2.1);have HC:=hid (fun n=>char_any b a o T F l m (w.drewN n) (hr.drewN n) hl ha);have HR:=hid hr;clear hr;cases hs:seesAny l a [93,91,94,45]with
 |true=>
  rw[hs]at HS;have H1:Hid (ccharF l a=.bad a):=if_pos hs;clear hs;go_enter Tryz.func247,Tryz.ntmps247;go_wp2_with fail;refine(HS.out).mono ?_;rintro e w1⟨rfl,n,rfl⟩;go_wp2_with fail;refine(HB.out n).mono ?_;rintro e w3⟨f,rfl,hbk,hbl⟩;have HBK:=hid hbk;have HBL:=hid hbl;clear hbk hbl;go_wp2
  go_ret2
  exact charPost_bad H1.out (((Moves.refl b T F w).drewN n).below HBL.out) ((HR.out.drewN n).below HBL.out) HBK.out
 |false=>
  rw[hs]at HS;have H1:Hid (ccharF l a=charF l a):=if_neg (by rw[hs];simp);clear hs;go_enter Tryz.func247,Tryz.ntmps247;go_wp2_with fail;refine(HS.out).mono ?_;rintro e w1⟨rfl,n,rfl⟩;have HM:Hid (Moves b T F w T F (w.drewN n)):=(Moves.refl b T F w).drewN n;have HC1:=hid (HC.out n);clear HC HB HS;generalize w.drewN n=W at*
  go_wp2_with fail;refine(HC1.out).mono ?_;rintro e w2 hp;have HP:=hid hp;rw[←H1.out]at HP;obtain⟨hm,hp⟩:=hp;clear HC1;cases hc:charF l a with
  |bad pl=>
   rw[hc]at hp;obtain⟨err,rfl,hp⟩:=hp;clear hp hc hm;go_wp2
   go_ret2
   exact CharPost.trans HM.out HP.out
  |ok a1 c=>
   rw[hc]at hp;obtain⟨rfl,hp⟩:=hp;clear hp hc hm;go_wp2
   go_ret2
   exact CharPost.trans HM.out HP.out
abbrev setC(t:Nat):Array Value:=#[wv t 0,wv t 1,wv t 2,wv t 3]
def ItemPost(b:Nat)(T F:Value)(l:ByteArray)(m:Mach)(o g:Nat)(w0:World)(r:CR)(e:Ending)(w':World):Prop:=
 Moves b T F w0 T F w'∧match r with
 |.bad pl=>∃err,e=.returned err∧ErrAt w' err pl 2
 |.ok a t=>e=.returned .nilIface∧Rdr w' b T F l m a o∧Blk w' g 202 (setC t)
theorem itemPost_bad{b:Nat}{T F:Value}{l:ByteArray}{m:Mach}{o g:Nat}{w0 w':World}{r:CR}{pl f:Nat}(hr:r=.bad pl)(hM:Moves b T F w0 T F w')(hb:Blk w' f 177 #[.int .i64 pl,.iface 40 (.int .i64 2)]):
 ItemPost b T F l m o g w0 r (.returned (.iface 175 (.pointer (some ⟨f,0,none⟩)))) w':=by
 subst hr;exact⟨hM,_,rfl,⟨f,rfl,hb⟩⟩
theorem itemPost_ok{b:Nat}{T F:Value}{l:ByteArray}{m:Mach}{o g:Nat}{w0 w':World}{r:CR}{a t:Nat}(hr:r=.ok a t)(hM:Moves b T F w0 T F w')(hR:Rdr w' b T F l m a o)(hb:Blk w' g 202 (setC t)):
 ItemPost b T F l m o g w0 r (.returned .nilIface) w':=by
 subst hr;exact⟨hM,rfl,hR,hb⟩
theorem Rdr.grown{w w':World}{b:Nat}{T F:Value}{l:ByteArray}{m:Mach}{a o k:Nat}(h:Rdr w b T F l m a o)(hk:¬Foot b T F k)(hg:w.grownBy w' (some k)):Rdr w' b T F l m a o:=⟨h.blk.grown hg (fun e=>hk (by injection e with e;exact .inl e)),h.low,h.tk.kept hg (.inr fun e=>hk (.inr (.inl e))),h.fl.kept hg (.inr fun e=>hk (.inr (.inr e))),h.apart⟩
theorem Moves.grown{b:Nat}{T F T1 F1:Value}{w w1 w2:World}{g:Nat}(h:Moves b T F w T1 F1 w1)(hg:w.heap.size≤g)(k:w1.grownBy w2 (some g)):Moves b T F w T1 F1 w2:=h.new ⟨k.os,k.tape,k.output,k.size,fun j hj=>k.block j (by have:=h.size;omega) (fun e=>by injection e;omega)⟩
theorem item_any(b a o g t:Nat)(T F:Value)(l:ByteArray)(m:Mach)(w0 w:World)(hr:Rdr w b T F l m a o)(hl:l.size≤200)(ha:a≤l.size)
 (hM:Moves b T F w0 T F w) (hg:w0.heap.size≤g) (hn:¬Foot b T F g) (hb:Blk w g 202 (setC t)):
 Calls Tryz.prog 239 #[.pointer (some ⟨b,0,none⟩),.pointer (some ⟨g,0,none⟩)] w (ItemPost b T F l m o g w0 (itemF l a t)):=by
 have HC:=hid (cchar_any b a o T F l m w hr hl ha);have HM:=hid hM;have HG:=hid hb;have HN:=hid hn;have HA:=hid (fun k g W n hk hgb=>add_any n k g hk W hgb);clear hM hb hn hr;cases hc:ccharF l a with
 |bad pl=>
  rw[hc]at HC;have H1:Hid (itemF l a t=.bad pl):=by show itemF l a t=_;unfold itemF;rw[hc]
  clear hc;go_enter Tryz.func239,Tryz.ntmps239;go_wp2_with fail;refine(HC.out).mono ?_;rintro e w1⟨hm,err,rfl,⟨f,rfl,hf⟩,_⟩;have HM1:=hid (HM.out.trans hm);have HF:=hid hf;clear hm hf;go_wp2;go_ret;exact itemPost_bad H1.out HM1.out HF.out
 |ok a1 lo=>
  have k1:=ccharF_ok hc;rw[hc]at HC;have HS:=hid (fun W (hR:Rdr W b T F l m a1 o)=>sees_is b a1 l ⟨#[45]⟩ [45] sg_dash W hl k1.2.1 (rd_cells hR).2.2.1 (rd_cells hR).2.2.2.1);rw[sees_one]at HS;obtain⟨ha1,hle1,hlo⟩:=k1;cases hs:sees l a1 45 with
  |false=>
   rw[hs]at HS;have H1:Hid (itemF l a t=.ok a1 (addR t lo 1)):=by show itemF l a t=_;unfold itemF;rw[hc];dsimp only;rw[hs];rfl
   clear hc hs;go_enter Tryz.func239,Tryz.ntmps239;go_wp2_with fail;refine(HC.out).mono ?_;rintro e w1⟨hm,rfl,hR⟩;have HM1:=hid (HM.out.trans hm);have HR1:=hid hR;have HG1:=hid (HG.out.moves hm HN.out);clear hm hR HC;go_wp2_with fail;refine(HS.out _ HR1.out).mono ?_;rintro e w2⟨rfl,n2,rfl⟩;have HM2:=hid (HM1.out.drewN n2);have HR2:=hid (HR1.out.drewN n2);have HG2:Hid (Blk (w1.drewN n2) g 202 (setC t)):=HG1.out;generalize w1.drewN n2=W at*
   clear HM1 HR1 HG1 HM HG HS;go_wp2
   go_loopw [8] (fun s8 wr=>∃k:Nat,s8=.int .i64 k∧lo≤k∧k≤lo+1∧Hid (Blk wr g 202 (setC (addR t lo (k-lo))))∧Hid (Rdr wr b T F l m a1 o)∧Hid (Moves b T F w0 T F wr)) (fun s8 _=>(lo+1-intOf s8).toNat)
   case atStart=>exact⟨lo,rfl,Nat.le_refl _,by omega,by rw[Nat.sub_self];exact HG2,HR2,HM2⟩
   case round=>
    obtain⟨k,rfl,hk1,hk2,HGr,HRr,HMr⟩:=hrel;by_cases hk:k≤lo
    ·have HA1:=hid (HA.out k g wr (addR t lo (k-lo)) (by omega) HGr.out)
     go_wp2_with fail;refine(HA1.out).mono ?_;rintro e w3⟨rfl,hb3,hg3⟩;have HG3:Hid (Blk w3 g 202 (setC (addR t lo (k+1-lo)))):=by show Blk w3 g 202 _;rw[show k+1-lo=(k-lo)+1 by omega];show Blk w3 g 202 (setC (addR t lo (k-lo)|||2^(lo+(k-lo))));rw[show lo+(k-lo)=k by omega];exact hb3
     have HR3:=hid (HRr.out.grown HN.out hg3);have HM3:=hid (HMr.out.grown hg hg3);clear hb3 hg3 HA1;go_wp2
     go_roundw
     case rel=>exact⟨k+1,by go_num,by omega,by omega,HG3,HR3,HM3⟩
     case measure=>simp[intOf];omega
    ·obtain rfl:k=lo+1:=by omega
     go_wp2;go_ret;exact itemPost_ok H1.out HMr.out HRr.out (by have:=HGr.out;rwa[show lo+1-lo=1 by omega]at this)
  |true=>
   rw[hs]at HS;have hlt1:=sees_lt hs;have HC2:=hid (fun W (hR:Rdr W b T F l m (a1+1) o)=>cchar_any b (a1+1) o T F l m W hR hl hlt1);cases hc2:ccharF l (a1+1)with
   |bad pl=>
    rw[hc2]at HC2;have H1:Hid (itemF l a t=.bad pl):=by show itemF l a t=_;unfold itemF;simp[hc,hs,hc2]
    clear hc hs hc2;go_enter Tryz.func239,Tryz.ntmps239;go_wp2_with fail;refine(HC.out).mono ?_;rintro e w1⟨hm,rfl,hR⟩;have HM1:=hid (HM.out.trans hm);have HR1:=hid hR;clear hm hR HC;go_wp2_with fail;refine(HS.out _ HR1.out).mono ?_;rintro e w2⟨rfl,n2,rfl⟩;have HM2:=hid (HM1.out.drewN n2);have HR2:=hid (HR1.out.drewN n2);generalize w1.drewN n2=W at*
    clear HM1 HR1 HM HG HS;have q4:=(rd_cells HR2.out).2.2.2.1;have qf:=HR2.out.blk.frozen 12;go_wp2_with fail;refine(HC2.out _ (HR2.out.set_at (a1+1) _ (by rfl))).mono ?_;rintro e w3⟨hm,err,rfl,⟨f,rfl,hf⟩,_⟩;have HM3:=hid ((HM2.out.set_foot (foot_self b T F) 12 _).trans hm);have HF:=hid hf;clear hm hf q4 qf HC2;go_wp2;go_ret;exact itemPost_bad H1.out HM3.out HF.out
   |ok a2 hi=>
    rw[hc2]at HC2;have k2:=ccharF_ok hc2;obtain⟨ha2,hle2,hhi⟩:=k2;by_cases hlh:hi<lo
    ·have H1:Hid (itemF l a t=.bad (a2-1)):=by show itemF l a t=_;unfold itemF;simp[hc,hs,hc2,hlh]
     clear hc hs hc2;go_enter Tryz.func239,Tryz.ntmps239;go_wp2_with fail;refine(HC.out).mono ?_;rintro e w1⟨hm,rfl,hR⟩;have HM1:=hid (HM.out.trans hm);have HR1:=hid hR;clear hm hR HC;go_wp2_with fail;refine(HS.out _ HR1.out).mono ?_;rintro e w2⟨rfl,n2,rfl⟩;have HM2:=hid (HM1.out.drewN n2);have HR2:=hid (HR1.out.drewN n2);generalize w1.drewN n2=W at*
     clear HM1 HR1 HM HG HS;have q4:=(rd_cells HR2.out).2.2.2.1;have qf:=HR2.out.blk.frozen 12;go_wp2_with fail;refine(HC2.out _ (HR2.out.set_at (a1+1) _ (by rfl))).mono ?_;rintro e w3⟨hm,rfl,hR⟩;have HM3:=hid ((HM2.out.set_foot (foot_self b T F) 12 _).trans hm);have HR3:=hid hR;clear hm hR q4 qf HC2 HM2 HR2;have q4:=(rd_cells HR3.out).2.2.2.1;have qf:=HR3.out.blk.frozen 12;go_wp2_with fail;have HR4:Hid (Rdr (w3.setCell ⟨b,12,none⟩ (.int .i64 ((a2:Int)-1))) b T F l m (a2-1) o):=HR3.out.set_at (a2-1) _ (by rw[show((a2-1:Nat):Int)=(a2:Int)-1 by omega]);refine(bad_any b (a2-1) _ (rd_cells HR4.out).2.2.2.1).mono ?_;rintro e w4⟨f,rfl,hbk,hbl⟩;have HM4:=hid ((HM3.out.set_foot (foot_self b T F) 12 _).below hbl);have HBK:=hid hbk;clear hbk hbl q4 qf;go_wp2;go_ret;exact itemPost_bad H1.out HM4.out HBK.out
    ·have H1:Hid (itemF l a t=.ok a2 (addR t lo (hi+1-lo))):=by show itemF l a t=_;unfold itemF;simp[hc,hs,hc2,hlh]
     clear hc hs hc2;go_enter Tryz.func239,Tryz.ntmps239;go_wp2_with fail;refine(HC.out).mono ?_;rintro e w1⟨hm,rfl,hR⟩;have HM1:=hid (HM.out.trans hm);have HR1:=hid hR;have HG1:=hid (HG.out.moves hm HN.out);clear hm hR HC;go_wp2_with fail;refine(HS.out _ HR1.out).mono ?_;rintro e w2⟨rfl,n2,rfl⟩;have HM2:=hid (HM1.out.drewN n2);have HR2:=hid (HR1.out.drewN n2);have HG2:Hid (Blk (w1.drewN n2) g 202 (setC t)):=HG1.out;generalize w1.drewN n2=W at*
     clear HM1 HR1 HG1 HM HG HS;have q4:=(rd_cells HR2.out).2.2.2.1;have qf:=HR2.out.blk.frozen 12;go_wp2_with fail;have HG2':Hid (Blk (W.setCell ⟨b,12,none⟩ (.int .i64 ((a1:Int)+1))) g 202 (setC t)):=HG2.out.other (fun e=>HN.out (.inl e)) 12 _;refine(HC2.out _ (HR2.out.set_at (a1+1) _ (by rfl))).mono ?_;rintro e w3⟨hm,rfl,hR⟩;have HM3:=hid ((HM2.out.set_foot (foot_self b T F) 12 _).trans hm);have HR3:=hid hR;have HG3:=hid (HG2'.out.moves hm HN.out);clear hm hR q4 qf HC2 HM2 HR2 HG2 HG2';have HM2:=HM3;have HR2:=HR3;have HG2:=HG3;clear HM3 HR3 HG3;go_wp2
     go_loopw [8] (fun s8 wr=>∃k:Nat,s8=.int .i64 k∧lo≤k∧k≤hi+1∧Hid (Blk wr g 202 (setC (addR t lo (k-lo))))∧Hid (Rdr wr b T F l m a2 o)∧Hid (Moves b T F w0 T F wr)) (fun s8 _=>(hi+1-intOf s8).toNat)
     case atStart=>exact⟨lo,rfl,Nat.le_refl _,by omega,by rw[Nat.sub_self];exact HG2,HR2,HM2⟩
     case round=>
      obtain⟨k,rfl,hk1,hk2,HGr,HRr,HMr⟩:=hrel;by_cases hk:k≤hi
      ·have HA1:=hid (HA.out k g wr (addR t lo (k-lo)) (by omega) HGr.out)
       go_wp2_with fail;refine(HA1.out).mono ?_;rintro e w3⟨rfl,hb3,hg3⟩;have HG3:Hid (Blk w3 g 202 (setC (addR t lo (k+1-lo)))):=by show Blk w3 g 202 _;rw[show k+1-lo=(k-lo)+1 by omega];show Blk w3 g 202 (setC (addR t lo (k-lo)|||2^(lo+(k-lo))));rw[show lo+(k-lo)=k by omega];exact hb3
       have HR3:=hid (HRr.out.grown HN.out hg3);have HM3:=hid (HMr.out.grown hg hg3);clear hb3 hg3 HA1;go_wp2
       go_roundw
       case rel=>exact⟨k+1,by go_num,by omega,by omega,HG3,HR3,HM3⟩
       case measure=>simp[intOf];omega
      ·obtain rfl:k=hi+1:=by omega
       go_wp2;go_ret;exact itemPost_ok H1.out HMr.out HRr.out HGr.out
abbrev pcC(p:Pc):Array Value:=#[.bool p.empty,wv p.first 0,wv p.first 1,wv p.first 2,wv p.first 3,wv p.last 0,wv p.last 1,wv p.last 2,wv p.last 3]
abbrev pcV(p:Pc):Value:=.agg (pcC p)
theorem own_shape{w:World}{base e s n:Nat}{v:Value}{xs:List Value}(h:w.ownsRow base e s v n xs):∃A c,v=.slice A n c:=by
 rcases h.2 with ⟨hv,hn⟩|⟨g,cap,cur,hv,_⟩
 ·exact⟨none,0,by rw[hv,hn]⟩
 ·exact⟨_,_,hv⟩
theorem set_info:(Tryz.prog.info? 202).map (fun i=>(i.zero,i.size,i.bytes))=some (some (.agg #[.int .u64 0,.int .u64 0,.int .u64 0,.int .u64 0]),4,32):=by kernel_rfl
def Q4(w:World)(ad:Addr)(x0 x1 x2 x3:Value):Prop:=∀j u,([x0,x1,x2,x3]:List Value)[j]? =some u→w.cell? (ad.add j)=some u
theorem quad_at(W:World)(x0 x1 x2 x3:Value)(g:Nat)(h:g=W.heap.size)(t:TypeId):Q4 (W.alloc (.cells #[x0,x1,x2,x3] t)) ⟨g,0,none⟩ x0 x1 x2 x3:=by
 subst h;intro j u hu
 match j,hu with
 |0,hu=>simp at hu;subst hu;simp[Addr.add,World.cell?_alloc_at]
 |1,hu=>simp at hu;subst hu;simp[Addr.add,World.cell?_alloc_at]
 |2,hu=>simp at hu;subst hu;simp[Addr.add,World.cell?_alloc_at]
 |3,hu=>simp at hu;subst hu;simp[Addr.add,World.cell?_alloc_at]
 |j+4,hu=>simp at hu
theorem flatS_snoc(l:List Nat)(t:Nat):flatS (l++[t])=flatS l++[wv t 0,wv t 1,wv t 2,wv t 3]:=by rw[flatS_append];rfl
theorem fl_new{w:World}{base e s n g:Nat}{v:Value}{xs:List Value}(h:w.ownsRow base e s v n xs)(hg:w.heap.size≤g):v.ownBlock≠some g:=fun e=>by have:=(h.lt g e).2;omega
theorem grown_takes{w1 W w2:World}{b a o t g n cap:Nat}{T F T':Value}{l:ByteArray}{m:Mach}(hR:Rdr w1 b T F l m a o)(hW:Below w1.heap.size w1 W)(hn:m.takes.length=n)
 (hT':T'=.slice (some ⟨g,0,none⟩) (n+1) cap) (hown:w2.ownsRow 10 202 4 T' (n+1) (flatS m.takes++[wv t 0,wv t 1,wv t 2,wv t 3])) (hg:W.grownBy w2 T.ownBlock) (hat:T.ownBlock=some g∨w1.heap.size≤g):
 Rdr (w2.setCell ⟨b,0,none⟩ T') b T' F l ⟨m.takes++[t],m.follow⟩ a o∧Moves b T F w1 T' F (w2.setCell ⟨b,0,none⟩ T'):=by
 have hb':Blk w2 b 208 (rdC T F l a o):=(hR.blk.below hW).grown hg hR.t_b;have hF:rowS w2 F m.follow:=(own_below hR.fl hW).kept hg (by
  cases hF:F.ownBlock with
  |none=>exact .inl rfl
  |some k=>exact .inr (fun e=>hR.apart k e.symm hF))
 have hob:T'.ownBlock=some g:=by rw[hT'];rfl
 have htb:T'.ownBlock≠some b:=by
  rw[hob];intro e;injection e with e;subst e;rcases hat with h|h
  ·exact hR.t_b h
  ·have:=hR.blk.lt;omega
 refine⟨⟨hb'.set_ 0 _,hR.low,?_,own_ne hF hR.f_b _ _,?_⟩,?_⟩
 ·refine own_ne ?_ htb _ _
  show w2.ownsRow 10 202 4 T' (m.takes++[t]).length (flatS (m.takes++[t]));rw[flatS_snoc,List.length_append,List.length_singleton,hn];exact hown
 ·intro k hk
  rw[hob]at hk;injection hk with hk;subst hk;rcases hat with h|h
  ·exact hR.apart g h
  ·exact fl_new hR.fl h
 ·have h1:Moves b T F w1 T' F w2:=⟨hg.os.trans hW.os,hg.tape.trans hW.tape,hg.output.trans hW.output,Nat.le_trans hW.size hg.size,
   fun j hj hn=>(hg.block j (Nat.lt_of_lt_of_le hj hW.size) (fun e=>hn (.inr (.inl e.symm)))).trans (hW.block j hj),
   fun j hj hf=>by
    rcases hf with rfl|hf|hf
    ·exact .inl rfl
    ·rw[hob]at hf
     injection hf with hf;subst hf;rcases hat with h|h
     ·exact .inr (.inl h)
     ·omega
    ·exact .inr (.inr hf)⟩
  exact h1.set_foot (.inl rfl) 0 _
theorem grown_follow{w1 W w2:World}{b a o t g n cap:Nat}{T F F':Value}{l:ByteArray}{m:Mach}(hR:Rdr w1 b T F l m a o)(hW:Below w1.heap.size w1 W)(hn:m.follow.length=n)
 (hF':F'=.slice (some ⟨g,0,none⟩) (n+1) cap) (hown:w2.ownsRow 10 202 4 F' (n+1) (flatS m.follow++[wv t 0,wv t 1,wv t 2,wv t 3])) (hg:W.grownBy w2 F.ownBlock) (hat:F.ownBlock=some g∨w1.heap.size≤g):
 Rdr (w2.setCell ⟨b,1,none⟩ F') b T F' l ⟨m.takes,m.follow++[t]⟩ a o∧Moves b T F w1 T F' (w2.setCell ⟨b,1,none⟩ F'):=by
 have hb':Blk w2 b 208 (rdC T F l a o):=(hR.blk.below hW).grown hg hR.f_b;have hT:rowS w2 T m.takes:=(own_below hR.tk hW).kept hg (by
  cases hT:T.ownBlock with
  |none=>exact .inl rfl
  |some k=>exact .inr (fun e=>hR.apart k hT e.symm))
 have hob:F'.ownBlock=some g:=by rw[hF'];rfl
 have htb:F'.ownBlock≠some b:=by
  rw[hob];intro e;injection e with e;subst e;rcases hat with h|h
  ·exact hR.f_b h
  ·have:=hR.blk.lt;omega
 refine⟨⟨hb'.set_ 1 _,hR.low,own_ne hT hR.t_b _ _,?_,?_⟩,?_⟩
 ·refine own_ne ?_ htb _ _
  show w2.ownsRow 10 202 4 F' (m.follow++[t]).length (flatS (m.follow++[t]));rw[flatS_snoc,List.length_append,List.length_singleton,hn];exact hown
 ·intro k hk hk2
  rw[hob]at hk2;injection hk2 with hk2;subst hk2;rcases hat with h|h
  ·exact hR.apart g hk h
  ·exact fl_new hR.tk h hk
 ·have h1:Moves b T F w1 T F' w2:=⟨hg.os.trans hW.os,hg.tape.trans hW.tape,hg.output.trans hW.output,Nat.le_trans hW.size hg.size,
   fun j hj hn=>(hg.block j (Nat.lt_of_lt_of_le hj hW.size) (fun e=>hn (.inr (.inr e.symm)))).trans (hW.block j hj),
   fun j hj hf=>by
    rcases hf with rfl|hf|hf
    ·exact .inl rfl
    ·exact .inr (.inl hf)
    ·rw[hob]at hf
     injection hf with hf;subst hf;rcases hat with h|h
     ·exact .inr (.inr h)
     ·omega⟩
  exact h1.set_foot (.inl rfl) 1 _
abbrev put9(w:World)(j:Nat)(v0 v1 v2 v3 v4 v5 v6 v7 v8:Value):World:=(((((((((w.setCell ⟨j,0,none⟩ v0).setCell ⟨j,1,none⟩ v1).setCell ⟨j,2,none⟩ v2).setCell ⟨j,3,none⟩ v3).setCell ⟨j,4,none⟩ v4).setCell ⟨j,5,none⟩ v5).setCell ⟨j,6,none⟩ v6).setCell ⟨j,7,none⟩ v7).setCell ⟨j,8,none⟩ v8)
theorem Moves.set9{b:Nat}{T F T1 F1:Value}{w0 w:World}(h:Moves b T F w0 T1 F1 w){j:Nat}(hj:w0.heap.size≤j)(v0 v1 v2 v3 v4 v5 v6 v7 v8:Value):Moves b T F w0 T1 F1 (put9 w j v0 v1 v2 v3 v4 v5 v6 v7 v8):=(((((((((h.set_new hj 0 v0).set_new hj 1 v1).set_new hj 2 v2).set_new hj 3 v3).set_new hj 4 v4).set_new hj 5 v5).set_new hj 6 v6).set_new hj 7 v7).set_new hj 8 v8)
theorem Rdr.set9{w:World}{b:Nat}{T F:Value}{l:ByteArray}{m:Mach}{a o j:Nat}(h:Rdr w b T F l m a o)(hj:¬Foot b T F j)(v0 v1 v2 v3 v4 v5 v6 v7 v8:Value):Rdr (put9 w j v0 v1 v2 v3 v4 v5 v6 v7 v8) b T F l m a o:=(((((((((h.other hj 0 v0).other hj 1 v1).other hj 2 v2).other hj 3 v3).other hj 4 v4).other hj 5 v5).other hj 6 v6).other hj 7 v7).other hj 8 v8)
theorem Blk.set9{w:World}{j:Nat}{t:TypeId}{x0 x1 x2 x3 x4 x5 x6 x7 x8:Value}(h:Blk w j t #[x0,x1,x2,x3,x4,x5,x6,x7,x8])(v0 v1 v2 v3 v4 v5 v6 v7 v8:Value):Blk (put9 w j v0 v1 v2 v3 v4 v5 v6 v7 v8) j t #[v0,v1,v2,v3,v4,v5,v6,v7,v8]:=by have h0:=h.set_ 0 v0;simp only[List.setIfInBounds_toArray,List.set_cons_zero]at h0;have h1:=h0.set_ 1 v1;simp only[List.setIfInBounds_toArray,List.set_cons_zero,List.set_cons_succ]at h1;have h2:=h1.set_ 2 v2;simp only[List.setIfInBounds_toArray,List.set_cons_zero,List.set_cons_succ]at h2;have h3:=h2.set_ 3 v3;simp only[List.setIfInBounds_toArray,List.set_cons_zero,List.set_cons_succ]at h3;have h4:=h3.set_ 4 v4;simp only[List.setIfInBounds_toArray,List.set_cons_zero,List.set_cons_succ]at h4;have h5:=h4.set_ 5 v5;simp only[List.setIfInBounds_toArray,List.set_cons_zero,List.set_cons_succ]at h5;have h6:=h5.set_ 6 v6;simp only[List.setIfInBounds_toArray,List.set_cons_zero,List.set_cons_succ]at h6;have h7:=h6.set_ 7 v7;simp only[List.setIfInBounds_toArray,List.set_cons_zero,List.set_cons_succ]at h7;have h8:=h7.set_ 8 v8;simp only[List.setIfInBounds_toArray,List.set_cons_zero,List.set_cons_succ]at h8;exact h8
theorem Blk.set9_other{w:World}{j k:Nat}{t:TypeId}{cs:Array Value}(h:Blk w k t cs)(hj:k≠j)(v0 v1 v2 v3 v4 v5 v6 v7 v8:Value):Blk (put9 w j v0 v1 v2 v3 v4 v5 v6 v7 v8) k t cs:=(((((((((h.other hj 0 v0).other hj 1 v1).other hj 2 v2).other hj 3 v3).other hj 4 v4).other hj 5 v5).other hj 6 v6).other hj 7 v7).other hj 8 v8)
theorem place_any(b a o t:Nat)(T F:Value)(l:ByteArray)(m:Mach)(w:World)(hr:Rdr w b T F l m a o)(hn:m.takes.length<256)(hm:m.follow.length=m.takes.length):
 Calls Tryz.prog 224 #[.pointer (some ⟨b,0,none⟩),setV t] w fun e w'=>∃T' F',Moves b T F w T' F' w'∧e=.returned (pcV (placeP m))∧Rdr w' b T' F' l (placeM m t) a o:=by
 have HA:=hid (fun k g W n hk hgb=>add_any n k g hk W hgb);obtain⟨A,c,rfl⟩:=own_shape hr.tk;have HR:=hid hr;clear hr;have q0:=fun o1 o2 o3=>(rd_cells (((HR.out.alloc o1).alloc o2).alloc o3)).1;generalize hN:m.takes.length=n at*
 have HNN:=hid hN;clear hN;obtain⟨i0,hi0,hz0,hz1,hz2⟩:=info_parts set_info;go_enter Tryz.func224,Tryz.ntmps224;go_wp2_with fail;have HB0:Hid (Blk (((w.alloc (.cells #[wv t 0,wv t 1,wv t 2,wv t 3] 202)).alloc (.cells #[.bool false,.int .u64 0,.int .u64 0,.int .u64 0,.int .u64 0,.int .u64 0,.int .u64 0,.int .u64 0,.int .u64 0] 210)).alloc (.cells #[.int .u64 0,.int .u64 0,.int .u64 0,.int .u64 0] 202)) (w.heap.size+1+1) 202 (setC 0)):=by show Blk _ _ _ _;unfold setC;rw[wv_zero,wv_zero,wv_zero,wv_zero];have:=Blk.new ((w.alloc (.cells #[wv t 0,wv t 1,wv t 2,wv t 3] 202)).alloc (.cells #[.bool false,.int .u64 0,.int .u64 0,.int .u64 0,.int .u64 0,.int .u64 0,.int .u64 0,.int .u64 0,.int .u64 0] 210)) 202 #[.int .u64 0,.int .u64 0,.int .u64 0,.int .u64 0];rw[World.size_alloc,World.size_alloc]at this;exact this
 have HB1:=hid (((Blk.new w 202 (setC t)).alloc (.cells #[.bool false,.int .u64 0,.int .u64 0,.int .u64 0,.int .u64 0,.int .u64 0,.int .u64 0,.int .u64 0,.int .u64 0] 210)).alloc (.cells #[.int .u64 0,.int .u64 0,.int .u64 0,.int .u64 0] 202));have HB2:Hid (Blk (((w.alloc (.cells #[wv t 0,wv t 1,wv t 2,wv t 3] 202)).alloc (.cells #[.bool false,.int .u64 0,.int .u64 0,.int .u64 0,.int .u64 0,.int .u64 0,.int .u64 0,.int .u64 0,.int .u64 0] 210)).alloc (.cells #[.int .u64 0,.int .u64 0,.int .u64 0,.int .u64 0] 202)) (w.heap.size+1) 210 #[.bool false,.int .u64 0,.int .u64 0,.int .u64 0,.int .u64 0,.int .u64 0,.int .u64 0,.int .u64 0,.int .u64 0]):=by have:=(Blk.new (w.alloc (.cells #[wv t 0,wv t 1,wv t 2,wv t 3] 202)) 210 #[.bool false,.int .u64 0,.int .u64 0,.int .u64 0,.int .u64 0,.int .u64 0,.int .u64 0,.int .u64 0,.int .u64 0]).alloc (.cells #[.int .u64 0,.int .u64 0,.int .u64 0,.int .u64 0] 202);rw[World.size_alloc]at this;exact this
 have HR0:=hid (((HR.out.alloc (.cells #[wv t 0,wv t 1,wv t 2,wv t 3] 202)).alloc (.cells #[.bool false,.int .u64 0,.int .u64 0,.int .u64 0,.int .u64 0,.int .u64 0,.int .u64 0,.int .u64 0,.int .u64 0] 210)).alloc (.cells #[.int .u64 0,.int .u64 0,.int .u64 0,.int .u64 0] 202));have HM0:=hid ((((Moves.refl b (.slice A n c) F w).alloc (.cells #[wv t 0,wv t 1,wv t 2,wv t 3] 202)).alloc (.cells #[.bool false,.int .u64 0,.int .u64 0,.int .u64 0,.int .u64 0,.int .u64 0,.int .u64 0,.int .u64 0,.int .u64 0] 210)).alloc (.cells #[.int .u64 0,.int .u64 0,.int .u64 0,.int .u64 0] 202));have HFT:Hid (∀j,w.heap.size≤j→¬Foot b (.slice A n c) F j):=fun j hj hf=>by have:=(HR.out.lt_foot hf).1;omega
 refine(HA.out n _ _ 0 hn HB0.out).mono ?_;rintro e w1⟨rfl,hb,hg⟩;rw[Nat.zero_or]at hb;have HB0':=hid hb;have HB1':=hid (HB1.out.grown hg (by intro e;injection e;omega));have HB2':=hid (HB2.out.grown hg (by intro e;injection e;omega));have HR1:=hid (HR0.out.grown (HFT.out _ (by omega)) hg);have HM1:=hid (HM0.out.grown (by omega) hg);clear hb hg HR0 HM0 HB0 HB1 HB2 q0 HA;have q0:=(rd_cells HR1.out).1;have qf:=HR1.out.blk.frozen 0;have x0:=HB1'.out.cell 0;have x1:=HB1'.out.cell 1;have x2:=HB1'.out.cell 2;have x3:=HB1'.out.cell 3;simp only[List.getElem?_toArray,List.getElem?_cons_zero,List.getElem?_cons_succ]at x0 x1 x2 x3;have q0a:=fun o=>(rd_cells (HR1.out.alloc o)).1;have HTK:=hid HR1.out.tk;have HTK':Hid (∀o:Obj,(w1.alloc o).ownsRow 10 202 4 (.slice A n c) n (flatS m.takes)):=fun o=>by have:=own_below HTK.out ((Below.refl _ _).alloc (Nat.le_refl _) o);rw[HNN.out]at this;exact this
 have hb1:n+1≤maxLen:=by unfold maxLen;omega
 have hb2:(n+1)*32≤140737488355328:=by omega
 have hb3:10≤w1.heap.size:=by have:=HR1.out.low;have:=HR1.out.blk.lt;omega
 have BM:=hid hb1;clear hb1;go_upto_region 3 with fail
 go_cut []from 12 to 21 (fun wx=>∃(T':Value) (W2:World),W2=wx∧Hid (Rdr W2 b T' F l ⟨m.takes++[t],m.follow⟩ a o)∧Hid (Moves b (.slice A n c) F w1 T' F W2))
 case first=>
  refine wp_region_noPanic ?_
  go_region_law
   (first
     |(refine step_append_lies _ (by rfl) (.tmp 16) (.tmp 18) 200 (by rfl) 10 202 i0 _ 4 32 Tryz.underlying200 hi0 hz0 hz1 hz2 rfl (by decide) (.slice A n c) n (flatS m.takes) (by rfl) (HTK'.out _) ⟨w1.heap.size,0,none⟩ 1 1 [wv t 0,wv t 1,wv t 2,wv t 3] (by rfl) (by rfl) (quad_at w1 _ _ _ _ _ rfl 202) (flatS_one [t]) (by decide) BM.out hb2 (by simp;omega) (w1.heap.size+1) (by simp) ?_
       intro g cap w2 hown hgrow hat hlt;have hg1:(w1.alloc (.cells #[wv t 0,wv t 1,wv t 2,wv t 3] 202)).grownBy w2 (Value.slice A n c).ownBlock:=⟨hgrow.os,hgrow.tape,hgrow.output,hgrow.size,hgrow.block⟩
       have hbl:=(HR1.out.blk.alloc (.cells #[wv t 0,wv t 1,wv t 2,wv t 3] 202)).grown hg1 HR1.out.t_b;have z0:=hbl.cell 0;have zf:=hbl.frozen 0;have HP:=hid (grown_takes HR1.out ((Below.refl _ _).alloc (Nat.le_refl _) (.cells #[wv t 0,wv t 1,wv t 2,wv t 3] 202)) HNN.out rfl hown hg1 (hat.imp id (fun h=>by omega)));clear hown hgrow hat hg1 hbl))
  all_goals
   refine NoPanic.normal ?_;go_wp2_with fail
   go_meet
   exact⟨_,_,rfl,HP.out.1,HP.out.2⟩
 case rest=>
  obtain⟨T',W2,rfl,HR2,HM12⟩:=hcut;have HB0b:=hid (HB0'.out.moves HM12.out (HFT.out _ (by omega)));have HB2b:=hid (HB2'.out.moves HM12.out (HFT.out _ (by omega)));have HM2:=hid (HM1.out.trans HM12.out);have HFa:Hid (¬Foot b T' F (w.heap.size+1+1)):=fun hf=>HFT.out _ (by omega) (HM12.out.foot _ HB0'.out.lt hf);have HFb:Hid (¬Foot b T' F (w.heap.size+1)):=fun hf=>HFT.out _ (by omega) (HM12.out.foot _ HB2'.out.lt hf);clear q0 q0a qf x0 x1 x2 x3 HTK HTK' hb3 HB1' HB0' HB2' HM1;have hfl:m.follow.length=n:=hm;have hsh:=own_shape HR2.out.fl;dsimp only at hsh;rw[hfl]at hsh;obtain⟨A2,c2,rfl⟩:=hsh;have HFL:=hid hfl;clear hfl;have q0:=(rd_cells HR2.out).2.1;have q0a:=fun o=>(rd_cells (HR2.out.alloc o)).2.1;have qf:=HR2.out.blk.frozen 1;have HTK':Hid (∀o:Obj,(W2.alloc o).ownsRow 10 202 4 (.slice A2 n c2) n (flatS m.follow)):=fun o=>by have:=own_below HR2.out.fl ((Below.refl _ _).alloc (Nat.le_refl _) o);rw[HFL.out]at this;exact this
  have hb3:10≤W2.heap.size:=by have:=HR2.out.low;have:=HR2.out.blk.lt;omega
  go_upto_region 4 with fail
  go_cut []from 22 to 31 (fun wx=>∃(F':Value) (W3:World),W3=wx∧Hid (Rdr W3 b T' F' l ⟨m.takes++[t],m.follow++[0]⟩ a o)∧Hid (Moves b T' (.slice A2 n c2) W2 T' F' W3))
  case first=>
   go_wp2_with (at_builtin;(first
    |(refine wpList_append_lies _ rfl (.tmp 26) (.tmp 28) 200 rfl 10 202 i0 _ 4 32 Tryz.underlying200 hi0 hz0 hz1 hz2 rfl (by decide) (.slice A2 n c2) n (flatS m.follow) rfl (HTK'.out _) ⟨W2.heap.size,0,none⟩ 1 1 [.int .u64 0,.int .u64 0,.int .u64 0,.int .u64 0] rfl rfl (quad_at W2 _ _ _ _ _ rfl 202) (flatS_one [0]) (by decide) BM.out hb2 (by simp;omega) (W2.heap.size+1) (by simp) ?_
      intro g cap w2 hown hgrow hat hlt;have hg1:(W2.alloc (.cells #[.int .u64 0,.int .u64 0,.int .u64 0,.int .u64 0] 202)).grownBy w2 (Value.slice A2 n c2).ownBlock:=⟨hgrow.os,hgrow.tape,hgrow.output,hgrow.size,hgrow.block⟩
      have hbl:=(HR2.out.blk.alloc (.cells #[.int .u64 0,.int .u64 0,.int .u64 0,.int .u64 0] 202)).grown hg1 HR2.out.f_b;have z0:w2.cell? ⟨b,1,none⟩=some (.slice A2 n c2):=hbl.cell 1;have zf:=hbl.frozen 1;have hown':w2.ownsRow 10 202 4 (.slice (some ⟨g,0,none⟩) (n+1) cap) (n+1) (flatS m.follow++[wv 0 0,wv 0 1,wv 0 2,wv 0 3]):=by rw[wv_zero,wv_zero,wv_zero,wv_zero];exact hown
      have HP:=hid (grown_follow HR2.out ((Below.refl _ _).alloc (Nat.le_refl _) (.cells #[.int .u64 0,.int .u64 0,.int .u64 0,.int .u64 0] 202)) HFL.out rfl hown' hg1 (hat.imp id (fun h=>by omega)));clear hown hown' hgrow hat hg1 hbl)))
   go_meet
   exact⟨_,_,rfl,HP.out.1,HP.out.2⟩
  case rest=>obtain⟨F',W3,rfl,HR3,HM23⟩:=hcut;have HM3:=hid (HM2.out.trans HM23.out);have HB0c:=hid (HB0b.out.moves HM23.out HFa.out);have HB2c:=hid (HB2b.out.moves HM23.out HFb.out);have r0:=HB2c.out.cell 0;have r1:=HB2c.out.cell 1;have r2:=HB2c.out.cell 2;have r3:=HB2c.out.cell 3;have r4:=HB2c.out.cell 4;have r5:=HB2c.out.cell 5;have r6:=HB2c.out.cell 6;have r7:=HB2c.out.cell 7;have r8:=HB2c.out.cell 8;have p0:=HB2c.out.frozen 0;have p1:=HB2c.out.frozen 1;have p2:=HB2c.out.frozen 2;have p3:=HB2c.out.frozen 3;have p4:=HB2c.out.frozen 4;have p5:=HB2c.out.frozen 5;have p6:=HB2c.out.frozen 6;have p7:=HB2c.out.frozen 7;have p8:=HB2c.out.frozen 8;have k0:=HB0c.out.cell 0;have k1:=HB0c.out.cell 1;have k2:=HB0c.out.cell 2;have k3:=HB0c.out.cell 3;simp only[List.getElem?_toArray,List.getElem?_cons_zero,List.getElem?_cons_succ]at r0 r1 r2 r3 r4 r5 r6 r7 r8 k0 k1 k2 k3;clear q0 q0a qf;have HFc:Hid (¬Foot b T' F' (w.heap.size+1)):=HR3.out.off HB2c.out (by decide) (by decide);go_wp2;refine bodyPost_ret (v:=pcV (placeP m)) (by simp[results,Tryz.results224,go_sem,r0,r1,r2,r3,r4,r5,r6,r7,r8,placeP,HNN.out]) rfl ⟨T',F',HM3.out.set9 (Nat.le_succ _) _ _ _ _ _ _ _ _ _,rfl,HR3.out.set9 HFc.out _ _ _ _ _ _ _ _ _⟩
end Go.Proofs.YticmkabafmmlhaaGreatDoor.Rg

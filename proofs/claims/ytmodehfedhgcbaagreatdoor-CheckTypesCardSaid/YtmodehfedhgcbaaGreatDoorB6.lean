/- Lemmas. No condition. -/
import Derived.Test.YtmodehfedhgcbaaGreatDoorB2
import Derived.Test.YtmodehfedhgcbaaGreatDoorShelf
import Derived.Test.YtmodehfedhgcbaaGreatDoorC0
import Derived.OpenShut
import Derived.Laws.Closers25b
import Derived.Deep.DeepCutAuto
import Derived.Laws.BitsLemmas
import Derived.Deep.CutBlock
set_option linter.unusedVariables false
set_option maxRecDepth 100000
set_option maxHeartbeats 2000000
namespace Go.Proofs.YtmodehfedhgcbaaGreatDoor
open Go.RowKit Ieee
open Lib (hid)
theorem bool2_q(b:Bool)(w:World):Calls Tryz.prog 177 #[.bool b] w fun e w'=>e=.returned (.int .u64 (if b=true then 1 else 0))∧w'=w:=by
 cases b<;>
 ·go_enter Tryz.func177,Tryz.ntmps177
  go_wp2;go_ret;exact⟨rfl,rfl⟩
theorem bool2_any(b:Bool)(w:World):Calls Tryz.prog 177 #[.bool b] w fun e w'=>e=.returned (.int .u64 (if b=true then 1 else 0))∧w=w':=(bool2_q b w).mono fun _ _ h=>⟨h.1,h.2.symm⟩
structure Pre where
 hi:Nat
 lo:Nat
 s:Nat
def Pre.Fits(p:Pre):Prop:=p.hi<18446744073709551616∧p.lo<18446744073709551616∧p.s≤63
def PreAt(w:World)(b:Nat)(p:Pre):Prop:=w.cell? ⟨b,0,none⟩=some (.int .u64 (p.hi:Int))∧w.cell? ⟨b,1,none⟩=some (.int .u64 (p.lo:Int))∧w.cell? ⟨b,2,none⟩=some (.int .i64 (p.s:Int))
def scl(h m k:Int)(s:Nat):Int:=
 if(IntKind.u64.wrap (h/2^s*2^s) != h)=true then bits BinOp.or IntKind.u64 (h/2^s) 1
 else bits BinOp.or IntKind.u64 (IntKind.u64.wrap (h-if decide (m<k)=true then 1 else 0)/2^s) (if decide (1<IntKind.u64.wrap (m-k))=true then 1 else 0)
def scale(x:Nat)(p:Pre):Int:=scl ((x*p.hi/18446744073709551616:Nat):Int) ((x*p.hi% 18446744073709551616:Nat):Int) ((x*p.lo/18446744073709551616:Nat):Int) p.s
theorem scl_in(h m k:Int)(s:Nat):0≤scl h m k s∧scl h m k s≤18446744073709551615:=by
 unfold scl;split
 ·exact⟨bits_lo_u64 _ _ _,bits_hi_u64 _ _ _⟩
 ·exact⟨bits_lo_u64 _ _ _,bits_hi_u64 _ _ _⟩
theorem mask63(s:Nat)(h:s≤63):bits BinOp.and IntKind.i64 (s:Int) 63=(s:Int):=by
 have:∀s:Fin 64,bits BinOp.and IntKind.i64 (s.val:Int) 63=(s.val:Int):=by decide
 exact this ⟨s,by omega⟩
theorem scl_walk(x hi lo s B:Nat)(h m k:Int)(w:World)(hx:x<18446744073709551616)(hs:s≤63)(h0:0≤h)(h1:h<18446744073709551616)(m0:0≤m)(m1:m<18446744073709551616)(k0:0≤k)(k1:k<18446744073709551616)
 (c0:w.cell? ⟨B,0,none⟩=some (.int .u64 (hi:Int))) (c1:w.cell? ⟨B,1,none⟩=some (.int .u64 (lo:Int))) (c2:w.cell? ⟨B,2,none⟩=some (.int .i64 (s:Int)))
 (M1:Hid (∀W,Calls Tryz.prog 199 #[.int .u64 (x:Int),.int .u64 (hi:Int)] W fun e w'=>(∃y,e=.returned (.tuple #[.int .u64 h,.int .u64 m])∧y=(0:Int))∧W=w'))
 (M2:Hid (∀W,Calls Tryz.prog 199 #[.int .u64 (x:Int),.int .u64 (lo:Int)] W fun e w'=>(∃y,e=.returned (.tuple #[.int .u64 k,.int .u64 y])∧0≤y)∧W=w')):
 Calls Tryz.prog 190 #[.int .u64 (x:Int),.pointer (some ⟨B,0,none⟩)] w fun e w'=>e=.returned (.int .u64 (scl h m k s))∧∃n,w'=w.drewN n:=by
 have ea:=mask63 s hs;obtain⟨r,hr⟩:∃r,scl h m k s=r:=⟨_,rfl⟩
 rw[hr];have HR:=hid hr;clear hr;by_cases hc:(IntKind.u64.wrap (h/2^s*2^s) != h)=true
 ·have er:r=bits BinOp.or IntKind.u64 (h/2^s) 1:=by rw[←HR.out];unfold scl;rw[if_pos hc]
  subst er;go_enter Tryz.func190,Tryz.ntmps190;go_wp2_with fail;refine(M1.out _).mono ?_;rintro e w1⟨⟨y,rfl,hy⟩,rfl⟩;clear hy;go_wp2;go_ret;exact⟨rfl,0,rfl⟩
 ·have hcf:(IntKind.u64.wrap (h/2^s*2^s) != h)=false:=by simpa using hc
  clear hc;have er:r=bits BinOp.or IntKind.u64 (IntKind.u64.wrap (h-if decide (m<k)=true then 1 else 0)/2^s) (if decide (1<IntKind.u64.wrap (m-k))=true then 1 else 0):=by rw[←HR.out];unfold scl;rw[hcf];rfl
  subst er;obtain⟨z1,hz1⟩:∃z:Int,(if decide (m<k)=true then(1:Int)else 0)=z:=⟨_,rfl⟩
  obtain⟨z2,hz2⟩:∃z:Int,(if decide (1<IntKind.u64.wrap (m-k))=true then(1:Int)else 0)=z:=⟨_,rfl⟩
  have B1:=hid (fun W=>bool2_any (decide (m<k)) W);have B2:=hid (fun W=>bool2_q (decide (1<IntKind.u64.wrap (m-k))) W);rw[hz1]at B1;rw[hz2]at B2;rw[hz1,hz2];clear hz1 hz2 HR;obtain⟨u,hu⟩:∃u,IntKind.u64.wrap (h-z1)=u:=⟨_,rfl⟩
  have hu0:0≤u:=by rw[←hu];exact(wrap_within .u64 _).1
  have hu1:u<18446744073709551616:=by have:=(wrap_within .u64 (h-z1)).2;rw[hu]at this;exact Int.lt_of_le_of_lt this (by decide)
  rw[hu];go_enter Tryz.func190,Tryz.ntmps190;go_wp2_with fail;refine(M1.out _).mono ?_;rintro e w1⟨⟨y,rfl,hy⟩,rfl⟩;clear hy;go_wp2_with fail;refine(M2.out _).mono ?_;rintro e w1⟨⟨y,rfl,hy⟩,rfl⟩;clear hy;go_wp2_with fail;refine(B1.out _).mono ?_;rintro e w1⟨rfl,rfl⟩;go_wp2_with fail;clear hu
  go_quiet ((go_at_call 177;exact Calls.quiet_of_same (B2.out _)))
  go_wp2;go_ret;exact⟨rfl,_,rfl⟩
theorem scale_any(x:Nat)(p:Pre)(B:Nat)(w:World)(hx:x<18446744073709551616)(hp:p.Fits)(hc:PreAt w B p):
 Calls Tryz.prog 190 #[.int .u64 (x:Int),.pointer (some ⟨B,0,none⟩)] w fun e w'=>e=.returned (.int .u64 (scale x p))∧∃n,w'=w.drewN n:=by
 have hb:∀a b:Nat,a<18446744073709551616→b<18446744073709551616→a*b/18446744073709551616<18446744073709551616:=fun a b ha hb=>Nat.div_lt_of_lt_mul (Nat.mul_lt_mul'' ha hb);have h1:=hb x p.hi hx hp.1;have h2:=hb x p.lo hx hp.2.1;have h3:x*p.hi% 18446744073709551616<18446744073709551616:=Nat.mod_lt _ (by decide);have M1:=hid (fun W=>(Tryz.bits_Mul64 x p.hi hx hp.1 W).mono (R':=fun e w'=>(∃y,e=.returned (.tuple #[.int .u64 ((x*p.hi/18446744073709551616:Nat):Int),.int .u64 ((x*p.hi% 18446744073709551616:Nat):Int)])∧y=(0:Int))∧W=w') fun e w' h=>⟨⟨0,h.1,rfl⟩,h.2.symm⟩);have M2:=hid (fun W=>(Tryz.bits_Mul64 x p.lo hx hp.2.1 W).mono (R':=fun e w'=>(∃y,e=.returned (.tuple #[.int .u64 ((x*p.lo/18446744073709551616:Nat):Int),.int .u64 y])∧(0:Int)≤y)∧W=w') fun e w' h=>⟨⟨_,h.1,Int.natCast_nonneg _⟩,h.2.symm⟩);exact scl_walk x p.hi p.lo p.s B _ _ _ w hx hp.2.2 (Int.natCast_nonneg _) (by omega) (Int.natCast_nonneg _) (by omega) (Int.natCast_nonneg _) (by omega) hc.1 hc.2.1 hc.2.2 M1 M2
theorem log2_any(x:Int)(h1: -2000≤x)(h2:x≤2000)(w:World):Calls Tryz.prog 188 #[.int .i64 x] w fun e w'=>e=.returned (.int .i64 (x*108853/32768))∧w=w':=by go_enter Tryz.func188,Tryz.ntmps188;go_wp2;go_ret;exact⟨rfl,rfl⟩
def roundF(u:Int):Int:=IntKind.u64.wrap (IntKind.u64.wrap (u+1)+bits BinOp.and IntKind.u64 (u/4) 1)/4
theorem u64_in(n:Int):0≤IntKind.u64.wrap n∧IntKind.u64.wrap n≤18446744073709551615:=wrap_within .u64 n
theorem round_any(u:Int)(h0:0≤u)(h1:u≤18446744073709551615)(w:World):Calls Tryz.prog 194 #[.int .u64 u] w fun e w'=>e=.returned (.int .u64 (roundF u))∧w=w':=by
 have h:=u64_in (IntKind.u64.wrap (u+1)+bits BinOp.and IntKind.u64 (u/4) 1);unfold roundF;obtain⟨z,hz⟩:∃z,IntKind.u64.wrap (IntKind.u64.wrap (u+1)+bits BinOp.and IntKind.u64 (u/4) 1)=z:=⟨_,rfl⟩
 rw[hz]at h⊢
 have a:=h.1;clear h;go_enter Tryz.func194,Tryz.ntmps194;go_wp2;go_ret;exact⟨rfl,rfl⟩
def rowOf(i:Nat):Nat×Nat:=Go.Pinned.pow10Rows.getD i (0,0)
def P10(w:World):Prop:=∀i,i<696→w.cell? ⟨15,i*2,none⟩=some (.int .u64 ((rowOf i).1:Int))∧w.cell? ⟨15,i*2+1,none⟩=some (.int .u64 ((rowOf i).2:Int))
theorem row_in(i:Nat):(rowOf i).1<18446744073709551616∧(rowOf i).2<18446744073709551616:=by
 unfold rowOf;have h:∀x∈Go.Pinned.pow10Rows,x.1<18446744073709551616∧x.2<18446744073709551616:=by
  have:(Go.Pinned.pow10Rows.all fun x=>decide (x.1<18446744073709551616)&&decide (x.2<18446744073709551616))=true:=by decide+kernel
  intro x hx;have:=List.all_eq_true.1 this x hx;simpa using this
 rw[List.getD_eq_getElem?_getD];rcases Nat.lt_or_ge i Go.Pinned.pow10Rows.length with hl|hl
 ·rw[List.getElem?_eq_getElem hl];exact h _ (List.getElem_mem hl)
 ·rw[List.getElem?_eq_none hl];decide
theorem prescale_any(e p lp:Int)(i B s:Nat)(v0 v1 v2:Value)(t:TypeId)(w:World)(hi1:p- -348=(i:Int))(hi2:i<696)(he: -2000≤e)(he2:e≤2000)(hl: -2000≤lp)(hl2:lp≤2000)
 (hT:P10 w) (hs: -(e+lp+3)=(s:Int)) (hB:15<B) (hb:Blk w B t #[v0,v1,v2]):
 Calls Tryz.prog 189 #[.pointer (some ⟨B,0,none⟩),.int .i64 e,.int .i64 p,.int .i64 lp] w fun en w'=>en=.returned (.tuple #[])∧w'=((w.setCell ⟨B,0,none⟩ (.int .u64 (rowOf i).1)).setCell ⟨B,1,none⟩ (.int .u64 (rowOf i).2)).setCell ⟨B,2,none⟩ (.int .i64 s):=by
 have hBB:(15==B)=false:=by simp;omega
 have hBn:(B==15)=false:=by simp;omega
 obtain⟨c0,c1⟩:=hT i hi2;have d0:=hb.cell 0;have d1:=hb.cell 1;have d2:=hb.cell 2;have f:=hb.frozen;simp at d0 d1 d2;clear hb hT;go_enter Tryz.func189,Tryz.ntmps189;go_wp2_with fail
 go_end0
 exact⟨rfl,rfl⟩
theorem frombits(n:Nat)(w:World):(callFunc 178 #[.int .u64 (n:Int)]).run Tryz.prog w=.ok (.value (.float .f64 n)) w:=by kernel_rfl
theorem unmin_any(w:World):Calls Tryz.prog 192 #[.int .u64 9007199254740992] w fun e w'=>e=.returned (.int .u64 36028797018963966)∧w=w':=by go_enter Tryz.func192,Tryz.ntmps192;go_wp2;go_ret;exact⟨rfl,rfl⟩
def Err(v:Value):Prop:=v=.nilIface∨v=.iface 197 (.int .i64 1)
def PkP(w:World)(e:Ending)(w':World):Prop:=(∃(b:Nat) (er:Value),e=.returned (.tuple #[.float .f64 b,er])∧Err er)∧w=w'
theorem results_tmp2{fn:Func}{a b:Tmp}(h:fn.results=#[.tmp a,.tmp b])(tmps:Array Value)(P:Program)(w:World):
 (results fn tmps).run P w=.ok (.tuple #[tmps.getD a undef,tmps.getD b undef]) w:=by
 simp[results,h]
theorem pack_any(m:Nat)(x:Int)(w:World)(hm:m<18446744073709551616)(h1: -1100≤x)(h2:x≤4000):Calls Tryz.prog 197 #[.int .u64 (m:Int),.int .i64 x] w (PkP w):=by
 have HF:=fun(n:Nat) w=>frombits n w;by_cases h0:bits BinOp.and IntKind.u64 (m:Int) 4503599627370496=0
 ·have h0t:(bits BinOp.and IntKind.u64 (m:Int) 4503599627370496==0)=true:=beq_iff_eq.2 h0
  clear h0;go_enter Tryz.func197,Tryz.ntmps197;go_wp2;refine bodyPost_ret (results_tmp2 rfl _ _ _) rfl ?_;exact⟨⟨_,_,rfl,.inl rfl⟩,rfl⟩
 ·have h0f:(bits BinOp.and IntKind.u64 (m:Int) 4503599627370496==0)=false:=beq_eq_false_iff_ne.2 h0
  clear h0;by_cases h3:972≤x
  ·obtain⟨z,hz⟩:∃z,bits BinOp.or IntKind.u64 (bits BinOp.and IntKind.u64 (m:Int) 9223372036854775808) 9218868437227405312=z:=⟨_,rfl⟩
   have z0:0≤z:=by rw[←hz];exact bits_lo_u64 _ _ _
   obtain⟨n,rfl⟩:∃n:Nat,z=(n:Int):=⟨z.toNat,by omega⟩
   go_enter Tryz.func197,Tryz.ntmps197;go_wp2;refine bodyPost_ret (results_tmp2 rfl _ _ _) rfl ?_;exact⟨⟨_,_,rfl,.inr rfl⟩,rfl⟩
  ·obtain⟨z,hz⟩:∃z,bits BinOp.or IntKind.u64 (bits BinOp.andNot IntKind.u64 (m:Int) 4503599627370496) (IntKind.u64.wrap (IntKind.u64.wrap (1075+x)*4503599627370496))=z:=⟨_,rfl⟩
   have z0:0≤z:=by rw[←hz];exact bits_lo_u64 _ _ _
   obtain⟨n,rfl⟩:∃n:Nat,z=(n:Int):=⟨z.toNat,by omega⟩
   have h3f:decide (972≤x)=false:=decide_eq_false h3;go_enter Tryz.func197,Tryz.ntmps197;go_wp2;refine bodyPost_ret (results_tmp2 rfl _ _ _) rfl ?_;exact⟨⟨_,_,rfl,.inl rfl⟩,rfl⟩
theorem bel_drawn{B:Nat}{w w':World}(h:Below B w w')(n:Nat):Below B w (w'.drewN n):=⟨h.os,h.tape,h.output,h.size,h.block⟩
theorem P10.below{w w':World}{B:Nat}(h:P10 w)(hB:16≤B)(hb:Below B w w'):P10 w':=fun i hi=>⟨(hb.cell (p:=⟨15,i*2,none⟩) (by show 15<B;omega)).trans (h i hi).1,(hb.cell (p:=⟨15,i*2+1,none⟩) (by show 15<B;omega)).trans (h i hi).2⟩
abbrev preZ:Obj:=.cells #[.int .u64 0,.int .u64 0,.int .i64 0] 250
abbrev preO(ix s:Nat):Obj:=.cells #[.int .u64 (rowOf ix).1,.int .u64 (rowOf ix).2,.int .i64 s] 250
theorem prescale_new(e p lp:Int)(ix s:Nat)(w:World)(hi1:p- -348=(ix:Int))(hi2:ix<696)(he: -2000≤e)(he2:e≤2000)(hl: -2000≤lp)(hl2:lp≤2000)
 (hT:P10 w) (h16:17≤w.heap.size) (hs: -(e+lp+3)=(s:Int)):
 Calls Tryz.prog 189 #[.pointer (some ⟨w.heap.size,0,none⟩),.int .i64 e,.int .i64 p,.int .i64 lp] (w.alloc preZ) fun en w'=>en=.returned (.tuple #[])∧w'=w.alloc (preO ix s):=by
 refine(prescale_any e p lp ix w.heap.size s _ _ _ 250 (w.alloc preZ) hi1 hi2 he he2 hl hl2 (hT.below (B:=17) (by omega) ((Below.refl 17 w).alloc h16 _)) hs (by omega) (Blk.new w 250 _)).mono ?_;rintro en w'⟨rfl,rfl⟩;refine⟨rfl,?_⟩;rw[World.setCell_alloc_at _ _ _ _ _ rfl,World.setCell_alloc_at _ _ _ _ _ rfl,World.setCell_alloc_at _ _ _ _ _ rfl];rfl
theorem pre_new(w:World)(ix s:Nat)(n:Nat):PreAt ((w.alloc (preO ix s)).drewN n) w.heap.size ⟨(rowOf ix).1,(rowOf ix).2,s⟩:=⟨(Blk.new w 250 _).cell 0,(Blk.new w 250 _).cell 1,(Blk.new w 250 _).cell 2⟩
def PfP(w:World)(e:Ending)(w':World):Prop:=(∃(b:Nat) (er:Value),e=.returned (.tuple #[.float .f64 b,er])∧Err er)∧Below w.heap.size w w'
theorem parse_walk(d b sg:Nat)(p lp:Int)(ix s:Nat)(x a u2 R m:Nat)(t:Nat)(w:World)(hb1:1≤b)(hb2:b≤64)(hp1: -345≤p)(hp2:p≤310)(hl1: -1200≤lp)(hl2:lp≤1100)(hs1:s≤200)
 (hd:d<18446744073709551616) (hsg:sg<18446744073709551616)
 (hx:IntKind.u64.wrap ((d:Int)*2^(64-b))=(x:Int)) (ha1:a<18446744073709551616) (ht:t≤1) (hu2:bits BinOp.or IntKind.u64 ((a:Int)/2^t) (bits BinOp.and IntKind.u64 (a:Int) 1)=(u2:Int))
 (hR:bits BinOp.or IntKind.u64 (sg:Int) (R:Int)=(m:Int))
 (HB:Hid (∀W,Calls Tryz.prog 187 #[.int .u64 (d:Int)] W fun en w'=>en=.returned (.int .i64 (b:Int))∧W=w'))
 (HLG:Hid (∀W,Calls Tryz.prog 188 #[.int .i64 p] W fun en w'=>en=.returned (.int .i64 lp)∧W=w'))
 (HPS:Hid (Calls Tryz.prog 189 #[.pointer (some ⟨w.heap.size,0,none⟩),.int .i64 (min 1074 (53-(b:Int)-lp)-(64-(b:Int))),.int .i64 p,.int .i64 lp] (w.alloc preZ) fun en w'=>en=.returned (.tuple #[])∧w'=w.alloc (preO ix s)))
 (HS:Hid (s<64→∀W,PreAt W w.heap.size ⟨(rowOf ix).1,(rowOf ix).2,s⟩→Calls Tryz.prog 190 #[.int .u64 (x:Int),.pointer (some ⟨w.heap.size,0,none⟩)] W fun en w'=>en=.returned (.int .u64 (a:Int))∧∃n,w'=W.drewN n))
 (HU:Hid (∀W,Calls Tryz.prog 192 #[.int .u64 9007199254740992] W fun e w'=>e=.returned (.int .u64 36028797018963966)∧W=w'))
 (HT:Hid (∀W,Calls Tryz.prog 191 #[.bool (decide (36028797018963966≤(a:Int)))] W fun e w'=>e=.returned (.int .i64 (t:Int))∧W=w'))
 (HR:Hid (∀W,Calls Tryz.prog 194 #[.int .u64 (u2:Int)] W fun en w'=>en=.returned (.int .u64 (R:Int))∧W=w'))
 (HPK:Hid (∀W x, -1100≤x→x≤4000→Calls Tryz.prog 197 #[.int .u64 (m:Int),.int .i64 x] W (PkP W))):
 Calls Tryz.prog 180 #[.int .u64 (d:Int),.int .i64 p,.int .u64 (sg:Int)] w (PfP w):=by
 have HF:=hid fun(n:Nat) w=>frombits n w;by_cases h64:64≤s
 ·obtain⟨z,hz⟩:∃z,bits BinOp.or IntKind.u64 (sg:Int) 0=z:=⟨_,rfl⟩
  have z0:0≤z:=by rw[←hz];exact bits_lo_u64 _ _ _
  obtain⟨zn,rfl⟩:∃n:Nat,z=(n:Int):=⟨z.toNat,by omega⟩
  have HF2:=HF.out;have h64i:(64:Int)≤(s:Int):=by omega
  clear hx hu2 hR;go_enter Tryz.func180,Tryz.ntmps180;go_wp2_with fail;refine(HB.out _).mono ?_;rintro en w1⟨rfl,rfl⟩;go_wp2_with fail;refine(HLG.out _).mono ?_;rintro en w1⟨rfl,rfl⟩;go_wp2_with fail;refine(HPS.out).mono ?_;rintro en w1⟨rfl,rfl⟩;go_wp2_with fail;refine bodyPost_ret (results_tmp2 rfl _ _ _) rfl ?_;exact⟨⟨_,_,rfl,.inl rfl⟩,(Below.refl _ _).alloc (Nat.le_refl _) _⟩
 ·have HS2:=hid (HS.out (by omega))
  have h64i:(s:Int)<64:=by omega
  have hsh:(0:Int)≤64-(b:Int):=by omega
  have hshn:(64-(b:Int)).toNat=64-b:=by omega
  have hti:(t:Int)≤1:=by omega
  go_enter Tryz.func180,Tryz.ntmps180;go_wp2_with fail;refine(HB.out _).mono ?_;rintro en w1⟨rfl,rfl⟩;go_wp2_with fail;refine(HLG.out _).mono ?_;rintro en w1⟨rfl,rfl⟩;go_wp2_with fail;refine(HPS.out).mono ?_;rintro en w1⟨rfl,rfl⟩;go_wp2_with fail;refine(HS2.out _ (pre_new _ _ _ 0)).mono ?_;rintro en w1⟨rfl,n1,rfl⟩;go_wp2_with fail;refine(HU.out _).mono ?_;rintro en w1⟨rfl,rfl⟩;go_wp2_with fail;refine(HT.out _).mono ?_;rintro en w1⟨rfl,rfl⟩;go_wp2_with fail;refine(HR.out _).mono ?_;rintro en w1⟨rfl,rfl⟩;go_wp2_with fail;refine(HPK.out _ _ (by omega) (by omega)).mono ?_;rintro en w1⟨⟨b,er,rfl,her⟩,rfl⟩;go_wp2_with fail;refine bodyPost_ret (results_tmp2 rfl _ _ _) rfl ?_;exact⟨⟨_,_,rfl,her⟩,bel_drawn ((Below.refl _ _).alloc (Nat.le_refl _) _) _⟩
theorem blen(d:Nat)(h0:1≤d)(h:d<18446744073709551616):1≤Lib.bitLen d∧Lib.bitLen d≤64:=by refine⟨?_,Lib.bitLen_le d 64 (by omega) (by omega)⟩;unfold Lib.bitLen Lib.bitLenAux;split<;>omega
theorem parse64_any(d sg:Nat)(p:Int)(w:World)(h1:1≤d)(hd:d<18446744073709551616)(hsg:sg<18446744073709551616)(hp1: -345≤p)(hp2:p≤310)(hT:P10 w)(h16:17≤w.heap.size):
 Calls Tryz.prog 180 #[.int .u64 (d:Int),.int .i64 p,.int .u64 (sg:Int)] w (PfP w):=by
 obtain⟨hb1,hb2⟩:=blen d h1 hd;obtain⟨b,hb⟩:∃b,Lib.bitLen d=b:=⟨_,rfl⟩
 have HB:=hid (fun W=>(Tryz.bits_Len64 (d:Int) W (by omega) (by omega)).mono (R':=fun en w'=>en=.returned (.int .i64 (b:Int))∧W=w') fun e w' h=>⟨by rw[h.1,Int.toNat_natCast,hb],h.2.symm⟩);rw[hb]at hb1 hb2;have HLG:=hid (fun W=>log2_any p (by omega) (by omega) W);obtain⟨lp,hlp⟩:∃lp,p*108853/32768=lp:=⟨_,rfl⟩
 have l1: -1200≤lp:=by omega
 have l2:lp≤1100:=by omega
 rw[hlp]at HLG;clear hlp;obtain⟨s,hs⟩:∃s:Nat, -(min 1074 (53-(b:Int)-lp)-(64-(b:Int))+lp+3)=(s:Int):=⟨(-(min 1074 (53-(b:Int)-lp)-(64-(b:Int))+lp+3)).toNat,by omega⟩
 obtain⟨ix,hix⟩:∃ix:Nat,p- -348=(ix:Int):=⟨(p- -348).toNat,by omega⟩
 have HPS:=hid (prescale_new (min 1074 (53-(b:Int)-lp)-(64-(b:Int))) p lp ix s w hix (by omega) (by omega) (by omega) (by omega) (by omega) hT h16 hs);obtain⟨x,hx⟩:∃x:Nat,IntKind.u64.wrap ((d:Int)*2^(64-b))=(x:Int):=⟨(IntKind.u64.wrap ((d:Int)*2^(64-b))).toNat,by have:=(u64_in ((d:Int)*2^(64-b))).1;omega⟩
 have hx1:x<18446744073709551616:=by have:=(u64_in ((d:Int)*2^(64-b))).2;omega
 have hscl:=scl_in ((x*(rowOf ix).1/18446744073709551616:Nat):Int) ((x*(rowOf ix).1% 18446744073709551616:Nat):Int) ((x*(rowOf ix).2/18446744073709551616:Nat):Int) s;obtain⟨a,ha⟩:∃a:Nat,scale x ⟨(rowOf ix).1,(rowOf ix).2,s⟩=(a:Int):=⟨(scale x ⟨(rowOf ix).1,(rowOf ix).2,s⟩).toNat,by have:0≤scale x ⟨(rowOf ix).1,(rowOf ix).2,s⟩:=hscl.1;omega⟩
 have ha1:a<18446744073709551616:=by have:scale x ⟨(rowOf ix).1,(rowOf ix).2,s⟩≤18446744073709551615:=hscl.2;omega
 have HS:=hid (fun(h64:s<64) W (hW:PreAt W w.heap.size ⟨(rowOf ix).1,(rowOf ix).2,s⟩)=>scale_any x ⟨(rowOf ix).1,(rowOf ix).2,s⟩ w.heap.size W hx1 ⟨(row_in ix).1,(row_in ix).2,show s≤63 by omega⟩ hW);rw[ha]at HS;obtain⟨t,ht⟩:∃t:Nat,(if decide (36028797018963966≤(a:Int))=true then(1:Int)else 0)=(t:Int)∧t≤1:=by
  cases decide (36028797018963966≤(a:Int))
  ·exact⟨0,rfl,by omega⟩
  ·exact⟨1,rfl,by omega⟩
 have HT:=hid (fun W=>(Tryz.internal_strconv_bool2_int (decide (36028797018963966≤(a:Int))) W).mono (R':=fun e w'=>e=.returned (.int .i64 (t:Int))∧W=w') fun e w' h=>⟨by rw[h.1,←ht.1],h.2.symm⟩);obtain⟨u2,hu2⟩:∃u2:Nat,bits BinOp.or IntKind.u64 ((a:Int)/2^t) (bits BinOp.and IntKind.u64 (a:Int) 1)=(u2:Int):=⟨(bits BinOp.or IntKind.u64 ((a:Int)/2^t) (bits BinOp.and IntKind.u64 (a:Int) 1)).toNat,by have:=bits_lo_u64 BinOp.or ((a:Int)/2^t) (bits BinOp.and IntKind.u64 (a:Int) 1);omega⟩
 have hu3:(u2:Int)≤18446744073709551615:=by rw[←hu2];exact bits_hi_u64 _ _ _
 have HR:=hid (fun W=>round_any (u2:Int) (by omega) hu3 W);obtain⟨R,hR⟩:∃R:Nat,roundF (u2:Int)=(R:Int):=⟨(roundF (u2:Int)).toNat,by
  have:0≤roundF (u2:Int):=by unfold roundF;have:=(u64_in (IntKind.u64.wrap ((u2:Int)+1)+bits BinOp.and IntKind.u64 ((u2:Int)/4) 1)).1;omega
  omega⟩
 rw[hR]at HR;obtain⟨m,hm⟩:∃m:Nat,bits BinOp.or IntKind.u64 (sg:Int) (R:Int)=(m:Int):=⟨(bits BinOp.or IntKind.u64 (sg:Int) (R:Int)).toNat,by have:=bits_lo_u64 BinOp.or (sg:Int) (R:Int);omega⟩
 have hm1:m<18446744073709551616:=by have:=bits_hi_u64 BinOp.or (sg:Int) (R:Int);omega
 exact parse_walk d b sg p lp ix s x a u2 R m t w hb1 hb2 hp1 hp2 l1 l2 (by omega) hd hsg hx ha1 ht.2 hu2 hm HB HLG HPS HS (hid unmin_any) HT HR (hid fun W x h1 h2=>pack_any m x W hm1 h1 h2)
def FlP(w:World)(F fo fc:Nat):Prop:=w.cell? ⟨14,0,none⟩=some (.slice (some ⟨F,fo,none⟩) 23 fc)∧
 ∀i,i<23→∃y:Nat,w.cell? ⟨F,fo+i,none⟩=some (.float .f64 y)∧0<y∧y<9218868437227405312
def ExP(w:World)(e:Ending)(w':World):Prop:=(∃(b:Nat) (ok:Bool),e=.returned (.tuple #[.float .f64 b,.bool ok]))∧w=w'
theorem exact_any(z:Nat)(x:Int)(ng:Bool)(F fo fc:Nat)(w:World)(hz:z<18446744073709551616)(h1: -400000≤x)(h2:x≤400000)(hf0:w.cell? ⟨11,0,none⟩=some (.int .u64 52))(hF:FlP w F fo fc):
 Calls Tryz.prog 179 #[.int .u64 (z:Int),.int .i64 x,.bool ng] w (ExP w):=by
 have HFT:=hid hF;have h13:=hF.1;clear hF;by_cases hz1:z<4503599627370496
 ·have hsh:((z:Int)/4503599627370496)=0:=by omega
  have hpl:=hid (Fl.of_int (z:Int));obtain⟨f0,hf0'⟩:∃f,Go.floatOfInt .f64 (z:Int)=f:=⟨_,rfl⟩
  rw[hf0']at hpl;go_enter Tryz.func179,Tryz.ntmps179;go_upto_if 15 with fail
  go_cut [6] (fun s6 wx=>∃f,s6=.float .f64 f∧Hid (Fl.Pl f)∧w=wx)
  case first=>as_aux_lemma=>
   cases ng with
   |true=>
    obtain⟨q,hq⟩:∃q,Op.negFloat .f64 f0=q:=⟨_,rfl⟩
    have HQ:=hid (Fl.neg_pl hpl.out);have hn:∀w,(Op.unary .neg (.float .f64 f0)).run Tryz.prog w=.ok (.float .f64 q) w:=by intro w;rw[←hq];rfl
    have hq2:f0^^^9223372036854775808=q:=hq;rw[hq2]at HQ;clear hq hq2;go_wp2_with fail
    go_meet
    exact⟨_,rfl,HQ,rfl⟩
   |false=>
    go_wp2_with fail
    go_meet
    exact⟨_,rfl,hpl,rfl⟩
  case rest=>as_aux_lemma=>
   clear hpl hf0';obtain⟨f,rfl,HP,rfl⟩:=hcut;by_cases hx0:x=0
   ·subst hx0
    go_wp2_with fail
    ((try simp only[Exit.inBlock,Exit.then]);refine bodyPost_ret (results_tmp2 rfl _ _ _) rfl ?_)
    exact⟨⟨_,_,rfl⟩,rfl⟩
   ·have hx0f:(x==0)=false:=beq_eq_false_iff_ne.2 hx0
    by_cases hxp:0<x
    ·clear hx0
     by_cases hx37:x≤37
     ·obtain⟨n,rfl⟩:∃n:Nat,x=(n:Int):=⟨x.toNat,by omega⟩
      go_upto_if 30 with fail
      go_cut [1,6] (fun s1 s6 wx=>∃(j f:Nat),s1=.int .i64 j∧s6=.float .f64 f∧j≤22∧Hid (Fl.Pl f)∧w=wx)
      case first=>as_aux_lemma=>
       by_cases h22:22<n
       ·have h22i:(22:Int)<(n:Int):=by omega
        obtain⟨k,hk⟩:∃k:Nat,(n:Int)-22=(k:Int):=⟨n-22,by omega⟩
        have hn22:n-22=k:=by omega
        obtain⟨y,hy,y0,y1⟩:=HFT.out.2 k (by omega);obtain⟨q,hq,hqp⟩:=Fl.mul_pl HP.out y0 y1;have hr:=fun(w:World)=>run_float_arith (P:=Tryz.prog) (w:=w) .mul 95 .f64 f y q hq;have HQ:=hid hqp;clear hqp hq;go_wp2_with fail
        go_meet
        exact⟨22,_,rfl,rfl,by omega,HQ,rfl⟩
       ·have h22i:(n:Int)≤22:=by omega
        go_wp2_with fail
        go_meet
        exact⟨n,_,rfl,rfl,by omega,HP,rfl⟩
      case rest=>as_aux_lemma=>
       clear HP;obtain⟨j,f,rfl,rfl,hj,HP,rfl⟩:=hcut;obtain⟨g1,hg1⟩:∃b,(FloatKind.f64.format.order f 4831355200913801216==some .gt)=b:=⟨_,rfl⟩
       obtain⟨g2,hg2⟩:∃b,(FloatKind.f64.format.order f 14054727237768577024==some .lt)=b:=⟨_,rfl⟩
       obtain⟨y,hy,y0,y1⟩:=HFT.out.2 j (by omega);obtain⟨q,hq,hqp⟩:=Fl.mul_pl HP.out y0 y1;have hr:=fun(w:World)=>run_float_arith (P:=Tryz.prog) (w:=w) .mul 95 .f64 f y q hq;clear hqp hq;cases g1<;>cases g2<;>
       ·go_wp2_with fail
        ((try simp only[Exit.inBlock,Exit.then]);refine bodyPost_ret (results_tmp2 rfl _ _ _) rfl ?_)
        exact⟨⟨_,_,rfl⟩,rfl⟩
     ·have hx37f:decide (x≤37)=false:=decide_eq_false hx37
      have hxn:decide (x<0)=false:=decide_eq_false (by omega);go_wp2_with fail
      ((try simp only[Exit.inBlock,Exit.then]);refine bodyPost_ret (results_tmp2 rfl _ _ _) rfl ?_)
      exact⟨⟨_,_,rfl⟩,rfl⟩
    ·have hxn:x<0:=by omega
     by_cases hx22: -22≤x
     ·obtain⟨n,rfl⟩:∃n:Nat,x= -(n:Int):=⟨(-x).toNat,by omega⟩
      obtain⟨y,hy,y0,y1⟩:=HFT.out.2 n (by omega);obtain⟨q,hq,hqp⟩:=Fl.div_pl HP.out y0 y1;have hr:=fun(w:World)=>run_float_arith (P:=Tryz.prog) (w:=w) .quo 95 .f64 f y q hq;clear hqp hq hx0 hxp;go_wp2_with fail
      ((try simp only[Exit.inBlock,Exit.then]);refine bodyPost_ret (results_tmp2 rfl _ _ _) rfl ?_)
      exact⟨⟨_,_,rfl⟩,rfl⟩
     ·have hx22f:decide (-22≤x)=false:=decide_eq_false hx22
      clear hx0 hxp;go_wp2_with fail
      ((try simp only[Exit.inBlock,Exit.then]);refine bodyPost_ret (results_tmp2 rfl _ _ _) rfl ?_)
      exact⟨⟨_,_,rfl⟩,rfl⟩
 ·have hsh:((z:Int)/4503599627370496 != 0)=true:=by simp;omega
  go_enter Tryz.func179,Tryz.ntmps179;go_wp2_with fail
  ((try simp only[Exit.inBlock,Exit.then]);refine bodyPost_ret (results_tmp2 rfl _ _ _) rfl ?_)
  exact⟨⟨_,_,rfl⟩,rfl⟩
end Go.Proofs.YtmodehfedhgcbaaGreatDoor

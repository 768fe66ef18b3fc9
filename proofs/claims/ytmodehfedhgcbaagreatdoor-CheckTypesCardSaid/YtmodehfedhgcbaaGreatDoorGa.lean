/- errors.As at a Code, and Code of an error. Conditions: errors.errorType as it is laid; a Code above 0. -/
import Derived.Test.YtmodehfedhgcbaaGreatDoorRows
import Derived.WalkKit
import Derived.WalkLawsBesides
import Derived.WalkSpells
import Derived.RegionTactic
import Derived.Deep.QuietTactic
import Derived.BigQuiet
import Derived.Deep.LoopGhost
import Derived.Lib.Hide
import Derived.Handy
import Derived.Below
import Derived.Test.YtmodehfedhgcbaaGreatDoorN15
import Derived.Test.YtmodehfedhgcbaaGreatDoorTie
import Derived.Test.YtmodehfedhgcbaaGreatDoorCards
import Derived.ProofKit
import Derived.OpenShut
import Derived.ChangeOld
import Derived.LaidMore
import Derived.LaidHandle
import Derived.Lay
import Derived.SevenTiedAt
import Derived.Stop.Joined
import Derived.Lib.LaidU8
import Derived.Lib.LaidU8T
import Derived.Lib.SmallJoins
import Derived.Deep.SlicePairs
set_option linter.unusedVariables false
set_option maxRecDepth 100000
set_option maxHeartbeats 2000000
namespace Go.Proofs.YtmodehfedhgcbaaGreatDoor.Er
open Go.RowKit
abbrev hdl(t:Nat):Value:=.pointer (some ⟨19,t,none⟩)
theorem valueOf_ptr(a:Addr)(w:World):(callFunc 27 #[.iface 47 (.pointer (some a))]).run Tryz.prog w=.ok (.value (.agg #[hdl 47,.pointer (some ⟨w.heap.size,0,none⟩),.int .u64 150])) (w.alloc (.cells #[.pointer (some a)] 47)):=by kernel_rfl
theorem valueOf_code(c:Int)(w:World):(callFunc 27 #[.iface 41 (.int .i64 c)]).run Tryz.prog w=.ok (.value (.agg #[hdl 41,.pointer (some ⟨w.heap.size,0,none⟩),.int .u64 130])) (w.alloc (.cells #[.int .i64 c] 41)):=by kernel_rfl
theorem type_ptr(p:Addr)(w:World):(callFunc 28 #[.agg #[hdl 47,.pointer (some p),.int .u64 150]]).run Tryz.prog w=.ok (.value (.iface 79 (.agg #[hdl 47]))) w:=by kernel_rfl
theorem typeOf_code(c:Int)(w:World):(callFunc 48 #[.iface 41 (.int .i64 c)]).run Tryz.prog w=.ok (.value (.iface 79 (.agg #[hdl 41]))) w:=by kernel_rfl
theorem isNil_eq(p:Addr)(w:World):(callFunc 29 #[.agg #[hdl 47,.pointer (some p),.int .u64 150]]).run Tryz.prog w=(do let x ←Extern.ReflectliteValue.isNil 47 p 150 22;pure (Next.value x):Sem Next).run Tryz.prog w:=by kernel_rfl
theorem loadVar51(p:Addr)(v:Value)(w:World)(h:w.cell? p=some v):(loadVar 47 p).run Tryz.prog w=.ok v w:=by simp[loadVar,h]
theorem loadVar44(p:Addr)(v:Value)(w:World)(h:w.cell? p=some v):(loadVar 41 p).run Tryz.prog w=.ok v w:=by simp[loadVar,h]
theorem isNil_at(p a:Addr)(w:World)(h:w.cell? p=some (.pointer (some a))):(callFunc 29 #[.agg #[hdl 47,.pointer (some p),.int .u64 150]]).run Tryz.prog w=.ok (.value (.bool false)) w:=by rw[isNil_eq];simp[Extern.ReflectliteValue.isNil,loadVar51 p _ w h]
theorem elem_eq(p:Addr)(w:World):(callFunc 49 #[.agg #[hdl 47,.pointer (some p),.int .u64 150]]).run Tryz.prog w=(do let x ←Extern.ReflectliteValue.elem 47 p 150 22;pure (Next.value x):Sem Next).run Tryz.prog w:=by kernel_rfl
theorem elem51(w:World):(Extern.Rtype.elem? 47).run Tryz.prog w=.ok (some 41) w:=by kernel_rfl
theorem mk44(p:Addr)(w:World):(Extern.ReflectliteValue.mk 41 p Extern.ReflectliteValue.flagAddr).run Tryz.prog w=.ok (.agg #[hdl 41,.pointer (some p),.int .u64 386]) w:=by kernel_rfl
theorem elem_at(p a:Addr)(w:World)(h:w.cell? p=some (.pointer (some a))):(callFunc 49 #[.agg #[hdl 47,.pointer (some p),.int .u64 150]]).run Tryz.prog w=.ok (.value (.agg #[hdl 41,.pointer (some a),.int .u64 386])) w:=by rw[elem_eq];simp[Extern.ReflectliteValue.elem,loadVar51 p _ w h,elem51,mk44]
theorem set_eq(q b:Addr)(w:World):(callFunc 50 #[.agg #[hdl 41,.pointer (some q),.int .u64 386],.agg #[hdl 41,.pointer (some b),.int .u64 130]]).run Tryz.prog w=(do let x ←(do let val ←loadVar 41 b;storeVar 41 q val;pure (Value.tuple #[]):Sem Value);pure (Next.value x):Sem Next).run Tryz.prog w:=by kernel_rfl
theorem store_at(q:Addr)(c old:Int)(w:World)(hq:w.cell? q=some (.int .i64 old))(hf:w.frozen? q=false):(store q (.int .i64 c)).run Tryz.prog w=.ok () (w.setCell q (.int .i64 c)):=by rw[run_store Tryz.prog w q _ .plain rfl,hq];simp[hf]
theorem storeVar_at(q:Addr)(c old:Int)(w:World)(hq:w.cell? q=some (.int .i64 old))(hf:w.frozen? q=false):(storeVar 41 q (.int .i64 c)).run Tryz.prog w=.ok () (w.setCell q (.int .i64 c)):=by
 have h0:q.add 0=q:=by simp[Addr.add]
 have:=store_at q c old w hq hf;simp[storeVar,storeCells,Value.cells,h0,this]
theorem set_at(q b:Addr)(c old:Int)(w:World)(hb:w.cell? b=some (.int .i64 c))(hq:w.cell? q=some (.int .i64 old))(hf:w.frozen? q=false):
 (callFunc 50 #[.agg #[hdl 41,.pointer (some q),.int .u64 386],.agg #[hdl 41,.pointer (some b),.int .u64 130]]).run Tryz.prog w=.ok (.value (.tuple #[])) (w.setCell q (.int .i64 c)):=by
 rw[set_eq];simp[loadVar44 b _ w hb,storeVar_at q c old w hq hf]
theorem kind_ptr(w:World):(callFunc 227 #[.pointer (some ⟨19,47,none⟩)]).run Tryz.prog w=.ok (.value (.int .u8 22)) w:=by kernel_rfl
theorem kind_code(w:World):(callFunc 227 #[.pointer (some ⟨19,41,none⟩)]).run Tryz.prog w=.ok (.value (.int .u8 2)) w:=by kernel_rfl
theorem elem_ptr(w:World):(callFunc 237 #[.agg #[.pointer (some ⟨19,47,none⟩)]]).run Tryz.prog w=.ok (.value (.iface 79 (.agg #[.pointer (some ⟨19,41,none⟩)]))) w:=by kernel_rfl
theorem impl_code(w:World):(callFunc 238 #[.agg #[.pointer (some ⟨19,41,none⟩)],.iface 79 (.agg #[.pointer (some ⟨19,31,none⟩)])]).run Tryz.prog w=.ok (.value (.bool true)) w:=by kernel_rfl
theorem assign_code(w:World):(callFunc 235 #[.agg #[.pointer (some ⟨19,41,none⟩)],.iface 79 (.agg #[.pointer (some ⟨19,41,none⟩)])]).run Tryz.prog w=.ok (.value (.bool true)) w:=by kernel_rfl
theorem cell_kept{W:World}{a:Addr}{v:Value}(o:Obj)(h:W.cell? a=some v):(W.alloc o).cell? a=some v:=(World.cell?_alloc_lt W o a (World.block_lt_of_cell? _ _ h)).trans h
theorem cell_made(W:World)(v:Value)(t:TypeId):(W.alloc (.cells #[v] t)).cell? ⟨W.heap.size,0,none⟩=some v:=by rw[World.cell?_alloc_at _ _ _ _ (by simp)];rfl
theorem as_inner(c:Int)(a p:Nat)(w:World)(ha:w.cell? ⟨a,0,none⟩=some (.int .i64 0))(hf:w.frozen? ⟨a,0,none⟩=false)(hp:w.cell? ⟨p,0,none⟩=some (.pointer (some ⟨a,0,none⟩))):
 Calls Tryz.prog 30 #[.iface 41 (.int .i64 c),.iface 47 (.pointer (some ⟨a,0,none⟩)),.agg #[.pointer (some ⟨19,47,none⟩),.pointer (some ⟨p,0,none⟩),.int .u64 150],.iface 79 (.agg #[.pointer (some ⟨19,41,none⟩)])] w
  fun e w'=>e=.returned (.bool true)∧∃o o',w'=(((w.alloc o).alloc o').setCell ⟨a,0,none⟩ (.int .i64 c)):=by
 have v1:=fun w=>typeOf_code c w;have v2:=fun w=>assign_code w;have v3:=fun w=>valueOf_code c w;have v4:=fun o=>elem_at ⟨p,0,none⟩ ⟨a,0,none⟩ (w.alloc o) (cell_kept o hp);have v5:=fun o=>set_at ⟨a,0,none⟩ ⟨w.heap.size+1,0,none⟩ c 0 ((w.alloc o).alloc (.cells #[.int .i64 c] 41)) (by have:=cell_made (w.alloc o) (.int .i64 c) 41;rw[World.size_alloc]at this;exact this) (cell_kept _ (cell_kept _ ha)) (by have hb:=World.block_lt_of_cell? _ _ ha;have hb':a<w.heap.size:=hb;rw[World.frozen?_alloc_past _ _ _ (by rw[World.size_alloc];omega),World.frozen?_alloc_past _ _ _ hb'];exact hf)
 go_enter Tryz.func30,Tryz.ntmps30;go_wp2_with fail;refine wp_loop_rounds 1 ?_;rw[rounds_succ];go_wp2_with fail;go_ret;exact⟨rfl,_,_,rfl⟩
theorem as_any(c:Int)(a:Nat)(w:World)(he:w.cell? ⟨0,0,none⟩=some (.iface 79 (.agg #[.pointer (some ⟨19,31,none⟩)])))(ha:w.cell? ⟨a,0,none⟩=some (.int .i64 0))(hf:w.frozen? ⟨a,0,none⟩=false):
 Calls Tryz.prog 18 #[.iface 41 (.int .i64 c),.iface 47 (.pointer (some ⟨a,0,none⟩))] w fun e w'=>e=.returned (.bool true)∧∃o1 o2 o3 o4,w'=(((((w.alloc o1).alloc o2).alloc o3).alloc o4).setCell ⟨a,0,none⟩ (.int .i64 c)):=by
 have hb:a<w.heap.size:=World.block_lt_of_cell? _ _ ha;have h0:0<w.heap.size:=World.block_lt_of_cell? _ _ he;have v1:=fun w=>valueOf_ptr ⟨a,0,none⟩ w;have v2:=fun p w=>type_ptr p w;have v3:=fun w=>kind_ptr w;have v4:=fun w=>kind_code w;have v5:=fun w=>elem_ptr w;have v6:=fun w=>impl_code w;have v7:=fun o=>isNil_at ⟨w.heap.size,0,none⟩ ⟨a,0,none⟩ ((w.alloc (.cells #[.pointer (some ⟨a,0,none⟩)] 47)).alloc o) (cell_kept o (cell_made w _ 47));have he2:=fun o o'=>cell_kept (W:=w.alloc o) o' (cell_kept o he);have ha2:=fun o o'=>cell_kept (W:=w.alloc o) o' (cell_kept o ha);have hf2:∀o o',((w.alloc o).alloc o').frozen? ⟨a,0,none⟩=false:=fun o o'=>by rw[World.frozen?_alloc_past _ _ _ (by rw[World.size_alloc];omega),World.frozen?_alloc_past _ _ _ hb];exact hf
 have hp2:=fun o=>cell_kept o (cell_made w (.pointer (some ⟨a,0,none⟩)) 47);have H:=Lib.hid (fun o=>as_inner c a w.heap.size ((w.alloc (.cells #[.pointer (some ⟨a,0,none⟩)] 47)).alloc o) (ha2 _ _) (hf2 _ _) (hp2 _));clear ha2 hf2 hp2 ha hf;go_enter Tryz.func18,Tryz.ntmps18;go_wp2_with fail;refine(H.out _).mono ?_;rintro e w1⟨rfl,o3,o4,rfl⟩;go_wp2;go_ret;exact⟨rfl,_,_,_,_,rfl⟩
def ErrT(w:World):Prop:=w.cell? ⟨0,0,none⟩=some (.iface 79 (.agg #[.pointer (some ⟨19,31,none⟩)]))
theorem code_nil(w:World):Calls Tryz.prog 9 #[.nilIface] w fun e w'=>e=.returned (.int .i64 0)∧w=w':=by go_enter Tryz.func9,Tryz.ntmps9;go_wp2;go_ret;exact⟨rfl,rfl⟩
theorem code_is(c:Int)(hc:0<c)(w:World)(he:ErrT w):Calls Tryz.prog 9 #[.iface 41 (.int .i64 c)] w fun e w'=>e=.returned (.int .i64 c)∧Below w.heap.size w w':=by have H:=Lib.hid (as_any c w.heap.size (w.alloc (.cells #[.int .i64 0] 41)) (cell_kept _ he) (cell_made w _ 41) (World.frozen?_alloc_at _ _ _ _ rfl));clear he;go_enter Tryz.func9,Tryz.ntmps9;go_wp2_with fail;refine(H.out).mono ?_;rintro e w1⟨rfl,o1,o2,o3,o4,rfl⟩;go_wp2;go_ret;exact⟨rfl,by go_grown⟩
end Go.Proofs.YtmodehfedhgcbaaGreatDoor.Er

set_option linter.unusedVariables false
set_option maxRecDepth 100000
namespace Go.Proofs.YtmodehfedhgcbaaGreatDoor
open Go.ChangeShapes Go.WideShapes Go.ChangeAt Go.RowKit
theorem own:ownKnob Tryz.prog.godebug=none:=by kernel_rfl
theorem laidOut:laidOutB Tryz.prog=true:=by kernel_rfl
noncomputable def laid17:List (String×DataW Unit):=Rows.checkKidsRow.laid
noncomputable def laid16:List (String×DataW Unit):=laid17.filter fun x=>x.2.handleName?.isNone
theorem oneRow:((List.range Tryz.prog.types.size).filter fun t=>Tryz.prog.rowNamed t [101,114,114,111,114])=[31]:=by kernel_rfl
theorem hand31:typeHandle Tryz.prog 31=.pointer (some ⟨19,31,none⟩):=by kernel_rfl
theorem addr_plain(b off k:Nat):(⟨b,off,none⟩:Addr).add k=⟨b,off+k,none⟩:=by unfold Addr.add;split<;>simp_all
section
variable {W:World}
theorem p10_of(h:Lib.VarReads Tryz.prog W "internal/strconv.pow10Tab" Rows.laid_internal_strconv_pow10Tab):P10 W:=by
 obtain⟨g,t,cs,fuel,p,hg,hty,hvar,hd⟩:=h;obtain rfl:15=g:=Option.some.inj ((by kernel_rfl:some 15=Tryz.prog.globalNamed "internal/strconv.pow10Tab").trans hg);obtain rfl:265=t:=Option.some.inj ((by kernel_rfl:some 265=_).trans hty);intro i hi;have hlen:Go.Pinned.pow10Rows.length=696:=by decide+kernel
 obtain⟨fuel',d,q,hdi,he⟩:=Lib.array_elem (n:=696) (e:=264) Tryz.underlying265 hd i hi;have hrow:Go.Pinned.pow10Rows[i]? =some (rowOf i):=by unfold rowOf;rw[List.getD_eq_getElem?_getD,List.getElem?_eq_getElem (by rw[hlen];exact hi)];rfl
 rw[List.getElem?_map,hrow]at hdi;simp only[Option.map_some,Option.some.injEq]at hdi;subst hdi;have hc2:Tryz.prog.cellsOf 264=2:=by kernel_rfl
 have hc1:Tryz.prog.cellsOf 22=1:=by kernel_rfl
 rw[hc2]at he;have hcs:=Lib.ints_of_struct (zs:=[((rowOf i).1:Int),((rowOf i).2:Int)]) Tryz.underlying264 (fun j f hj=>by
  match j,hj with
  |0,hj=>simp at hj;subst hj;exact⟨Tryz.underlying22,rfl,hc1⟩
  |1,hj=>simp at hj;subst hj;exact⟨Tryz.underlying22,rfl,hc1⟩
  |j+2,hj=>simp at hj) (by rw[hc2];rfl) he
 have e0:=congrArg (·[0]?) hcs;have e1:=congrArg (·[1]?) hcs;simp only[List.getElem?_take,List.getElem?_drop]at e0 e1;constructor
 ·rw[World.var?_cell hg hvar (i*2),←Array.getElem?_toList]
  simpa using e0
 ·rw[World.var?_cell hg hvar (i*2+1),←Array.getElem?_toList]
  simpa using e1
theorem opt_of(h:Lib.VarReads Tryz.prog W "internal/strconv.optimize" Rows.laid_internal_strconv_optimize):W.cell? ⟨10,0,none⟩=some (.bool true):=by
 obtain⟨g,t,cs,fuel,p,hg,hty,hvar,hd⟩:=h;obtain rfl:10=g:=Option.some.inj ((by kernel_rfl:some 10=Tryz.prog.globalNamed "internal/strconv.optimize").trans hg);obtain rfl:4=t:=Option.some.inj ((by kernel_rfl:some 4=_).trans hty);obtain⟨b,hb,hx⟩:=DataW.trod_bool Tryz.underlying4 hd;have:b=true:=by have h1:(Rows.laid_internal_strconv_optimize:DataW Unit)=.lit (.bool b):=congrArg Prod.fst hx;have h2:(DataW.lit (.bool true):DataW Unit)=.lit (.bool b):=h1;injection h2 with h2;injection h2 with h2;exact h2.symm
 subst this;rw[World.var?_cell hg hvar 0,←Array.getElem?_toList,hb];rfl
theorem info_field{t:TypeId}{cs:Array Value}{fuel:Nat}{xs:List (DataW Unit×List MemPlace)}{n i o u:Nat}{k:IntKind}{z:Int}(hu:Tryz.prog.underlying u=some (.int k))(hc:Tryz.prog.cellsOf u=1)
 (h:∀b,xs[i]? =some b→DataW.trod (fun _=>()) Tryz.prog W 0 (fun _=>true) false n u ((cs.toList.drop o).take (Tryz.prog.cellsOf u))=some b) (hx:xs[i]?.map (·.1)=some (.lit (.int k z))):cs.toList[o]? =some (.int k z):=by
 cases hq:xs[i]? with
 |none=>rw[hq]at hx;cases hx
 |some b=>rw[hq]at hx;have h1:=h b hq;rw[hc]at h1;obtain⟨y,hy,hb,_⟩:=DataW.trod_int hu h1;simp only[Option.map_some]at hx;rw[hb]at hx;have hyz:(DataW.lit (.int k y):DataW Unit)=.lit (.int k z):=Option.some.inj hx;have hyz2:=Lit.int.inj (DataW.lit.inj hyz);obtain⟨_,rfl⟩:=hyz2;have:=congrArg (·[0]?) hy;simpa[List.getElem?_take,List.getElem?_drop]using this
theorem info_of(h:Lib.VarReads Tryz.prog W "internal/strconv.float64info" Rows.laid_internal_strconv_float64info):W.cell? ⟨11,0,none⟩=some (.int .u64 52)∧W.cell? ⟨11,1,none⟩=some (.int .u64 11)∧W.cell? ⟨11,2,none⟩=some (.int .i64 (-1023)):=by
 obtain⟨g,t,cs,fuel,p,hg,hty,hvar,hd⟩:=h;obtain rfl:11=g:=Option.some.inj ((by kernel_rfl:some 11=Tryz.prog.globalNamed "internal/strconv.float64info").trans hg);obtain rfl:226=t:=Option.some.inj ((by kernel_rfl:some 226=_).trans hty);obtain⟨xs,n,rfl,hx,hl,hxl,hall⟩:=DataW.trod_struct Tryz.underlying226 hd;have h2:(DataW.agg [.lit (.int .u64 52),.lit (.int .u64 11),.lit (.int .i64 (-1023))]:DataW Unit)=.agg (xs.map (·.1)):=congrArg Prod.fst hx;injection h2 with h2;have k0:=info_field (t:=226) (fuel:=0) (i:=0) (o:=0) (z:=52) Tryz.underlying171 (by kernel_rfl) (fun b hb=>by have h1:=hall 0 _ rfl;rw[hb]at h1;exact h1) (by rw[←List.getElem?_map,←h2];rfl);have k1:=info_field (t:=226) (fuel:=0) (i:=1) (o:=1) (z:=11) Tryz.underlying171 (by kernel_rfl) (fun b hb=>by have h1:=hall 1 _ rfl;rw[hb]at h1;exact h1) (by rw[←List.getElem?_map,←h2];rfl);have k2:=info_field (t:=226) (fuel:=0) (i:=2) (o:=2) (z:= -1023) Tryz.underlying3 (by kernel_rfl) (fun b hb=>by have h1:=hall 2 _ rfl;rw[hb]at h1;exact h1) (by rw[←List.getElem?_map,←h2];rfl);refine⟨?_,?_,?_⟩
 ·rw[World.var?_cell hg hvar 0,←Array.getElem?_toList];exact k0
 ·rw[World.var?_cell hg hvar 1,←Array.getElem?_toList];exact k1
 ·rw[World.var?_cell hg hvar 2,←Array.getElem?_toList];exact k2
theorem float_cell{fuel:Nat}{v:Value}{x:Nat}{q:List MemPlace}(h:DataW.trod (fun _=>()) Tryz.prog W 0 (fun _=>true) false fuel 95 [v]=some (.lit (.float .f64 x),q)):v=.float .f64 x:=by
 cases fuel with
 |zero=>simp[DataW.trod]at h
 |succ n=>unfold DataW.trod at h;rw[Tryz.underlying95]at h;split at h<;>simp_all
def flN:List Nat:=[4607182418800017408,4621819117588971520,4636737291354636288,4652007308841189376,4666723172467343360,4681608360884174848,4696837146684686336,4711630319722168320,4726483295884279808,4741671816366391296,4756540486875873280,4771362005757984768,4786511204640096256,4801453603149578240,4816244402031689728,4831355200913801216,4846369599423283200,4861130398305394688,4876203697187506176,4891288408196988160,4906019910204099648,4921056587992461136,4936209963552724370]
theorem fl_is:(Rows.laid_internal_strconv_float64pow10:DataW Unit)=.slice (flN.map fun x=>.lit (.float .f64 x)) []:=by kernel_rfl
theorem fl_in(i:Nat)(hi:i<23):0<flN.getD i 0∧flN.getD i 0<9218868437227405312:=by
 have:∀i:Fin 23,0<flN.getD i.val 0∧flN.getD i.val 0<9218868437227405312:=by decide+kernel
 exact this ⟨i,hi⟩
theorem fl_at(i:Nat)(hi:i<23):((flN.map fun x=>(.lit (.float .f64 x):DataW Unit)))[i]? =some (.lit (.float .f64 (flN.getD i 0))):=by have hl:flN.length=23:=rfl;rw[List.getElem?_map,List.getD_eq_getElem?_getD,List.getElem?_eq_getElem (by rw[hl];exact hi)];rfl
theorem pow_of(h:Lib.VarReads Tryz.prog W "internal/strconv.float64pow10" Rows.laid_internal_strconv_float64pow10):∃F fo fc,FlP W F fo fc:=by
 obtain⟨g,t,cs,fuel,p,hg,hty,hvar,hd⟩:=h;obtain rfl:14=g:=Option.some.inj ((by kernel_rfl:some 14=Tryz.prog.globalNamed "internal/strconv.float64pow10").trans hg);obtain rfl:260=t:=Option.some.inj ((by kernel_rfl:some 260=_).trans hty);rw[fl_is]at hd;obtain⟨a,cap,hcs,hle,hall⟩:=open_row Tryz.underlying260 (by kernel_rfl) hd;obtain⟨F,off,sp⟩:=a;obtain⟨v0,n0,q0,hv0,_⟩:=hall 0 _ rfl;have hsp:sp=none:=by simpa[Addr.add]using World.cell?_spot hv0
 subst hsp;refine⟨F,off,cap,?_,fun i hi=>?_⟩
 ·rw[World.var?_cell hg hvar 0,←Array.getElem?_toList,hcs]
  rfl
 ·have key:∀(x:Nat) (d:DataW Unit),d=.lit (.float .f64 x)→(∃v n q,W.cell? ((⟨F,off,none⟩:Addr).add i)=some v∧DataW.trod (fun _=>()) Tryz.prog W 0 (fun _=>true) false n 95 [v]=some (d,q))→(0<x∧x<9218868437227405312)→∃y:Nat,W.cell? ⟨F,off+i,none⟩=some (.float .f64 y)∧0<y∧y<9218868437227405312:=by intro x d hd ⟨v,n,q,hv,ht⟩ hx;subst hd;have:=float_cell ht;subst this;rw[addr_plain]at hv;exact⟨x,hv,hx⟩
  have hin:=fl_in i hi;exact key (flN.getD i 0) _ rfl (hall i _ (fl_at i hi)) hin
theorem powtab_of(h:Lib.VarReads Tryz.prog W "internal/strconv.powtab" Rows.laid_internal_strconv_powtab):∃Q qo qc,W.cell? ⟨13,0,none⟩=some (.slice (some ⟨Q,qo,none⟩) 9 qc)∧∀i,i<9→W.cell? ⟨Q,qo+i,none⟩=some (.int .i64 (powN i:Int)):=by
 obtain⟨g,t,cs,fuel,p,hg,hty,hvar,hd⟩:=h;obtain rfl:13=g:=Option.some.inj ((by kernel_rfl:some 13=Tryz.prog.globalNamed "internal/strconv.powtab").trans hg);obtain rfl:48=t:=Option.some.inj ((by kernel_rfl:some 48=_).trans hty);obtain⟨a,cap,hcs,hle,hall⟩:=open_row Tryz.underlying48 (by kernel_rfl) hd;obtain⟨F,off,sp⟩:=a;obtain⟨v0,n0,q0,hv0,_⟩:=hall 0 _ rfl;have hsp:sp=none:=by simpa[Addr.add]using World.cell?_spot hv0
 subst hsp;refine⟨F,off,cap,?_,fun i hi=>?_⟩
 ·rw[World.var?_cell hg hvar 0,←Array.getElem?_toList,hcs]
  rfl
 ·have key:∀(x:Int) (d:DataW Unit),d=.lit (.int .i64 x)→(∃v n q,W.cell? ((⟨F,off,none⟩:Addr).add i)=some v∧DataW.trod (fun _=>()) Tryz.prog W 0 (fun _=>true) false n 3 [v]=some (d,q))→W.cell? ⟨F,off+i,none⟩=some (.int .i64 x):=by intro x d hd ⟨v,n,q,hv,ht⟩;subst hd;obtain⟨y,hy,hb,_⟩:=DataW.trod_int Tryz.underlying3 ht;have hb2:(DataW.lit (.int .i64 x):DataW Unit)=.lit (.int .i64 y):=congrArg Prod.fst hb;obtain⟨_,rfl⟩:=Lit.int.inj (DataW.lit.inj hb2);rw[addr_plain]at hv;rw[hv];exact congrArg some (List.head_eq_of_cons_eq hy)
  match i,hi with
  |0,_=>exact key _ _ rfl (hall 0 _ rfl)
  |1,_=>exact key _ _ rfl (hall 1 _ rfl)
  |2,_=>exact key _ _ rfl (hall 2 _ rfl)
  |3,_=>exact key _ _ rfl (hall 3 _ rfl)
  |4,_=>exact key _ _ rfl (hall 4 _ rfl)
  |5,_=>exact key _ _ rfl (hall 5 _ rfl)
  |6,_=>exact key _ _ rfl (hall 6 _ rfl)
  |7,_=>exact key _ _ rfl (hall 7 _ rfl)
  |8,_=>exact key _ _ rfl (hall 8 _ rfl)
theorem cheat_of(h:Lib.VarReads Tryz.prog W "internal/strconv.leftcheats" Rows.laid_internal_strconv_leftcheats):∃P off c,Cheat W P off c:=by
 obtain⟨g,t,cs,fuel,p,hg,hty,hvar,hd⟩:=h;obtain rfl:16=g:=Option.some.inj ((by kernel_rfl:some 16=Tryz.prog.globalNamed "internal/strconv.leftcheats").trans hg);obtain rfl:276=t:=Option.some.inj ((by kernel_rfl:some 276=_).trans hty);have hlen:Go.Pinned.cheatRows.length=61:=by decide+kernel
 rcases Go.Deep.open_slice_pairs Tryz.underlying276 Tryz.underlying275 (by kernel_rfl) rfl rfl (by kernel_rfl) (by kernel_rfl) hd with ⟨_,hx⟩|⟨ad,len,cap,m,n,V0,V1,D0,D1,P0,P1,hcs,_,hl,hm,hmm,hx,hc⟩
 ·cases congrArg Prod.fst hx
 ·have hx1:(DataW.slice (Go.Pinned.cheatRows.map fun x=>.agg [.lit (.int .i64 x.1),.lit (.string x.2)]) []:DataW Unit)=_:=congrArg Prod.fst hx
  simp only[DataW.slice.injEq]at hx1;obtain⟨hx1,hx2⟩:=hx1;have hl61:len=61:=by have:=congrArg List.length hx1;simp only[List.length_map,List.length_range,hlen]at this;exact this.symm
  subst hl61;have hm61:61≤m:=by rw[hmm];split<;>omega
  have c0:=(hc 0 (by omega)).1;obtain⟨b,off,spot⟩:=ad;have hspot:spot=none:=by simpa[Addr.add]using World.cell?_spot c0
  subst hspot;refine⟨b,off,cap,?_,fun k hk=>?_⟩
  ·rw[World.var?_cell hg hvar 0,←Array.getElem?_toList,hcs]
   rfl
  ·obtain⟨g0,g1,d0,d1⟩:=hc k (by omega)
   have hrow:Go.Pinned.cheatRows[k]? =some (cheatRow k):=by unfold cheatRow;rw[List.getD_eq_getElem?_getD,List.getElem?_eq_getElem (by rw[hlen];exact hk)];rfl
   have e:=congrArg (·[k]?) hx1;simp only[List.getElem?_map,hrow,Option.map_some,List.getElem?_range hk,Option.some.injEq,DataW.agg.injEq,List.cons.injEq,and_true]at e;rw[addr_plain]at g0 g1;obtain⟨y,hy,hb,_⟩:=DataW.trod_int Tryz.underlying3 d0;obtain⟨z,hz,hb2,_⟩:=DataW.trod_string Tryz.underlying9 d1;have hb:D0 k=.lit (.int .i64 y):=congrArg Prod.fst hb;have hb2:D1 k=.lit (.string z.data.toList):=congrArg Prod.fst hb2;rw[←e.1]at hb;rw[←e.2]at hb2;obtain⟨_,hb⟩:=Lit.int.inj (DataW.lit.inj hb);simp only[List.cons.injEq,and_true]at hy hz;subst hb;rw[←Nat.add_assoc]at g1;rw[g0,g1,hy,hz];refine⟨rfl,congrArg some (congrArg Value.string ?_)⟩;unfold cheatS;have hb3:(cheatRow k).2=z.data.toList:=Lit.string.inj (DataW.lit.inj hb2);rw[hb3]
theorem iface_of{name:String}{g:Nat}{d:DataW Unit}{nm:List UInt8}{x:DataW Unit}(hgn:Tryz.prog.globalNamed name=some g)(hgt:(Tryz.prog.globals[g]?).map (·.type)=some 31)(h:Lib.VarReads Tryz.prog W name d)(hd:d≠ .nil):∃te pe,W.cell? ⟨g,0,none⟩=some (.iface te pe):=by
 obtain⟨g',t,cs,fuel,p,hg,hty,hvar,hr⟩:=h;obtain rfl:g=g':=Option.some.inj (hgn.symm.trans hg);obtain rfl:31=t:=Option.some.inj (hgt.symm.trans hty);have key:∃te pe,cs.toList=[.iface te pe]:=by
  clear hvar hty hgt hgn hg;generalize cs.toList=l at*
  cases fuel with
  |zero=>simp[DataW.trod]at hr
  |succ n=>
   unfold DataW.trod at hr;rw[Tryz.underlying31]at hr
   match l,hr with
   |[.nilIface],hr=>exact absurd (congrArg Prod.fst (Option.some.inj hr)).symm hd
   |[.iface u v],_=>exact⟨u,v,rfl⟩
 obtain⟨te,pe,hk⟩:=key;exact⟨te,pe,by rw[World.var?_cell hg hvar 0,←Array.getElem?_toList,hk];rfl⟩
end
section
def tab64:List Int:=[0,1,56,2,57,49,28,3,61,58,42,50,38,29,17,4,62,47,59,36,45,43,51,22,53,39,33,30,24,18,12,5,63,55,48,27,60,41,37,16,46,35,44,21,52,32,23,11,54,26,40,15,34,20,31,10,25,14,19,9,13,8,7,6]
theorem tab_is:Lib.tabData .u8 tab64=(Rows.laid_math_bits_deBruijn64tab:DataW Unit):=by kernel_rfl
theorem tab_at:∀t:Fin 64,tab64[Rg.idx t.val]? =some (t.val:Int):=by decide+kernel
theorem deB(t:Nat)(ht:(Tryz.prog.globals[8]?).map (·.type)=some t):∃u,Tryz.prog.underlying t=some (.array 64 u)∧Tryz.prog.underlying u=some (.int .u8)∧Tryz.prog.cellsOf u=1∧Tryz.prog.cellsOf t=64:=by obtain rfl:218=t:=Option.some.inj ((by kernel_rfl:some 218=_).trans ht);exact⟨5,Tryz.underlying218,Tryz.underlying5,by kernel_rfl,by kernel_rfl⟩
theorem tz_of{W:World}(h:Lib.VarReads Tryz.prog W "math/bits.deBruijn64tab" Rows.laid_math_bits_deBruijn64tab):Rg.TzT W:=by rw[←tab_is]at h;obtain⟨g,t,cs,fuel,p,hg,hty,hvar,hd⟩:=h;obtain rfl:8=g:=Option.some.inj ((by kernel_rfl:some 8=Tryz.prog.globalNamed "math/bits.deBruijn64tab").trans hg);obtain⟨u,hu,hu5,hc1,hc2⟩:=deB t hty;have hcs:=Lib.cells_of_tab hu hu5 hc1 hc2 hd;intro i hi;rw[World.var?_cell hg hvar (Rg.idx i),←Array.getElem?_toList,hcs,List.getElem?_map,tab_at ⟨i,hi⟩];rfl
end
section
variable {W:World}
theorem int_field{ls:List Value}{xs:List (DataW Unit×List MemPlace)}{n i o u:Nat}{k:IntKind}{z:Int}(hu:Tryz.prog.underlying u=some (.int k))(hc:Tryz.prog.cellsOf u=1)
 (h:∀b,xs[i]? =some b→DataW.trod (fun _=>()) Tryz.prog W 0 (fun _=>true) false n u ((ls.drop o).take (Tryz.prog.cellsOf u))=some b) (hx:xs[i]?.map (·.1)=some (.lit (.int k z))):ls[o]? =some (.int k z):=by
 cases hq:xs[i]? with
 |none=>rw[hq]at hx;cases hx
 |some b=>rw[hq]at hx;have h1:=h b hq;rw[hc]at h1;obtain⟨y,hy,hb,_⟩:=DataW.trod_int hu h1;simp only[Option.map_some]at hx;rw[hb]at hx;have hyz:(DataW.lit (.int k y):DataW Unit)=.lit (.int k z):=Option.some.inj hx;obtain⟨_,rfl⟩:=Lit.int.inj (DataW.lit.inj hyz);have:=congrArg (·[0]?) hy;simpa[List.getElem?_take,List.getElem?_drop]using this
theorem str_field{ls:List Value}{xs:List (DataW Unit×List MemPlace)}{n i o u:Nat}{z:List UInt8}(hu:Tryz.prog.underlying u=some .string)(hc:Tryz.prog.cellsOf u=1)
 (h:∀b,xs[i]? =some b→DataW.trod (fun _=>()) Tryz.prog W 0 (fun _=>true) false n u ((ls.drop o).take (Tryz.prog.cellsOf u))=some b) (hx:xs[i]?.map (·.1)=some (.lit (.string z))):ls[o]? =some (.string ⟨z.toArray⟩):=by
 cases hq:xs[i]? with
 |none=>rw[hq]at hx;cases hx
 |some b=>rw[hq]at hx;have h1:=h b hq;rw[hc]at h1;obtain⟨y,hy,hb⟩:=DataW.trod_string hu h1;have hb:b.1=.lit (.string y.data.toList):=congrArg Prod.fst hb.1;simp only[Option.map_some]at hx;rw[hb]at hx;have hyz:(DataW.lit (.string y.data.toList):DataW Unit)=.lit (.string z):=Option.some.inj hx;have hyz2:=Lit.string.inj (DataW.lit.inj hyz);subst hyz2;have:=congrArg (·[0]?) hy;simpa[List.getElem?_take,List.getElem?_drop]using this
def unitD(k:Nat):DataW Unit:=.agg [.lit (.string (Sp.nameAt k)),.lit (.int .i64 (Sp.sizeAt k:Int))]
theorem units_is:(Rows.laid_soundings_span_units:DataW Unit)=.agg ((List.range 7).map unitD):=by kernel_rfl
theorem units_of(h:Lib.VarReads Tryz.prog W "soundings/span.units" Rows.laid_soundings_span_units):Sp.Units W:=by
 obtain⟨g,t,cs,fuel,p,hg,hty,hvar,hd⟩:=h;obtain rfl:4=g:=Option.some.inj ((by kernel_rfl:some 4=Tryz.prog.globalNamed "soundings/span.units").trans hg);obtain rfl:181=t:=Option.some.inj ((by kernel_rfl:some 181=_).trans hty);rw[units_is]at hd;intro k hk;obtain⟨fuel',d,q,hdi,he⟩:=Lib.array_elem (n:=7) (e:=180) Tryz.underlying181 hd k hk;have hd2:d=unitD k:=by rw[List.getElem?_map,List.getElem?_range hk]at hdi;exact(Option.some.inj hdi).symm
 subst hd2;have hc2:Tryz.prog.cellsOf 180=2:=by kernel_rfl
 obtain⟨xs,n,_,hx,hl,hxl,hall⟩:=DataW.trod_struct Tryz.underlying180 he;have h2:unitD k=.agg (xs.map (·.1)):=congrArg Prod.fst hx;unfold unitD at h2;have h2:=DataW.agg.inj h2;have k0:=str_field (i:=0) (o:=0) (z:=Sp.nameAt k) Tryz.underlying9 (by kernel_rfl) (fun b hb=>by have h1:=hall 0 _ rfl;rw[hb]at h1;exact h1) (by rw[←List.getElem?_map,←h2];rfl);have k1:=int_field (i:=1) (o:=1) (z:=(Sp.sizeAt k:Int)) Tryz.underlying2 (by kernel_rfl) (fun b hb=>by have h1:=hall 1 _ rfl;rw[hb]at h1;exact h1) (by rw[←List.getElem?_map,←h2];rfl);rw[hc2]at k0 k1;simp only[List.getElem?_take,List.getElem?_drop]at k0 k1;constructor
 ·rw[World.var?_cell hg hvar (k*2),←Array.getElem?_toList]
  simpa using k0
 ·rw[World.var?_cell hg hvar (k*2+1),←Array.getElem?_toList]
  simpa using k1
end
theorem u8x:U8Extra Tryz.prog Tryz.laysValid_ren:={n3:=by kernel_rfl,n4:=by kernel_rfl,y3:=by kernel_rfl,y4:=by kernel_rfl,c5:=by kernel_rfl,c119:=by kernel_rfl,c138:=by kernel_rfl}
theorem first_is:Rows.laid_unicode_utf8_first=Lib.firstData:=by kernel_rfl
theorem accept_is:Rows.laid_unicode_utf8_acceptRanges=Lib.acceptData:=by kernel_rfl
theorem laid_of{W:World}(h:laidMetH Tryz.prog laid17 W):∃Q qo qc P off c F fo fc,Ck.Tabl Q qo qc P off c F fo fc W∧Er.ErrT W:=by
 have h':laidMet Tryz.prog laid16 W∧handlesMet Tryz.prog [(_,Rows.laid_errors_errorType)] W:=h;have m:∀n d,(n,d)∈laid17→d.handleName?.isNone=true→Lib.VarReads Tryz.prog W n d:=fun n d h1 h2=>Lib.laidMet.reads h'.1 (List.mem_filter.2 ⟨h1,h2⟩);obtain⟨Q,qo,qc,hq1,hq2⟩:=powtab_of (m _ _ (by simp[laid17,Rows.checkKidsRow]) rfl);obtain⟨P,off,c,hch⟩:=cheat_of (m _ _ (by simp[laid17,Rows.checkKidsRow]) rfl);obtain⟨F,fo,fc,hfl⟩:=pow_of (m _ _ (by simp[laid17,Rows.checkKidsRow]) rfl);obtain⟨i0,i1,i2⟩:=info_of (m _ _ (by simp[laid17,Rows.checkKidsRow]) rfl);have hsz:16<W.heap.size:=World.block_lt_of_cell? _ _ hch.1;have htz:=tz_of (m _ _ (by simp[laid17,Rows.checkKidsRow]) rfl);have r1:=m "unicode/utf8.first" Rows.laid_unicode_utf8_first (by simp[laid17,Rows.checkKidsRow]) rfl;have r2:=m "unicode/utf8.acceptRanges" Rows.laid_unicode_utf8_acceptRanges (by simp[laid17,Rows.checkKidsRow]) rfl;rw[first_is]at r1;rw[accept_is]at r2;refine⟨Q,qo,qc,P,off,c,F,fo,fc,⟨⟨⟨i0,i1,i2,hq1,hq2,hch,hfl,p10_of (m _ _ (by simp[laid17,Rows.checkKidsRow]) rfl),opt_of (m _ _ (by simp[laid17,Rows.checkKidsRow]) rfl),
  iface_of (g:=6) (name:="strconv.ErrSyntax") (d:=Rows.laid_strconv_ErrSyntax) (nm:=[]) (x:=.nil) (by kernel_rfl) (by kernel_rfl) (m _ _ (by simp[laid17,Rows.checkKidsRow]) rfl) (fun h=>by cases h),
  iface_of (g:=7) (name:="strconv.ErrRange") (d:=Rows.laid_strconv_ErrRange) (nm:=[]) (x:=.nil) (by kernel_rfl) (by kernel_rfl) (m _ _ (by simp[laid17,Rows.checkKidsRow]) rfl) (fun h=>by cases h),by omega⟩,
  units_of (m _ _ (by simp[laid17,Rows.checkKidsRow]) rfl),utf8Tabs_of_readsT (U8Types.of196 Tryz.laysValid) u8x r1 r2⟩,by omega,htz,utf8Tabs_of_readsT (U8Types.of196 Tryz.laysValid) u8x r1 r2⟩,?_⟩
 obtain⟨name,u,ty,e1,e2,e3,e4,e5⟩:=h'.2 _ (List.mem_singleton.2 rfl);have en:name=[101,114,114,111,114]:=(Option.some.inj e1).symm;subst en;obtain rfl:79=u:=Option.some.inj ((by kernel_rfl:some 79=_).trans e2);have hm:ty∈(List.range Tryz.prog.types.size).filter fun t=>Tryz.prog.rowNamed t [101,114,114,111,114]:=List.mem_filter.2 ⟨List.mem_range.2 e3,e4⟩;rw[oneRow]at hm;obtain rfl:=List.mem_singleton.1 hm;rw[hand31]at e5;have:=World.var?_cell (g:=0) (by kernel_rfl) e5 0;simpa[Er.ErrT]using this
noncomputable def errW (os:Os):World:=
 let w0:=World.holding Tryz.prog os ⟨#[],#[],[]⟩
 {w0 with heap:=w0.heap.modify 0 fun
  |.cells _ t frozen=>.cells #[.iface 79 (.agg #[.pointer (some ⟨19,31,none⟩)])] t frozen
  |o=>o}
noncomputable def laidW (os:Os):World:=(errW os).layVars Tryz.prog laid16
theorem laidW_os(os:Os):(laidW os).os=os:=World.layVars_os _ _ _
theorem laidW_fits(os:Os):(errW os).layFits Tryz.prog laid16 []=true:=by kernel_rfl
theorem laidW_faces(os:Os):(errW os).layIfaces Tryz.prog laid16 (laidW os)=true:=by kernel_rfl
theorem laidW_met2(os:Os):laidMet Tryz.prog laid16 (laidW os):=by
 have e1:(laid16.filter fun x=>(laid16.map (·.1)).contains x.1)=laid16:=List.filter_eq_self.2 fun x hx=>List.contains_iff_mem.2 (List.mem_map.2 ⟨x,hx,rfl⟩);have e2:(laid16.filter fun x=> !(laid16.map (·.1)).contains x.1)=[]:=List.filter_eq_nil_iff.2 fun x hx=>by rw[List.contains_iff_mem.2 (List.mem_map.2 ⟨x,hx,rfl⟩)];simp
 exact laidMet_layVars (w0:=errW os) (laid16.map (·.1)) [] (by rw[e1];rfl) (by rw[e1];exact laidW_fits os) (by rw[e1];exact laidW_faces os) (by rw[e2];exact LaidIn.none)
theorem laidW_met(os:Os)(args:Array Value):laidMetH Tryz.prog laid17 ((laidW os).forCall (fun _ _=>0) ⟨#[],args,[]⟩).memory:=laidMetH_of_parts ((laidW_met2 os).of_heap (by simp[World.memory,World.forCall,Input.heap])) (by kernel_rfl)
end Go.Proofs.YtmodehfedhgcbaaGreatDoor

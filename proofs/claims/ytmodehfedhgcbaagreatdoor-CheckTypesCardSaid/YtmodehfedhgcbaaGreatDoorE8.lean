/- The document's Same: what is asked. No condition. -/
import Derived.Test.YtmodehfedhgcbaaGreatDoorD7
import Derived.Test.YtmodehfedhgcbaaGreatDoorN27
set_option linter.unusedVariables false
set_option linter.unusedSimpArgs false
set_option maxRecDepth 100000
namespace Go.Proofs.YtmodehfedhgcbaaGreatDoor.Ck
open Go.RowKit
theorem self_ba(a:ByteArray):(a==a)=true:=by first|exact beq_self_eq_true a|exact decide_eq_true rfl|(show(a.data==a.data)=true;simp)
theorem eq3(a:Int)(w:World)(n:Nat):(Op.equalIn (n+1) 3 (.int .i64 a) (.int .i64 a)).run Tryz.prog w=.ok true w:=by have hu:∀W,(underlying 3).run Tryz.prog W=.ok (.int .i64) W:=fun W=>run_underlying Tryz.underlying3 W;unfold Op.equalIn;simp[hu]
theorem eq9(a:ByteArray)(w:World)(n:Nat):(Op.equalIn (n+1) 9 (.string a) (.string a)).run Tryz.prog w=.ok true w:=by have hu:∀W,(underlying 9).run Tryz.prog W=.ok .string W:=fun W=>run_underlying Tryz.underlying9 W;unfold Op.equalIn;simp[hu,self_ba]
theorem eq40(a:Int)(b c:ByteArray)(w:World):(Op.equalIn 10000 40 (.agg #[.int .i64 a,.string b,.string c]) (.agg #[.int .i64 a,.string b,.string c])).run Tryz.prog w=.ok true w:=by
 have hu:=fun W=>run_underlying Tryz.underlying40 W;have e1:∀W,(Op.equalIn 9999 3 (.int .i64 a) (.int .i64 a)).run Tryz.prog W=.ok true W:=fun W=>eq3 a W 9998;have e2:∀x W,(Op.equalIn 9999 9 (.string x) (.string x)).run Tryz.prog W=.ok true W:=fun x W=>eq9 x W 9998;have p0:∀W,(part 3 #[.int .i64 a,.string b,.string c] 0).run Tryz.prog W=.ok (.int .i64 a) W:=fun W=>by kernel_rfl
 have p1:∀W,(part 9 #[.int .i64 a,.string b,.string c] 1).run Tryz.prog W=.ok (.string b) W:=fun W=>by kernel_rfl
 have p2:∀W,(part 9 #[.int .i64 a,.string b,.string c] 2).run Tryz.prog W=.ok (.string c) W:=fun W=>by kernel_rfl
 show(Op.equalIn (9999+1) 40 _ _).run _ _=_;unfold Op.equalIn;simp[hu,p0,p1,p2,e1,e2]
def headF(g h:Hd)(gs ks:List Tr):Bool:=decide (g.k=h.k∧g.o=h.o∧g.v=h.v∧g.s.toList=h.s.toList∧g.ms.length=h.ms.length∧g.wd=h.wd∧g.off=h.off∧g.ha=h.ha∧g.tm=h.tm∧g.how=h.how∧g.ns.length=h.ns.length∧g.bo=h.bo∧gs.length=ks.length)
structure Cut (g h:Hd) (gs ks:List Tr):Prop where
 m:g.ms.length=h.ms.length→g.ms=h.ms
 n:g.ns.length=h.ns.length→g.ns=h.ns
 c:gs.length=ks.length→gs=ks
def SameSelf(x:Tr):Prop:=∀W,Lies W x→Calls Tryz.prog 47 #[valT x,valT x] W fun e w'=>e=.returned (.bool true)∧Below W.heap.size W w'
end Go.Proofs.YtmodehfedhgcbaaGreatDoor.Ck

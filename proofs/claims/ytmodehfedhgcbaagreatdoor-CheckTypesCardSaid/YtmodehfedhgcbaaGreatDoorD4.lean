/- The document's right matchers. Condition: a name of at most 65536 bytes. -/
import Derived.Test.YtmodehfedhgcbaaGreatDoorN12
import Derived.Test.YtmodehfedhgcbaaGreatDoorKRf
import Derived.Test.YtmodehfedhgcbaaGreatDoorD7
set_option linter.unusedVariables false
set_option linter.unusedSimpArgs false
set_option maxRecDepth 100000
set_option maxHeartbeats 4000000
namespace Go.Proofs.YtmodehfedhgcbaaGreatDoor.Ck
open Go.RowKit
open Lib (hid)
theorem parse_code(v:ByteArray)(w:World):Calls Tryz.prog 62 #[.string v] w fun e w'=>∃(k n n' c c':Nat) (A B:Option Addr) (x q:Int),e=.returned (.tuple #[.agg #[.int .u8 k,.slice A n c,.slice B n' c'],.int .i64 x,.int .i64 q])∧(q==0)=patB v∧Below w.heap.size w w':=by
 refine(Rg.parse_any v w).mono ?_;rintro e w'⟨hb,nd,⟨k,A,n,c,B,n',c',rfl⟩,hp⟩;unfold patB;cases hr:Rx.readF v with
 |bad pl cc=>rw[hr]at hp;obtain⟨he,hc⟩:=hp;exact⟨k,n,n',c,c',A,B,_,_,he,by simp;omega,hb⟩
 |ok a m p=>rw[hr]at hp;exact⟨k,n,n',c,c',A,B,_,_,hp,rfl,hb⟩
def dmtB(m:Mt):Bool:=Lb.nameB m.2.1&&(Rg.valB m.2.2&&(decide (m.1=1)||(decide (m.1=2)||((decide (m.1=3)||decide (m.1=4))&&patB m.2.2))))
theorem dmt_is(m:Mt):dmtB m=mtB m:=by
 unfold dmtB mtB Rg.namedB;rw[Bool.and_assoc];congr 2;by_cases h:m.1=3∨m.1=4
 ·rw[if_pos h]
  have h1:decide (m.1=1)=false:=decide_eq_false (by omega);have h2:decide (m.1=2)=false:=decide_eq_false (by omega);have h3:(decide (m.1=3)||decide (m.1=4))=true:=by simpa using h
  rw[h1,h2,h3];simp
 ·rw[if_neg h]
  have h3:(decide (m.1=3)||decide (m.1=4))=false:=by simpa using h
  rw[h3,Bool.false_and,Bool.or_false];simp
theorem dmright_any(op:Int)(nm v:ByteArray)(hs:nm.size≤65536)(w:World):Calls Tryz.prog 43 #[.agg #[.int .i64 op,.string nm,.string v]] w fun e w'=>e=.returned (.bool (dmtB (op,nm,v)))∧Below w.heap.size w w':=by
 obtain⟨r,hr⟩:∃r,dmtB (op,nm,v)=r:=⟨_,rfl⟩
 rw[hr];unfold dmtB at hr;dsimp only at hr;obtain⟨a,ha⟩:∃a,Lb.nameB nm=a:=⟨_,rfl⟩
 obtain⟨b,hb⟩:∃b,Rg.valB v=b:=⟨_,rfl⟩
 obtain⟨p,hp⟩:∃p,patB v=p:=⟨_,rfl⟩
 have h1:=fun W=>parse_code v W;have h2:=fun W=>Dn.refname_any nm hs W;have h3:=fun W=>Dn.refvalue_any v W;rw[hp]at h1;rw[ha]at h2;rw[hb]at h3;rw[ha,hb,hp]at hr;have H1:=hid h1;have H2:=hid h2;have H3:=hid h3;have HR:=hid hr;clear hr ha hb hp h1 h2 h3;have HB0:=hid (show Below w.heap.size w (w.alloc (.cells #[.int .i64 op,.string nm,.string v] 40))from(Below.refl _ _).alloc (Nat.le_refl _) _);have HK0:=hid (Blk.new w 40 #[.int .i64 op,.string nm,.string v]);go_enter Tryz.func43,Tryz.ntmps43;go_wp2_with fail;refine(H1.out _).mono ?_;rintro e w1⟨k,n,n',c,c',A,B,x,q,rfl,hq,hb1⟩;have HB1:=hid (HB0.out.trans (hb1.mono HB0.out.size));have HK1:=hid (HK0.out.below hb1);clear hb1 H1 HB0 HK0;have hb2:Below w.heap.size w (w1.alloc (.cells #[.int .u8 k,.slice A n c,.slice B n' c'] 100)):=HB1.out.alloc HB1.out.size _;have hk2:=HK1.out.alloc (.cells #[.int .u8 k,.slice A n c,.slice B n' c'] 100);have HB2:=hid hb2;have HK2:=hid hk2;have c0:=hk2.cell 0;have c1:=hk2.cell 1;have c2:=hk2.cell 2;simp at c0 c1 c2;clear hb2 hk2;cases a with
 |false=>obtain rfl:false=r:=HR.out;go_wp2_with (first|(go_at_call 63;refine(H2.out _).mono ?_;rintro e w2 ⟨rfl,rfl⟩)|(go_at_call 41;refine(H3.out _).mono ?_;rintro e w2 ⟨rfl,rfl⟩));go_ret;exact⟨rfl,HB2.out⟩
 |true=>
  cases b with
  |false=>obtain rfl:false=r:=HR.out;go_wp2_with (first|(go_at_call 63;refine(H2.out _).mono ?_;rintro e w2 ⟨rfl,rfl⟩)|(go_at_call 41;refine(H3.out _).mono ?_;rintro e w2 ⟨rfl,rfl⟩));go_ret;exact⟨rfl,HB2.out⟩
  |true=>
   have hr2:=HR.out;rw[Bool.true_and,Bool.true_and]at hr2;have hr3:(op==1||(op==2||((op==3||op==4)&&(q==0))))=r:=by rw[←hr2,hq];rfl
   have HR3:=hid hr3;clear hr2 hr3 HR hq;have go:∀x1 x2 x3 x4 x5:Bool,(op==1)=x1→(op==2)=x2→(op==3)=x3→(op==4)=x4→(q==0)=x5→True:=fun _ _ _ _ _ _ _ _ _ _=>trivial;cases e1:(op==1)<;>cases e2:(op==2)<;>cases e3:(op==3)<;>cases e4:(op==4)<;>cases e5:(q==0)
   all_goals(
    have hr4:=HR3.out;rw[e1,e2,e3,e4,e5]at hr4;have hr5:=hr4.symm;simp at hr5;subst hr5;clear hr4;go_wp2_with (first|(go_at_call 63;refine(H2.out _).mono ?_;rintro e w2 ⟨rfl,rfl⟩)|(go_at_call 41;refine(H3.out _).mono ?_;rintro e w2 ⟨rfl,rfl⟩));go_ret;exact⟨rfl,HB2.out⟩)
end Go.Proofs.YtmodehfedhgcbaaGreatDoor.Ck

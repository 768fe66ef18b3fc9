/- The document's reader of patterns: its small ones. Condition: a text of at most 200 bytes. -/
import Derived.Test.YticmkabafmmlhaaGreatDoorKWbj
import Derived.Deep.OwnRows
set_option linter.unusedVariables false
set_option maxRecDepth 100000
set_option maxHeartbeats 4000000
namespace Go.Proofs.YticmkabafmmlhaaGreatDoor.Rg
open Go.RowKit Rx
open Lib (hid)
abbrev prC(l:ByteArray)(a o c:Nat):Array Value:=#[.string l,.int .i64 a,.int .i64 o,.int .i64 c]
def Par(w:World)(b:Nat)(l:ByteArray)(a o c:Nat):Prop:=Blk w b 119 (prC l a o c)
theorem Par.cells{w:World}{b:Nat}{l:ByteArray}{a o c:Nat}(h:Par w b l a o c):
 w.cell? ⟨b,0,none⟩=some (.string l)∧w.cell? ⟨b,1,none⟩=some (.int .i64 a)∧w.cell? ⟨b,2,none⟩=some (.int .i64 o)∧w.cell? ⟨b,3,none⟩=some (.int .i64 c):=
 ⟨Blk.cell h 0,Blk.cell h 1,Blk.cell h 2,Blk.cell h 3⟩
theorem Par.drewN{w:World}{b:Nat}{l:ByteArray}{a o c:Nat}(h:Par w b l a o c)(n:Nat):Par (w.drewN n) b l a o c:=h
theorem Par.below{w w':World}{b:Nat}{l:ByteArray}{a o c:Nat}(h:Par w b l a o c)(hb:Below w.heap.size w w'):Par w' b l a o c:=Blk.below h hb
theorem Par.alloc{w:World}{b:Nat}{l:ByteArray}{a o c:Nat}(h:Par w b l a o c)(ob:Obj):Par (w.alloc ob) b l a o c:=Blk.alloc h ob
theorem Par.other{w:World}{b k:Nat}{l:ByteArray}{a o c:Nat}(h:Par w b l a o c)(hk:b≠k)(i:Nat)(u:Value):Par (w.setCell ⟨k,i,none⟩ u) b l a o c:=Blk.other h hk i u
theorem Par.at_{w:World}{b:Nat}{l:ByteArray}{a o c:Nat}(h:Par w b l a o c)(a':Nat)(u:Value)(hu:u=.int .i64 a'):Par (w.setCell ⟨b,1,none⟩ u) b l a' o c:=by subst hu;exact Blk.set_ h 1 _
theorem Par.op_{w:World}{b:Nat}{l:ByteArray}{a o c:Nat}(h:Par w b l a o c)(o':Nat)(u:Value)(hu:u=.int .i64 o'):Par (w.setCell ⟨b,2,none⟩ u) b l a o' c:=by subst hu;exact Blk.set_ h 2 _
theorem Par.wr_{w:World}{b:Nat}{l:ByteArray}{a o c:Nat}(h:Par w b l a o c)(c':Nat)(u:Value)(hu:u=.int .i64 c'):Par (w.setCell ⟨b,3,none⟩ u) b l a o c':=by subst hu;exact Blk.set_ h 3 _
theorem peek_in(b a o:Nat)(l:ByteArray)(w:World)(hp:Par w b l a o 0)(hl:l.size≤200)(ha:a<l.size):
 Calls Tryz.prog 108 #[.pointer (some ⟨b,0,none⟩)] w fun e w'=>e=.returned (.tuple #[.int .u8 (by_ l a),.bool true])∧∃n,w'=w.drewN n:=by
 obtain⟨c0,c1,c2,c3⟩:=hp.cells;have hge:decide ((l.size:Int)≤(a:Int))=false:=by simp;omega
 have h0:(0:Int)≤(a:Int):=by omega
 have h1:(a:Int)<(l.size:Int):=by omega
 have HB:=hid (by_eq l a ha);clear hp;go_enter Tryz.func108,Tryz.ntmps108;go_wp2
 go_quiet (fail)
 go_wp2
 go_quiet (fail)
 go_wp2
 go_ret2
 refine⟨by rw[HB.out];rfl,?_⟩;first|exact⟨_,rfl⟩|exact⟨_,World.drewN_drewN _ _ _⟩|exact⟨_,World.drewN_drewN⟩
theorem peek_out(b o:Nat)(l:ByteArray)(w:World)(hp:Par w b l l.size o 0)(hl:l.size≤200):
 Calls Tryz.prog 108 #[.pointer (some ⟨b,0,none⟩)] w fun e w'=>e=.returned (.tuple #[.int .u8 0,.bool false])∧∃n,w'=w.drewN n:=by
 obtain⟨c0,c1,c2,c3⟩:=hp.cells;have hge:decide ((l.size:Int)≤(l.size:Int))=true:=by simp
 clear hp;go_enter Tryz.func108,Tryz.ntmps108;go_wp2
 go_quiet (fail)
 go_wp2
 go_ret2
 exact⟨rfl,_,rfl⟩
theorem peek_bad(b a o c:Nat)(l:ByteArray)(w:World)(hp:Par w b l a o c)(hc:c=2∨c=12):
 Calls Tryz.prog 108 #[.pointer (some ⟨b,0,none⟩)] w fun e w'=>e=.returned (.tuple #[.int .u8 0,.bool false])∧∃n,w'=w.drewN n:=by
 rcases hc with rfl|rfl;all_goals
  obtain⟨c0,c1,c2,c3⟩:=hp.cells;clear hp;go_enter Tryz.func108,Tryz.ntmps108;go_wp2
  go_quiet (fail)
  go_wp2
  go_ret2
  exact⟨rfl,_,rfl⟩
theorem is_walk(b s x:Nat)(ok r:Bool)(w:World)(hr:(ok&&((x:Int)==(s:Int)))=r)
 (hk:∀n,Calls Tryz.prog 108 #[.pointer (some ⟨b,0,none⟩)] (w.drewN n) fun e w'=>e=.returned (.tuple #[.int .u8 x,.bool ok])∧∃n,w'=w.drewN n):
 Calls Tryz.prog 93 #[.pointer (some ⟨b,0,none⟩),.int .u8 s] w fun e w'=>e=.returned (.bool r)∧∃n,w'=w.drewN n:=by
 have HK:=hid (hk 0);cases ok with
 |false=>have HR:=hid hr;clear hr hk;go_enter Tryz.func93,Tryz.ntmps93;go_wp2_with fail;refine(HK.out).mono ?_;rintro e w1⟨rfl,n,rfl⟩;go_wp2;go_ret;exact⟨by rw[←HR.out];rfl,_,rfl⟩
 |true=>rw[Bool.true_and]at hr;have HR:=hid hr;clear hk;go_enter Tryz.func93,Tryz.ntmps93;go_wp2_with fail;refine(HK.out).mono ?_;rintro e w1⟨rfl,n,rfl⟩;go_wp2;go_ret;exact⟨by rw[←HR.out,hr];try rfl,_,rfl⟩
theorem beq_cast(x s:Nat):((x:Int)==(s:Int))=(x==s):=by rw[Bool.eq_iff_iff,beq_iff_eq,beq_iff_eq];omega
theorem sees_true{l:ByteArray}{a:Nat}(h:a<l.size)(s:Nat):sees l a s=(by_ l a==s):=by unfold sees;rw[decide_eq_true h,Bool.true_and]
theorem sees_end(l:ByteArray)(s:Nat):sees l l.size s=false:=by unfold sees;simp
theorem is_any(b a o s:Nat)(l:ByteArray)(r:Bool)(hr:sees l a s=r)(w:World)(hp:Par w b l a o 0)(hl:l.size≤200)(ha:a≤l.size):
 Calls Tryz.prog 93 #[.pointer (some ⟨b,0,none⟩),.int .u8 s] w fun e w'=>e=.returned (.bool r)∧∃n,w'=w.drewN n:=by
 by_cases h:a<l.size
 ·refine is_walk b s (by_ l a) true r w ?_ (fun n=>(peek_in b a o l _ (hp.drewN n) hl h).mono ?_)
  ·rw[Bool.true_and,beq_cast,←sees_true h,hr]
  ·rintro e w' ⟨h1,m,h2⟩;exact⟨h1,n+m,h2.trans (World.drewN_drewN _ _ _)⟩
 ·obtain rfl:a=l.size:=by omega
  refine is_walk b s 0 false r w ?_ (fun n=>(peek_out b o l _ (hp.drewN n) hl).mono ?_)
  ·rw[Bool.false_and,←hr,sees_end]
  ·rintro e w' ⟨h1,m,h2⟩;exact⟨h1,n+m,h2.trans (World.drewN_drewN _ _ _)⟩
theorem is_bad(b a o c s:Nat)(l:ByteArray)(w:World)(hp:Par w b l a o c)(hc:c=2∨c=12):
 Calls Tryz.prog 93 #[.pointer (some ⟨b,0,none⟩),.int .u8 s] w fun e w'=>e=.returned (.bool false)∧∃n,w'=w.drewN n:=by
 refine is_walk b s 0 false false w rfl (fun n=>(peek_bad b a o c l _ (hp.drewN n) hc).mono ?_);rintro e w'⟨h1,m,h2⟩;exact⟨h1,n+m,h2.trans (World.drewN_drewN _ _ _)⟩
def among(sg:List Nat)(c:Nat):Bool:=sg.contains c
theorem sign_any(c:Nat)(sg:ByteArray)(r:Bool)(hr:(sg.data.toList.map UInt8.toNat).contains c=r)(hs:sg.size≤100)(w:World):
 Calls Tryz.prog 127 #[.int .u8 c,.string sg] w fun e w'=>e=.returned (.bool r)∧∃n,w'=w.drewN n:=by
 have hx:∀k,∀h:k<sg.size,(sg[k].toNat=c→(sg.data.toList.map UInt8.toNat).contains c=true):=fun k h e=>by rw[List.contains_iff_mem,List.mem_map];exact⟨sg[k],by simp[ByteArray.getElem_eq_getElem_data],e⟩
 have hy:(∀k,∀h:k<sg.size,sg[k].toNat≠c)→(sg.data.toList.map UInt8.toNat).contains c=false:=fun hn=>by rw[←Bool.not_eq_true,List.contains_iff_mem,List.mem_map];rintro⟨x,hx,e⟩;obtain⟨k,hk,rfl⟩:=List.getElem_of_mem hx;exact hn k (by simpa using hk) (by simpa[ByteArray.getElem_eq_getElem_data]using e)
 rw[hr]at hx hy;have HX:=hid hx;have HY:=hid hy;clear hx hy hr;go_enter Tryz.func127,Tryz.ntmps127;go_wp2
 go_loopw [5] (fun s5 wr=>∃k:Nat,s5=.int .i64 k∧k≤sg.size∧Hid (∀i,∀h:i<k,∀h2:i<sg.size,sg[i].toNat≠c)∧∃n,wr=w.drewN n) (fun s5 _=>(sg.size-intOf s5).toNat)
 case atStart=>exact⟨0,rfl,by omega,fun i h=>by omega,0,rfl⟩
 case round=>
  obtain⟨k,rfl,hk,HN,n,rfl⟩:=hrel;by_cases hlt:k<sg.size
  ·have h0:(0:Int)≤(k:Int):=by omega
   have h1:(k:Int)<(sg.size:Int):=by omega
   have hd:decide ((k:Int)<(sg.size:Int))=true:=by simp;omega
   obtain⟨x,hx⟩:∃x,x=sg[k].toNat:=⟨_,rfl⟩
   have hx':sg[k].toNat=x:=hx.symm;have HV:Hid (sg[k].toNat=x):=hx';clear hx;by_cases hc:x=c
   ·have he:((x:Int)==(c:Int))=true:=by simp[hc]
    have HT:Hid (r=true):=HX.out k hlt (HV.out.trans hc);go_wp2;go_ret;exact⟨by rw[HT.out];rfl,_,rfl⟩
   ·have he:((x:Int)==(c:Int))=false:=by simp;omega
    have HN2:Hid (∀i,∀h:i<k+1,∀h2:i<sg.size,sg[i].toNat≠c):=fun i h h2=>by
     by_cases hi:i=k
     ·subst hi;rw[HV.out];exact hc
     ·exact HN.out i (by omega) h2
    go_wp2
    go_roundw
    case rel=>exact⟨k+1,by go_num,by omega,HN2,_,rfl⟩
    case measure=>simp[intOf];omega
  ·have hd:decide ((k:Int)<(sg.size:Int))=false:=by simp;omega
   have HF:Hid (r=false):=HY.out (fun i h=>HN.out i (by omega) h);go_wp2;go_ret;exact⟨by rw[HF.out];rfl,_,rfl⟩
theorem gr_refl(w:World)(row:Option Nat):w.grownBy w row:=⟨rfl,rfl,rfl,Nat.le_refl _,fun _ _ _=>rfl⟩
theorem gr_trans{w w1 w2:World}{row:Option Nat}(h:w.grownBy w1 row)(k:w1.grownBy w2 row):w.grownBy w2 row:=⟨k.os.trans h.os,k.tape.trans h.tape,k.output.trans h.output,Nat.le_trans h.size k.size,fun j hj hn=>(k.block j (Nat.lt_of_lt_of_le hj h.size) hn).trans (h.block j hj hn)⟩
theorem gr_below{w w1 w2:World}{row:Option Nat}(h:w.grownBy w1 row)(k:Below w1.heap.size w1 w2):w.grownBy w2 row:=gr_trans h (below_grown k row)
theorem gr_new{w w1 w2:World}{row:Option Nat}(h:w.grownBy w1 row)(k:Below w.heap.size w1 w2):w.grownBy w2 row:=⟨k.os.trans h.os,k.tape.trans h.tape,k.output.trans h.output,Nat.le_trans h.size k.size,fun j hj hn=>(k.block j hj).trans (h.block j hj hn)⟩
theorem gr_alloc{w w1:World}{row:Option Nat}(h:w.grownBy w1 row)(o:Obj):w.grownBy (w1.alloc o) row:=gr_below h ((Below.refl _ _).alloc (Nat.le_refl _) o)
theorem gr_set{w w1:World}{b:Nat}(h:w.grownBy w1 (some b))(i:Nat)(u:Value):w.grownBy (w1.setCell ⟨b,i,none⟩ u) (some b):=gr_trans h (grown_set w1 b i u)
theorem gr_set_new{w w1:World}{row:Option Nat}{g:Nat}(h:w.grownBy w1 row)(hg:w.heap.size≤g)(i:Nat)(u:Value):w.grownBy (w1.setCell ⟨g,i,none⟩ u) row:=gr_new h ((Below.refl _ _).setCell (p:=⟨g,i,none⟩) hg u)
theorem gr_drewN{w w1:World}{row:Option Nat}(h:w.grownBy w1 row)(n:Nat):w.grownBy (w1.drewN n) row:=⟨h.os,h.tape,h.output,h.size,h.block⟩
theorem gr_drew{w w1:World}{row:Option Nat}(h:w.grownBy w1 row):w.grownBy w1.drew row:=⟨h.os,h.tape,h.output,h.size,h.block⟩
def LP(b:Nat)(l:ByteArray)(o:Nat)(w:World)(r:CR)(e:Ending)(w':World):Prop:=
 w.grownBy w' (some b)∧match r with
 |.bad pl=>e=.returned (.int .i64 0)∧Par w' b l pl o 2
 |.ok a c=>e=.returned (.int .i64 c)∧Par w' b l a o 0
theorem lp_bad{b:Nat}{l:ByteArray}{o:Nat}{w w':World}{r:CR}{pl:Nat}(hr:r=.bad pl)(hg:w.grownBy w' (some b))(hp:Par w' b l pl o 2):LP b l o w r (.returned (.int .i64 0)) w':=by subst hr;exact⟨hg,rfl,hp⟩
theorem lp_ok{b:Nat}{l:ByteArray}{o:Nat}{w w':World}{r:CR}{a c:Nat}(hr:r=.ok a c)(hg:w.grownBy w' (some b))(hp:Par w' b l a o 0):LP b l o w r (.returned (.int .i64 c)) w':=by subst hr;exact⟨hg,rfl,hp⟩
theorem letter_end(b o:Nat)(l:ByteArray)(w:World)(hp:Par w b l l.size o 0)(hl:l.size≤200):
 Calls Tryz.prog 160 #[.pointer (some ⟨b,0,none⟩)] w (LP b l o w (ccharF l l.size)):=by
 have HX:Hid (ccharF l l.size=.bad l.size):=by show ccharF l l.size=_;unfold ccharF charF;rw[if_neg (by unfold seesAny;simp),sees_end,if_neg (by simp)];rfl
 have HK:=hid (peek_out b o l w hp hl);have HP:=hid hp;clear hp;go_enter Tryz.func160,Tryz.ntmps160;go_wp2_with fail;refine(HK.out).mono ?_;rintro e w1⟨rfl,n,rfl⟩;have HP1:=hid (HP.out.drewN n);have HG1:=hid (gr_drewN (gr_refl w (some b)) n);generalize w.drewN n=W at*
 have c3:=HP1.out.cells.2.2.2;have f3:=Blk.frozen HP1.out 3;go_wp2;go_ret;exact lp_bad HX.out (gr_set HG1.out _ _) (HP1.out.wr_ 2 _ rfl)
theorem letter_back(b a o:Nat)(l:ByteArray)(w:World)(hp:Par w b l a o 0)(hl:l.size≤200)(ha:a<l.size)(hb:by_ l a=92):
 Calls Tryz.prog 160 #[.pointer (some ⟨b,0,none⟩)] w (LP b l o w (ccharF l a)):=by
 have hX:ccharF l a=if a+1<l.size then .ok (a+1+1) (by_ l (a+1))else .bad (a+1):=by unfold ccharF charF;rw[if_neg (by unfold seesAny;simp[hb]),if_pos (show sees l a 92=true by rw[sees_true ha,hb];rfl)]
 have HK:=hid (peek_in b a o l w hp hl ha);rw[hb]at HK;have HP:=hid hp;clear hp;by_cases h2:a+1<l.size
 ·rw[if_pos h2]at hX
  have HX:=hid hX;have HK2:=hid (fun W (h:Par W b l (a+1) o 0)=>peek_in b (a+1) o l W h hl h2);have hlt:=by_lt l (a+1);generalize by_ l (a+1)=x at*
  clear hX;go_enter Tryz.func160,Tryz.ntmps160;go_wp2_with fail;refine(HK.out).mono ?_;rintro e w1⟨rfl,n,rfl⟩;have HP1:=hid (HP.out.drewN n);have HG1:=hid (gr_drewN (gr_refl w (some b)) n);generalize w.drewN n=W at*
  have c1:=HP1.out.cells.2.1;have f1:=Blk.frozen HP1.out 1;go_wp2_with fail;have HP2:=hid (HP1.out.at_ (a+1) (.int .i64 ((a:Int)+1)) (by rfl));have HG2:=hid (gr_set HG1.out 1 (.int .i64 ((a:Int)+1)));refine(HK2.out _ HP2.out).mono ?_;rintro e w2⟨rfl,n2,rfl⟩;have HP3:=hid (HP2.out.drewN n2);have HG3:=hid (gr_drewN HG2.out n2);generalize (W.setCell ⟨b,1,none⟩ (.int .i64 ((a:Int)+1))).drewN n2=W3 at*
  clear HP1 HP2 HG1 HG2 c1 f1;have c1:=HP3.out.cells.2.1;have f1:=Blk.frozen HP3.out 1;go_wp2;go_ret;exact lp_ok HX.out (gr_set HG3.out _ _) (HP3.out.at_ (a+1+1) _ (by rfl))
 ·rw[if_neg h2]at hX
  have HX:=hid hX;obtain⟨a1,ha1⟩:∃a1,a1=a+1:=⟨_,rfl⟩
  have he:a1=l.size:=by omega
  rw[←ha1,he]at HX;have HK2:=hid (fun W (h:Par W b l l.size o 0)=>peek_out b o l W h hl);clear hX;go_enter Tryz.func160,Tryz.ntmps160;go_wp2_with fail;refine(HK.out).mono ?_;rintro e w1⟨rfl,n,rfl⟩;have HP1:=hid (HP.out.drewN n);have HG1:=hid (gr_drewN (gr_refl w (some b)) n);generalize w.drewN n=W at*
  have c1:=HP1.out.cells.2.1;have f1:=Blk.frozen HP1.out 1;go_wp2_with fail;have HP2:Hid (Par (W.setCell ⟨b,1,none⟩ (.int .i64 ((a:Int)+1))) b l l.size o 0):=HP1.out.at_ l.size (.int .i64 ((a:Int)+1)) (by rw[←he,ha1];rfl);have HG2:=hid (gr_set HG1.out 1 (.int .i64 ((a:Int)+1)));refine(HK2.out _ HP2.out).mono ?_;rintro e w2⟨rfl,n2,rfl⟩;have HP3:=hid (HP2.out.drewN n2);have HG3:=hid (gr_drewN HG2.out n2);generalize (W.setCell ⟨b,1,none⟩ (.int .i64 ((a:Int)+1))).drewN n2=W3 at*
  clear HP1 HP2 HG1 HG2 c1 f1;have c3:=HP3.out.cells.2.2.2;have f3:=Blk.frozen HP3.out 3;go_wp2;go_ret;exact lp_bad HX.out (gr_set HG3.out _ _) (HP3.out.wr_ 2 _ rfl)
theorem letter_self(b a o:Nat)(l:ByteArray)(w:World)(hp:Par w b l a o 0)(hl:l.size≤200)(ha:a<l.size)(hb:by_ l a≠92):
 Calls Tryz.prog 160 #[.pointer (some ⟨b,0,none⟩)] w (LP b l o w (ccharF l a)):=by
 have hX:ccharF l a=if[93,91,94,45].contains (by_ l a)=true then .bad a else .ok (a+1) (by_ l a):=by unfold ccharF charF seesAny;rw[decide_eq_true ha,Bool.true_and,if_neg (show¬sees l a 92=true by rw[sees_true ha];simpa using hb),if_pos ha]
 have HK:=hid (peek_in b a o l w hp hl ha);have HP:=hid hp;have he:(((by_ l a:Nat):Int)==92)=false:=by simp;omega
 have hs:((⟨#[93,91,94,45]⟩:ByteArray).data.toList.map UInt8.toNat)=[93,91,94,45]:=rfl;have HS:=hid (fun n=>sign_any (by_ l a) ⟨#[93,91,94,45]⟩ ([93,91,94,45].contains (by_ l a)) (by rw[hs]) (by decide) n);have hlt:=by_lt l a;generalize by_ l a=x at*
 clear hp hs;cases hm:([93,91,94,45]:List Nat).contains x with
 |true=>
  rw[hm]at HS;rw[if_pos hm]at hX;have HX:=hid hX;clear hX hm;go_enter Tryz.func160,Tryz.ntmps160;go_wp2_with fail;refine(HK.out).mono ?_;rintro e w1⟨rfl,n,rfl⟩;have HP1:=hid (HP.out.drewN n);have HG1:=hid (gr_drewN (gr_refl w (some b)) n);generalize w.drewN n=W at*
  go_wp2_with fail;refine(HS.out _).mono ?_;rintro e w2⟨rfl,n2,rfl⟩;have HP3:=hid (HP1.out.drewN n2);have HG3:=hid (gr_drewN HG1.out n2);generalize W.drewN n2=W3 at*
  clear HP1 HG1;have c3:=HP3.out.cells.2.2.2;have f3:=Blk.frozen HP3.out 3;go_wp2;go_ret;exact lp_bad HX.out (gr_set HG3.out _ _) (HP3.out.wr_ 2 _ rfl)
 |false=>
  rw[hm]at HS;rw[if_neg (by rw[hm];simp)]at hX;have HX:=hid hX;clear hX hm;go_enter Tryz.func160,Tryz.ntmps160;go_wp2_with fail;refine(HK.out).mono ?_;rintro e w1⟨rfl,n,rfl⟩;have HP1:=hid (HP.out.drewN n);have HG1:=hid (gr_drewN (gr_refl w (some b)) n);generalize w.drewN n=W at*
  go_wp2_with fail;refine(HS.out _).mono ?_;rintro e w2⟨rfl,n2,rfl⟩;have HP3:=hid (HP1.out.drewN n2);have HG3:=hid (gr_drewN HG1.out n2);generalize W.drewN n2=W3 at*
  clear HP1 HG1;have c1:=HP3.out.cells.2.1;have f1:=Blk.frozen HP3.out 1;go_wp2;go_ret;exact lp_ok HX.out (gr_set HG3.out _ _) (HP3.out.at_ (a+1) _ (by rfl))
theorem letter_any(b a o:Nat)(l:ByteArray)(w:World)(hp:Par w b l a o 0)(hl:l.size≤200)(ha:a≤l.size):
 Calls Tryz.prog 160 #[.pointer (some ⟨b,0,none⟩)] w (LP b l o w (ccharF l a)):=by
 by_cases h:a<l.size
 ·by_cases hb:by_ l a=92
  ·exact letter_back b a o l w hp hl h hb
  ·exact letter_self b a o l w hp hl h hb
 ·obtain rfl:a=l.size:=by omega
  exact letter_end b o l w hp hl
abbrev ndV(k:Nat)(A:Option Addr)(n c:Nat)(B:Option Addr)(n' c':Nat):Value:=.agg #[.int .u8 k,.slice A n c,.slice B n' c']
def Nd(v:Value):Prop:=∃(k:Nat) (A:Option Addr) (n c:Nat) (B:Option Addr) (n' c':Nat),v=ndV k A n c B n' c'
abbrev zero3:Array Value:=#[.int .u8 0,.slice none 0 0,.slice none 0 0]
theorem cells3{w:World}{g:Nat}{t:TypeId}{v0 v1 v2:Value}(h:Blk w g t #[v0,v1,v2]):w.cell? ⟨g,0,none⟩=some v0∧w.cell? ⟨g,1,none⟩=some v1∧w.cell? ⟨g,2,none⟩=some v2:=⟨h.cell 0,h.cell 1,h.cell 2⟩
theorem frozen3{w:World}{g:Nat}{t:TypeId}{cs:Array Value}(h:Blk w g t cs):w.frozen? ⟨g,0,none⟩=false∧w.frozen? ⟨g,1,none⟩=false∧w.frozen? ⟨g,2,none⟩=false:=⟨h.frozen 0,h.frozen 1,h.frozen 2⟩
abbrev put3(w:World)(j:Nat)(v0 v1 v2:Value):World:=((w.setCell ⟨j,0,none⟩ v0).setCell ⟨j,1,none⟩ v1).setCell ⟨j,2,none⟩ v2
theorem Blk.set3{w:World}{j:Nat}{t:TypeId}{x0 x1 x2:Value}(h:Blk w j t #[x0,x1,x2])(v0 v1 v2:Value):Blk (put3 w j v0 v1 v2) j t #[v0,v1,v2]:=by have h0:=h.set_ 0 v0;simp only[List.setIfInBounds_toArray,List.set_cons_zero]at h0;have h1:=h0.set_ 1 v1;simp only[List.setIfInBounds_toArray,List.set_cons_zero,List.set_cons_succ]at h1;have h2:=h1.set_ 2 v2;simp only[List.setIfInBounds_toArray,List.set_cons_zero,List.set_cons_succ]at h2;exact h2
theorem Blk.set3_other{w:World}{j k:Nat}{t:TypeId}{cs:Array Value}(h:Blk w k t cs)(hj:k≠j)(v0 v1 v2:Value):Blk (put3 w j v0 v1 v2) k t cs:=((h.other hj 0 v0).other hj 1 v1).other hj 2 v2
theorem below3{B:Nat}{w0 w:World}(h:Below B w0 w){j:Nat}(hj:B≤j)(v0 v1 v2:Value):Below B w0 (put3 w j v0 v1 v2):=((h.setCell (p:=⟨j,0,none⟩) hj v0).setCell (p:=⟨j,1,none⟩) hj v1).setCell (p:=⟨j,2,none⟩) hj v2
theorem gr_set3{w w1:World}{row:Option Nat}{j:Nat}(h:w.grownBy w1 row)(hj:w.heap.size≤j)(v0 v1 v2:Value):w.grownBy (put3 w1 j v0 v1 v2) row:=((gr_set_new (gr_set_new (gr_set_new h hj 0 v0) hj 1 v1) hj 2 v2))
def BB(w:World)(g:Nat):Prop:=∃cs:Array Value,Blk w g 4 cs∧∀i,i<256→∃v:Bool,cs[i]? =some (.bool v)
theorem BB.cell{w:World}{g i:Nat}(h:BB w g)(hi:i<256):∃v:Bool,w.cell? ⟨g,i,none⟩=some (.bool v):=let⟨_,h1,h2⟩:=h;let⟨v,hv⟩:=h2 i hi;⟨v,(h1.cell i).trans hv⟩
theorem BB.frozen{w:World}{g:Nat}(h:BB w g)(i:Nat):w.frozen? ⟨g,i,none⟩=false:=let⟨_,h1,_⟩:=h;h1.frozen i
theorem BB.set{w:World}{g:Nat}(h:BB w g)(i:Nat)(v:Bool):BB (w.setCell ⟨g,i,none⟩ (.bool v)) g:=by
 obtain⟨cs,h1,h2⟩:=h;refine⟨_,h1.set_ i _,fun k hk=>?_⟩;rw[Array.getElem?_setIfInBounds];obtain⟨u,hu⟩:=h2 k hk;split
 ·rename_i e
  subst e;refine⟨v,?_⟩;rw[if_pos];rcases Nat.lt_or_ge i cs.size with h|h
  ·exact h
  ·rw[Array.getElem?_eq_none h]at hu;cases hu
 ·exact⟨u,hu⟩
theorem BB.alloc{w:World}{g:Nat}(h:BB w g)(o:Obj):BB (w.alloc o) g:=let⟨cs,h1,h2⟩:=h;⟨cs,h1.alloc o,h2⟩
theorem BB.other{w:World}{g k:Nat}(h:BB w g)(hk:g≠k)(i:Nat)(u:Value):BB (w.setCell ⟨k,i,none⟩ u) g:=let⟨cs,h1,h2⟩:=h;⟨cs,h1.other hk i u,h2⟩
theorem BB.grown{w w':World}{g:Nat}{row:Option Nat}(h:BB w g)(hg:w.grownBy w' row)(hne:row≠some g):BB w' g:=let⟨cs,h1,h2⟩:=h;⟨cs,h1.grown hg hne,h2⟩
theorem BB.drewN{w:World}{g:Nat}(h:BB w g)(n:Nat):BB (w.drewN n) g:=h
def mc256:Array Value:=madeCells #[.bool false] 256
theorem mc_at(i:Nat)(h:i<256):mc256[i]? =some (.bool false):=by
 have e:mc256=Array.replicate 256 (.bool false):=by kernel_rfl
 rw[e,Array.getElem?_replicate,if_pos h]
theorem BB.new(w:World):BB (w.alloc (.cells mc256 4)) w.heap.size:=⟨mc256,Blk.new w 4 mc256,fun i h=>⟨false,mc_at i h⟩⟩
theorem bool_info:(Tryz.prog.info? 4).map (fun i=>(i.zero,i.size,i.bytes))=some (some (.bool false),1,1):=by kernel_rfl
theorem make256(w:World):(Instr.makeSlice 81 (.int .i64 256) (.int .i64 256)).run Tryz.prog w=.ok (.slice (some ⟨w.heap.size,0,none⟩) 256 256) (w.alloc (.cells mc256 4)):=run_make_row' (P:=Tryz.prog) 81 4 (.bool false) 1 Tryz.underlying81 bool_info rfl .i64 .i64 256 (by decide) (by decide) w
theorem refone_any(lo hi:Nat)(h1:lo≤hi)(h2:hi<256)(w:World):
 Calls Tryz.prog 128 #[.int .i64 lo,.int .i64 hi] w fun e w'=>∃v,e=.returned v∧Nd v∧Below w.heap.size w w':=by
 have hmk:=make256;have HB0:=fun W=>hid (BB.new W);generalize mc256=mc at*
 go_enter Tryz.func128,Tryz.ntmps128;go_wp2_with fail;have HB:=hid ((HB0 (w.alloc (.cells zero3 84))).out.alloc (.cells #[.int .u8 91,.slice (some ⟨w.heap.size+1,0,none⟩) 256 256,.slice none 0 0] 84));have HR:=hid (((Blk.new w 84 zero3).alloc (.cells mc 4)).alloc (.cells #[.int .u8 91,.slice (some ⟨w.heap.size+1,0,none⟩) 256 256,.slice none 0 0] 84));have HN:=hid (Blk.new ((w.alloc (.cells zero3 84)).alloc (.cells mc 4)) 84 #[.int .u8 91,.slice (some ⟨w.heap.size+1,0,none⟩) 256 256,.slice none 0 0]);have HL:Hid (Below w.heap.size w (((w.alloc (.cells zero3 84)).alloc (.cells mc 4)).alloc (.cells #[.int .u8 91,.slice (some ⟨w.heap.size+1,0,none⟩) 256 256,.slice none 0 0] 84))):=by show Below _ _ _;go_grown
 rw[World.size_alloc]at HB;rw[World.size_alloc,World.size_alloc]at HN;generalize hW:((w.alloc (.cells zero3 84)).alloc (.cells mc 4)).alloc (.cells #[.int .u8 91,.slice (some ⟨w.heap.size+1,0,none⟩) 256 256,.slice none 0 0] 84)=W at*
 clear hW hmk HB0
 go_loopw [6] (fun s6 wr=>∃k:Nat,s6=.int .i64 k∧lo≤k∧k≤hi+1∧Hid (BB wr (w.heap.size+1))∧Hid (Blk wr w.heap.size 84 zero3)∧Hid (Blk wr (w.heap.size+1+1) 84 #[.int .u8 91,.slice (some ⟨w.heap.size+1,0,none⟩) 256 256,.slice none 0 0])∧Hid (Below w.heap.size w wr)) (fun s6 _=>(hi+1-intOf s6).toNat)
 case atStart=>exact⟨lo,rfl,Nat.le_refl _,by omega,HB,HR,HN,HL⟩
 case round=>
  obtain⟨k,rfl,hk1,hk2,HBr,HRr,HNr,HLr⟩:=hrel;by_cases hk:k≤hi
  ·have hd:decide ((k:Int)≤(hi:Int))=true:=by simp;omega
   have q0:(0:Int)≤(k:Int):=by omega
   have q1:(k:Int)<256:=by omega
   obtain⟨v,hv⟩:=HBr.out.cell (i:=k) (by omega);have hf:=HBr.out.frozen k;obtain⟨n0,n1,n2⟩:=cells3 HNr.out;have HB2:=hid (HBr.out.set k true);have HR2:=hid (HRr.out.other (k:=w.heap.size+1) (by omega) k (.bool true));have HN2:=hid (HNr.out.other (k:=w.heap.size+1) (by omega) k (.bool true));have HL2:=hid (HLr.out.setCell (p:=⟨w.heap.size+1,k,none⟩) (by simp) (.bool true));go_wp2
   go_roundw
   case rel=>exact⟨k+1,by go_num,by omega,by omega,HB2,HR2,HN2,HL2⟩
   case measure=>simp[intOf];omega
  ·have hd:decide ((k:Int)≤(hi:Int))=false:=by simp;omega
   obtain⟨n0,n1,n2⟩:=cells3 HNr.out;obtain⟨r0,r1,r2⟩:=cells3 HRr.out;obtain⟨f0,f1,f2⟩:=frozen3 HRr.out;go_wp2;exact bodyPost_ret (v:=.agg #[.int .u8 91,.slice (some ⟨w.heap.size+1,0,none⟩) 256 256,.slice none 0 0]) (by simp[results,Tryz.results128,go_sem,r0,r1,r2]) rfl ⟨_,rfl,⟨91,_,_,_,_,_,_,rfl⟩,below3 HLr.out (Nat.le_refl _) _ _ _⟩
def RN(b:Nat)(l:ByteArray)(o:Nat)(w:World)(r:Res)(e:Ending)(w':World):Prop:=
 (∃v,e=.returned v∧Nd v)∧w.grownBy w' (some b)∧match r with
 |.bad pl c=>Par w' b l pl o c∧(c=2∨c=12)
 |.ok a m p=>Par w' b l a o 0
theorem rn_bad{b:Nat}{l:ByteArray}{o:Nat}{w w':World}{r:Res}{pl c:Nat}{v:Value}(hr:r=.bad pl c)(hv:Nd v)(hg:w.grownBy w' (some b))(hp:Par w' b l pl o c)(hc:c=2∨c=12):RN b l o w r (.returned v) w':=by subst hr;exact⟨⟨v,rfl,hv⟩,hg,hp,hc⟩
theorem rn_ok{b:Nat}{l:ByteArray}{o:Nat}{w w':World}{r:Res}{a:Nat}{m:Mach}{p:Pc}{v:Value}(hr:r=.ok a m p)(hv:Nd v)(hg:w.grownBy w' (some b))(hp:Par w' b l a o 0):RN b l o w r (.returned v) w':=by subst hr;exact⟨⟨v,rfl,hv⟩,hg,hp⟩
def parM(w:World)(b n:Nat):Nat:=match w.cell? ⟨b,3,none⟩,w.cell? ⟨b,1,none⟩with
 |some v3,some v1=>if intOf v3=0 then n+1-(intOf v1).toNat else 0
 |_,_=>0
theorem parM_ok{w:World}{b:Nat}{l:ByteArray}{a o:Nat}(h:Par w b l a o 0)(n:Nat):parM w b n=n+1-a:=by unfold parM;rw[h.cells.2.2.2,h.cells.2.1];simp[intOf]
theorem parM_bad{w:World}{b:Nat}{l:ByteArray}{a o c:Nat}(h:Par w b l a o c)(hc:c=2∨c=12)(n:Nat):parM w b n=0:=by unfold parM;rw[h.cells.2.2.2,h.cells.2.1];rcases hc with rfl|rfl<;>simp[intOf]
abbrev clN(g:Nat):Array Value:=#[.int .u8 91,.slice (some ⟨g,0,none⟩) 256 256,.slice none 0 0]
def ClS(b:Nat)(l:ByteArray)(o q g j2 j4:Nat)(w:World)(s5:Value)(wr:World):Prop:=
 BB wr g∧Blk wr j2 84 zero3∧Blk wr j4 84 (clN g)∧w.grownBy wr (some b)∧
 ((∃mn k a1 t:Nat,s5=.int .i64 mn∧mn≤a1∧l.size<k+a1∧a1≤l.size∧t<2^256∧Par wr b l a1 o 0∧
    itemsF l (l.size+1) q 0=if mn=0 then itemsF l k a1 t else if sees l a1 93=true then .ok a1 t else itemsF l k a1 t)∨
  (∃mn pl:Nat,s5=.int .i64 mn∧Par wr b l pl o 2∧itemsF l (l.size+1) q 0=.bad pl))
theorem cls_ok{b:Nat}{l:ByteArray}{o q g j2 j4 mn k a1 t:Nat}{w wr:World}{s5:Value}(hs:s5=.int .i64 mn)(h1:BB wr g)(h2:Blk wr j2 84 zero3)(h3:Blk wr j4 84 (clN g))(h4:w.grownBy wr (some b))(h5:mn≤a1)(h6:l.size<k+a1)(h7:a1≤l.size)(h8:t<2^256)(h9:Par wr b l a1 o 0)
 (h10:itemsF l (l.size+1) q 0=if mn=0 then itemsF l k a1 t else if sees l a1 93=true then .ok a1 t else itemsF l k a1 t):ClS b l o q g j2 j4 w s5 wr:=⟨h1,h2,h3,h4,.inl ⟨mn,k,a1,t,hs,h5,h6,h7,h8,h9,h10⟩⟩
theorem cls_bad{b:Nat}{l:ByteArray}{o q g j2 j4 mn pl:Nat}{w wr:World}{s5:Value}(hs:s5=.int .i64 mn)(h1:BB wr g)(h2:Blk wr j2 84 zero3)(h3:Blk wr j4 84 (clN g))(h4:w.grownBy wr (some b))(h9:Par wr b l pl o 2)
 (h10:itemsF l (l.size+1) q 0=.bad pl):ClS b l o q g j2 j4 w s5 wr:=⟨h1,h2,h3,h4,.inr ⟨mn,pl,hs,h9,h10⟩⟩
theorem itemsF_next{l:ByteArray}{k a t a1 t1:Nat}(h:itemF l a t=.ok a1 t1):itemsF l (k+1) a t=if sees l a1 93=true then .ok a1 t1 else itemsF l k a1 t1:=by
 conv=>lhs;unfold itemsF
 rw[h]
theorem itemsF_stop{l:ByteArray}{k a t pl:Nat}(h:itemF l a t=.bad pl):itemsF l (k+1) a t=.bad pl:=by
 conv=>lhs;unfold itemsF
 rw[h]
end Go.Proofs.YticmkabafmmlhaaGreatDoor.Rg

set_option linter.unusedVariables false
set_option maxRecDepth 100000
set_option maxHeartbeats 16000000
namespace Go.Proofs.YticmkabafmmlhaaGreatDoor.Rg
open Go.RowKit Rx
open Lib (hid)
theorem refclass_no(b a o:Nat)(l:ByteArray)(m:Mach)(w:World)(hp:Par w b l a o 0)(hl:l.size≤200)(ha:a<l.size)(hs:sees l (a+1) 94=false):
 Calls Tryz.prog 126 #[.pointer (some ⟨b,0,none⟩)] w (RN b l o w (classF l a m)):=by
 have hC:∀r,itemsF l (l.size+1) (a+1) 0=r→classF l a m=match r with|.bad pl=>.bad pl 2|.ok a1 t=>.ok (a1+1) (placeM m (t)) (placeP m):=fun r h=>by unfold classF;rw[hs];simp only[Bool.false_eq_true,if_false];rw[h];cases r<;>rfl
 have HC:=hid hC;have hmk:=make256;have HB0:=fun W=>hid (BB.new W);have HIN:=hid (fun W hW=>is_any b (a+1) o 94 l false hs W hW hl ha);have HEND:=hid (fun a1 r (hr:sees l a1 93=r) (h:a1≤l.size) W hW=>is_any b a1 o 93 l r hr W hW hl h);have HP:=hid (hp.alloc (.cells zero3 84));have HR:=hid (Blk.new w 84 zero3);have HG:=hid (gr_alloc (gr_refl w (some b)) (.cells zero3 84));have hbl:b<w.heap.size:=Blk.lt hp;generalize mc256=mc at*
 clear hC hp hs;go_enter Tryz.func126,Tryz.ntmps126;go_upto_region 1 with fail;generalize hW:w.alloc (.cells zero3 84)=W at*
 have hWs:W.heap.size=(w.heap.size)+1:=by rw[←hW,World.size_alloc]
 clear hW;have c1:=HP.out.cells.2.1;have f1:=Blk.frozen HP.out 1;go_upto_region 2 with fail;have HP1:=hid (HP.out.at_ (a+1) (.int .i64 ((a:Int)+1)) (by rfl));have HR1:=hid (HR.out.other (k:=b) (by omega) 1 (.int .i64 ((a:Int)+1)));have HG1:=hid (gr_set HG.out 1 (.int .i64 ((a:Int)+1)));have hWs1:(W.setCell ⟨b,1,none⟩ (.int .i64 ((a:Int)+1))).heap.size=(w.heap.size)+1:=by rw[←hWs];simp[World.setCell]
 generalize W.setCell ⟨b,1,none⟩ (.int .i64 ((a:Int)+1))=W1 at*
 clear HP HR HG c1 f1 hWs;go_wp2_with fail;refine(HIN.out _ HP1.out).mono ?_;rintro e w2⟨rfl,n2,rfl⟩;have HP2:=hid (HP1.out.drewN n2);have HR2:=hid (HR1.out.drewN n2);have HG2:=hid (gr_drewN HG1.out n2);have hWs2:(W1.drewN n2).heap.size=(w.heap.size)+1:=hWs1;generalize W1.drewN n2=W2 at*
 clear HP1 HR1 HG1 HIN hWs1;go_upto_region 5 with fail;have HP3:=HP2;have HR3:=HR2;have HG3:=HG2;have hWs3:=hWs2;clear HP2 HR2 HG2 hWs2;generalize W2=W3 at*
 obtain⟨q,hq⟩:∃q,q=a+1:=⟨_,rfl⟩
 rw[←hq]at HC HP3;have hql:q≤l.size:=by omega
 have HB4:=hid ((HB0 W3).out.alloc (.cells (clN (w.heap.size+1)) 84));have HR4:=hid ((HR3.out.alloc (.cells mc 4)).alloc (.cells (clN (w.heap.size+1)) 84));have HN4:=hid (Blk.new (W3.alloc (.cells mc 4)) 84 (clN (w.heap.size+1)));have HP4:=hid ((HP3.out.alloc (.cells mc 4)).alloc (.cells (clN (w.heap.size+1)) 84));have HG4:=hid (gr_alloc (gr_alloc HG3.out (.cells mc 4)) (.cells (clN (w.heap.size+1)) 84));rw[World.size_alloc,hWs3]at HN4;rw[hWs3]at HB4;go_upto_region 6 with fail;generalize hW:(W3.alloc (.cells mc 4)).alloc (.cells #[.int .u8 91,.slice (some ⟨(w.heap.size+1),0,none⟩) 256 256,.slice none 0 0] 84)=W4 at*
 have hg0:w.heap.size≤(w.heap.size+1):=by omega
 have hgb:(w.heap.size+1)≠b:=by omega
 have hg2:(w.heap.size+1)≠(w.heap.size):=by omega
 have hg4:(w.heap.size+1)≠(w.heap.size+1+1):=by omega
 have h42:(w.heap.size+1+1)≠(w.heap.size):=by omega
 have h4b:(w.heap.size+1+1)≠b:=by omega
 have h2b:(w.heap.size)≠b:=by omega
 clear hW hmk HB0 HP3 HR3 HG3 hWs3;go_wp2_with fail
 go_loopw [5,6,7,8] (fun s5 s6 s7 s8 wr=>Hid (ClS b l o q (w.heap.size+1) (w.heap.size) (w.heap.size+1+1) w s5 wr)) (fun s5 s6 s7 s8 wr=>parM wr b l.size)
 case atStart=>exact(cls_ok (mn:=0) (k:=l.size+1) (a1:=q) (t:=0) rfl HB4.out HR4.out HN4.out HG4.out (by omega) (by omega) hql (by decide) HP4.out (if_pos rfl).symm)
 case round=>
  obtain⟨hBr,h2r,h4r,hGr,hst⟩:=hrel.out;have HBr:=hid hBr;have H2r:=hid h2r;have H4r:=hid h4r;have HGr:=hid hGr;rcases hst with ⟨mn,k,a1,t,rfl,hmn,hk,ha1,ht,hPr,hQ⟩|⟨mn,pl,rfl,hPr,hQ⟩
  ·have HPr:=hid hPr
   have HIQ:=hid hQ;have HMr:Hid (parM wr b l.size=l.size+1-a1):=parM_ok hPr _;clear hrel hBr h2r h4r hGr hPr hQ HB4 HR4 HN4 HG4 HP4;obtain⟨k',rfl⟩:∃k',k=k'+1:=⟨k-1,by omega⟩
   have c3:=HPr.out.cells.2.2.2;by_cases hm0:mn=0
   ·have he:((mn:Int)==0)=true:=by simp[hm0]
    rw[if_pos hm0]at HIQ;clear HC;generalize wr=Wr at*
    have HLT:=hid (letter_any b a1 o l Wr HPr.out hl ha1);cases hc:ccharF l a1 with
    |bad pl=>
     rw[hc]at HLT;have HIX:Hid (itemsF l (l.size+1) q 0=.bad pl):=HIQ.out.trans (itemsF_stop (by unfold itemF;rw[hc]));clear hc HIQ;go_wp2_with fail;refine(HLT.out).mono ?_;rintro e Wx⟨hgx,rfl,hpx⟩;have HPx:=hid hpx;have HBx:=hid (HBr.out.grown hgx (by intro e;injection e;omega));have H2x:=hid (H2r.out.grown hgx (by intro e;injection e;omega));have H4x:=hid (H4r.out.grown hgx (by intro e;injection e;omega));have HGx:=hid (gr_trans HGr.out hgx);clear hgx hpx HLT;have c3:=HPx.out.cells.2.2.2;have HMx:Hid (parM Wx b l.size=0):=parM_bad HPx.out (.inl rfl) _;go_wp2_with fail;refine wp_loop_rounds 1 ?_;rw[rounds_succ];go_wp2
     go_roundw
     case rel=>exact(cls_bad (mn:=mn+1) (by go_num) HBx.out H2x.out H4x.out HGx.out HPx.out HIX.out)
     case measure=>rw[HMx.out,HMr.out];omega
    |ok a2 lo=>
     rw[hc]at HLT;obtain⟨k1,k2,k3⟩:=ccharF_ok hc;cases hs:sees l a2 45 with
     |false=>
      have hit:itemF l a1 t=.ok a2 (addR t lo 1):=by unfold itemF;rw[hc];dsimp only;rw[hs];rfl
      have HIX:=hid (HIQ.out.trans (itemsF_next hit));have HT2:=hid (itemF_ok ht hit).2.2;have HIS:=hid (fun W hW=>is_any b a2 o 45 l false hs W hW hl k2);clear hc hs HIQ hit;go_wp2_with fail;refine(HLT.out).mono ?_;rintro e W2⟨hgx,rfl,hpx⟩;have HP2:=hid hpx;have HB2:=hid (HBr.out.grown hgx (by intro e;injection e;omega));have H22:=hid (H2r.out.grown hgx (by intro e;injection e;omega));have H42:=hid (H4r.out.grown hgx (by intro e;injection e;omega));have HG2:=hid (gr_trans HGr.out hgx);clear hgx hpx HLT;have c3:=HP2.out.cells.2.2.2;go_wp2_with fail;refine(HIS.out _ HP2.out).mono ?_;rintro e w3⟨rfl,n3,rfl⟩;have HP3:=hid (HP2.out.drewN n3);have HB3:=hid (HB2.out.drewN n3);have H23:=hid (H22.out.drewN n3);have H43:=hid (H42.out.drewN n3);have HG3:=hid (gr_drewN HG2.out n3);generalize W2.drewN n3=W3 at*
      clear HP2 HB2 H22 H42 HG2 HIS c3;have c3:=HP3.out.cells.2.2.2;have hcmp:decide ((lo:Int)<(lo:Int))=false:=by simp
      go_wp2_with fail
      go_loopw [8] (fun s8 wq=>∃kk:Nat,s8=.int .i64 kk∧lo≤kk∧kk≤lo+1∧Hid (BB wq (w.heap.size+1))∧Hid (Blk wq (w.heap.size) 84 zero3)∧Hid (Blk wq (w.heap.size+1+1) 84 (clN (w.heap.size+1)))∧Hid (w.grownBy wq (some b))∧Hid (Par wq b l a2 o 0)) (fun s8 _=>(lo+1-intOf s8).toNat)
      case atStart=>exact⟨lo,rfl,Nat.le_refl _,by omega,HB3,H23,H43,HG3,HP3⟩
      case round=>
       obtain⟨kk,rfl,hkk1,hkk2,HBq,H2q,H4q,HGq,HPq⟩:=hrel;have c3:=HPq.out.cells.2.2.2;by_cases hkk:kk≤lo
       ·have hd:decide ((kk:Int)≤(lo:Int))=true:=by simp;omega
        have q0:(0:Int)≤(kk:Int):=by omega
        have q1:(kk:Int)<256:=by omega
        obtain⟨bv,hbv⟩:=HBq.out.cell (i:=kk) (by omega);have hbf:=HBq.out.frozen kk;obtain⟨n0,n1,n2⟩:=cells3 H4q.out;have HBs:=hid (HBq.out.set kk true);have H2s:=hid (H2q.out.other (k:=(w.heap.size+1)) (by omega) kk (.bool true));have H4s:=hid (H4q.out.other (k:=(w.heap.size+1)) (by omega) kk (.bool true));have HGs:=hid (gr_set_new HGq.out hg0 kk (.bool true));have HPs:=hid (HPq.out.other (k:=(w.heap.size+1)) (by omega) kk (.bool true));go_wp2
        go_roundw
        case rel=>exact⟨kk+1,by go_num,by omega,by omega,HBs,H2s,H4s,HGs,HPs⟩
        case measure=>simp[intOf];omega
       ·have hd:decide ((kk:Int)≤(lo:Int))=false:=by simp;omega
        have HMq:Hid (parM wr b l.size=l.size+1-a2):=parM_ok HPq.out _;go_wp2
        go_roundw
        case rel=>exact(cls_ok (mn:=mn+1) (k:=k') (by go_num) HBq.out H2q.out H4q.out HGq.out (by omega) (by omega) (by omega) HT2.out HPq.out (HIX.out.trans (if_neg (by omega)).symm))
        case measure=>rw[HMq.out,HMr.out];omega
     |true=>
      have HIS:=hid (fun W hW=>is_any b a2 o 45 l true hs W hW hl k2);have hlt2:=sees_lt hs;have HLT2:=hid (fun W hW=>letter_any b (a2+1) o l W hW hl hlt2);cases hc2:ccharF l (a2+1)with
      |bad pl=>
       rw[hc2]at HLT2;have HIX:Hid (itemsF l (l.size+1) q 0=.bad pl):=HIQ.out.trans (itemsF_stop (by unfold itemF;simp[hc,hs,hc2]));clear hc hs HIQ hc2;go_wp2_with fail;refine(HLT.out).mono ?_;rintro e W2⟨hgx,rfl,hpx⟩;have HP2:=hid hpx;have HB2:=hid (HBr.out.grown hgx (by intro e;injection e;omega));have H22:=hid (H2r.out.grown hgx (by intro e;injection e;omega));have H42:=hid (H4r.out.grown hgx (by intro e;injection e;omega));have HG2:=hid (gr_trans HGr.out hgx);clear hgx hpx HLT;have c3:=HP2.out.cells.2.2.2;go_wp2_with fail;refine(HIS.out _ HP2.out).mono ?_;rintro e w3⟨rfl,n3,rfl⟩;have HP3:=hid (HP2.out.drewN n3);have HB3:=hid (HB2.out.drewN n3);have H23:=hid (H22.out.drewN n3);have H43:=hid (H42.out.drewN n3);have HG3:=hid (gr_drewN HG2.out n3);generalize W2.drewN n3=W3 at*
       clear HP2 HB2 H22 H42 HG2 HIS c3;have c1:=HP3.out.cells.2.1;have f1:=Blk.frozen HP3.out 1;go_upto_region 13 with fail;have HP4:=hid (HP3.out.at_ (a2+1) (.int .i64 ((a2:Int)+1)) (by rfl));have HB4:=hid (HB3.out.other (k:=b) (by omega) 1 (.int .i64 ((a2:Int)+1)));have H24:=hid (H23.out.other (k:=b) (by omega) 1 (.int .i64 ((a2:Int)+1)));have H44:=hid (H43.out.other (k:=b) (by omega) 1 (.int .i64 ((a2:Int)+1)));have HG4:=hid (gr_set HG3.out 1 (.int .i64 ((a2:Int)+1)));generalize W3.setCell ⟨b,1,none⟩ (.int .i64 ((a2:Int)+1))=W4 at*
       clear HP3 HB3 H23 H43 HG3 c1 f1;go_wp2_with fail;refine(HLT2.out _ HP4.out).mono ?_;rintro e Wx⟨hgx,rfl,hpx⟩;have HPx:=hid hpx;have HBx:=hid (HB4.out.grown hgx (by intro e;injection e;omega));have H2x:=hid (H24.out.grown hgx (by intro e;injection e;omega));have H4x:=hid (H44.out.grown hgx (by intro e;injection e;omega));have HGx:=hid (gr_trans HG4.out hgx);clear hgx hpx HLT2;have c3:=HPx.out.cells.2.2.2;have HMx:Hid (parM Wx b l.size=0):=parM_bad HPx.out (.inl rfl) _;go_wp2_with fail;refine wp_loop_rounds 1 ?_;rw[rounds_succ];go_wp2
       go_roundw
       case rel=>exact(cls_bad (mn:=mn+1) (by go_num) HBx.out H2x.out H4x.out HGx.out HPx.out HIX.out)
       case measure=>rw[HMx.out,HMr.out];omega
      |ok a3 hi=>
       rw[hc2]at HLT2;obtain⟨y1,y2,y3⟩:=ccharF_ok hc2;by_cases hlh:hi<lo
       ·have HIX:Hid (itemsF l (l.size+1) q 0=.bad (a3-1)):=HIQ.out.trans (itemsF_stop (by unfold itemF;simp[hc,hs,hc2,hlh]))
        clear hc hs HIQ hc2;go_wp2_with fail;refine(HLT.out).mono ?_;rintro e W2⟨hgx,rfl,hpx⟩;have HP2:=hid hpx;have HB2:=hid (HBr.out.grown hgx (by intro e;injection e;omega));have H22:=hid (H2r.out.grown hgx (by intro e;injection e;omega));have H42:=hid (H4r.out.grown hgx (by intro e;injection e;omega));have HG2:=hid (gr_trans HGr.out hgx);clear hgx hpx HLT;have c3:=HP2.out.cells.2.2.2;go_wp2_with fail;refine(HIS.out _ HP2.out).mono ?_;rintro e w3⟨rfl,n3,rfl⟩;have HP3:=hid (HP2.out.drewN n3);have HB3:=hid (HB2.out.drewN n3);have H23:=hid (H22.out.drewN n3);have H43:=hid (H42.out.drewN n3);have HG3:=hid (gr_drewN HG2.out n3);generalize W2.drewN n3=W3 at*
        clear HP2 HB2 H22 H42 HG2 HIS c3;have c1:=HP3.out.cells.2.1;have f1:=Blk.frozen HP3.out 1;go_upto_region 13 with fail;have HP4:=hid (HP3.out.at_ (a2+1) (.int .i64 ((a2:Int)+1)) (by rfl));have HB4:=hid (HB3.out.other (k:=b) (by omega) 1 (.int .i64 ((a2:Int)+1)));have H24:=hid (H23.out.other (k:=b) (by omega) 1 (.int .i64 ((a2:Int)+1)));have H44:=hid (H43.out.other (k:=b) (by omega) 1 (.int .i64 ((a2:Int)+1)));have HG4:=hid (gr_set HG3.out 1 (.int .i64 ((a2:Int)+1)));generalize W3.setCell ⟨b,1,none⟩ (.int .i64 ((a2:Int)+1))=W4 at*
        clear HP3 HB3 H23 H43 HG3 c1 f1;go_wp2_with fail;refine(HLT2.out _ HP4.out).mono ?_;rintro e W5⟨hgx,rfl,hpx⟩;have HP5:=hid hpx;have HB5:=hid (HB4.out.grown hgx (by intro e;injection e;omega));have H25:=hid (H24.out.grown hgx (by intro e;injection e;omega));have H45:=hid (H44.out.grown hgx (by intro e;injection e;omega));have HG5:=hid (gr_trans HG4.out hgx);clear hgx hpx HLT2;have hcmp:decide ((hi:Int)<(lo:Int))=true:=by simp;omega
        have c1:=HP5.out.cells.2.1;have c3:=HP5.out.cells.2.2.2;have f1:=Blk.frozen HP5.out 1;go_upto_region 16 with fail;have HP6:Hid (Par (W5.setCell ⟨b,1,none⟩ (.int .i64 ((a3:Int)-1))) b l (a3-1) o 0):=HP5.out.at_ (a3-1) _ (by rw[show((a3-1:Nat):Int)=(a3:Int)-1 by omega]);have HB6:=hid (HB5.out.other (k:=b) (by omega) 1 (.int .i64 ((a3:Int)-1)));have H26:=hid (H25.out.other (k:=b) (by omega) 1 (.int .i64 ((a3:Int)-1)));have H46:=hid (H45.out.other (k:=b) (by omega) 1 (.int .i64 ((a3:Int)-1)));have HG6:=hid (gr_set HG5.out 1 (.int .i64 ((a3:Int)-1)));generalize W5.setCell ⟨b,1,none⟩ (.int .i64 ((a3:Int)-1))=W6 at*
        clear HP5 HB5 H25 H45 HG5 c1 c3 f1;have c3:=HP6.out.cells.2.2.2;have f3:=Blk.frozen HP6.out 3;go_upto_region 17 with fail;have HPx:=hid (HP6.out.wr_ 2 (.int .i64 2) rfl);have HBx:=hid (HB6.out.other (k:=b) (by omega) 3 (.int .i64 2));have H2x:=hid (H26.out.other (k:=b) (by omega) 3 (.int .i64 2));have H4x:=hid (H46.out.other (k:=b) (by omega) 3 (.int .i64 2));have HGx:=hid (gr_set HG6.out 3 (.int .i64 2));generalize W6.setCell ⟨b,3,none⟩ (.int .i64 2)=Wx at*
        clear HP6 HB6 H26 H46 HG6 c3 f3;have c3:=HPx.out.cells.2.2.2;have HMx:Hid (parM Wx b l.size=0):=parM_bad HPx.out (.inl rfl) _;go_wp2_with fail;refine wp_loop_rounds 1 ?_;rw[rounds_succ];go_wp2
        go_roundw
        case rel=>exact(cls_bad (mn:=mn+1) (by go_num) HBx.out H2x.out H4x.out HGx.out HPx.out HIX.out)
        case measure=>rw[HMx.out,HMr.out];omega
       ·have hit:itemF l a1 t=.ok a3 (addR t lo (hi+1-lo)):=by unfold itemF;simp[hc,hs,hc2,hlh]
        have HIX:=hid (HIQ.out.trans (itemsF_next hit));have HT2:=hid (itemF_ok ht hit).2.2;clear hc hs HIQ hc2 hit;go_wp2_with fail;refine(HLT.out).mono ?_;rintro e W2⟨hgx,rfl,hpx⟩;have HP2:=hid hpx;have HB2:=hid (HBr.out.grown hgx (by intro e;injection e;omega));have H22:=hid (H2r.out.grown hgx (by intro e;injection e;omega));have H42:=hid (H4r.out.grown hgx (by intro e;injection e;omega));have HG2:=hid (gr_trans HGr.out hgx);clear hgx hpx HLT;have c3:=HP2.out.cells.2.2.2;go_wp2_with fail;refine(HIS.out _ HP2.out).mono ?_;rintro e w3⟨rfl,n3,rfl⟩;have HP3:=hid (HP2.out.drewN n3);have HB3:=hid (HB2.out.drewN n3);have H23:=hid (H22.out.drewN n3);have H43:=hid (H42.out.drewN n3);have HG3:=hid (gr_drewN HG2.out n3);generalize W2.drewN n3=W3 at*
        clear HP2 HB2 H22 H42 HG2 HIS c3;have c1:=HP3.out.cells.2.1;have f1:=Blk.frozen HP3.out 1;go_upto_region 13 with fail;have HP4:=hid (HP3.out.at_ (a2+1) (.int .i64 ((a2:Int)+1)) (by rfl));have HB4:=hid (HB3.out.other (k:=b) (by omega) 1 (.int .i64 ((a2:Int)+1)));have H24:=hid (H23.out.other (k:=b) (by omega) 1 (.int .i64 ((a2:Int)+1)));have H44:=hid (H43.out.other (k:=b) (by omega) 1 (.int .i64 ((a2:Int)+1)));have HG4:=hid (gr_set HG3.out 1 (.int .i64 ((a2:Int)+1)));generalize W3.setCell ⟨b,1,none⟩ (.int .i64 ((a2:Int)+1))=W4 at*
        clear HP3 HB3 H23 H43 HG3 c1 f1;go_wp2_with fail;refine(HLT2.out _ HP4.out).mono ?_;rintro e W3⟨hgx,rfl,hpx⟩;have HP3:=hid hpx;have HB3:=hid (HB4.out.grown hgx (by intro e;injection e;omega));have H23:=hid (H24.out.grown hgx (by intro e;injection e;omega));have H43:=hid (H44.out.grown hgx (by intro e;injection e;omega));have HG3:=hid (gr_trans HG4.out hgx);clear hgx hpx HLT2;have hcmp:decide ((hi:Int)<(lo:Int))=false:=by simp;omega
        have c3:=HP3.out.cells.2.2.2;go_wp2_with fail
        go_loopw [8] (fun s8 wq=>∃kk:Nat,s8=.int .i64 kk∧lo≤kk∧kk≤hi+1∧Hid (BB wq (w.heap.size+1))∧Hid (Blk wq (w.heap.size) 84 zero3)∧Hid (Blk wq (w.heap.size+1+1) 84 (clN (w.heap.size+1)))∧Hid (w.grownBy wq (some b))∧Hid (Par wq b l a3 o 0)) (fun s8 _=>(hi+1-intOf s8).toNat)
        case atStart=>exact⟨lo,rfl,Nat.le_refl _,by omega,HB3,H23,H43,HG3,HP3⟩
        case round=>
         obtain⟨kk,rfl,hkk1,hkk2,HBq,H2q,H4q,HGq,HPq⟩:=hrel;have c3:=HPq.out.cells.2.2.2;by_cases hkk:kk≤hi
         ·have hd:decide ((kk:Int)≤(hi:Int))=true:=by simp;omega
          have q0:(0:Int)≤(kk:Int):=by omega
          have q1:(kk:Int)<256:=by omega
          obtain⟨bv,hbv⟩:=HBq.out.cell (i:=kk) (by omega);have hbf:=HBq.out.frozen kk;obtain⟨n0,n1,n2⟩:=cells3 H4q.out;have HBs:=hid (HBq.out.set kk true);have H2s:=hid (H2q.out.other (k:=(w.heap.size+1)) (by omega) kk (.bool true));have H4s:=hid (H4q.out.other (k:=(w.heap.size+1)) (by omega) kk (.bool true));have HGs:=hid (gr_set_new HGq.out hg0 kk (.bool true));have HPs:=hid (HPq.out.other (k:=(w.heap.size+1)) (by omega) kk (.bool true));go_wp2
          go_roundw
          case rel=>exact⟨kk+1,by go_num,by omega,by omega,HBs,H2s,H4s,HGs,HPs⟩
          case measure=>simp[intOf];omega
         ·have hd:decide ((kk:Int)≤(hi:Int))=false:=by simp;omega
          have HMq:Hid (parM wr b l.size=l.size+1-a3):=parM_ok HPq.out _;go_wp2
          go_roundw
          case rel=>exact(cls_ok (mn:=mn+1) (k:=k') (by go_num) HBq.out H2q.out H4q.out HGq.out (by omega) (by omega) (by omega) HT2.out HPq.out (HIX.out.trans (if_neg (by omega)).symm))
          case measure=>rw[HMq.out,HMr.out];omega
   ·have he:((mn:Int)==0)=false:=by simp;omega
    rw[if_neg hm0]at HIQ;cases hse:sees l a1 93 with
    |false=>
     have HE:=hid (HEND.out a1 false hse ha1 wr HPr.out);rw[if_neg (by rw[hse];simp)]at HIQ;clear hse HC;go_wp2_with fail;refine(HE.out).mono ?_;rintro e w4⟨rfl,n4,rfl⟩;have HPd:=hid (HPr.out.drewN n4);have HBd:=hid (HBr.out.drewN n4);have H2d:=hid (H2r.out.drewN n4);have H4d:=hid (H4r.out.drewN n4);have HGd:=hid (gr_drewN HGr.out n4);clear HPr HBr H2r H4r HGr HE c3;have HPr:=HPd;have HBr:=HBd;have H2r:=H2d;have H4r:=H4d;have HGr:=HGd;clear HPd HBd H2d H4d HGd;generalize wr.drewN n4=Wr at*
     have HLT:=hid (letter_any b a1 o l Wr HPr.out hl ha1);cases hc:ccharF l a1 with
     |bad pl=>
      rw[hc]at HLT;have HIX:Hid (itemsF l (l.size+1) q 0=.bad pl):=HIQ.out.trans (itemsF_stop (by unfold itemF;rw[hc]));clear hc HIQ;go_wp2_with fail;refine(HLT.out).mono ?_;rintro e Wx⟨hgx,rfl,hpx⟩;have HPx:=hid hpx;have HBx:=hid (HBr.out.grown hgx (by intro e;injection e;omega));have H2x:=hid (H2r.out.grown hgx (by intro e;injection e;omega));have H4x:=hid (H4r.out.grown hgx (by intro e;injection e;omega));have HGx:=hid (gr_trans HGr.out hgx);clear hgx hpx HLT;have c3:=HPx.out.cells.2.2.2;have HMx:Hid (parM Wx b l.size=0):=parM_bad HPx.out (.inl rfl) _;go_wp2_with fail;refine wp_loop_rounds 1 ?_;rw[rounds_succ];go_wp2
      go_roundw
      case rel=>exact(cls_bad (mn:=mn+1) (by go_num) HBx.out H2x.out H4x.out HGx.out HPx.out HIX.out)
      case measure=>rw[HMx.out,HMr.out];omega
     |ok a2 lo=>
      rw[hc]at HLT;obtain⟨k1,k2,k3⟩:=ccharF_ok hc;cases hs:sees l a2 45 with
      |false=>
       have hit:itemF l a1 t=.ok a2 (addR t lo 1):=by unfold itemF;rw[hc];dsimp only;rw[hs];rfl
       have HIX:=hid (HIQ.out.trans (itemsF_next hit));have HT2:=hid (itemF_ok ht hit).2.2;have HIS:=hid (fun W hW=>is_any b a2 o 45 l false hs W hW hl k2);clear hc hs HIQ hit;go_wp2_with fail;refine(HLT.out).mono ?_;rintro e W2⟨hgx,rfl,hpx⟩;have HP2:=hid hpx;have HB2:=hid (HBr.out.grown hgx (by intro e;injection e;omega));have H22:=hid (H2r.out.grown hgx (by intro e;injection e;omega));have H42:=hid (H4r.out.grown hgx (by intro e;injection e;omega));have HG2:=hid (gr_trans HGr.out hgx);clear hgx hpx HLT;have c3:=HP2.out.cells.2.2.2;go_wp2_with fail;refine(HIS.out _ HP2.out).mono ?_;rintro e w3⟨rfl,n3,rfl⟩;have HP3:=hid (HP2.out.drewN n3);have HB3:=hid (HB2.out.drewN n3);have H23:=hid (H22.out.drewN n3);have H43:=hid (H42.out.drewN n3);have HG3:=hid (gr_drewN HG2.out n3);generalize W2.drewN n3=W3 at*
       clear HP2 HB2 H22 H42 HG2 HIS c3;have c3:=HP3.out.cells.2.2.2;have hcmp:decide ((lo:Int)<(lo:Int))=false:=by simp
       go_wp2_with fail
       go_loopw [8] (fun s8 wq=>∃kk:Nat,s8=.int .i64 kk∧lo≤kk∧kk≤lo+1∧Hid (BB wq (w.heap.size+1))∧Hid (Blk wq (w.heap.size) 84 zero3)∧Hid (Blk wq (w.heap.size+1+1) 84 (clN (w.heap.size+1)))∧Hid (w.grownBy wq (some b))∧Hid (Par wq b l a2 o 0)) (fun s8 _=>(lo+1-intOf s8).toNat)
       case atStart=>exact⟨lo,rfl,Nat.le_refl _,by omega,HB3,H23,H43,HG3,HP3⟩
       case round=>
        obtain⟨kk,rfl,hkk1,hkk2,HBq,H2q,H4q,HGq,HPq⟩:=hrel;have c3:=HPq.out.cells.2.2.2;by_cases hkk:kk≤lo
        ·have hd:decide ((kk:Int)≤(lo:Int))=true:=by simp;omega
         have q0:(0:Int)≤(kk:Int):=by omega
         have q1:(kk:Int)<256:=by omega
         obtain⟨bv,hbv⟩:=HBq.out.cell (i:=kk) (by omega);have hbf:=HBq.out.frozen kk;obtain⟨n0,n1,n2⟩:=cells3 H4q.out;have HBs:=hid (HBq.out.set kk true);have H2s:=hid (H2q.out.other (k:=(w.heap.size+1)) (by omega) kk (.bool true));have H4s:=hid (H4q.out.other (k:=(w.heap.size+1)) (by omega) kk (.bool true));have HGs:=hid (gr_set_new HGq.out hg0 kk (.bool true));have HPs:=hid (HPq.out.other (k:=(w.heap.size+1)) (by omega) kk (.bool true));go_wp2
         go_roundw
         case rel=>exact⟨kk+1,by go_num,by omega,by omega,HBs,H2s,H4s,HGs,HPs⟩
         case measure=>simp[intOf];omega
        ·have hd:decide ((kk:Int)≤(lo:Int))=false:=by simp;omega
         have HMq:Hid (parM wr b l.size=l.size+1-a2):=parM_ok HPq.out _;go_wp2
         go_roundw
         case rel=>exact(cls_ok (mn:=mn+1) (k:=k') (by go_num) HBq.out H2q.out H4q.out HGq.out (by omega) (by omega) (by omega) HT2.out HPq.out (HIX.out.trans (if_neg (by omega)).symm))
         case measure=>rw[HMq.out,HMr.out];omega
      |true=>
       have HIS:=hid (fun W hW=>is_any b a2 o 45 l true hs W hW hl k2);have hlt2:=sees_lt hs;have HLT2:=hid (fun W hW=>letter_any b (a2+1) o l W hW hl hlt2);cases hc2:ccharF l (a2+1)with
       |bad pl=>
        rw[hc2]at HLT2;have HIX:Hid (itemsF l (l.size+1) q 0=.bad pl):=HIQ.out.trans (itemsF_stop (by unfold itemF;simp[hc,hs,hc2]));clear hc hs HIQ hc2;go_wp2_with fail;refine(HLT.out).mono ?_;rintro e W2⟨hgx,rfl,hpx⟩;have HP2:=hid hpx;have HB2:=hid (HBr.out.grown hgx (by intro e;injection e;omega));have H22:=hid (H2r.out.grown hgx (by intro e;injection e;omega));have H42:=hid (H4r.out.grown hgx (by intro e;injection e;omega));have HG2:=hid (gr_trans HGr.out hgx);clear hgx hpx HLT;have c3:=HP2.out.cells.2.2.2;go_wp2_with fail;refine(HIS.out _ HP2.out).mono ?_;rintro e w3⟨rfl,n3,rfl⟩;have HP3:=hid (HP2.out.drewN n3);have HB3:=hid (HB2.out.drewN n3);have H23:=hid (H22.out.drewN n3);have H43:=hid (H42.out.drewN n3);have HG3:=hid (gr_drewN HG2.out n3);generalize W2.drewN n3=W3 at*
        clear HP2 HB2 H22 H42 HG2 HIS c3;have c1:=HP3.out.cells.2.1;have f1:=Blk.frozen HP3.out 1;go_upto_region 13 with fail;have HP4:=hid (HP3.out.at_ (a2+1) (.int .i64 ((a2:Int)+1)) (by rfl));have HB4:=hid (HB3.out.other (k:=b) (by omega) 1 (.int .i64 ((a2:Int)+1)));have H24:=hid (H23.out.other (k:=b) (by omega) 1 (.int .i64 ((a2:Int)+1)));have H44:=hid (H43.out.other (k:=b) (by omega) 1 (.int .i64 ((a2:Int)+1)));have HG4:=hid (gr_set HG3.out 1 (.int .i64 ((a2:Int)+1)));generalize W3.setCell ⟨b,1,none⟩ (.int .i64 ((a2:Int)+1))=W4 at*
        clear HP3 HB3 H23 H43 HG3 c1 f1;go_wp2_with fail;refine(HLT2.out _ HP4.out).mono ?_;rintro e Wx⟨hgx,rfl,hpx⟩;have HPx:=hid hpx;have HBx:=hid (HB4.out.grown hgx (by intro e;injection e;omega));have H2x:=hid (H24.out.grown hgx (by intro e;injection e;omega));have H4x:=hid (H44.out.grown hgx (by intro e;injection e;omega));have HGx:=hid (gr_trans HG4.out hgx);clear hgx hpx HLT2;have c3:=HPx.out.cells.2.2.2;have HMx:Hid (parM Wx b l.size=0):=parM_bad HPx.out (.inl rfl) _;go_wp2_with fail;refine wp_loop_rounds 1 ?_;rw[rounds_succ];go_wp2
        go_roundw
        case rel=>exact(cls_bad (mn:=mn+1) (by go_num) HBx.out H2x.out H4x.out HGx.out HPx.out HIX.out)
        case measure=>rw[HMx.out,HMr.out];omega
       |ok a3 hi=>
        rw[hc2]at HLT2;obtain⟨y1,y2,y3⟩:=ccharF_ok hc2;by_cases hlh:hi<lo
        ·have HIX:Hid (itemsF l (l.size+1) q 0=.bad (a3-1)):=HIQ.out.trans (itemsF_stop (by unfold itemF;simp[hc,hs,hc2,hlh]))
         clear hc hs HIQ hc2;go_wp2_with fail;refine(HLT.out).mono ?_;rintro e W2⟨hgx,rfl,hpx⟩;have HP2:=hid hpx;have HB2:=hid (HBr.out.grown hgx (by intro e;injection e;omega));have H22:=hid (H2r.out.grown hgx (by intro e;injection e;omega));have H42:=hid (H4r.out.grown hgx (by intro e;injection e;omega));have HG2:=hid (gr_trans HGr.out hgx);clear hgx hpx HLT;have c3:=HP2.out.cells.2.2.2;go_wp2_with fail;refine(HIS.out _ HP2.out).mono ?_;rintro e w3⟨rfl,n3,rfl⟩;have HP3:=hid (HP2.out.drewN n3);have HB3:=hid (HB2.out.drewN n3);have H23:=hid (H22.out.drewN n3);have H43:=hid (H42.out.drewN n3);have HG3:=hid (gr_drewN HG2.out n3);generalize W2.drewN n3=W3 at*
         clear HP2 HB2 H22 H42 HG2 HIS c3;have c1:=HP3.out.cells.2.1;have f1:=Blk.frozen HP3.out 1;go_upto_region 13 with fail;have HP4:=hid (HP3.out.at_ (a2+1) (.int .i64 ((a2:Int)+1)) (by rfl));have HB4:=hid (HB3.out.other (k:=b) (by omega) 1 (.int .i64 ((a2:Int)+1)));have H24:=hid (H23.out.other (k:=b) (by omega) 1 (.int .i64 ((a2:Int)+1)));have H44:=hid (H43.out.other (k:=b) (by omega) 1 (.int .i64 ((a2:Int)+1)));have HG4:=hid (gr_set HG3.out 1 (.int .i64 ((a2:Int)+1)));generalize W3.setCell ⟨b,1,none⟩ (.int .i64 ((a2:Int)+1))=W4 at*
         clear HP3 HB3 H23 H43 HG3 c1 f1;go_wp2_with fail;refine(HLT2.out _ HP4.out).mono ?_;rintro e W5⟨hgx,rfl,hpx⟩;have HP5:=hid hpx;have HB5:=hid (HB4.out.grown hgx (by intro e;injection e;omega));have H25:=hid (H24.out.grown hgx (by intro e;injection e;omega));have H45:=hid (H44.out.grown hgx (by intro e;injection e;omega));have HG5:=hid (gr_trans HG4.out hgx);clear hgx hpx HLT2;have hcmp:decide ((hi:Int)<(lo:Int))=true:=by simp;omega
         have c1:=HP5.out.cells.2.1;have c3:=HP5.out.cells.2.2.2;have f1:=Blk.frozen HP5.out 1;go_upto_region 16 with fail;have HP6:Hid (Par (W5.setCell ⟨b,1,none⟩ (.int .i64 ((a3:Int)-1))) b l (a3-1) o 0):=HP5.out.at_ (a3-1) _ (by rw[show((a3-1:Nat):Int)=(a3:Int)-1 by omega]);have HB6:=hid (HB5.out.other (k:=b) (by omega) 1 (.int .i64 ((a3:Int)-1)));have H26:=hid (H25.out.other (k:=b) (by omega) 1 (.int .i64 ((a3:Int)-1)));have H46:=hid (H45.out.other (k:=b) (by omega) 1 (.int .i64 ((a3:Int)-1)));have HG6:=hid (gr_set HG5.out 1 (.int .i64 ((a3:Int)-1)));generalize W5.setCell ⟨b,1,none⟩ (.int .i64 ((a3:Int)-1))=W6 at*
         clear HP5 HB5 H25 H45 HG5 c1 c3 f1;have c3:=HP6.out.cells.2.2.2;have f3:=Blk.frozen HP6.out 3;go_upto_region 17 with fail;have HPx:=hid (HP6.out.wr_ 2 (.int .i64 2) rfl);have HBx:=hid (HB6.out.other (k:=b) (by omega) 3 (.int .i64 2));have H2x:=hid (H26.out.other (k:=b) (by omega) 3 (.int .i64 2));have H4x:=hid (H46.out.other (k:=b) (by omega) 3 (.int .i64 2));have HGx:=hid (gr_set HG6.out 3 (.int .i64 2));generalize W6.setCell ⟨b,3,none⟩ (.int .i64 2)=Wx at*
         clear HP6 HB6 H26 H46 HG6 c3 f3;have c3:=HPx.out.cells.2.2.2;have HMx:Hid (parM Wx b l.size=0):=parM_bad HPx.out (.inl rfl) _;go_wp2_with fail;refine wp_loop_rounds 1 ?_;rw[rounds_succ];go_wp2
         go_roundw
         case rel=>exact(cls_bad (mn:=mn+1) (by go_num) HBx.out H2x.out H4x.out HGx.out HPx.out HIX.out)
         case measure=>rw[HMx.out,HMr.out];omega
        ·have hit:itemF l a1 t=.ok a3 (addR t lo (hi+1-lo)):=by unfold itemF;simp[hc,hs,hc2,hlh]
         have HIX:=hid (HIQ.out.trans (itemsF_next hit));have HT2:=hid (itemF_ok ht hit).2.2;clear hc hs HIQ hc2 hit;go_wp2_with fail;refine(HLT.out).mono ?_;rintro e W2⟨hgx,rfl,hpx⟩;have HP2:=hid hpx;have HB2:=hid (HBr.out.grown hgx (by intro e;injection e;omega));have H22:=hid (H2r.out.grown hgx (by intro e;injection e;omega));have H42:=hid (H4r.out.grown hgx (by intro e;injection e;omega));have HG2:=hid (gr_trans HGr.out hgx);clear hgx hpx HLT;have c3:=HP2.out.cells.2.2.2;go_wp2_with fail;refine(HIS.out _ HP2.out).mono ?_;rintro e w3⟨rfl,n3,rfl⟩;have HP3:=hid (HP2.out.drewN n3);have HB3:=hid (HB2.out.drewN n3);have H23:=hid (H22.out.drewN n3);have H43:=hid (H42.out.drewN n3);have HG3:=hid (gr_drewN HG2.out n3);generalize W2.drewN n3=W3 at*
         clear HP2 HB2 H22 H42 HG2 HIS c3;have c1:=HP3.out.cells.2.1;have f1:=Blk.frozen HP3.out 1;go_upto_region 13 with fail;have HP4:=hid (HP3.out.at_ (a2+1) (.int .i64 ((a2:Int)+1)) (by rfl));have HB4:=hid (HB3.out.other (k:=b) (by omega) 1 (.int .i64 ((a2:Int)+1)));have H24:=hid (H23.out.other (k:=b) (by omega) 1 (.int .i64 ((a2:Int)+1)));have H44:=hid (H43.out.other (k:=b) (by omega) 1 (.int .i64 ((a2:Int)+1)));have HG4:=hid (gr_set HG3.out 1 (.int .i64 ((a2:Int)+1)));generalize W3.setCell ⟨b,1,none⟩ (.int .i64 ((a2:Int)+1))=W4 at*
         clear HP3 HB3 H23 H43 HG3 c1 f1;go_wp2_with fail;refine(HLT2.out _ HP4.out).mono ?_;rintro e W3⟨hgx,rfl,hpx⟩;have HP3:=hid hpx;have HB3:=hid (HB4.out.grown hgx (by intro e;injection e;omega));have H23:=hid (H24.out.grown hgx (by intro e;injection e;omega));have H43:=hid (H44.out.grown hgx (by intro e;injection e;omega));have HG3:=hid (gr_trans HG4.out hgx);clear hgx hpx HLT2;have hcmp:decide ((hi:Int)<(lo:Int))=false:=by simp;omega
         have c3:=HP3.out.cells.2.2.2;go_wp2_with fail
         go_loopw [8] (fun s8 wq=>∃kk:Nat,s8=.int .i64 kk∧lo≤kk∧kk≤hi+1∧Hid (BB wq (w.heap.size+1))∧Hid (Blk wq (w.heap.size) 84 zero3)∧Hid (Blk wq (w.heap.size+1+1) 84 (clN (w.heap.size+1)))∧Hid (w.grownBy wq (some b))∧Hid (Par wq b l a3 o 0)) (fun s8 _=>(hi+1-intOf s8).toNat)
         case atStart=>exact⟨lo,rfl,Nat.le_refl _,by omega,HB3,H23,H43,HG3,HP3⟩
         case round=>
          obtain⟨kk,rfl,hkk1,hkk2,HBq,H2q,H4q,HGq,HPq⟩:=hrel;have c3:=HPq.out.cells.2.2.2;by_cases hkk:kk≤hi
          ·have hd:decide ((kk:Int)≤(hi:Int))=true:=by simp;omega
           have q0:(0:Int)≤(kk:Int):=by omega
           have q1:(kk:Int)<256:=by omega
           obtain⟨bv,hbv⟩:=HBq.out.cell (i:=kk) (by omega);have hbf:=HBq.out.frozen kk;obtain⟨n0,n1,n2⟩:=cells3 H4q.out;have HBs:=hid (HBq.out.set kk true);have H2s:=hid (H2q.out.other (k:=(w.heap.size+1)) (by omega) kk (.bool true));have H4s:=hid (H4q.out.other (k:=(w.heap.size+1)) (by omega) kk (.bool true));have HGs:=hid (gr_set_new HGq.out hg0 kk (.bool true));have HPs:=hid (HPq.out.other (k:=(w.heap.size+1)) (by omega) kk (.bool true));go_wp2
           go_roundw
           case rel=>exact⟨kk+1,by go_num,by omega,by omega,HBs,H2s,H4s,HGs,HPs⟩
           case measure=>simp[intOf];omega
          ·have hd:decide ((kk:Int)≤(hi:Int))=false:=by simp;omega
           have HMq:Hid (parM wr b l.size=l.size+1-a3):=parM_ok HPq.out _;go_wp2
           go_roundw
           case rel=>exact(cls_ok (mn:=mn+1) (k:=k') (by go_num) HBq.out H2q.out H4q.out HGq.out (by omega) (by omega) (by omega) HT2.out HPq.out (HIX.out.trans (if_neg (by omega)).symm))
           case measure=>rw[HMq.out,HMr.out];omega
    |true=>
     have HE:=hid (HEND.out a1 true hse ha1 wr HPr.out);have hlt1:=sees_lt hse;rw[if_pos hse]at HIQ;have HX:=hid (HC.out _ HIQ.out);clear hse HC HIQ;go_wp2_with fail;refine(HE.out).mono ?_;rintro e w4⟨rfl,n4,rfl⟩;have HP5:=hid (HPr.out.drewN n4);have HB5:=hid (HBr.out.drewN n4);have H25:=hid (H2r.out.drewN n4);have H45:=hid (H4r.out.drewN n4);have HG5:=hid (gr_drewN HGr.out n4);clear HPr HBr H2r H4r HGr HE c3;generalize wr.drewN n4=W5 at*
     have c1:=HP5.out.cells.2.1;have c3:=HP5.out.cells.2.2.2;have f1:=Blk.frozen HP5.out 1;go_upto_region 24 with fail;have HP6:=hid (HP5.out.at_ (a1+1) (.int .i64 ((a1:Int)+1)) (by rfl));have HB6:=hid (HB5.out.other (k:=b) hgb 1 (.int .i64 ((a1:Int)+1)));have H26:=hid (H25.out.other (k:=b) h2b 1 (.int .i64 ((a1:Int)+1)));have H46:=hid (H45.out.other (k:=b) h4b 1 (.int .i64 ((a1:Int)+1)));have HG6:=hid (gr_set HG5.out 1 (.int .i64 ((a1:Int)+1)));generalize W5.setCell ⟨b,1,none⟩ (.int .i64 ((a1:Int)+1))=W6 at*
     clear HP5 HB5 H25 H45 HG5 c1 c3 f1;go_wp2_with fail;refine wp_loop_rounds 1 ?_;rw[rounds_succ];obtain⟨n0,n1,n2⟩:=cells3 H46.out;obtain⟨r0,r1,r2⟩:=cells3 H26.out;obtain⟨z0,z1,z2⟩:=frozen3 H26.out;go_wp2;exact bodyPost_ret (v:=ndV 91 (some ⟨(w.heap.size+1),0,none⟩) 256 256 none 0 0) (by simp[results,Tryz.results126,go_sem,r0,r1,r2]) rfl (rn_ok HX.out ⟨91,_,_,_,_,_,_,rfl⟩ (gr_set3 HG6.out (by omega) _ _ _) (Blk.set3_other HP6.out h2b.symm _ _ _))
  ·have HPr:=hid hPr
   have HX:=hid (HC.out _ hQ);clear hrel hBr h2r h4r hGr hPr hQ HB4 HR4 HN4 HG4 HP4 HC;have c3:=HPr.out.cells.2.2.2;obtain⟨n0,n1,n2⟩:=cells3 H4r.out;obtain⟨r0,r1,r2⟩:=cells3 H2r.out;obtain⟨z0,z1,z2⟩:=frozen3 H2r.out;go_wp2;exact bodyPost_ret (v:=ndV 91 (some ⟨(w.heap.size+1),0,none⟩) 256 256 none 0 0) (by simp[results,Tryz.results126,go_sem,r0,r1,r2]) rfl (rn_bad HX.out ⟨91,_,_,_,_,_,_,rfl⟩ (gr_set3 HGr.out (by omega) _ _ _) (Blk.set3_other HPr.out h2b.symm _ _ _) (.inl rfl))
end Go.Proofs.YticmkabafmmlhaaGreatDoor.Rg

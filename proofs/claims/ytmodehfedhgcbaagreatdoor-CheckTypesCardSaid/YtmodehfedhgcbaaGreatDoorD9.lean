/- What the document asks of a part is what the code asks of it: plain facts. No condition but a value below 2 to the 64. -/
import Derived.Test.YtmodehfedhgcbaaGreatDoorD8
import Derived.Test.YtmodehfedhgcbaaGreatDoorD6
import Derived.Test.YtmodehfedhgcbaaGreatDoorD4
import Derived.Test.YtmodehfedhgcbaaGreatDoorN15
set_option linter.unusedVariables false
set_option linter.unusedSimpArgs false
namespace Go.Proofs.YtmodehfedhgcbaaGreatDoor.Ck
open Go.RowKit Lx
theorem tw_all{p:UInt8→Bool}:∀{l:List UInt8},(l.takeWhile p).length=l.length→∀x,x∈l→p x=true
 |[],_,_,h=>by cases h
 |c::l,h,x,hx=>by
  by_cases hc:p c=true
  ·rw[List.takeWhile_cons_of_pos hc,List.length_cons,List.length_cons]at h
   rcases List.mem_cons.1 hx with rfl|hx
   ·exact hc
   ·exact tw_all (by omega) x hx
  ·rw[List.takeWhile_cons_of_neg hc]at h
   simp at h
theorem tw_self{p:UInt8→Bool}:∀{l:List UInt8},(∀x,x∈l→p x=true)→l.takeWhile p=l
 |[],_=>rfl
 |c::l,h=>by rw[List.takeWhile_cons_of_pos (h c List.mem_cons_self),tw_self fun x hx=>h x (List.mem_cons_of_mem _ hx)]
theorem chars_head{c:UInt8}{r:List UInt8}:charsB (c::r)=true↔isL c=true∧∀x,x∈c::r→isW x=true:=by
 rw[chars_all];constructor
 ·intro h
  refine⟨?_,fun x hx=>?_⟩
  ·have:=h 0 (by simp)
   simpa using this
  ·obtain⟨i,hi,rfl⟩:=List.getElem_of_mem hx
   have:=h i hi;rw[List.getD_eq_getElem?_getD,List.getElem?_eq_getElem hi]at this;unfold isW;rw[Bool.or_eq_true]at this⊢
   rcases this with h1|h1
   ·exact .inl h1
   ·exact .inr (Bool.and_eq_true_iff.1 h1).2
 ·rintro⟨h0,h⟩ i hi
  by_cases e:i=0
  ·subst e
   rw[show(c::r).getD 0 0=c from rfl,h0];rfl
  ·have hx:=h ((c::r).getD i 0) (by rw[List.getD_eq_getElem?_getD,List.getElem?_eq_getElem hi];exact List.getElem_mem hi)
   unfold isW at hx;rw[decide_eq_true e,Bool.true_and];exact hx
theorem tok_word{numB spanB:List UInt8→Bool}{l t:List UInt8}{n:Nat}(h:tokF numB spanB l=some (1,t,n)):∃c r,l=c::r∧isL c=true∧t=l.takeWhile isW:=by
 cases l with
 |nil=>cases h
 |cons c r=>
  rw[tokF]at h;by_cases hc:isL c=true
  ·rw[if_pos hc]at h
   simp only[Option.some.injEq,Prod.mk.injEq]at h;exact⟨c,r,rfl,hc,h.2.1.symm⟩
  ·rw[if_neg hc]at h
   exfalso;split at h
   ·split at h
    ·simp at h
    ·split at h<;>simp at h
   ·split at h
    ·cases hq:quoteL [] 1 r with
     |none=>rw[hq]at h;simp at h
     |some q=>rw[hq]at h;simp at h
    ·split at h<;>simp at h
theorem one_word(s:ByteArray)(h0:0<s.size):oneWord s (lexS numB spanB s.data.toList 0)=charsB s.data.toList:=by
 have hne:s.data.toList≠[]:=by intro e;have:s.data.toList.length=s.size:=rfl;rw[e]at this;simp at this;omega
 rw[Bool.eq_iff_iff];constructor
 ·intro h
  cases hr:lexS numB spanB s.data.toList 0 with
  |error e=>rw[hr]at h;cases h
  |ok ts=>
   rw[hr]at h
   match ts,h with
   |[x],h=>
    obtain⟨k,a,t⟩:=x;rw[oneWord,Bool.and_eq_true,decide_eq_true_eq,beq_iff_eq]at h;obtain⟨h1,h2⟩:=h;dsimp only at h1 h2;subst h1;have ht:t=s.data.toList:=by have e:=Lb.toList_inj h2;rw[←e]
    obtain⟨g,x,y,hl,_,_,htk,_⟩:=lexS_cons numB spanB hr;obtain⟨c,r,hc,hL,htw⟩:=tok_word htk;have len1:s.data.toList.length=g.length+(x++y).length:=by rw[hl,List.length_append]
    have len2:t.length≤(x++y).length:=by rw[htw];exact(List.takeWhile_sublist isW).length_le
    have hg:g=[]:=List.length_eq_zero_iff.1 (by rw[ht]at len2;omega);rw[hg,List.nil_append]at hl;rw[hl,hc,chars_head];refine⟨hL,?_⟩;rw[←hc];exact tw_all (by rw[←htw,ht,hl])
 ·intro h
  cases hl:s.data.toList with
  |nil=>exact absurd hl hne
  |cons c r=>
   rw[hl,chars_head]at h;obtain⟨hL,hW⟩:=h;have htk:tokF numB spanB (c::r)=some (1,c::r,(c::r).length):=by rw[tokF,if_pos hL,tw_self hW]
   rw[lexS_tok0 numB spanB htk,List.drop_length,lexS_end numB spanB (by simp)];rw[pre,List.append_nil];rw[oneWord,decide_eq_true rfl,Bool.true_and,beq_iff_eq];have:(⟨(c::r).toArray⟩:ByteArray)=s:=by rw[←hl]
   exact congrArg ByteArray.toList this
theorem freeD_is(s:ByteArray):freeB s=freeD s:=by
 unfold freeB freeD wordB;by_cases h0:0<s.size
 ·rw[decide_eq_true h0,Bool.true_and,one_word s h0]
  cases keyB s.toList<;>cases groupB s.toList<;>cases decide (s.size≤200)<;>rfl
 ·have e:s.size=0:=by omega
  have hn:s.data.toList=[]:=List.length_eq_zero_iff.1 e;rw[decide_eq_false h0,Bool.false_and,hn,lexS_end numB spanB (by simp)];simp[oneWord]
def xH(h:Hd):Hd:=
 if h.k=1 then⟨h.k,0,h.v,⟨#[]⟩,none,0,[],0,0,false,0,0,none,0,[],false,none,0⟩
 else if h.k=2 then⟨h.k,0,0,h.s,none,0,[],0,0,false,0,0,none,0,[],false,none,0⟩
 else if h.k=3 then⟨h.k,0,0,h.s,h.ma,h.mc,h.ms,h.wd,h.off,h.ha,h.tm,0,none,0,[],false,none,0⟩
 else if h.k=4 then⟨h.k,0,0,h.s,none,0,[],0,0,false,0,0,none,0,[],false,h.ka,h.kc⟩
 else if h.k=5 then⟨h.k,0,0,h.s,none,0,[],0,0,false,0,h.how,h.na,h.nc,h.ns,false,h.ka,h.kc⟩
 else if h.k=6 then⟨h.k,h.o,0,⟨#[]⟩,none,0,[],0,0,false,0,h.how,h.na,h.nc,h.ns,h.bo,h.ka,h.kc⟩
 else if h.k=7 then⟨h.k,0,0,⟨#[]⟩,none,0,[],0,0,false,0,0,none,0,[],false,h.ka,h.kc⟩
 else⟨h.k,0,0,⟨#[]⟩,none,0,[],0,0,false,0,0,none,0,[],false,none,0⟩
def xK(h:Hd)(ks:List Tr):List Tr:=if 4≤h.k∧h.k≤7 then ks else[]
theorem xH_1{h:Hd}(hk:h.k=1):xH h=⟨h.k,0,h.v,⟨#[]⟩,none,0,[],0,0,false,0,0,none,0,[],false,none,0⟩:=by unfold xH;rw[if_pos hk]
theorem head_1{h:Hd}{ks:List Tr}(hk:h.k=1):headF (xH h) h (xK h ks) ks=bareF h.o 0 h.s h.ms.length h.wd h.off h.ha h.tm h.how h.ns.length h.bo ks.length:=by
 have hx:xK h ks=[]:=if_neg (by omega);rw[xH_1 hk,hx];unfold headF bareF;rw[decide_eq_decide];constructor
 ·rintro⟨_,a1,a2,a3,a4,a5,a6,a7,a8,a9,a10,a11,a12⟩
  exact⟨a1.symm,rfl,a3.symm.trans Rg.toList_nil,a4.symm,a5.symm,a6.symm,a7.symm,a8.symm,a9.symm,a10.symm,a11.symm,a12.symm⟩
 ·rintro⟨b1,b2,b3,b4,b5,b6,b7,b8,b9,b10,b11,b12⟩
  exact⟨rfl,b1.symm,rfl,Rg.toList_nil.trans b3.symm,b4.symm,b5.symm,b6.symm,b7.symm,b8.symm,b9.symm,b10.symm,b11.symm,b12.symm⟩
theorem xH_2{h:Hd}(hk:h.k=2):xH h=⟨h.k,0,0,h.s,none,0,[],0,0,false,0,0,none,0,[],false,none,0⟩:=by unfold xH;rw[if_neg (show¬h.k=1 by omega),if_pos hk]
theorem head_2{h:Hd}{ks:List Tr}(hk:h.k=2):headF (xH h) h (xK h ks) ks=bareF h.o h.v ⟨#[]⟩ h.ms.length h.wd h.off h.ha h.tm h.how h.ns.length h.bo ks.length:=by
 have hx:xK h ks=[]:=if_neg (by omega);rw[xH_2 hk,hx];unfold headF bareF;rw[decide_eq_decide];constructor
 ·rintro⟨_,a1,a2,a3,a4,a5,a6,a7,a8,a9,a10,a11,a12⟩
  exact⟨a1.symm,a2.symm,Rg.toList_nil,a4.symm,a5.symm,a6.symm,a7.symm,a8.symm,a9.symm,a10.symm,a11.symm,a12.symm⟩
 ·rintro⟨b1,b2,b3,b4,b5,b6,b7,b8,b9,b10,b11,b12⟩
  exact⟨rfl,b1.symm,b2.symm,rfl,b4.symm,b5.symm,b6.symm,b7.symm,b8.symm,b9.symm,b10.symm,b11.symm,b12.symm⟩
theorem xH_3{h:Hd}(hk:h.k=3):xH h=⟨h.k,0,0,h.s,h.ma,h.mc,h.ms,h.wd,h.off,h.ha,h.tm,0,none,0,[],false,none,0⟩:=by unfold xH;rw[if_neg (show¬h.k=1 by omega),if_neg (show¬h.k=2 by omega),if_pos hk]
theorem head_3{h:Hd}{ks:List Tr}(hk:h.k=3):headF (xH h) h (xK h ks) ks=bareF h.o h.v ⟨#[]⟩ 0 0 0 false 0 h.how h.ns.length h.bo ks.length:=by
 have hx:xK h ks=[]:=if_neg (by omega);rw[xH_3 hk,hx];unfold headF bareF;rw[decide_eq_decide];constructor
 ·rintro⟨_,a1,a2,a3,a4,a5,a6,a7,a8,a9,a10,a11,a12⟩
  exact⟨a1.symm,a2.symm,Rg.toList_nil,rfl,rfl,rfl,rfl,rfl,a9.symm,a10.symm,a11.symm,a12.symm⟩
 ·rintro⟨b1,b2,b3,b4,b5,b6,b7,b8,b9,b10,b11,b12⟩
  exact⟨rfl,b1.symm,b2.symm,rfl,rfl,rfl,rfl,rfl,rfl,b9.symm,b10.symm,b11.symm,b12.symm⟩
theorem xH_4{h:Hd}(hk:h.k=4):xH h=⟨h.k,0,0,h.s,none,0,[],0,0,false,0,0,none,0,[],false,h.ka,h.kc⟩:=by unfold xH;rw[if_neg (show¬h.k=1 by omega),if_neg (show¬h.k=2 by omega),if_neg (show¬h.k=3 by omega),if_pos hk]
theorem head_4{h:Hd}{ks:List Tr}(hk:h.k=4):headF (xH h) h (xK h ks) ks=bareF h.o h.v ⟨#[]⟩ h.ms.length h.wd h.off h.ha h.tm h.how h.ns.length h.bo 0:=by
 have hx:xK h ks=ks:=if_pos (by omega);rw[xH_4 hk,hx];unfold headF bareF;rw[decide_eq_decide];constructor
 ·rintro⟨_,a1,a2,a3,a4,a5,a6,a7,a8,a9,a10,a11,a12⟩
  exact⟨a1.symm,a2.symm,Rg.toList_nil,a4.symm,a5.symm,a6.symm,a7.symm,a8.symm,a9.symm,a10.symm,a11.symm,rfl⟩
 ·rintro⟨b1,b2,b3,b4,b5,b6,b7,b8,b9,b10,b11,b12⟩
  exact⟨rfl,b1.symm,b2.symm,rfl,b4.symm,b5.symm,b6.symm,b7.symm,b8.symm,b9.symm,b10.symm,b11.symm,rfl⟩
theorem xH_5{h:Hd}(hk:h.k=5):xH h=⟨h.k,0,0,h.s,none,0,[],0,0,false,0,h.how,h.na,h.nc,h.ns,false,h.ka,h.kc⟩:=by unfold xH;rw[if_neg (show¬h.k=1 by omega),if_neg (show¬h.k=2 by omega),if_neg (show¬h.k=3 by omega),if_neg (show¬h.k=4 by omega),if_pos hk]
theorem head_5{h:Hd}{ks:List Tr}(hk:h.k=5):headF (xH h) h (xK h ks) ks=bareF h.o h.v ⟨#[]⟩ h.ms.length h.wd h.off h.ha h.tm 0 0 h.bo 0:=by
 have hx:xK h ks=ks:=if_pos (by omega);rw[xH_5 hk,hx];unfold headF bareF;rw[decide_eq_decide];constructor
 ·rintro⟨_,a1,a2,a3,a4,a5,a6,a7,a8,a9,a10,a11,a12⟩
  exact⟨a1.symm,a2.symm,Rg.toList_nil,a4.symm,a5.symm,a6.symm,a7.symm,a8.symm,rfl,rfl,a11.symm,rfl⟩
 ·rintro⟨b1,b2,b3,b4,b5,b6,b7,b8,b9,b10,b11,b12⟩
  exact⟨rfl,b1.symm,b2.symm,rfl,b4.symm,b5.symm,b6.symm,b7.symm,b8.symm,rfl,rfl,b11.symm,rfl⟩
theorem xH_6{h:Hd}(hk:h.k=6):xH h=⟨h.k,h.o,0,⟨#[]⟩,none,0,[],0,0,false,0,h.how,h.na,h.nc,h.ns,h.bo,h.ka,h.kc⟩:=by unfold xH;rw[if_neg (show¬h.k=1 by omega),if_neg (show¬h.k=2 by omega),if_neg (show¬h.k=3 by omega),if_neg (show¬h.k=4 by omega),if_neg (show¬h.k=5 by omega),if_pos hk]
theorem head_6{h:Hd}{ks:List Tr}(hk:h.k=6):headF (xH h) h (xK h ks) ks=bareF 0 h.v h.s h.ms.length h.wd h.off h.ha h.tm 0 0 false 0:=by
 have hx:xK h ks=ks:=if_pos (by omega);rw[xH_6 hk,hx];unfold headF bareF;rw[decide_eq_decide];constructor
 ·rintro⟨_,a1,a2,a3,a4,a5,a6,a7,a8,a9,a10,a11,a12⟩
  exact⟨rfl,a2.symm,a3.symm.trans Rg.toList_nil,a4.symm,a5.symm,a6.symm,a7.symm,a8.symm,rfl,rfl,rfl,rfl⟩
 ·rintro⟨b1,b2,b3,b4,b5,b6,b7,b8,b9,b10,b11,b12⟩
  exact⟨rfl,rfl,b2.symm,Rg.toList_nil.trans b3.symm,b4.symm,b5.symm,b6.symm,b7.symm,b8.symm,rfl,rfl,rfl,rfl⟩
theorem xH_7{h:Hd}(hk:h.k=7):xH h=⟨h.k,0,0,⟨#[]⟩,none,0,[],0,0,false,0,0,none,0,[],false,h.ka,h.kc⟩:=by unfold xH;rw[if_neg (show¬h.k=1 by omega),if_neg (show¬h.k=2 by omega),if_neg (show¬h.k=3 by omega),if_neg (show¬h.k=4 by omega),if_neg (show¬h.k=5 by omega),if_neg (show¬h.k=6 by omega),if_pos hk]
theorem head_7{h:Hd}{ks:List Tr}(hk:h.k=7):headF (xH h) h (xK h ks) ks=bareF h.o h.v h.s h.ms.length h.wd h.off h.ha h.tm h.how h.ns.length h.bo 0:=by
 have hx:xK h ks=ks:=if_pos (by omega);rw[xH_7 hk,hx];unfold headF bareF;rw[decide_eq_decide];constructor
 ·rintro⟨_,a1,a2,a3,a4,a5,a6,a7,a8,a9,a10,a11,a12⟩
  exact⟨a1.symm,a2.symm,a3.symm.trans Rg.toList_nil,a4.symm,a5.symm,a6.symm,a7.symm,a8.symm,a9.symm,a10.symm,a11.symm,rfl⟩
 ·rintro⟨b1,b2,b3,b4,b5,b6,b7,b8,b9,b10,b11,b12⟩
  exact⟨rfl,b1.symm,b2.symm,Rg.toList_nil.trans b3.symm,b4.symm,b5.symm,b6.symm,b7.symm,b8.symm,b9.symm,b10.symm,b11.symm,rfl⟩
def dok(h:Hd)(n:Nat):Bool:=
 if h.k=1 then decide (h.v≤9218868437227405312)||decide (h.v=9221120237041090561)
 else if h.k=2 then Rg.valB h.s
 else if h.k=3 then((h.s.toList.isEmpty||freeD h.s)&&(decide (h.ms.length≤10)&&decide (PureOk h)))&&h.ms.all dmtB
 else if h.k=4 then freeD h.s&&decide (n≤4)
 else if h.k=5 then groupB h.s.toList&&(howF h.how h.ns&&decide (n≤4))
 else if h.k=6 then(decide (1≤h.o)&&decide (h.o≤11))&&(howF h.how h.ns&&decide (n=2))
 else if h.k=7 then decide (n=1)
 else false
theorem num_is{v:Nat}(hv:v<18446744073709551616):(decide (v≤9218868437227405312)||decide (v=9221120237041090561))=numOk v:=by unfold numOk noneB;rw[Bool.eq_iff_iff,Bool.or_eq_true,Bool.or_eq_true,Bool.and_eq_true,decide_eq_true_eq,decide_eq_true_eq,Bool.not_eq_true',Bool.not_eq_true',Bool.and_eq_false_iff,beq_eq_false_iff_ne,bne_eq_false_iff_eq,decide_eq_false_iff_not];omega
theorem val_is(s:ByteArray):Rg.valB s=valB s:=by
 unfold valB mtB Rg.namedB;have e:Lb.nameB ⟨#[95,95,110,97,109,101,95,95]⟩=true:=by decide+kernel
 simp only[e,Bool.true_and];simp
theorem all_good(l:List Mt):(l.all dmtB=true)=GoodM l l.length:=by
 refine propext ?_;rw[List.all_eq_true];constructor
 ·intro h i hi
  rw[List.getD_eq_getElem?_getD,List.getElem?_eq_getElem hi];show mtB l[i]=true;rw[←dmt_is];exact h _ (List.getElem_mem hi)
 ·intro h x hx
  obtain⟨i,hi,rfl⟩:=List.getElem_of_mem hx;have:=h i hi;rw[List.getD_eq_getElem?_getD,List.getElem?_eq_getElem hi]at this;rw[dmt_is];exact this
theorem dms_is(h:Hd):(((h.s.toList.isEmpty||freeD h.s)&&(decide (h.ms.length≤10)&&decide (PureOk h)))&&h.ms.all dmtB)=(nameOk h.s&&(msB h.ms&&decide (PureOk h))):=by
 unfold nameOk msB;rw[freeD_is];rw[Bool.eq_iff_iff,Bool.and_eq_true,Bool.and_eq_true,Bool.and_eq_true,Bool.and_eq_true,Bool.and_eq_true,decide_eq_true_eq,decide_eq_true_eq,decide_eq_true_eq,all_good];constructor
 ·rintro⟨⟨a,b,c⟩,d⟩;exact⟨a,⟨b,d⟩,c⟩
 ·rintro⟨a,⟨b,d⟩,c⟩;exact⟨⟨a,b,c⟩,d⟩
theorem doc_ok(h:Hd)(ks:List Tr)(hv:h.v<18446744073709551616):(dok h ks.length&&headF (xH h) h (xK h ks) ks)=okHd h ks.length:=by
 unfold dok okHd;by_cases h1:h.k=1
 ·rw[if_pos h1,if_pos h1,head_1 h1,num_is hv];rfl
 rw[if_neg h1,if_neg h1];by_cases h2:h.k=2
 ·rw[if_pos h2,if_pos h2,head_2 h2,val_is];rfl
 rw[if_neg h2,if_neg h2];by_cases h3:h.k=3
 ·rw[if_pos h3,if_pos h3,head_3 h3,dms_is];rfl
 rw[if_neg h3,if_neg h3];by_cases h4:h.k=4
 ·rw[if_pos h4,if_pos h4,head_4 h4,←freeD_is];rfl
 rw[if_neg h4,if_neg h4];by_cases h5:h.k=5
 ·rw[if_pos h5,if_pos h5,head_5 h5];rfl
 rw[if_neg h5,if_neg h5];by_cases h6:h.k=6
 ·rw[if_pos h6,if_pos h6,head_6 h6];rfl
 rw[if_neg h6,if_neg h6];by_cases h7:h.k=7
 ·rw[if_pos h7,if_pos h7,head_7 h7];rfl
 rw[if_neg h7,if_neg h7];rfl
end Go.Proofs.YtmodehfedhgcbaaGreatDoor.Ck

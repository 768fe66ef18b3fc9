/- Lemmas. No condition. -/
import Derived.Test.YtmodehfedhgcbaaGreatDoorC3
import Derived.Test.YtmodehfedhgcbaaGreatDoorV1
import Derived.Test.YtmodehfedhgcbaaGreatDoorT3
import Derived.Deep.DeepCutAuto
import Derived.Deep.CutBlock
import Derived.Test.YtmodehfedhgcbaaGreatDoorShelfV
import Derived.Test.YtmodehfedhgcbaaGreatDoorShelfB
import Derived.Deep.Slices
import Derived.ChangeSame
import Derived.Maps.AppendAt
import Derived.Laws.AppendOwnNone
import Derived.Laws.OwnMore
set_option linter.unusedVariables false
set_option maxRecDepth 100000
namespace Go.Proofs.YtmodehfedhgcbaaGreatDoor
open Go.RowKit Lx
open Lib (hid)
abbrev Z0:Value:=.agg #[.int .i64 0,.int .i64 0,.string ⟨#[]⟩]
abbrev tokV(k p:Nat)(t:ByteArray):Value:=.agg #[.int .i64 (k:Int),.int .i64 (p:Int),.string t]
def KindP(p:Nat)(r:Option (Nat×List UInt8×Nat))(w:World)(e:Ending)(w':World):Prop:=
 e=.returned (match r with
  |none=>.tuple #[Z0,.int .i64 (p:Int)]
  |some (k,t,n)=>.tuple #[tokV k p ⟨t.toArray⟩,.int .i64 ((p+n:Nat):Int)])∧Below w.heap.size w w'
theorem kind_some{p k n q:Nat}{t:List UInt8}{tt:ByteArray}{w w':World}(hq:p+n=q)(ht:(⟨t.toArray⟩:ByteArray)=tt)(hb:Below w.heap.size w w'):KindP p (some (k,t,n)) w (.returned (.tuple #[tokV k p tt,.int .i64 (q:Int)])) w':=by subst hq ht;exact⟨rfl,hb⟩
theorem kind_none{p:Nat}{w w':World}(hb:Below w.heap.size w w'):KindP p none w (.returned (.tuple #[Z0,.int .i64 (p:Int)])) w':=⟨rfl,hb⟩
def wordF(l:List UInt8):Option (Nat×List UInt8×Nat):=
 match l with
 |[]=>none
 |c::r=>if Lx.isL c=true then some (1,(c::r).takeWhile isW,((c::r).takeWhile isW).length)else none
theorem wordF_cons(c:UInt8)(r:List UInt8):wordF (c::r)=if Lx.isL c=true then some (1,(c::r).takeWhile isW,((c::r).takeWhile isW).length)else none:=rfl
theorem sl_to(s:ByteArray)(p q:Nat)(h1:p≤q)(h2:q≤s.size)(w:World):(Instr.slice 125 (.string s) (some (.int .i64 (p:Int))) (some (.int .i64 (q:Int))) none).run Tryz.prog w=.ok (.string (s.extract p q)) w:=by have:=run_slice_string (P:=Tryz.prog) w 125 s .i64 .i64 (p:Int) (q:Int) Tryz.underlying125 (by omega) (by omega) (by omega);simpa using this
theorem slice_take(s:ByteArray)(p n:Nat)(h:p+n≤s.size):s.extract p (p+n)=⟨((s.data.toList.drop p).take n).toArray⟩:=by refine Sp.str_ext ?_;rw[Lib.extract_data];simp
theorem tw_take(l:List UInt8)(f:UInt8→Bool):l.take (l.takeWhile f).length=l.takeWhile f:=by
 induction l with
 |nil=>rfl
 |cons c l ih=>
  rw[List.takeWhile_cons];cases f c with
  |true=>simp[ih]
  |false=>rfl
theorem word_any(s:ByteArray)(p:Nat)(w:World)(hp:p<s.size)(hs:s.size≤65536):
 Calls Tryz.prog 94 #[.string s,.int .i64 (p:Int)] w (KindP p (wordF (s.data.toList.drop p)) w):=by
 have hd:=drop_byte s p hp;have HL:=hid (letter_any s[p]);cases hl:Lx.isL s[p]with
 |true=>
  obtain⟨n,hn⟩:∃n,((s.data.toList.drop p).takeWhile isW).length=n:=⟨_,rfl⟩
  have hle:n≤s.size-p:=by have:=(List.takeWhile_sublist isW (l:=s.data.toList.drop p)).length_le;rw[List.length_drop,←Lib.size_eq]at this;omega
  have HW:=hid (fun W=>whileW_any s p W (by omega) hs);have ht:(s.data.toList.drop p).takeWhile isW=(s.data.toList.drop p).take n:=by rw[←hn,tw_take]
  have HF:Hid (wordF (s.data.toList.drop p)=some (1,(s.data.toList.drop p).take n,n)):=by show _=_;rw[←ht,←hn,hd,wordF_cons,if_pos hl]
  have HS:=hid (slice_take s p n (by omega));rw[hn]at HW;rw[hl]at HL;rw[HF.out];clear hd hl hn ht HF;have sl:=fun wx=>sl_to s p (p+n) (by omega) (by omega) wx;rw[HS.out]at sl;clear HS;generalize htt:(⟨((s.data.toList.drop p).take n).toArray⟩:ByteArray)=tt at*
  have HTT:=hid htt;clear htt;generalize hq:p+n=q at*
  have HQ:=hid hq;clear hq;go_enter Tryz.func94,Tryz.ntmps94;go_wp2_with fail;refine(HL.out _).mono ?_;rintro e w1⟨rfl,rfl⟩;go_wp2_with fail;refine(HW.out _).mono ?_;rintro e w1⟨rfl,rfl⟩;go_wp2_with fail;refine bodyPost_ret (v:=.tuple #[tokV 1 p tt,.int .i64 (q:Int)]) (by simp[results,Tryz.results94,go_sem]) rfl (kind_some HQ.out HTT.out (by go_grown))
 |false=>
  have HF:Hid (wordF (s.data.toList.drop p)=none):=by show _=_;rw[hd,wordF_cons,hl];rfl
  rw[hl]at HL;rw[HF.out];clear hd hl HF;go_enter Tryz.func94,Tryz.ntmps94;go_wp2_with fail;refine(HL.out _).mono ?_;rintro e w1⟨rfl,rfl⟩;go_wp2_with fail;refine bodyPost_ret (v:=.tuple #[Z0,.int .i64 (p:Int)]) (by simp[results,Tryz.results94,go_sem]) rfl (kind_none (by go_grown))
end Go.Proofs.YtmodehfedhgcbaaGreatDoor

set_option linter.unusedVariables false
set_option maxRecDepth 100000
namespace Go.Proofs.YtmodehfedhgcbaaGreatDoor
open Go.RowKit Lx
open Lib (hid)
def numB(l:List UInt8):Bool:=numT ⟨l.toArray⟩
def spanB(l:List UInt8):Bool:=(Sp.spanF l).isSome
def numberF(l:List UInt8):Option (Nat×List UInt8×Nat):=
 if numHead l=true then
  (if numB (l.take (numE true false l))=true then some (2,l.take (numE true false l),numE true false l)
   else if spanB (l.take (numE true false l))=true then some (3,l.take (numE true false l),numE true false l)else none)
 else none
theorem res_tok{fn:Func}(h:fn.results=#[.cell 4 115,.tmp 5]){tmps:Array Value}{B:Nat}(h4:tmps.getD 4 undef=.pointer (some ⟨B,0,none⟩)){e:Value}(h5:tmps.getD 5 undef=e){W:World}{x y z:Value}(hb:Blk W B 115 #[x,y,z]):
 (results fn tmps).run Tryz.prog W=.ok (.tuple #[.agg #[x,y,z],e]) W:=by
 have c0:=hb.cell 0;have c1:=hb.cell 1;have c2:=hb.cell 2;simp at c0 c1 c2;rw[Array.getD_eq_getD_getElem?]at h4 h5;simp[results,h,h4,h5,go_sem,c0,c1,c2]
theorem noWord_of{t:ByteArray}{c:UInt8}{r:List UInt8}(h:t.data.toList=c::r)(hc:c≠78∧c≠73∧c≠43∧c≠45):NoWord t:=by
 have h2:t.toList=c::r:=by rw[Lib.toList_data];exact h
 obtain⟨a,b,d,e⟩:=hc;constructor<;>(rw[h2];simp[a,b,d,e])
theorem numHead_d{c:UInt8}{r:List UInt8}(h:Lx.isD c=true):numHead (c::r)=true:=by
 cases r with
 |nil=>exact h
 |cons d r=>show(Lx.isD c||(c==46&&Lx.isD d))=true;rw[h];rfl
theorem numHead_n{c:UInt8}{r:List UInt8}(h:Lx.isD c=false)(h2:c≠46):numHead (c::r)=false:=by
 cases r with
 |nil=>exact h
 |cons d r=>show(Lx.isD c||(c==46&&Lx.isD d))=false;rw[h];simp[h2]
theorem numHead_p(d:UInt8)(r:List UInt8):numHead (46::d::r)=Lx.isD d:=by show(Lx.isD 46||((46:UInt8)==46&&Lx.isD d))=Lx.isD d;rw[show Lx.isD 46=false by decide];simp
theorem numHead_c{c:UInt8}{r:List UInt8}(h:numHead (c::r)=true):c≠78∧c≠73∧c≠43∧c≠45:=by refine⟨?_,?_,?_,?_⟩<;>(rintro rfl;rw[numHead_n (by decide) (by decide)]at h;cases h)
theorem number_any{Q qo qc P off c F fo fc:Nat}(s:ByteArray)(p:Nat)(w:World)(hT:Tabs Q qo qc P off c F fo fc w)(hU:Sp.Units w)(hp:p<s.size)(hs:s.size≤65536):
 Calls Tryz.prog 95 #[.string s,.int .i64 (p:Int)] w (KindP p (numberF (s.data.toList.drop p)) w):=by
 have hd:=drop_byte s p hp;have HD:=hid (digit_any s[p]);have HT:=hid hT;have HU:=hid hU;obtain⟨nh,hnh⟩:∃nh,numHead (s.data.toList.drop p)=nh:=⟨_,rfl⟩
 have HH:=hid hnh;obtain⟨o,ho⟩:∃o,numberF (s.data.toList.drop p)=o:=⟨_,rfl⟩
 rw[ho];have HO:=hid ho;clear hT hU hnh hd ho;go_enter Tryz.func95,Tryz.ntmps95;go_upto_region 1 with fail
 go_cut [6] (fun s6 wx=>s6=.bool nh∧wx=w.alloc (.cells #[.int .i64 0,.int .i64 0,.string ⟨#[]⟩] 115))
 case first=>
  clear HT HU;have hd:=drop_byte s p hp;have HHD:=HH.out;rw[hd]at HHD;cases h1:Lx.isD s[p]with
  |true=>
   rw[numHead_d h1]at HHD;subst HHD;rw[h1]at HD;clear h1 hd HH;go_wp2_with fail;refine(HD.out _).mono ?_;rintro e w1⟨rfl,rfl⟩;go_wp2_with fail
   go_meet
   exact⟨rfl,rfl⟩
  |false=>
   rw[h1]at HD;by_cases h46:s[p]=46
   ·have e46:((s[p].toNat:Int)==46)=true:=by rw[h46];rfl
    rw[h46]at HHD;by_cases hl:p+1<s.size
    ·have d:(p:Int)+1<(s.size:Int):=by omega
     have HD2:=hid (digit_any (s[p+1]'hl));rw[drop_byte s (p+1) hl,numHead_p]at HHD;rw[HHD]at HD2;clear h1 hd HH h46 HHD;go_wp2_with fail;refine(HD.out _).mono ?_;rintro e w1⟨rfl,rfl⟩;go_wp2_with fail;refine(HD2.out _).mono ?_;rintro e w1⟨rfl,rfl⟩;go_wp2_with fail
     go_meet
     exact⟨rfl,rfl⟩
    ·have d:¬(p:Int)+1<(s.size:Int):=by omega
     rw[drop_none s (p+1) (by omega)]at HHD;have HHD:false=nh:=HHD;subst HHD;clear h1 hd HH h46;go_wp2_with fail;refine(HD.out _).mono ?_;rintro e w1⟨rfl,rfl⟩;go_wp2_with fail
     go_meet
     exact⟨rfl,rfl⟩
   ·have e46:((s[p].toNat:Int)==46)=false:=by have:=byte_eq s[p] 46 (by omega);rw[show((46:Nat):Int)=46 from rfl]at this;rw[←this];simpa using h46
    rw[numHead_n h1 h46]at HHD;subst HHD;clear h1 hd HH h46;go_wp2_with fail;refine(HD.out _).mono ?_;rintro e w1⟨rfl,rfl⟩;go_wp2_with fail
    go_meet
    exact⟨rfl,rfl⟩
 case rest=>
  obtain⟨rfl,rfl⟩:=hcut;clear HD;have hb0:Below w.heap.size w (w.alloc (.cells #[.int .i64 0,.int .i64 0,.string ⟨#[]⟩] 115)):=(Below.refl _ _).alloc (Nat.le_refl _) _;have HB0:=hid hb0;have HT0:=hid (HT.out.below hb0);have HU0:=hid (HU.out.below (by have:=HU.out.size;omega) hb0);have hblk:=Blk.new w 115 #[.int .i64 0,.int .i64 0,.string ⟨#[]⟩];have HBL:=hid hblk;clear hblk hb0;generalize hw0:w.alloc (.cells #[.int .i64 0,.int .i64 0,.string ⟨#[]⟩] 115)=w0 at*
  have HW0:=hid hw0;clear hw0;cases nh with
  |false=>
   have hF:o=none:=by rw[←HO.out];unfold numberF;rw[HH.out];rfl
   subst hF;have c0:=HBL.out.cell 0;have c1:=HBL.out.cell 1;have c2:=HBL.out.cell 2;have f0:=HBL.out.frozen 0;have f1:=HBL.out.frozen 1;have f2:=HBL.out.frozen 2;simp at c0 c1 c2;go_wp2_with fail;have hbf:=((HBL.out.set_ 0 (.int .i64 0)).set_ 1 (.int .i64 0)).set_ 2 (.string ⟨#[]⟩);refine bodyPost_ret (res_tok (by kernel_rfl) rfl rfl hbf) rfl (kind_none ?_);have:=HB0.out
   go_grown
  |true=>
   obtain⟨n,hn⟩:∃n,numE true false (s.data.toList.drop p)=n:=⟨_,rfl⟩
   have hn1:1≤n:=by rw[←hn];exact numE_pos HH.out
   have hle:n≤s.size-p:=by have:=numE_le true false (s.data.toList.drop p);rw[List.length_drop,←Lib.size_eq]at this;omega
   have hnw:NoWord ⟨((s.data.toList.drop p).take n).toArray⟩:=by have h1:=drop_byte s p hp;have h2:=HH.out;rw[h1]at h2;refine noWord_of (c:=s[p]) (r:=(s.data.toList.drop (p+1)).take (n-1)) ?_ (numHead_c h2);show(s.data.toList.drop p).take n=_;rw[h1,show n=n-1+1 by omega,List.take_succ_cons];rfl
   have hF:o=(if numB ((s.data.toList.drop p).take n)=true then some (2,(s.data.toList.drop p).take n,n)
    else if spanB ((s.data.toList.drop p).take n)=true then some (3,(s.data.toList.drop p).take n,n)else none):=by
    rw[←HO.out];unfold numberF;rw[if_pos HH.out,hn]
   have HO2:=hid hF;clear HO hF;have HE:=hid (fun W=>numEnd_any s p W (by omega) hs);rw[hn]at HE;have HS:=hid (slice_take s p n (by omega));have sl:=fun wx=>sl_to s p (p+n) (by omega) (by omega) wx;rw[HS.out]at sl;have HNW:=hid hnw;obtain⟨l,hl⟩:∃l,(s.data.toList.drop p).take n=l:=⟨_,rfl⟩
   have hll:l.length≤65536:=by rw[←hl,List.length_take,List.length_drop,←Lib.size_eq];omega
   rw[hl]at sl HNW HO2;clear hnw HS hl HH hn;obtain⟨tt,htt⟩:∃tt:ByteArray,(⟨l.toArray⟩:ByteArray)=tt:=⟨_,rfl⟩
   have htd:tt.data.toList=l:=by rw[←htt]
   have hts:tt.size≤65536:=by rw[Lib.size_eq,htd];exact hll
   have HNB:Hid (numT tt=numB l):=by show _=_;rw[←htt];rfl
   have HTD:=hid htd;have HTT:=hid htt;rw[htt]at sl HNW;clear htt htd;generalize hq:p+n=q at*
   have HQ:=hid hq;clear hq;go_wp2_with fail;refine(HE.out _).mono ?_;rintro e w1⟨rfl,hb1⟩;have HB1:=hid (HB0.out.trans (hb1.mono HB0.out.size));have HT1:=hid (HT0.out.below hb1);have HU1:=hid (HU0.out.below (by have:=HU0.out.size;omega) hb1);have HBL1:=hid (HBL.out.below hb1);clear hb1;have HV:=hid (value_any tt w1 HT1.out HNW.out hts);unfold ValP at HV;rw[HNB.out]at HV;go_wp2_with fail;refine(HV.out).mono ?_;rintro e w2⟨⟨v,rfl⟩,hb2⟩;have HB2:=hid (HB1.out.trans (hb2.mono HB1.out.size));have HU2:=hid (HU1.out.below (by have:=HU1.out.size;omega) hb2);have HBL2:=hid (HBL1.out.below hb2);clear hb2 HB0 HB1 HT0 HT1 HU0 HU1 HBL HBL1 HV HE HT HU HW0;cases hnb:numB l with
   |true=>
    have hF:o=some (2,l,n):=by rw[HO2.out,hnb];rfl
    subst hF;have c0:=HBL2.out.cell 0;have c1:=HBL2.out.cell 1;have c2:=HBL2.out.cell 2;have f0:=HBL2.out.frozen 0;have f1:=HBL2.out.frozen 1;have f2:=HBL2.out.frozen 2;simp at c0 c1 c2;have hbf:=((HBL2.out.set_ 0 (.int .i64 2)).set_ 1 (.int .i64 (p:Int))).set_ 2 (.string tt);have HBF:=hid hbf;clear hbf hnb;unfold numEr;go_wp2_with fail;refine bodyPost_ret (res_tok (by kernel_rfl) rfl rfl HBF.out) rfl (kind_some HQ.out HTT.out ?_);have:=HB2.out
    go_grown
   |false=>
    unfold numEr;have HP:=hid (Sp.parse_any tt (Sp.spanF l) w2 HU2.out (by rw[HTD.out]));cases hsb:Sp.spanF l with
    |some u=>
     have hF:o=some (3,l,n):=by rw[HO2.out,hnb];unfold spanB;rw[hsb];rfl
     subst hF;rw[hsb]at HP;unfold Sp.parseVal at HP;clear hnb hsb;go_wp2_with fail;refine(HP.out).mono ?_;rintro e w3⟨rfl,hb3⟩;have HB3:=hid (HB2.out.trans (hb3.mono HB2.out.size));have HBL3:=hid (HBL2.out.below hb3);clear hb3;have c0:=HBL3.out.cell 0;have c1:=HBL3.out.cell 1;have c2:=HBL3.out.cell 2;have f0:=HBL3.out.frozen 0;have f1:=HBL3.out.frozen 1;have f2:=HBL3.out.frozen 2;simp at c0 c1 c2;have hbf:=((HBL3.out.set_ 0 (.int .i64 3)).set_ 1 (.int .i64 (p:Int))).set_ 2 (.string tt);have HBF:=hid hbf;clear hbf;go_wp2_with fail;refine bodyPost_ret (res_tok (by kernel_rfl) rfl rfl HBF.out) rfl (kind_some HQ.out HTT.out ?_);have:=HB3.out
     go_grown
    |none=>
     have hF:o=none:=by rw[HO2.out,hnb];unfold spanB;rw[hsb];rfl
     subst hF;rw[hsb]at HP;unfold Sp.parseVal at HP;clear hnb hsb;go_wp2_with fail;refine(HP.out).mono ?_;rintro e w3⟨rfl,hb3⟩;have HB3:=hid (HB2.out.trans (hb3.mono HB2.out.size));have HBL3:=hid (HBL2.out.below hb3);clear hb3;have c0:=HBL3.out.cell 0;have c1:=HBL3.out.cell 1;have c2:=HBL3.out.cell 2;have f0:=HBL3.out.frozen 0;have f1:=HBL3.out.frozen 1;have f2:=HBL3.out.frozen 2;simp at c0 c1 c2;have hbf:=((HBL3.out.set_ 0 (.int .i64 0)).set_ 1 (.int .i64 0)).set_ 2 (.string ⟨#[]⟩);have HBF:=hid hbf;clear hbf;go_wp2_with fail;refine bodyPost_ret (res_tok (by kernel_rfl) rfl rfl HBF.out) rfl (kind_none ?_);have:=HB3.out
     go_grown
end Go.Proofs.YtmodehfedhgcbaaGreatDoor

set_option linter.unusedVariables false
namespace Go.Proofs.YtmodehfedhgcbaaGreatDoor
open Go.RowKit Lx
def escF(s:ByteArray)(k:Nat):Option UInt8:=if h:k<s.size then(if s[k]=34∨s[k]=92 then some s[k]else if s[k]=110 then some 10 else none)else none
def escV:Option UInt8→Value
 |some c=>.tuple #[.int .u8 (c.toNat:Int),.bool true]
 |none=>.tuple #[.int .u8 0,.bool false]
theorem byte_is(c:UInt8)(n:Nat)(h:n<256)(hc:c=UInt8.ofNat n):(c.toNat:Int)=(n:Int):=by subst hc;simp[Nat.mod_eq_of_lt h]
theorem byte_not(c:UInt8)(n:Nat)(h:n<256)(hc:c≠UInt8.ofNat n):((c.toNat:Int)==(n:Int))=false:=by rw[←byte_eq c n h];simpa using hc
theorem esc_any(s:ByteArray)(k:Nat)(w:World)(hk:k≤s.size)(hs:s.size≤65536):
 Calls Tryz.prog 113 #[.string s,.int .i64 (k:Int)] w fun e w'=>e=.returned (escV (escF s k))∧w=w':=by
 by_cases hl:k<s.size
 ·have d:((k:Int)==(s.size:Int))=false:=beq_eq_false_iff_ne.2 (by omega)
  generalize hx:escF s k=x;unfold escF at hx;rw[dif_pos hl]at hx;by_cases h34:s[k]=34
  ·have e34:(s[k].toNat:Int)=34:=byte_is _ 34 (by omega) h34
   rw[if_pos (.inl h34)]at hx;have HX:Hid (escV x=.tuple #[.int .u8 34,.bool true]):=by show _=_;rw[←hx,h34];rfl
   clear hx h34;go_enter Tryz.func113,Tryz.ntmps113;go_wp2_with fail
   go_ret2
   exact⟨by rw[HX.out];rfl,rfl⟩
  ·have e34:((s[k].toNat:Int)==34)=false:=byte_not _ 34 (by omega) h34
   by_cases h92:s[k]=92
   ·have e92:(s[k].toNat:Int)=92:=byte_is _ 92 (by omega) h92
    rw[if_pos (.inr h92)]at hx;have HX:Hid (escV x=.tuple #[.int .u8 92,.bool true]):=by show _=_;rw[←hx,h92];rfl
    clear hx h34 h92 e34;go_enter Tryz.func113,Tryz.ntmps113;go_wp2_with fail
    go_ret2
    exact⟨by rw[HX.out];rfl,rfl⟩
   ·have e92:((s[k].toNat:Int)==92)=false:=byte_not _ 92 (by omega) h92
    rw[if_neg (by rintro(h|h);exact h34 h;exact h92 h)]at hx;by_cases h110:s[k]=110
    ·have e110:((s[k].toNat:Int)==110)=true:=by rw[byte_is _ 110 (by omega) h110];rfl
     rw[if_pos h110]at hx;have HX:Hid (escV x=.tuple #[.int .u8 10,.bool true]):=by show _=_;rw[←hx];rfl
     clear hx h34 h92 h110;go_enter Tryz.func113,Tryz.ntmps113;go_wp2_with fail
     go_ret2
     exact⟨by rw[HX.out];rfl,rfl⟩
    ·have e110:((s[k].toNat:Int)==110)=false:=byte_not _ 110 (by omega) h110
     rw[if_neg h110]at hx;have HX:Hid (escV x=.tuple #[.int .u8 0,.bool false]):=by show _=_;rw[←hx];rfl
     clear hx h34 h92 h110;go_enter Tryz.func113,Tryz.ntmps113;go_wp2_with fail
     go_ret2
     exact⟨by rw[HX.out];rfl,rfl⟩
 ·have d:((k:Int)==(s.size:Int))=true:=beq_iff_eq.2 (by omega)
  have HX:Hid (escV (escF s k)=.tuple #[.int .u8 0,.bool false]):=by show _=_;unfold escF;rw[dif_neg hl];rfl
  generalize escV (escF s k)=x at*
  clear hl;go_enter Tryz.func113,Tryz.ntmps113;go_wp2_with fail
  go_ret2
  exact⟨by rw[HX.out];rfl,rfl⟩
theorem double_any(t:ByteArray)(c d:UInt8)(ht:t.data.toList=[c,d])(w:World):Calls Tryz.prog 115 #[.string t] w fun e w'=>e=.returned (.bool (dbl c d))∧w=w':=by
 have h2:t.toList=[c,d]:=by rw[Lib.toList_data];exact ht
 have hq:∀a b:UInt8,(t.toList==[a,b])=(c==a&&d==b):=fun a b=>by rw[h2,Bool.eq_iff_iff];simp
 have q1:=hq 61 61;have q2:=hq 33 61;have q3:=hq 61 126;have q4:=hq 33 126;have q5:=hq 62 61;have q6:=hq 60 61;have hd:dbl c d=((((((t.toList==[61,61])||(t.toList==[33,61]))||(t.toList==[61,126]))||(t.toList==[33,126]))||(t.toList==[62,61]))||(t.toList==[60,61])):=by rw[q1,q2,q3,q4,q5,q6];rfl
 rw[hd];clear hd q1 q2 q3 q4 q5 q6 hq h2 ht;have H:∀b,((((((t.toList==[61,61])||(t.toList==[33,61]))||(t.toList==[61,126]))||(t.toList==[33,126]))||(t.toList==[62,61]))||(t.toList==[60,61]))=b→Calls Tryz.prog 115 #[.string t] w fun e w'=>e=.returned (.bool b)∧w=w':=by
  intro b hb;have HB:=Lib.hid hb;clear hb;cases k1:t.toList==[61,61]with
  |true=>
   have hbb:b=true:=by rw[←HB.out,k1];rfl
   subst hbb;clear HB;go_enter Tryz.func115,Tryz.ntmps115;go_wp2_with fail;go_ret;exact⟨rfl,rfl⟩
  |false=>
  cases k2:t.toList==[33,61]with
  |true=>
   have hbb:b=true:=by rw[←HB.out,k1,k2];rfl
   subst hbb;clear HB;go_enter Tryz.func115,Tryz.ntmps115;go_wp2_with fail;go_ret;exact⟨rfl,rfl⟩
  |false=>
  cases k3:t.toList==[61,126]with
  |true=>
   have hbb:b=true:=by rw[←HB.out,k1,k2,k3];rfl
   subst hbb;clear HB;go_enter Tryz.func115,Tryz.ntmps115;go_wp2_with fail;go_ret;exact⟨rfl,rfl⟩
  |false=>
  cases k4:t.toList==[33,126]with
  |true=>
   have hbb:b=true:=by rw[←HB.out,k1,k2,k3,k4];rfl
   subst hbb;clear HB;go_enter Tryz.func115,Tryz.ntmps115;go_wp2_with fail;go_ret;exact⟨rfl,rfl⟩
  |false=>
  cases k5:t.toList==[62,61]with
  |true=>
   have hbb:b=true:=by rw[←HB.out,k1,k2,k3,k4,k5];rfl
   subst hbb;clear HB;go_enter Tryz.func115,Tryz.ntmps115;go_wp2_with fail;go_ret;exact⟨rfl,rfl⟩
  |false=>
  cases k6:t.toList==[60,61]with
  |true=>
   have hbb:b=true:=by rw[←HB.out,k1,k2,k3,k4,k5,k6];rfl
   subst hbb;clear HB;go_enter Tryz.func115,Tryz.ntmps115;go_wp2_with fail;go_ret;exact⟨rfl,rfl⟩
  |false=>
   have hbb:b=false:=by rw[←HB.out,k1,k2,k3,k4,k5,k6];rfl
   subst hbb;clear HB;go_enter Tryz.func115,Tryz.ntmps115;go_wp2_with fail;go_ret;exact⟨rfl,rfl⟩
 exact H _ rfl
theorem sgn_index(c:UInt8):decide (0≤Lib.indexByte [61,62,60,43,45,42,47,37,64,40,41,123,125,91,93,44] c)=sgn1 c:=by rw[←Lib.contains_iff_indexByte];rfl
def signF(l:List UInt8):Option (Nat×List UInt8×Nat):=if signN l=0 then none else some (5,l.take (signN l),signN l)
theorem signN_one(c:UInt8):signN [c]=if sgn1 c=true then 1 else 0:=rfl
theorem signN_two(c d:UInt8)(r:List UInt8):signN (c::d::r)=if dbl c d=true then 2 else if sgn1 c=true then 1 else 0:=rfl
end Go.Proofs.YtmodehfedhgcbaaGreatDoor

set_option linter.unusedVariables false
set_option maxRecDepth 100000
namespace Go.Proofs.YtmodehfedhgcbaaGreatDoor
open Go.RowKit Lx
open Lib (hid)
theorem sign_end(s:ByteArray)(p n:Nat)(hn:signN (s.data.toList.drop p)=n)(h0:n≠0)(hle:p+n≤s.size){w w':World}(hb:Below w.heap.size w w'):
 KindP p (signF (s.data.toList.drop p)) w (.returned (.tuple #[tokV 5 p (s.extract p (p+n)),.int .i64 ((p+n:Nat):Int)])) w':=by
 unfold signF;rw[hn,if_neg h0];exact kind_some rfl (slice_take s p n hle).symm hb
theorem sign_no(s:ByteArray)(p:Nat)(hn:signN (s.data.toList.drop p)=0){w w':World}(hb:Below w.heap.size w w'):
 KindP p (signF (s.data.toList.drop p)) w (.returned (.tuple #[Z0,.int .i64 (p:Int)])) w':=by
 unfold signF;rw[hn,if_pos rfl];exact kind_none hb
theorem sign_any(s:ByteArray)(p:Nat)(w:World)(hp:p<s.size)(hs:s.size≤65536):
 Calls Tryz.prog 97 #[.string s,.int .i64 (p:Int)] w (KindP p (signF (s.data.toList.drop p)) w):=by
 have hd:=drop_byte s p hp;have HI:=hid (fun W=>(Tryz.strings_IndexByte ⟨#[61,62,60,43,45,42,47,37,64,40,41,123,125,91,93,44]⟩ (s[p].toNat:Int) W));have hcc:((s[p].toNat:Int)).toNat.toUInt8=s[p]:=by simp
 rw[hcc]at HI;have e0:(⟨#[61,62,60,43,45,42,47,37,64,40,41,123,125,91,93,44]⟩:ByteArray).data.toList=[61,62,60,43,45,42,47,37,64,40,41,123,125,91,93,44]:=rfl;rw[e0]at HI;have hsg:=sgn_index s[p];clear hcc e0;have HE:=hid (sign_end s p);have HN:=hid (sign_no s p);generalize Lib.indexByte [61,62,60,43,45,42,47,37,64,40,41,123,125,91,93,44] s[p]=z at*
 have sl1:=fun wx=>sl_to s p (p+1) (by omega) (by omega) wx;by_cases h2:p+1<s.size
 ·have hd2:=drop_byte s (p+1) h2
  rw[hd2]at hd;have sl2:=fun wx=>sl_to s p (p+2) (by omega) (by omega) wx;have ht:(s.extract p (p+2)).data.toList=[s[p],s[p+1]]:=by rw[Lib.extract_data,hd];simp
  have HD:=hid (fun W=>double_any (s.extract p (p+2)) s[p] s[p+1] ht W);have hsn:signN (s.data.toList.drop p)=if dbl s[p] s[p+1]=true then 2 else if sgn1 s[p]=true then 1 else 0:=by rw[hd];exact signN_two _ _ _
  have d2:(p:Int)+2≤(s.size:Int):=by omega
  have d2':decide (p+2≤s.size)=true:=decide_eq_true (by omega);rw[←hsg]at hsn;have HSN:=hid hsn;have g2:((p+2:Nat):Int)=(p:Int)+2:=by omega
  have g1:((p+1:Nat):Int)=(p:Int)+1:=by omega
  rw[g2]at sl2;rw[g1]at sl1;clear hd hd2 ht hsn hsg;generalize dbl s[p] s[p+1]=b at*
  generalize hq2:s.extract p (p+2)=t2 at*
  generalize hq1:s.extract p (p+1)=t1 at*
  have HQ2:=hid hq2;have HQ1:=hid hq1;have G2:=hid g2;have G1:=hid g1;clear hq2 hq1 g1 g2;cases b with
  |true=>have HX:=hid (fun W (hb:Below w.heap.size w W)=>HE.out 2 (by rw[HSN.out];rfl) (by omega) (by omega) (w:=w) (w':=W) hb);rw[HQ2.out,G2.out]at HX;clear HSN HE HN;go_enter Tryz.func97,Tryz.ntmps97;go_wp2_with fail;refine(HD.out _).mono ?_;rintro e w1⟨rfl,rfl⟩;go_wp2_with fail;refine bodyPost_ret (v:=.tuple #[tokV 5 p t2,.int .i64 ((p:Int)+2)]) (by simp[results,Tryz.results97,go_sem]) rfl (HX.out _ (by go_grown))
  |false=>
   by_cases hz:0≤z
   ·have HX:=hid (fun W (hb:Below w.heap.size w W)=>HE.out 1 (by rw[HSN.out,decide_eq_true hz];rfl) (by omega) (by omega) (w:=w) (w':=W) hb)
    rw[HQ1.out,G1.out]at HX;clear HSN HE HN;go_enter Tryz.func97,Tryz.ntmps97;go_wp2_with fail;refine(HD.out _).mono ?_;rintro e w1⟨rfl,rfl⟩;go_wp2_with fail;refine(HI.out _).mono ?_;rintro e w1⟨rfl,rfl⟩;go_wp2_with fail;refine bodyPost_ret (v:=.tuple #[tokV 5 p t1,.int .i64 ((p:Int)+1)]) (by simp[results,Tryz.results97,go_sem]) rfl (HX.out _ (by go_grown))
   ·have HX:=hid (fun W (hb:Below w.heap.size w W)=>HN.out (by rw[HSN.out,decide_eq_false hz];rfl) (w:=w) (w':=W) hb)
    clear HSN HE HN;go_enter Tryz.func97,Tryz.ntmps97;go_wp2_with fail;refine(HD.out _).mono ?_;rintro e w1⟨rfl,rfl⟩;go_wp2_with fail;refine(HI.out _).mono ?_;rintro e w1⟨rfl,rfl⟩;go_wp2_with fail;refine bodyPost_ret (v:=.tuple #[Z0,.int .i64 (p:Int)]) (by simp[results,Tryz.results97,go_sem]) rfl (HX.out _ (by go_grown))
 ·have d2:¬(p:Int)+2≤(s.size:Int):=by omega
  have hsn:signN (s.data.toList.drop p)=if sgn1 s[p]=true then 1 else 0:=by rw[hd,drop_none s (p+1) (by omega)];exact signN_one _
  rw[←hsg]at hsn;have HSN:=hid hsn;have g1:((p+1:Nat):Int)=(p:Int)+1:=by omega
  rw[g1]at sl1;clear hd hsn hsg;generalize hq1:s.extract p (p+1)=t1 at*
  have HQ1:=hid hq1;have G1:=hid g1;clear hq1 g1;by_cases hz:0≤z
  ·have HX:=hid (fun W (hb:Below w.heap.size w W)=>HE.out 1 (by rw[HSN.out,decide_eq_true hz];rfl) (by omega) (by omega) (w:=w) (w':=W) hb)
   rw[HQ1.out,G1.out]at HX;clear HSN HE HN;go_enter Tryz.func97,Tryz.ntmps97;go_wp2_with fail;refine(HI.out _).mono ?_;rintro e w1⟨rfl,rfl⟩;go_wp2_with fail;refine bodyPost_ret (v:=.tuple #[tokV 5 p t1,.int .i64 ((p:Int)+1)]) (by simp[results,Tryz.results97,go_sem]) rfl (HX.out _ (by go_grown))
  ·have HX:=hid (fun W (hb:Below w.heap.size w W)=>HN.out (by rw[HSN.out,decide_eq_false hz];rfl) (w:=w) (w':=W) hb)
   clear HSN HE HN;go_enter Tryz.func97,Tryz.ntmps97;go_wp2_with fail;refine(HI.out _).mono ?_;rintro e w1⟨rfl,rfl⟩;go_wp2_with fail;refine bodyPost_ret (v:=.tuple #[Z0,.int .i64 (p:Int)]) (by simp[results,Tryz.results97,go_sem]) rfl (HX.out _ (by go_grown))
end Go.Proofs.YtmodehfedhgcbaaGreatDoor

set_option linter.unusedVariables false
set_option maxRecDepth 100000
set_option maxHeartbeats 2000000
namespace Go.Proofs.YtmodehfedhgcbaaGreatDoor
open Go.RowKit Lx
open Lib (hid)
def T8(w:World):Prop:=Lib.Utf8Tabs 2 3 w
theorem T8.below{w w':World}{B:Nat}(h:T8 w)(hB:4≤B)(hb:Below B w w'):T8 w':=⟨fun c hc=>(hb.cell (p:=⟨2,c,none⟩) (by show 2<B;omega)).trans (h.1 c hc),fun i hi=>⟨(hb.cell (p:=⟨3,2*i,none⟩) (by show 3<B;omega)).trans (h.2 i hi).1,(hb.cell (p:=⟨3,2*i+1,none⟩) (by show 3<B;omega)).trans (h.2 i hi).2⟩⟩
theorem T8.size{w:World}(h:T8 w):4≤w.heap.size:=World.block_lt_of_cell? _ _ (h.2 0 (by omega)).1
theorem valid_any(s:ByteArray)(w:World)(hs:s.size≤9223372036854775807)(hT:T8 w):Calls Tryz.prog 101 #[.string s] w fun e w'=>e=.returned (.bool (Lib.validD s.data.toList))∧Below w.heap.size w w':=Any.utf8_ValidString Tryz.laysValid s w hs hT
theorem blk_keep{w w':World}{g B:Nat}{t:TypeId}{cs:Array Value}(h:Blk w g t cs)(hb:Below B w w')(hg:g<B):Blk w' g t cs:=(hb.block g hg).trans h
theorem bytes_snoc(l:List UInt8)(c:UInt8):Lib.byteCells l++[.int .u8 (c.toNat:Int)]=Lib.byteCells (l++[c]):=by simp[Lib.byteCells]
def quotedF(l:List UInt8):Option (Nat×List UInt8×Nat):=
 match l with
 |[]=>none
 |c::r=>if c=34 then(quoteL [] 1 r).map fun q=>(4,q.1,q.2)else none
theorem quotedF_cons(c:UInt8)(r:List UInt8):quotedF (c::r)=if c=34 then(quoteL [] 1 r).map (fun q=>(4,q.1,q.2))else none:=rfl
def quoteV(p:Nat)(o:Option (List UInt8×Nat)):Option (Nat×List UInt8×Nat):=o.map fun q=>(4,q.1,q.2)
theorem quoteL_nil(acc:List UInt8)(n:Nat):quoteL acc n []=none:=by rw[quoteL.eq_def]
theorem quoteL_esc(s:ByteArray)(acc:List UInt8)(n k:Nat):quoteL acc n (92::s.data.toList.drop k)=(escF s k).bind fun m=>quoteL (acc++[m]) (n+2) (s.data.toList.drop (k+1)):=by
 rw[quoteL_cons,if_neg (by decide),if_neg (by decide),if_pos rfl];unfold escF;by_cases h:k<s.size
 ·rw[dif_pos h,drop_byte s k h]
  simp only;split
  ·rfl
  ·split<;>rfl
 ·rw[dif_neg h,drop_none s k (by omega)]
  rfl
theorem grown_of_below{W W':World}(hb:Below W.heap.size W W')(row:Option Nat):W.grownBy W' row:=⟨hb.os,hb.tape,hb.output,hb.size,fun k hk _=>hb.block k hk⟩
theorem builder_below{T e:TypeId}{B b:Nat}{bs:List Value}{W W':World}(h:Lib.IsBuilderF T e B b bs W)(hb:Below W.heap.size W W'):Lib.IsBuilderF T e B b bs W':=by
 have key:∀q,Lib.BuilderAtF T e B b q bs W→Lib.BuilderAtF T e B b q bs W':=fun q hq=>by
  have hl:b<W.heap.size:=World.block_lt_of_cell? W ⟨b,0,none⟩ hq.cell0;obtain⟨h1,v,h2,h3,h4⟩:=hq;refine⟨h1,v,(hb.block b hl).trans h2,h3.kept (grown_of_below hb none) ?_,h4⟩;cases v.ownBlock with
  |none=>exact .inl rfl
  |some g=>exact .inr (by simp)
 rcases h with h|h
 ·exact .inl (key _ h)
 ·exact .inr (key _ h)
def QRel(s:ByteArray)(p:Nat)(w w1:World)(o:Option (List UInt8×Nat))(k:Nat)(acc:List UInt8)(wx:World):Prop:=quoteL acc (k-p) (s.data.toList.drop k)=o∧Lib.IsBuilderF 162 5 (w.heap.size+1) (w.heap.size+1) (Lib.byteCells acc) wx∧Below (w.heap.size+1) w1 wx∧acc.length≤k
theorem quoted_any(s:ByteArray)(p:Nat)(w:World)(hT:T8 w)(hp:p<s.size)(hs:s.size≤65536):
 Calls Tryz.prog 96 #[.string s,.int .i64 (p:Int)] w (KindP p (quotedF (s.data.toList.drop p)) w):=by
 have h4:=hT.size;have hd:=drop_byte s p hp;obtain⟨o,ho⟩:∃o,quotedF (s.data.toList.drop p)=o:=⟨_,rfl⟩
 rw[ho];rw[hd,quotedF_cons]at ho;by_cases h34:s[p]=34
 ·have e34:(s[p].toNat:Int)=34:=byte_is _ 34 (by omega) h34
  rw[if_pos h34]at ho;obtain⟨w1,hw1⟩:∃w1,(w.alloc (.cells #[.int .i64 0,.int .i64 0,.string ⟨#[]⟩] 115)).alloc (.cells #[.pointer none,.slice none 0 0] 162)=w1:=⟨_,rfl⟩
  have hsz:w1.heap.size=w.heap.size+2:=by rw[←hw1];simp
  have hb0:Below w.heap.size w w1:=by rw[←hw1];exact((Below.refl _ _).alloc (Nat.le_refl _) _).alloc (by simp) _
  have hbl:Blk w1 w.heap.size 115 #[.int .i64 0,.int .i64 0,.string ⟨#[]⟩]:=by rw[←hw1];exact(Blk.new w 115 _).alloc _
  have hbu:Lib.IsBuilderF 162 5 (w.heap.size+1) (w.heap.size+1) (Lib.byteCells []) w1:=by have:=Lib.IsBuilderF.of (Lib.fresh_isBuilder 162 5 (w.alloc (.cells #[.int .i64 0,.int .i64 0,.string ⟨#[]⟩] 115)));rw[←hw1];simp at this;exact this
  have ht1:T8 w1:=hT.below h4 hb0;obtain⟨q,hq⟩:∃q,quoteL [] 1 (s.data.toList.drop (p+1))=q:=⟨_,rfl⟩
  rw[hq]at ho;have HO:=hid ho;have HB0:=hid hb0;have HBL:=hid hbl;have HT1:=hid ht1;have HR0:Hid (QRel s p w w1 q (p+1) [] w1):=⟨by rw[show p+1-p=1 by omega];exact hq,hbu,Below.refl _ _,Nat.zero_le _⟩
  have HSZ:=hid hsz;have HW1:=hid hw1;have hpi:(p:Int)+1=((p+1:Nat):Int):=by omega
  have HPI:=hid hpi;clear ho hb0 hbl ht1 hbu hq hd hT hsz hpi;go_enter Tryz.func96,Tryz.ntmps96;go_wp2_with fail;rw[HPI.out];clear HW1 HPI hw1
  go_loopg [7] (s.size+1) (fun g s7 wx=>∃(k:Nat) (acc:List UInt8),p+1≤k∧k≤s.size∧s.size+1≤g+k∧s7=.int .i64 (k:Int)∧Hid (QRel s p w w1 q k acc wx))
  case atStart=>exact⟨p+1,[],Nat.le_refl _,by omega,by omega,rfl,HR0⟩
  case round=>
   obtain⟨k,acc,hk1,hk2,hg,rfl,HR⟩:=hrel;obtain⟨r1,r2,r3,r4⟩:=HR.out;have HQ:=hid r1;have HI:=hid r2;have HB:=hid r3;have HLA:=hid r4;have hsx:w1.heap.size≤wr.heap.size:=r3.size;have hbw:w.heap.size+1≤wr.heap.size:=by have:=HSZ.out;omega
   have HBW:=hid hbw;have HTX:=hid (HT1.out.below (B:=w.heap.size+1) (by omega) r3);have HBX:=hid (blk_keep HBL.out r3 (by omega));have HBA:=hid (HB0.out.trans (r3.mono (by omega)));clear r1 r2 r3 r4 HR hsx hbw;by_cases hlt:k<s.size
   ·have d:decide (k<s.size)=true:=decide_eq_true hlt
    have di:(k:Int)<(s.size:Int):=by omega
    have hqk:=HQ.out;rw[drop_byte s k hlt]at hqk;clear HQ;by_cases h34:s[k]=34
    ·have q34:(s[k].toNat:Int)=34:=byte_is _ 34 (by omega) h34
     rw[h34,quoteL_cons,if_pos rfl]at hqk;have HS:=hid (Tryz.Builder_String_any_k (w.heap.size+1) (w.heap.size+1) acc wr HI.out HBW.out);obtain⟨vb,hvb⟩:∃vb,Lib.validD acc=vb:=⟨_,rfl⟩
     rw[hvb]at hqk;have HVB:=hid hvb;have HQK:=hid hqk;have hal:(⟨acc.toArray⟩:ByteArray).size≤9223372036854775807:=by rw[Lib.size_eq];have:=HLA.out;show acc.length≤_;omega
     have HAL:=hid hal;have had:(⟨acc.toArray⟩:ByteArray).data.toList=acc:=rfl;have HAD:=hid had;clear h34 hqk hvb hal had HI;obtain⟨tt,htt⟩:∃tt:ByteArray,(⟨acc.toArray⟩:ByteArray)=tt:=⟨_,rfl⟩
     have HTT:=hid htt;rw[htt]at HAL HAD HS;clear htt;go_wp2_with fail;refine(HS.out).mono ?_;rintro e w2⟨rfl,hi2,hb2,_⟩;have HI2:=hid hi2;have hbw2:w.heap.size+1≤w2.heap.size:=Nat.le_trans HBW.out hb2.size;have HT2:=hid (HTX.out.below (B:=w.heap.size+1) (by omega) hb2);have HBX2:=hid (blk_keep HBX.out hb2 (by omega));have HBA2:=hid (HBA.out.trans (hb2.mono (by omega)));have HV:=hid (valid_any tt w2 HAL.out HT2.out);rw[HAD.out,HVB.out]at HV;have HS2:=hid (Tryz.Builder_String_any_k (w.heap.size+1) (w.heap.size+1) acc);have HBW2:=hid hbw2;clear hi2 hb2 HS hbw2;cases vb with
     |true=>
      have HOO:Hid (o=some (4,acc,k-p+1)):=by show _=_;rw[←HO.out,←HQK.out];rfl
      have hoo:=HOO.out;subst hoo;clear HOO;go_wp2_with fail;refine(HV.out).mono ?_;rintro e w3⟨rfl,hb3⟩;have hb3':Below (w.heap.size+1) w2 w3:=hb3.mono HBW2.out;have hi3:Lib.IsBuilderF 162 5 (w.heap.size+1) (w.heap.size+1) (Lib.byteCells acc) w3:=builder_below HI2.out hb3;have HS3:=hid (HS2.out w3 hi3 (Nat.le_trans HBW2.out hb3.size));have HBX3:=hid (blk_keep HBX2.out hb3' (by omega));have HBA3:=hid (HBA2.out.trans (hb3'.mono (by omega)));clear hb3 hb3' hi3;rw[HTT.out]at HS3;go_wp2_with fail;refine(HS3.out).mono ?_;rintro e w4⟨rfl,_,hb4,_⟩;have HBX4:=hid (blk_keep HBX3.out hb4 (by omega));have HBA4:=hid (HBA3.out.trans (hb4.mono (by omega)));clear hb4;have c0:=HBX4.out.cell 0;have c1:=HBX4.out.cell 1;have c2:=HBX4.out.cell 2;have f0:=HBX4.out.frozen 0;have f1:=HBX4.out.frozen 1;have f2:=HBX4.out.frozen 2;simp at c0 c1 c2;have hbf:=((HBX4.out.set_ 0 (.int .i64 4)).set_ 1 (.int .i64 (p:Int))).set_ 2 (.string tt);have HBF:=hid hbf;have hki:((k:Nat):Int)+1=((k+1:Nat):Int):=by omega
      have HKI:=hid hki;clear hbf hki;go_wp2_with fail;rw[HKI.out];refine bodyPost_ret (res_tok (by kernel_rfl) rfl rfl HBF.out) rfl (kind_some (n:=k-p+1) (q:=k+1) (by omega) HTT.out ?_);have:=HBA4.out
      go_grown
     |false=>
      have HOO:Hid (o=none):=by show _=_;rw[←HO.out,←HQK.out];rfl
      have hoo:=HOO.out;subst hoo;clear HOO;go_wp2_with fail;refine(HV.out).mono ?_;rintro e w3⟨rfl,hb3⟩;have hb3':Below (w.heap.size+1) w2 w3:=hb3.mono HBW2.out;have HBX3:=hid (blk_keep HBX2.out hb3' (by omega));have HBA3:=hid (HBA2.out.trans (hb3'.mono (by omega)));clear hb3 hb3';have c0:=HBX3.out.cell 0;have c1:=HBX3.out.cell 1;have c2:=HBX3.out.cell 2;have f0:=HBX3.out.frozen 0;have f1:=HBX3.out.frozen 1;have f2:=HBX3.out.frozen 2;simp at c0 c1 c2;have hbf:=((HBX3.out.set_ 0 (.int .i64 0)).set_ 1 (.int .i64 0)).set_ 2 (.string ⟨#[]⟩);have HBF:=hid hbf;clear hbf;go_wp2_with fail;refine bodyPost_ret (res_tok (by kernel_rfl) rfl rfl HBF.out) rfl (kind_none ?_);have:=HBA3.out
      go_grown
    ·have q34:((s[k].toNat:Int)==34)=false:=byte_not _ 34 (by omega) h34
     by_cases h10:s[k]=10
     ·have q10:(s[k].toNat:Int)=10:=byte_is _ 10 (by omega) h10
      have HOO:Hid (o=none):=by show _=_;rw[h10,quoteL_cons,if_neg (by decide),if_pos rfl]at hqk;rw[←HO.out,←hqk];rfl
      have hoo:=HOO.out;subst hoo;clear HOO hqk h34 h10 q34;have c0:=HBX.out.cell 0;have c1:=HBX.out.cell 1;have c2:=HBX.out.cell 2;have f0:=HBX.out.frozen 0;have f1:=HBX.out.frozen 1;have f2:=HBX.out.frozen 2;simp at c0 c1 c2;have hbf:=((HBX.out.set_ 0 (.int .i64 0)).set_ 1 (.int .i64 0)).set_ 2 (.string ⟨#[]⟩);have HBF:=hid hbf;clear hbf;go_wp2_with fail;refine bodyPost_ret (res_tok (by kernel_rfl) rfl rfl HBF.out) rfl (kind_none ?_);have:=HBA.out
      go_grown
     ·have q10:((s[k].toNat:Int)==10)=false:=byte_not _ 10 (by omega) h10
      obtain⟨g',hg'⟩:∃g',gk=g'+1:=⟨gk-1,by omega⟩
      by_cases h92:s[k]=92
      ·have q92:(s[k].toNat:Int)=92:=byte_is _ 92 (by omega) h92
       rw[h92,quoteL_esc]at hqk;have hki:((k:Nat):Int)+1=((k+1:Nat):Int):=by omega
       have HKI:=hid hki;have HES:=hid (fun W=>esc_any s (k+1) W (by omega) hs);rw[←hki]at HES;cases hes:escF s (k+1)with
       |none=>
        have HOO:Hid (o=none):=by show _=_;rw[hes]at hqk;rw[←HO.out,←hqk];rfl
        have hoo:=HOO.out;subst hoo;rw[hes]at HES;unfold escV at HES;clear HOO hqk h34 h10 h92 q34 q10 hki hes;go_wp2_with fail;refine(HES.out _).mono ?_;rintro e w2⟨rfl,rfl⟩;have c0:=HBX.out.cell 0;have c1:=HBX.out.cell 1;have c2:=HBX.out.cell 2;have f0:=HBX.out.frozen 0;have f1:=HBX.out.frozen 1;have f2:=HBX.out.frozen 2;simp at c0 c1 c2;have hbf:=((HBX.out.set_ 0 (.int .i64 0)).set_ 1 (.int .i64 0)).set_ 2 (.string ⟨#[]⟩);have HBF:=hid hbf;clear hbf;go_wp2_with fail;refine bodyPost_ret (res_tok (by kernel_rfl) rfl rfl HBF.out) rfl (kind_none ?_);have:=HBA.out
        go_grown
       |some m=>
        have hk3:k+1<s.size:=by
         rcases Nat.lt_or_ge (k+1) s.size with h|h
         ·exact h
         ·exfalso;unfold escF at hes;rw[dif_neg (by omega)]at hes;cases hes
        have HQ2:Hid (quoteL (acc++[m]) (k+2-p) (s.data.toList.drop (k+2))=q):=by show _=_;rw[hes]at hqk;rw[←hqk,show k+2-p=k-p+2 by omega];rfl
        rw[hes]at HES;unfold escV at HES;have HW:=hid (Tryz.Builder_WriteByte_k (w.heap.size+1) (w.heap.size+1) (Lib.byteCells acc) (m.toNat:Int) wr HI.out (by rw[Lib.byteCells_length];have:=HLA.out;omega) HBW.out);rw[bytes_snoc]at HW;clear hqk h34 h10 h92 q34 q10 hki hes;go_wp2_with fail;refine(HES.out _).mono ?_;rintro e w2⟨rfl,rfl⟩;go_wp2_with fail;refine(HW.out).mono ?_;rintro e w2⟨rfl,hi2,hb2,_⟩;have HR2:Hid (QRel s p w w1 q (k+2) (acc++[m]) w2):=⟨HQ2.out,.inr hi2,HB.out.trans hb2,by have:=HLA.out;simp;omega⟩
        clear hi2 hb2;subst hg';go_wp2_with fail
        go_roundg g'
        case measure=>omega
        case rel=>exact⟨k+2,acc++[m],by omega,by omega,by omega,by go_num,HR2⟩
      ·have q92:((s[k].toNat:Int)==92)=false:=byte_not _ 92 (by omega) h92
       rw[quoteL_cons,if_neg h34,if_neg h10,if_neg h92]at hqk;have HQ2:Hid (quoteL (acc++[s[k]]) (k+1-p) (s.data.toList.drop (k+1))=q):=by show _=_;rw[←hqk,show k+1-p=k-p+1 by omega]
       have HW:=hid (Tryz.Builder_WriteByte_k (w.heap.size+1) (w.heap.size+1) (Lib.byteCells acc) (s[k].toNat:Int) wr HI.out (by rw[Lib.byteCells_length];have:=HLA.out;omega) HBW.out);rw[bytes_snoc]at HW;clear hqk h34 h10 h92;go_wp2_with fail;refine(HW.out).mono ?_;rintro e w2⟨rfl,hi2,hb2,_⟩;have HR2:Hid (QRel s p w w1 q (k+1) (acc++[s[k]]) w2):=⟨HQ2.out,.inr hi2,HB.out.trans hb2,by have:=HLA.out;simp;omega⟩
       clear hi2 hb2;subst hg';go_wp2_with fail
       go_roundg g'
       case measure=>omega
       case rel=>exact⟨k+1,acc++[s[k]],by omega,by omega,by omega,by go_num,HR2⟩
   ·have d:decide (k<s.size)=false:=decide_eq_false hlt
    have di:¬(k:Int)<(s.size:Int):=by omega
    have HOO:Hid (o=none):=by have hq:=HQ.out;rw[drop_none s k (by omega),quoteL_nil]at hq;show _=_;rw[←HO.out,←hq];rfl
    have hoo:=HOO.out;subst hoo;clear HOO HQ;have c0:=HBX.out.cell 0;have c1:=HBX.out.cell 1;have c2:=HBX.out.cell 2;have f0:=HBX.out.frozen 0;have f1:=HBX.out.frozen 1;have f2:=HBX.out.frozen 2;simp at c0 c1 c2;have hbf:=((HBX.out.set_ 0 (.int .i64 0)).set_ 1 (.int .i64 0)).set_ 2 (.string ⟨#[]⟩);have HBF:=hid hbf;clear hbf;go_wp2_with fail;refine bodyPost_ret (res_tok (by kernel_rfl) rfl rfl HBF.out) rfl (kind_none ?_);have:=HBA.out
    go_grown
 ·have e34:((s[p].toNat:Int)==34)=false:=byte_not _ 34 (by omega) h34
  have hn:o=none:=by rw[←ho,if_neg h34]
  subst hn;clear ho h34 hd;go_enter Tryz.func96,Tryz.ntmps96;go_wp2_with fail;refine bodyPost_ret (v:=.tuple #[Z0,.int .i64 (p:Int)]) (by simp[results,Tryz.results96,go_sem]) rfl (kind_none (by go_grown))
end Go.Proofs.YtmodehfedhgcbaaGreatDoor

set_option linter.unusedVariables false
set_option maxRecDepth 100000
set_option maxHeartbeats 2000000
namespace Go.Proofs.YtmodehfedhgcbaaGreatDoor
open Go.RowKit Lx
open Lib (hid)
theorem head_first{c:UInt8}{r:List UInt8}(h:numHead (c::r)=true):Lx.isD c=true∨c=46:=by
 cases h1:Lx.isD c with
 |true=>exact .inl rfl
 |false=>
  right;by_cases h2:c=46
  ·exact h2
  ·rw[numHead_n h1 h2]at h;cases h
theorem sign_none{c:UInt8}{r:List UInt8}(h1:sgn1 c=false)(h2:c≠61∧c≠33∧c≠62∧c≠60):signN (c::r)=0:=by
 obtain⟨a,b,d,e⟩:=h2;cases r with
 |nil=>rw[signN_one,h1];rfl
 |cons x r=>rw[signN_two,h1,if_neg (by unfold dbl;simp[a,b,d,e])];rfl
theorem digit_no(c:UInt8)(h:Lx.isD c=true∨c=46):sgn1 c=false∧(c≠61∧c≠33∧c≠62∧c≠60)∧c≠34:=by
 rcases h with h|rfl
 ·have:∀n:Nat,n<256→Lx.isD (UInt8.ofNat n)=true→sgn1 (UInt8.ofNat n)=false∧(UInt8.ofNat n≠61∧UInt8.ofNat n≠33∧UInt8.ofNat n≠62∧UInt8.ofNat n≠60)∧UInt8.ofNat n≠34:=by decide+kernel
  have h2:=this c.toNat c.toNat_lt;rw[UInt8.ofNat_toNat]at h2;exact h2 h
 ·decide
theorem tok_word{l:List UInt8}{x:Nat×List UInt8×Nat}(h:wordF l=some x):tokF numB spanB l=some x:=by
 match l,h with
 |c::r,h=>
  rw[wordF_cons]at h;split at h
  ·rename_i hl;rw[tokF,if_pos hl];exact h
  ·cases h
theorem tok_numb{l:List UInt8}{x:Nat×List UInt8×Nat}(h0:wordF l=none)(h:numberF l=some x):tokF numB spanB l=some x:=by
 match l,h0,h with
 |c::r,h0,h=>
  rw[wordF_cons]at h0;split at h0
  ·cases h0
  ·rename_i hl
   unfold numberF at h;split at h
   ·rename_i hn;rw[tokF,if_neg hl,if_pos hn];exact h
   ·cases h
theorem tok_quot{l:List UInt8}{x:Nat×List UInt8×Nat}(h0:wordF l=none)(h1:numberF l=none)(h:quotedF l=some x):tokF numB spanB l=some x:=by
 match l,h0,h1,h with
 |c::r,h0,h1,h=>
  rw[wordF_cons]at h0;split at h0
  ·cases h0
  ·rename_i hl
   rw[quotedF_cons]at h;split at h
   ·rename_i hc
    have hn:¬numHead (c::r)=true:=fun hh=>(digit_no c (head_first hh)).2.2 hc;rw[tokF,if_neg hl,if_neg hn,if_pos hc];exact h
   ·cases h
theorem tok_sign{l:List UInt8}(h0:wordF l=none)(h1:numberF l=none)(h2:quotedF l=none):tokF numB spanB l=signF l:=by
 match l,h0,h1,h2 with
 |[],_,_,_=>rfl
 |c::r,h0,h1,h2=>
  rw[wordF_cons]at h0;split at h0
  ·cases h0
  ·rename_i hl
   by_cases hn:numHead (c::r)=true
   ·obtain⟨a,b,d⟩:=digit_no c (head_first hn)
    have hs:signF (c::r)=none:=by unfold signF;rw[sign_none a b];rfl
    rw[tokF,if_neg hl,if_pos hn,hs];unfold numberF at h1;rw[if_pos hn]at h1;exact h1
   ·by_cases hc:c=34
    ·rw[quotedF_cons,if_pos hc]at h2
     have hs:signF (c::r)=none:=by unfold signF;subst hc;rw[sign_none (by decide) (by decide)];rfl
     rw[tokF,if_neg hl,if_neg hn,if_pos hc,hs];exact h2
    ·rw[tokF,if_neg hl,if_neg hn,if_neg hc];rfl
structure LexT (Q qo qc P off c F fo fc:Nat) (w:World):Prop where
 tabs:Tabs Q qo qc P off c F fo fc w
 units:Sp.Units w
 utf:T8 w
theorem LexT.below{Q qo qc P off c F fo fc:Nat}{w w':World}(h:LexT Q qo qc P off c F fo fc w)(hb:Below w.heap.size w w'):LexT Q qo qc P off c F fo fc w':=⟨h.tabs.below hb,h.units.below h.units.size hb,h.utf.below h.utf.size hb⟩
theorem kind_none_eq(p:Nat)(w:World):KindP p none w=fun e w'=>e=.returned (.tuple #[Z0,.int .i64 (p:Int)])∧Below w.heap.size w w':=rfl
theorem kind_some_eq(p k n:Nat)(t:List UInt8)(w:World):KindP p (some (k,t,n)) w=fun e w'=>e=.returned (.tuple #[tokV k p ⟨t.toArray⟩,.int .i64 ((p+n:Nat):Int)])∧Below w.heap.size w w':=rfl
theorem next_any{Q qo qc P off c F fo fc:Nat}(s:ByteArray)(p:Nat)(w:World)(hT:LexT Q qo qc P off c F fo fc w)(hp:p<s.size)(hs:s.size≤65536):
 Calls Tryz.prog 83 #[.string s,.int .i64 (p:Int)] w (KindP p (tokF numB spanB (s.data.toList.drop p)) w):=by
 obtain⟨o,ho⟩:∃o,tokF numB spanB (s.data.toList.drop p)=o:=⟨_,rfl⟩
 rw[ho];have HO:=hid ho;obtain⟨l,hl⟩:∃l,s.data.toList.drop p=l:=⟨_,rfl⟩
 have HW1:=hid (fun W=>word_any s p W hp hs);have HW2:=hid (fun W (h:LexT Q qo qc P off c F fo fc W)=>number_any s p W h.tabs h.units hp hs);have HW3:=hid (fun W (h:LexT Q qo qc P off c F fo fc W)=>quoted_any s p W h.utf hp hs);have HW4:=hid (fun W=>sign_any s p W hp hs);rw[hl]at HO HW1 HW2 HW3 HW4;obtain⟨w2,hw2⟩:∃w2,(w.alloc (.cells #[.int .i64 0,.int .i64 0,.string ⟨#[]⟩] 115)).alloc (.cells #[.func (.func 94) #[] #[],.func (.func 95) #[] #[],.func (.func 96) #[] #[],.func (.func 97) #[] #[]] 150)=w2:=⟨_,rfl⟩
 have hb0:Below w.heap.size w w2:=by rw[←hw2];exact((Below.refl _ _).alloc (Nat.le_refl _) _).alloc (by simp) _
 have HB0:=hid hb0;have HL0:Hid (Blk w2 w.heap.size 115 #[.int .i64 0,.int .i64 0,.string ⟨#[]⟩]):=by show Blk _ _ _ _;rw[←hw2];exact(Blk.new w 115 _).alloc _
 have HF0:Hid (Blk w2 (w.heap.size+1) 150 #[.func (.func 94) #[] #[],.func (.func 95) #[] #[],.func (.func 96) #[] #[],.func (.func 97) #[] #[]]):=by show Blk _ _ _ _;rw[←hw2];have:=Blk.new (w.alloc (.cells #[.int .i64 0,.int .i64 0,.string ⟨#[]⟩] 115)) 150 #[.func (.func 94) #[] #[],.func (.func 95) #[] #[],.func (.func 96) #[] #[],.func (.func 97) #[] #[]];simpa using this
 have HT0:=hid (hT.below hb0);clear hT ho hl hb0;go_enter Tryz.func83,Tryz.ntmps83;go_wp2_with fail;clear hw2;refine wp_loop_rounds 5 ?_;rw[rounds_succ];have f0i:=HF0.out.cell 0;simp at f0i;go_wp2_with fail;obtain⟨r0,hr0⟩:∃r,wordF l=r:=⟨_,rfl⟩
 have HR0:=hid hr0;rw[hr0]at HW1;clear hr0;cases r0 with
 |some x=>
  obtain⟨k,t,n⟩:=x;have htk:=tok_word HR0.out;have hn1:=(tok_len numB spanB htk).1;have hoo:o=some (k,t,n):=by rw[←HO.out];exact htk
  subst hoo;have hgt:(p:Int)<((p+n:Nat):Int):=by omega
  have HG:=hid hgt;obtain⟨q,hq⟩:∃q,p+n=q:=⟨_,rfl⟩
  obtain⟨tt,htt⟩:∃tt:ByteArray,(⟨t.toArray⟩:ByteArray)=tt:=⟨_,rfl⟩
  have HQ:=hid hq;have HTT:=hid htt;rw[hq]at hgt;clear htk hn1 HG;refine(HW1.out _).mono ?_;rintro e w9 hk;rw[kind_some_eq,hq,htt]at hk;obtain⟨rfl,hb9⟩:=hk;clear hq htt;have HB9:=hid (HB0.out.trans (hb9.mono HB0.out.size));have HL9:=hid (HL0.out.below hb9);clear hb9;have c0:∀o,(w9.alloc o).cell? ⟨w.heap.size,0,none⟩=some (.int .i64 0):=fun o=>by have:=(HL9.out.alloc o).cell 0;simpa using this
  have c1:∀o,(w9.alloc o).cell? ⟨w.heap.size,1,none⟩=some (.int .i64 0):=fun o=>by have:=(HL9.out.alloc o).cell 1;simpa using this
  have c2:∀o,(w9.alloc o).cell? ⟨w.heap.size,2,none⟩=some (.string ⟨#[]⟩):=fun o=>by have:=(HL9.out.alloc o).cell 2;simpa using this
  have f0:∀o,(w9.alloc o).frozen? ⟨w.heap.size,0,none⟩=false:=fun o=>(HL9.out.alloc o).frozen 0;have f1:∀o,(w9.alloc o).frozen? ⟨w.heap.size,1,none⟩=false:=fun o=>(HL9.out.alloc o).frozen 1;have f2:∀o,(w9.alloc o).frozen? ⟨w.heap.size,2,none⟩=false:=fun o=>(HL9.out.alloc o).frozen 2;have HBF:Hid (∀o,Blk ((((w9.alloc o).setCell ⟨w.heap.size,0,none⟩ (.int .i64 (k:Int))).setCell ⟨w.heap.size,1,none⟩ (.int .i64 (p:Int))).setCell ⟨w.heap.size,2,none⟩ (.string tt)) w.heap.size 115 #[.int .i64 (k:Int),.int .i64 (p:Int),.string tt]):=fun o=>(((HL9.out.alloc o).set_ 0 (.int .i64 (k:Int))).set_ 1 (.int .i64 (p:Int))).set_ 2 (.string tt);have hsz:=HB9.out.size;go_wp2_with fail;refine bodyPost_ret (res_tok (by kernel_rfl) rfl rfl (HBF.out _)) rfl (kind_some HQ.out HTT.out ?_);have:=HB9.out
  go_grown
 |none=>
  have hng:¬(p:Int)<(p:Int):=by omega
  refine(HW1.out _).mono ?_;rintro e v0 hk;rw[kind_none_eq]at hk;obtain⟨rfl,hb9⟩:=hk;have hbx:=(HB0.out.trans (hb9.mono HB0.out.size))
  have hlx:=(HL0.out.below hb9)
  have hfx:=(HF0.out.below hb9)
  have htx:=(HT0.out.below hb9)
  have hsz:=hbx.size;have HB1:Hid (Below w.heap.size w (v0.alloc (.cells #[.int .i64 0,.int .i64 0,.string ⟨#[]⟩] 115))):=hbx.alloc (by omega) _;have HL1:=hid (hlx.alloc (.cells #[.int .i64 0,.int .i64 0,.string ⟨#[]⟩] 115));have HF1:=hid (hfx.alloc (.cells #[.int .i64 0,.int .i64 0,.string ⟨#[]⟩] 115));have HT1:Hid (LexT Q qo qc P off c F fo fc (v0.alloc (.cells #[.int .i64 0,.int .i64 0,.string ⟨#[]⟩] 115))):=htx.below ((Below.refl _ _).alloc (Nat.le_refl _) _);clear hb9 hbx hlx hfx htx hsz;have f1i:=HF1.out.cell 1;simp only[List.getElem?_toArray,List.getElem?_cons_zero,List.getElem?_cons_succ]at f1i;go_wp2_with fail;rw[rounds_succ];go_wp2_with fail;clear f1i hng;obtain⟨r1,hr1⟩:∃r,numberF l=r:=⟨_,rfl⟩
  have HR1:=hid hr1;rw[hr1]at HW2;clear hr1;cases r1 with
  |some x=>
   obtain⟨k,t,n⟩:=x;have htk:=tok_numb HR0.out HR1.out;have hn1:=(tok_len numB spanB htk).1;have hoo:o=some (k,t,n):=by rw[←HO.out];exact htk
   subst hoo;have hgt:(p:Int)<((p+n:Nat):Int):=by omega
   have HG:=hid hgt;obtain⟨q,hq⟩:∃q,p+n=q:=⟨_,rfl⟩
   obtain⟨tt,htt⟩:∃tt:ByteArray,(⟨t.toArray⟩:ByteArray)=tt:=⟨_,rfl⟩
   have HQ:=hid hq;have HTT:=hid htt;rw[hq]at hgt;clear htk hn1 HG;refine(HW2.out _ HT1.out).mono ?_;rintro e w9 hk;rw[kind_some_eq,hq,htt]at hk;obtain⟨rfl,hb9⟩:=hk;clear hq htt;have HB9:=hid (HB1.out.trans (hb9.mono HB1.out.size));have HL9:=hid (HL1.out.below hb9);clear hb9;have c0:∀o,(w9.alloc o).cell? ⟨w.heap.size,0,none⟩=some (.int .i64 0):=fun o=>by have:=(HL9.out.alloc o).cell 0;simpa using this
   have c1:∀o,(w9.alloc o).cell? ⟨w.heap.size,1,none⟩=some (.int .i64 0):=fun o=>by have:=(HL9.out.alloc o).cell 1;simpa using this
   have c2:∀o,(w9.alloc o).cell? ⟨w.heap.size,2,none⟩=some (.string ⟨#[]⟩):=fun o=>by have:=(HL9.out.alloc o).cell 2;simpa using this
   have f0:∀o,(w9.alloc o).frozen? ⟨w.heap.size,0,none⟩=false:=fun o=>(HL9.out.alloc o).frozen 0;have f1:∀o,(w9.alloc o).frozen? ⟨w.heap.size,1,none⟩=false:=fun o=>(HL9.out.alloc o).frozen 1;have f2:∀o,(w9.alloc o).frozen? ⟨w.heap.size,2,none⟩=false:=fun o=>(HL9.out.alloc o).frozen 2;have HBF:Hid (∀o,Blk ((((w9.alloc o).setCell ⟨w.heap.size,0,none⟩ (.int .i64 (k:Int))).setCell ⟨w.heap.size,1,none⟩ (.int .i64 (p:Int))).setCell ⟨w.heap.size,2,none⟩ (.string tt)) w.heap.size 115 #[.int .i64 (k:Int),.int .i64 (p:Int),.string tt]):=fun o=>(((HL9.out.alloc o).set_ 0 (.int .i64 (k:Int))).set_ 1 (.int .i64 (p:Int))).set_ 2 (.string tt);have hsz:=HB9.out.size;go_wp2_with fail;refine bodyPost_ret (res_tok (by kernel_rfl) rfl rfl (HBF.out _)) rfl (kind_some HQ.out HTT.out ?_);have:=HB9.out
   go_grown
  |none=>
   have hng:¬(p:Int)<(p:Int):=by omega
   refine(HW2.out _ HT1.out).mono ?_;rintro e v1 hk;rw[kind_none_eq]at hk;obtain⟨rfl,hb9⟩:=hk;have hbx:=(HB1.out.trans (hb9.mono HB1.out.size))
   have hlx:=(HL1.out.below hb9)
   have hfx:=(HF1.out.below hb9)
   have htx:=(HT1.out.below hb9)
   have hsz:=hbx.size;have HB2:Hid (Below w.heap.size w (v1.alloc (.cells #[.int .i64 0,.int .i64 0,.string ⟨#[]⟩] 115))):=hbx.alloc (by omega) _;have HL2:=hid (hlx.alloc (.cells #[.int .i64 0,.int .i64 0,.string ⟨#[]⟩] 115));have HF2:=hid (hfx.alloc (.cells #[.int .i64 0,.int .i64 0,.string ⟨#[]⟩] 115));have HT2:Hid (LexT Q qo qc P off c F fo fc (v1.alloc (.cells #[.int .i64 0,.int .i64 0,.string ⟨#[]⟩] 115))):=htx.below ((Below.refl _ _).alloc (Nat.le_refl _) _);clear hb9 hbx hlx hfx htx hsz;have f2i:=HF2.out.cell 2;simp only[List.getElem?_toArray,List.getElem?_cons_zero,List.getElem?_cons_succ]at f2i;go_wp2_with fail;rw[rounds_succ];go_wp2_with fail;clear f2i hng;obtain⟨r2,hr2⟩:∃r,quotedF l=r:=⟨_,rfl⟩
   have HR2:=hid hr2;rw[hr2]at HW3;clear hr2;cases r2 with
   |some x=>
    obtain⟨k,t,n⟩:=x;have htk:=tok_quot HR0.out HR1.out HR2.out;have hn1:=(tok_len numB spanB htk).1;have hoo:o=some (k,t,n):=by rw[←HO.out];exact htk
    subst hoo;have hgt:(p:Int)<((p+n:Nat):Int):=by omega
    have HG:=hid hgt;obtain⟨q,hq⟩:∃q,p+n=q:=⟨_,rfl⟩
    obtain⟨tt,htt⟩:∃tt:ByteArray,(⟨t.toArray⟩:ByteArray)=tt:=⟨_,rfl⟩
    have HQ:=hid hq;have HTT:=hid htt;rw[hq]at hgt;clear htk hn1 HG;refine(HW3.out _ HT2.out).mono ?_;rintro e w9 hk;rw[kind_some_eq,hq,htt]at hk;obtain⟨rfl,hb9⟩:=hk;clear hq htt;have HB9:=hid (HB2.out.trans (hb9.mono HB2.out.size));have HL9:=hid (HL2.out.below hb9);clear hb9;have c0:∀o,(w9.alloc o).cell? ⟨w.heap.size,0,none⟩=some (.int .i64 0):=fun o=>by have:=(HL9.out.alloc o).cell 0;simpa using this
    have c1:∀o,(w9.alloc o).cell? ⟨w.heap.size,1,none⟩=some (.int .i64 0):=fun o=>by have:=(HL9.out.alloc o).cell 1;simpa using this
    have c2:∀o,(w9.alloc o).cell? ⟨w.heap.size,2,none⟩=some (.string ⟨#[]⟩):=fun o=>by have:=(HL9.out.alloc o).cell 2;simpa using this
    have f0:∀o,(w9.alloc o).frozen? ⟨w.heap.size,0,none⟩=false:=fun o=>(HL9.out.alloc o).frozen 0;have f1:∀o,(w9.alloc o).frozen? ⟨w.heap.size,1,none⟩=false:=fun o=>(HL9.out.alloc o).frozen 1;have f2:∀o,(w9.alloc o).frozen? ⟨w.heap.size,2,none⟩=false:=fun o=>(HL9.out.alloc o).frozen 2;have HBF:Hid (∀o,Blk ((((w9.alloc o).setCell ⟨w.heap.size,0,none⟩ (.int .i64 (k:Int))).setCell ⟨w.heap.size,1,none⟩ (.int .i64 (p:Int))).setCell ⟨w.heap.size,2,none⟩ (.string tt)) w.heap.size 115 #[.int .i64 (k:Int),.int .i64 (p:Int),.string tt]):=fun o=>(((HL9.out.alloc o).set_ 0 (.int .i64 (k:Int))).set_ 1 (.int .i64 (p:Int))).set_ 2 (.string tt);have hsz:=HB9.out.size;go_wp2_with fail;refine bodyPost_ret (res_tok (by kernel_rfl) rfl rfl (HBF.out _)) rfl (kind_some HQ.out HTT.out ?_);have:=HB9.out
    go_grown
   |none=>
    have hng:¬(p:Int)<(p:Int):=by omega
    refine(HW3.out _ HT2.out).mono ?_;rintro e v2 hk;rw[kind_none_eq]at hk;obtain⟨rfl,hb9⟩:=hk;have hbx:=(HB2.out.trans (hb9.mono HB2.out.size))
    have hlx:=(HL2.out.below hb9)
    have hfx:=(HF2.out.below hb9)
    have htx:=(HT2.out.below hb9)
    have hsz:=hbx.size;have HB3:Hid (Below w.heap.size w (v2.alloc (.cells #[.int .i64 0,.int .i64 0,.string ⟨#[]⟩] 115))):=hbx.alloc (by omega) _;have HL3:=hid (hlx.alloc (.cells #[.int .i64 0,.int .i64 0,.string ⟨#[]⟩] 115));have HF3:=hid (hfx.alloc (.cells #[.int .i64 0,.int .i64 0,.string ⟨#[]⟩] 115));have HT3:Hid (LexT Q qo qc P off c F fo fc (v2.alloc (.cells #[.int .i64 0,.int .i64 0,.string ⟨#[]⟩] 115))):=htx.below ((Below.refl _ _).alloc (Nat.le_refl _) _);clear hb9 hbx hlx hfx htx hsz;have f3i:=HF3.out.cell 3;simp only[List.getElem?_toArray,List.getElem?_cons_zero,List.getElem?_cons_succ]at f3i;go_wp2_with fail;rw[rounds_succ];go_wp2_with fail;clear f3i hng;obtain⟨r3,hr3⟩:∃r,signF l=r:=⟨_,rfl⟩
    have HR3:=hid hr3;rw[hr3]at HW4;clear hr3;cases r3 with
    |some x=>
     obtain⟨k,t,n⟩:=x;have htk:=(tok_sign HR0.out HR1.out HR2.out).trans HR3.out;have hn1:=(tok_len numB spanB htk).1;have hoo:o=some (k,t,n):=by rw[←HO.out];exact htk
     subst hoo;have hgt:(p:Int)<((p+n:Nat):Int):=by omega
     have HG:=hid hgt;obtain⟨q,hq⟩:∃q,p+n=q:=⟨_,rfl⟩
     obtain⟨tt,htt⟩:∃tt:ByteArray,(⟨t.toArray⟩:ByteArray)=tt:=⟨_,rfl⟩
     have HQ:=hid hq;have HTT:=hid htt;rw[hq]at hgt;clear htk hn1 HG;refine(HW4.out _).mono ?_;rintro e w9 hk;rw[kind_some_eq,hq,htt]at hk;obtain⟨rfl,hb9⟩:=hk;clear hq htt;have HB9:=hid (HB3.out.trans (hb9.mono HB3.out.size));have HL9:=hid (HL3.out.below hb9);clear hb9;have c0:∀o,(w9.alloc o).cell? ⟨w.heap.size,0,none⟩=some (.int .i64 0):=fun o=>by have:=(HL9.out.alloc o).cell 0;simpa using this
     have c1:∀o,(w9.alloc o).cell? ⟨w.heap.size,1,none⟩=some (.int .i64 0):=fun o=>by have:=(HL9.out.alloc o).cell 1;simpa using this
     have c2:∀o,(w9.alloc o).cell? ⟨w.heap.size,2,none⟩=some (.string ⟨#[]⟩):=fun o=>by have:=(HL9.out.alloc o).cell 2;simpa using this
     have f0:∀o,(w9.alloc o).frozen? ⟨w.heap.size,0,none⟩=false:=fun o=>(HL9.out.alloc o).frozen 0;have f1:∀o,(w9.alloc o).frozen? ⟨w.heap.size,1,none⟩=false:=fun o=>(HL9.out.alloc o).frozen 1;have f2:∀o,(w9.alloc o).frozen? ⟨w.heap.size,2,none⟩=false:=fun o=>(HL9.out.alloc o).frozen 2;have HBF:Hid (∀o,Blk ((((w9.alloc o).setCell ⟨w.heap.size,0,none⟩ (.int .i64 (k:Int))).setCell ⟨w.heap.size,1,none⟩ (.int .i64 (p:Int))).setCell ⟨w.heap.size,2,none⟩ (.string tt)) w.heap.size 115 #[.int .i64 (k:Int),.int .i64 (p:Int),.string tt]):=fun o=>(((HL9.out.alloc o).set_ 0 (.int .i64 (k:Int))).set_ 1 (.int .i64 (p:Int))).set_ 2 (.string tt);have hsz:=HB9.out.size;go_wp2_with fail;refine bodyPost_ret (res_tok (by kernel_rfl) rfl rfl (HBF.out _)) rfl (kind_some HQ.out HTT.out ?_);have:=HB9.out
     go_grown
    |none=>
     have hng:¬(p:Int)<(p:Int):=by omega
     refine(HW4.out _).mono ?_;rintro e v3 hk;rw[kind_none_eq]at hk;obtain⟨rfl,hb9⟩:=hk;have hbx:=(HB3.out.trans (hb9.mono HB3.out.size))
     have hlx:=(HL3.out.below hb9)
     have hfx:=(HF3.out.below hb9)
     have htx:=(HT3.out.below hb9)
     have hsz:=hbx.size;have HB4:Hid (Below w.heap.size w (v3.alloc (.cells #[.int .i64 0,.int .i64 0,.string ⟨#[]⟩] 115))):=hbx.alloc (by omega) _;have HL4:=hid (hlx.alloc (.cells #[.int .i64 0,.int .i64 0,.string ⟨#[]⟩] 115));have HF4:=hid (hfx.alloc (.cells #[.int .i64 0,.int .i64 0,.string ⟨#[]⟩] 115));have HT4:Hid (LexT Q qo qc P off c F fo fc (v3.alloc (.cells #[.int .i64 0,.int .i64 0,.string ⟨#[]⟩] 115))):=htx.below ((Below.refl _ _).alloc (Nat.le_refl _) _);clear hb9 hbx hlx hfx htx hsz;have hoo:o=none:=by rw[←HO.out,tok_sign HR0.out HR1.out HR2.out];exact HR3.out
     subst hoo;have c0:=HL4.out.cell 0;have c1:=HL4.out.cell 1;have c2:=HL4.out.cell 2;have f0:=HL4.out.frozen 0;have f1:=HL4.out.frozen 1;have f2:=HL4.out.frozen 2;simp only[List.getElem?_toArray,List.getElem?_cons_zero,List.getElem?_cons_succ]at c0 c1 c2;have hbf:=((HL4.out.set_ 0 (.int .i64 0)).set_ 1 (.int .i64 0)).set_ 2 (.string ⟨#[]⟩);have HBF:=hid hbf;clear hbf;go_wp2_with fail;rw[rounds_succ];go_wp2_with fail;refine bodyPost_ret (res_tok (by kernel_rfl) rfl rfl HBF.out) rfl (kind_none ?_);have:=HB4.out
     go_grown
end Go.Proofs.YtmodehfedhgcbaaGreatDoor

set_option linter.unusedVariables false
set_option maxRecDepth 100000
set_option maxHeartbeats 2000000
namespace Go.Proofs.YtmodehfedhgcbaaGreatDoor
open Go.RowKit Lx
open Lib (hid)
def flatT:List Tk→List Value
 |[]=>[]
 |q::l=>.int .i64 (q.1:Int):: .int .i64 (q.2.1:Int):: .string ⟨q.2.2.toArray⟩::flatT l
theorem flatT_append(a b:List Tk):flatT (a++b)=flatT a++flatT b:=by
 induction a with
 |nil=>rfl
 |cons p a ih=>simp[flatT,ih]
theorem triple_at(W:World)(x0 x1 x2:Value)(g:Nat)(h:g=W.heap.size)(t:TypeId):∀j u,([x0,x1,x2]:List Value)[j]? =some u→(W.alloc (.cells #[x0,x1,x2] t)).cell? ((⟨g,0,none⟩:Addr).add j)=some u:=by
 subst h;intro j u hu
 match j,hu with
 |0,hu=>simp at hu;subst hu;simp[Addr.add,World.cell?_alloc_at]
 |1,hu=>simp at hu;subst hu;simp[Addr.add,World.cell?_alloc_at]
 |2,hu=>simp at hu;subst hu;simp[Addr.add,World.cell?_alloc_at]
 |j+3,hu=>simp at hu
theorem own_below{w w':World}{base:Nat}{e:TypeId}{size:Nat}{v:Value}{n:Nat}{xs:List Value}(h:w.ownsRow base e size v n xs)(hb:Below w.heap.size w w'):w'.ownsRow base e size v n xs:=
 h.kept (grown_of_below hb none) (by
  cases hv:v.ownBlock with
  |none=>exact .inl rfl
  |some g=>exact .inr (by simp))
theorem info_parts3{i:Option TypeInfo}{z:Option Value}{s b:Nat}(h:i.map (fun i=>(i.zero,i.size,i.bytes))=some (z,s,b)):∃i0,i=some i0∧i0.zero=z∧i0.size=s∧i0.bytes=b:=by
 cases i with
 |none=>cases h
 |some i0=>simp only[Option.map_some,Option.some.injEq,Prod.mk.injEq]at h;exact⟨i0,rfl,h.1,h.2.1,h.2.2⟩
theorem tok_info:(Tryz.prog.info? 115).map (fun i=>(i.zero,i.size,i.bytes))=some (some (.agg #[.int .i64 0,.int .i64 0,.string ⟨#[]⟩]),3,32):=by kernel_rfl
def LexP(r:Except Nat (List Tk))(w:World)(e:Ending)(w':World):Prop:=
 match r with
 |.ok ts=>∃v,e=.returned (.tuple #[v,.nilIface])∧w'.ownsRow w.heap.size 115 3 v ts.length (flatT ts)∧Below w.heap.size w w'
 |.error a=>∃f,e=.returned (.tuple #[.slice none 0 0,.iface 128 (.pointer (some ⟨f,0,none⟩))])∧Blk w' f 130 #[.int .i64 (a:Int),.iface 41 (.int .i64 5)]∧w.heap.size≤f∧Below w.heap.size w w'
theorem lexP_ok{ts:List Tk}{w w':World}{v:Value}(h1:w'.ownsRow w.heap.size 115 3 v ts.length (flatT ts))(h2:Below w.heap.size w w'):LexP (.ok ts) w (.returned (.tuple #[v,.nilIface])) w':=⟨v,rfl,h1,h2⟩
theorem lexP_error{a f:Nat}{w w':World}(h1:Blk w' f 130 #[.int .i64 (a:Int),.iface 41 (.int .i64 5)])(h2:w.heap.size≤f)(h3:Below w.heap.size w w'):LexP (.error a) w (.returned (.tuple #[.slice none 0 0,.iface 128 (.pointer (some ⟨f,0,none⟩))])) w':=⟨f,rfl,h1,h2,h3⟩
def LRel(L:List UInt8)(r:Except Nat (List Tk))(w:World)(p:Nat)(ts:List Tk)(v:Value)(wx:World):Prop:=pre ts (lexS numB spanB (L.drop p) p)=r∧wx.ownsRow w.heap.size 115 3 v ts.length (flatT ts)∧Below w.heap.size w wx∧ts.length≤p
theorem lex_any{Q qo qc P off c F fo fc:Nat}(s:ByteArray)(w:World)(hT:LexT Q qo qc P off c F fo fc w)(hs:s.size≤4000):
 Calls Tryz.prog 74 #[.string s] w (LexP (lexS numB spanB s.data.toList 0) w):=by
 obtain⟨i1,hi1,hy0,hy1,hy2⟩:=info_parts3 tok_info;obtain⟨r,hr⟩:∃r,lexS numB spanB s.data.toList 0=r:=⟨_,rfl⟩
 rw[hr];have HR0:Hid (LRel s.data.toList r w 0 [] (.slice none 0 0) w):=⟨by rw[pre_nil];exact hr,World.ownsRow_nil _ _ _ _,Below.refl _ _,Nat.le_refl _⟩
 have HT:=hid hT;have HBK:=hid (fun p W hp=>blank_any s p W hp (by omega));have HNX:=hid (fun p W hW hp=>next_any (Q:=Q) (qo:=qo) (qc:=qc) (P:=P) (off:=off) (c:=c) (F:=F) (fo:=fo) (fc:=fc) s p W hW hp (by omega));have d4:¬(4000:Int)<(s.size:Int):=by omega
 have hbl:∀p,p≤s.size→p+blankN false (s.data.toList.drop p)≤s.size:=fun p hp=>by have:=blankN_le false (s.data.toList.drop p);rw[List.length_drop,←Lib.size_eq]at this;omega
 have HBL:=hid hbl;have HB0:=hid (HBK.out 0 w (Nat.zero_le _));clear hT hr hbl;go_enter Tryz.func74,Tryz.ntmps74;go_wp2_with fail;refine(HB0.out).mono ?_;rintro e w1⟨rfl,hb1⟩;have HR1:Hid (LRel s.data.toList r w 0 [] (.slice none 0 0) w1):=by obtain⟨a,b,c,d⟩:=HR0.out;exact⟨a,World.ownsRow_nil _ _ _ _,hb1,d⟩
 clear hb1 HB0 HR0;go_wp2_with fail
 go_loopg [5,6] s.size (fun g s5 s6 wx=>∃(p:Nat) (ts:List Tk),p≤s.size∧s.size≤g+p∧s6=.int .i64 ((p+blankN false (s.data.toList.drop p):Nat):Int)∧Hid (LRel s.data.toList r w p ts s5 wx))
 case atStart=>exact⟨0,[],Nat.zero_le _,by omega,by simp,HR1⟩
 case round=>
  obtain⟨p,ts,hp,hg,rfl,HR⟩:=hrel;have hat:=HBL.out p hp;obtain⟨b,hb⟩:∃b,blankN false (s.data.toList.drop p)=b:=⟨_,rfl⟩
  rw[hb]at hat⊢
  have HBB:=hid hb;obtain⟨a,ha⟩:∃a,p+b=a:=⟨_,rfl⟩
  rw[ha]at hat⊢
  have HA:=hid ha;have hpa:p≤a:=by omega
  have hdd:(s.data.toList.drop p).drop b=s.data.toList.drop a:=by rw[List.drop_drop,ha]
  have HDD:=hid hdd;clear hb ha hdd;obtain⟨r1,r2,r3,r4⟩:=HR.out;have HRR:=hid r1;have HO:=hid r2;have HB:=hid r3;have HTL:=hid r4;have HTX:=hid (HT.out.below r3);have hsx:=r3.size;clear r1 r2 r3 r4 HR;by_cases hlt:a<s.size
  ·have d:(a:Int)<(s.size:Int):=by omega
   have hne:s.data.toList.drop a≠[]:=by rw[drop_byte s a hlt];simp
   have HNA:=hid (HNX.out a _ HTX.out hlt);obtain⟨o,ho⟩:∃o,tokF numB spanB (s.data.toList.drop a)=o:=⟨_,rfl⟩
   rw[ho]at HNA;cases o with
   |none=>
    have hrr:r=.error a:=by rw[←HRR.out,lexS_bad numB spanB (by rw[HBB.out,HDD.out];exact hne) p (by rw[HBB.out,HDD.out];exact ho),HBB.out,HA.out];rfl
    subst hrr;have de:((a:Int)==(a:Int))=true:=beq_self_eq_true _;clear hne ho HRR;go_wp2_with fail;refine(HNA.out).mono ?_;rintro e w2 hk;rw[kind_none_eq]at hk;obtain⟨rfl,hb2⟩:=hk;have HB2:=hid (HB.out.trans (hb2.mono hsx));clear hb2;have hs2:=HB2.out.size;have HF:Hid (∀o x,Blk ((w2.alloc o).alloc (.cells #[.int .i64 (a:Int),x] 130)) (w2.heap.size+1) 130 #[.int .i64 (a:Int),x]):=fun o x=>by have:=Blk.new (w2.alloc o) 130 #[.int .i64 (a:Int),x];simpa using this
    go_wp2_with fail
    go_ret2
    refine lexP_error (HF.out _ _) (by omega) ?_;have:=HB2.out
    go_grown
   |some x=>
    obtain⟨k,t,n⟩:=x;have hn:=tok_len numB spanB ho;have hn1:=hn.1;have hn2:a+n≤s.size:=by have:=hn.2;rw[List.length_drop,←Lib.size_eq]at this;omega
    have hnext:pre (ts++[(k,a,t)]) (lexS numB spanB (s.data.toList.drop (a+n)) (a+n))=r:=by rw[←HRR.out,lexS_next numB spanB p (by rw[HBB.out,HDD.out];exact ho),pre_pre,HBB.out,HDD.out,HA.out,List.drop_drop]
    have HNXT:=hid hnext;obtain⟨q,hq⟩:∃q,a+n=q:=⟨_,rfl⟩
    have hqa:((q:Int)==(a:Int))=false:=beq_eq_false_iff_ne.2 (by omega);have HQ:=hid hq;have hqlt:a+1≤q:=by omega
    rw[hq]at HNXT hn2;have HBQ:=hid (fun W=>HBK.out q W hn2);obtain⟨tt,htt⟩:∃tt:ByteArray,(⟨t.toArray⟩:ByteArray)=tt:=⟨_,rfl⟩
    have HTT:=hid htt;obtain⟨g',hg'⟩:∃g',gk=g'+1:=⟨gk-1,by omega⟩
    clear hne ho HRR hn hnext;go_wp2_with fail;refine(HNA.out).mono ?_;rintro e w2 hk;rw[kind_some_eq,hq,htt]at hk;obtain⟨rfl,hb2⟩:=hk;have HB2:=hid (HB.out.trans (hb2.mono hsx));have HO2:=hid (own_below HO.out hb2);clear hb2 hq htt;have hs2:=HB2.out.size;have hlen:ts.length≤4000:=by have:=HTL.out;omega
    go_wp2_with (at_builtin;refine wpList_append_own _ rfl _ _ 111 rfl w.heap.size 115 i1 _ 3 32 Tryz.underlying111 hi1 hy0 hy1 hy2 rfl (by decide) _ _ _ rfl ((HO2.out.alloc _).alloc _) _ 1 1 [.int .i64 (k:Int),.int .i64 (a:Int),.string tt] rfl rfl ?c1 ?c2 ?c3 ?c4 ?c5 ?_);case c1=>exact triple_at _ _ _ _ _ (by simp) _
    case c2=>intro u hu;simp at hu;rcases hu with rfl|rfl|rfl<;>rfl
    case c3=>unfold maxLen;omega
    case c4=>omega
    case c5=>simp;omega
    intro v' w3 hown3 hgr3 _;have HO3:=hid hown3;have HB3:Hid (Below w.heap.size w w3):=((HB2.out.alloc hs2 _).alloc (by simp;omega) _).grown hgr3 (by simp;omega) (fun g hg=>(HO2.out.lt g hg).1);clear hown3 hgr3;go_wp2_with fail;refine(HBQ.out _).mono ?_;rintro e w4⟨rfl,hb4⟩;have HB4:=hid (HB3.out.trans (hb4.mono HB3.out.size));have HO4:=hid (own_below HO3.out hb4);clear hb4;have HR4:Hid (LRel s.data.toList r w q (ts++[(k,a,t)]) v' w4):=⟨HNXT.out,by have:=HO4.out;rw[flatT_append,List.length_append];rw[←HTT.out]at this;exact this,HB4.out,by have:=HTL.out;have:=HQ.out;simp;omega⟩
    subst hg';go_wp2_with fail
    go_roundg g'
    case measure=>omega
    case rel=>exact⟨q,ts++[(k,a,t)],hn2,by omega,rfl,HR4⟩
  ·have d:¬(a:Int)<(s.size:Int):=by omega
   have hrr:r=.ok ts:=by rw[←HRR.out,lexS_end numB spanB (by rw[HBB.out,HDD.out];exact drop_none s a (by omega))];simp[pre]
   subst hrr;clear HRR;go_wp2_with fail
   go_ret2
   exact lexP_ok HO.out HB.out
end Go.Proofs.YtmodehfedhgcbaaGreatDoor

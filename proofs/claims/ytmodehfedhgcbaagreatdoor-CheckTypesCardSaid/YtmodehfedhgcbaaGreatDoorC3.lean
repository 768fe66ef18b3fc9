/- Lemmas. No condition. -/
import Derived.Test.YtmodehfedhgcbaaGreatDoorA1
import Derived.Test.YtmodehfedhgcbaaGreatDoorM4
import Derived.Lib.IndexBytes
import Derived.Test.YtmodehfedhgcbaaGreatDoorShelf
set_option linter.unusedVariables false
namespace Go.Proofs.YtmodehfedhgcbaaGreatDoor
open Go.RowKit Lx
open Lib (hid)
theorem digit_any(c:UInt8)(w:World):Calls Tryz.prog 108 #[.int .u8 (c.toNat:Int)] w fun e w'=>e=.returned (.bool (Lx.isD c))∧w=w':=by
 unfold Lx.isD;generalize c.toNat=n;by_cases h1:48≤n
 ·have d:(48:Int)≤(n:Int):=by omega
  have d2:decide (48≤n)=true:=decide_eq_true h1;have hr:(decide (48≤n)&&decide (n≤57))=decide ((n:Int)≤57):=by rw[d2,Bool.true_and];exact decide_eq_decide.2 (by omega)
  rw[hr];clear hr;go_enter Tryz.func108,Tryz.ntmps108;go_wp2;go_ret;exact⟨rfl,rfl⟩
 ·have d:¬(48:Int)≤(n:Int):=by omega
  have hr:(decide (48≤n)&&decide (n≤57))=false:=by rw[decide_eq_false h1,Bool.false_and]
  rw[hr];clear hr;go_enter Tryz.func108,Tryz.ntmps108;go_wp2;go_ret;exact⟨rfl,rfl⟩
theorem letter_any(c:UInt8)(w:World):Calls Tryz.prog 106 #[.int .u8 (c.toNat:Int)] w fun e w'=>e=.returned (.bool (Lx.isL c))∧w=w':=by
 generalize hr:Lx.isL c=r;have h95:(c==95)=((c.toNat:Int)==95):=by
  have:(c==95)=decide (c.toNat=95):=by rw[Bool.eq_iff_iff];simp[←UInt8.toNat_inj]
  rw[this,Bool.eq_iff_iff];simp;omega
 have h58:(c==58)=((c.toNat:Int)==58):=by
  have:(c==58)=decide (c.toNat=58):=by rw[Bool.eq_iff_iff];simp[←UInt8.toNat_inj]
  rw[this,Bool.eq_iff_iff];simp;omega
 unfold Lx.isL at hr;rw[h95,h58]at hr;clear h95 h58;generalize c.toNat=n at*
 have HR:=hid hr;clear hr;by_cases h1:97≤n∧n≤122
 ·have hf:r=true:=by rw[←HR.out];simp[h1]
  subst hf;have d1:(97:Int)≤(n:Int):=by omega
  have d2:(n:Int)≤122:=by omega
  clear h1;go_enter Tryz.func106,Tryz.ntmps106;go_wp2;go_ret;exact⟨rfl,rfl⟩
 ·by_cases h2:65≤n∧n≤90
  ·have hf:r=true:=by rw[←HR.out];simp[h2]
   subst hf;have d1:¬(97:Int)≤(n:Int):=by omega
   have d2:(65:Int)≤(n:Int):=by omega
   have d3:(n:Int)≤90:=by omega
   clear h1 h2;go_enter Tryz.func106,Tryz.ntmps106;go_wp2;go_ret;exact⟨rfl,rfl⟩
  ·have hf:r=(((n:Int)==95)||((n:Int)==58)):=by
    rw[←HR.out];have e1:(decide (97≤n)&&decide (n≤122))=false:=by simp;omega
    have e2:(decide (65≤n)&&decide (n≤90))=false:=by simp;omega
    rw[e1,e2];simp
   clear HR;by_cases h3:n=95
   ·subst h3
    have hf2:r=true:=by rw[hf];rfl
    subst hf2;clear hf h1 h2;go_enter Tryz.func106,Tryz.ntmps106;go_wp2;go_ret;exact⟨rfl,rfl⟩
   ·have d95:((n:Int)==95)=false:=beq_eq_false_iff_ne.2 (by omega)
    rw[d95,Bool.false_or]at hf;subst hf;by_cases k1:97≤n
    ·have k0:(97:Int)≤(n:Int):=by omega
     have k2:¬(n:Int)≤122:=by omega
     have k3:¬(n:Int)≤90:=by omega
     have k4:(65:Int)≤(n:Int):=by omega
     clear h1 h2 h3 k1;go_enter Tryz.func106,Tryz.ntmps106;go_wp2;go_ret;exact⟨rfl,rfl⟩
    ·have k0:¬(97:Int)≤(n:Int):=by omega
     by_cases k2:65≤n
     ·have k4:(65:Int)≤(n:Int):=by omega
      have k3:¬(n:Int)≤90:=by omega
      clear h1 h2 h3 k1 k2;go_enter Tryz.func106,Tryz.ntmps106;go_wp2;go_ret;exact⟨rfl,rfl⟩
     ·have k4:¬(65:Int)≤(n:Int):=by omega
      clear h1 h2 h3 k1 k2;go_enter Tryz.func106,Tryz.ntmps106;go_wp2;go_ret;exact⟨rfl,rfl⟩
theorem wordc_any(c:UInt8)(w:World):Calls Tryz.prog 107 #[.int .u8 (c.toNat:Int)] w fun e w'=>e=.returned (.bool (isW c))∧w=w':=by
 have HL:=hid (letter_any c);have HD:=hid (digit_any c);unfold isW;cases hl:Lx.isL c with
 |true=>rw[hl]at HL;clear hl;go_enter Tryz.func107,Tryz.ntmps107;go_wp2_with fail;refine(HL.out _).mono ?_;rintro e w1⟨rfl,rfl⟩;go_wp2_with fail;go_ret;exact⟨rfl,rfl⟩
 |false=>rw[hl]at HL;clear hl;go_enter Tryz.func107,Tryz.ntmps107;go_wp2_with fail;refine(HL.out _).mono ?_;rintro e w1⟨rfl,rfl⟩;go_wp2_with fail;refine(HD.out _).mono ?_;rintro e w1⟨rfl,rfl⟩;go_wp2_with fail;go_ret;exact⟨rfl,rfl⟩
theorem byte_eq(c:UInt8)(n:Nat)(h:n<256):(c==UInt8.ofNat n)=((c.toNat:Int)==(n:Int)):=by
 have:(c==UInt8.ofNat n)=decide (c.toNat=n):=by rw[Bool.eq_iff_iff];simp[←UInt8.toNat_inj,Nat.mod_eq_of_lt h]
 rw[this,Bool.eq_iff_iff];simp;omega
theorem isB_index(c:UInt8):decide (0≤Lib.indexByte [32,9,10,13] c)=isB c:=by
 have:∀n:Nat,n<256→decide (0≤Lib.indexByte [32,9,10,13] (UInt8.ofNat n))=isB (UInt8.ofNat n):=by decide+kernel
 have h:=this c.toNat c.toNat_lt;rwa[UInt8.ofNat_toNat]at h
theorem drop_byte(s:ByteArray)(k:Nat)(h:k<s.size):s.data.toList.drop k=s[k]::s.data.toList.drop (k+1):=by
 have h1:k<s.data.toList.length:=by rw[←Lib.size_eq];exact h
 rw[List.drop_eq_getElem_cons h1];congr 1
theorem drop_none(s:ByteArray)(k:Nat)(h:s.size≤k):s.data.toList.drop k=[]:=List.drop_eq_nil_of_le (by rw[←Lib.size_eq];exact h)
theorem ret_nat{a b:Nat}(h:a=b):Ending.returned (.int .i64 (a:Int))=.returned (.int .i64 (b:Int)):=by rw[h]
theorem whileW_any(s:ByteArray)(p:Nat)(w:World)(hp:p≤s.size)(hs:s.size≤65536):
 Calls Tryz.prog 91 #[.string s,.int .i64 (p:Int),.func (.func 107) #[] #[]] w fun e w'=>e=.returned (.int .i64 ((p+((s.data.toList.drop p).takeWhile isW).length:Nat):Int))∧w=w':=by
 have HC:=hid wordc_any;have HD:=hid (drop_byte s);have HN:=hid (drop_none s);generalize hr:((s.data.toList.drop p).takeWhile isW).length=r;have HR:=hid hr;clear hr;go_enter Tryz.func91,Tryz.ntmps91;go_wp2_with fail
 go_loopg [1] s.size (fun g s1 wx=>∃j:Nat,p≤j∧j≤s.size∧s.size≤g+j∧s1=.int .i64 (j:Int)∧Hid (((s.data.toList.drop j).takeWhile isW).length+j=p+r)∧w=wx)
 case atStart=>exact⟨p,Nat.le_refl _,hp,by omega,rfl,by show _=_;rw[HR.out];omega,rfl⟩
 case round=>
  obtain⟨j,hpj,hj,hg,rfl,HJ,rfl⟩:=hrel;by_cases hlt:j<s.size
  ·have d:decide (j<s.size)=true:=decide_eq_true hlt
   have HDJ:=HJ.out;rw[HD.out j hlt,List.takeWhile_cons]at HDJ;have HCJ:=hid (HC.out s[j]);cases hw:isW s[j]with
   |true=>
    rw[hw]at HDJ HCJ;simp only[if_true,List.length_cons]at HDJ;have HK:=hid (show((s.data.toList.drop (j+1)).takeWhile isW).length+(j+1)=p+r by omega);clear HDJ hw HJ;obtain⟨g,rfl⟩:∃g,gk=g+1:=⟨gk-1,by omega⟩
    go_wp2_with fail;refine(HCJ.out _).mono ?_;rintro e w1⟨rfl,rfl⟩;go_wp2_with fail
    go_roundg g
    case measure=>omega
    case rel=>exact⟨j+1,by omega,by omega,by omega,by go_num,HK,rfl⟩
   |false=>
    rw[hw]at HDJ HCJ;have hjr:j=p+r:=by simpa using HDJ
    have HX:=hid hjr;clear HDJ hw HJ hjr;go_wp2_with fail;refine(HCJ.out _).mono ?_;rintro e w1⟨rfl,rfl⟩;go_wp2_with fail;go_ret;exact⟨ret_nat HX.out,rfl⟩
  ·have d:decide (j<s.size)=false:=decide_eq_false hlt
   have HDJ:=HJ.out;rw[HN.out j (by omega)]at HDJ;have hjr:j=p+r:=by simpa using HDJ
   have HX:=hid hjr;clear HDJ HJ hjr;go_wp2_with fail;go_ret;exact⟨ret_nat HX.out,rfl⟩
theorem blankc_any(R:Nat)(c:UInt8)(r:Bool)(w:World)(h:Blk w R 4 #[.bool r]):
 Calls Tryz.prog 92 #[.int .u8 (c.toNat:Int),.pointer (some ⟨R,0,none⟩)] w fun e w'=>e=.returned (.bool (rem1 r c||isB c))∧w'=w.setCell ⟨R,0,none⟩ (.bool (rem1 r c)):=by
 have c0:=h.cell 0;have c1:=h.frozen 0;simp at c0;have HI:=hid (fun W=>(Tryz.strings_IndexByte ⟨#[32,9,10,13]⟩ (c.toNat:Int) W));have hcc:((c.toNat:Int)).toNat.toUInt8=c:=by simp
 rw[hcc]at HI;have HB:=hid (isB_index c);have e0:(⟨#[32,9,10,13]⟩:ByteArray).data.toList=[32,9,10,13]:=rfl;rw[e0]at HI;clear hcc e0 h;generalize Lib.indexByte [32,9,10,13] c=z at*
 have h35:=byte_eq c 35 (by omega);have h10:=byte_eq c 10 (by omega);have hr1:rem1 r c=((c==UInt8.ofNat 35)||(r&& !(c==UInt8.ofNat 10))):=rfl;rw[h35,h10]at hr1;clear h35 h10;generalize rem1 r c=q at*
 generalize isB c=b at*
 have hq:∃n:Int,(c.toNat:Int)=n:=⟨_,rfl⟩
 generalize (c.toNat:Int)=n at*
 clear hq;have HQ:=hid hr1;clear hr1;by_cases h35:n=35
 ·subst h35
  have hqt:q=true:=by rw[HQ.out];rfl
  subst hqt;clear HQ;go_enter Tryz.func92,Tryz.ntmps92;go_wp2_with fail;go_ret;exact⟨rfl,rfl⟩
 ·have d35:(n==35)=false:=beq_eq_false_iff_ne.2 h35
  cases r with
  |true=>
   by_cases h10:n=10
   ·subst h10
    have hqt:q=false:=by rw[HQ.out];rfl
    subst hqt;clear HQ h35;go_enter Tryz.func92,Tryz.ntmps92;go_wp2_with fail;refine(HI.out _).mono ?_;rintro e w1⟨rfl,rfl⟩;go_wp2_with fail;go_ret;exact⟨by rw[←HB.out];rfl,rfl⟩
   ·have d10:(n != 10)=true:=by simp[h10]
    have hqt:q=true:=by rw[HQ.out];simp[h10]
    subst hqt;clear HQ h35 h10;go_enter Tryz.func92,Tryz.ntmps92;go_wp2_with fail;go_ret;exact⟨rfl,rfl⟩
  |false=>
   have hqt:q=false:=by rw[HQ.out];simp[h35]
   subst hqt;clear HQ h35;go_enter Tryz.func92,Tryz.ntmps92;go_wp2_with fail;refine(HI.out _).mono ?_;rintro e w1⟨rfl,rfl⟩;go_wp2_with fail;go_ret;exact⟨by rw[←HB.out];rfl,rfl⟩
theorem whileB_any(s:ByteArray)(p R:Nat)(w:World)(hR:Blk w R 4 #[.bool false])(hp:p≤s.size)(hs:s.size≤65536):
 Calls Tryz.prog 91 #[.string s,.int .i64 (p:Int),.func (.func 92) #[] #[.pointer (some ⟨R,0,none⟩)]] w fun e w'=>e=.returned (.int .i64 ((p+blankN false (s.data.toList.drop p):Nat):Int))∧Moved R w w':=by
 have HC:=hid (blankc_any R);have HD:=hid (drop_byte s);have HN:=hid (drop_none s);have HBR:=hid hR;generalize hr:blankN false (s.data.toList.drop p)=r;have HR:=hid hr;clear hr hR;go_enter Tryz.func91,Tryz.ntmps91;go_wp2_with fail
 go_loopg [1] s.size (fun g s1 wx=>∃(j:Nat) (q:Bool),p≤j∧j≤s.size∧s.size≤g+j∧s1=.int .i64 (j:Int)∧Hid (blankN q (s.data.toList.drop j)+j=p+r)∧Hid (Blk wx R 4 #[.bool q])∧Hid (Moved R w wx))
 case atStart=>exact⟨p,false,Nat.le_refl _,hp,by omega,rfl,by show _=_;rw[HR.out];omega,HBR,Moved.refl _ _⟩
 case round=>
  obtain⟨j,q,hpj,hj,hg,rfl,HJ,HB,HM⟩:=hrel;by_cases hlt:j<s.size
  ·have d:decide (j<s.size)=true:=decide_eq_true hlt
   have HDJ:=HJ.out;rw[HD.out j hlt,blankN]at HDJ;have HCJ:=hid (HC.out s[j] q _ HB.out);have HB2:=hid (HB.out.set_ 0 (.bool (rem1 q s[j])));have HM2:=hid (HM.out.trans (Moved.set R 0 _ (.bool (rem1 q s[j]))));cases hw:(rem1 q s[j]||isB s[j])with
   |true=>
    rw[hw]at HDJ HCJ;simp only[if_true]at HDJ;generalize rem1 q s[j]=q2 at*
    have HK:=hid (show blankN q2 (s.data.toList.drop (j+1))+(j+1)=p+r by omega);clear HDJ hw HJ;obtain⟨g,rfl⟩:∃g,gk=g+1:=⟨gk-1,by omega⟩
    go_wp2_with fail;refine(HCJ.out).mono ?_;rintro e w1⟨rfl,hw1⟩;rw[←hw1]at HB2 HM2;clear hw1;go_wp2_with fail
    go_roundg g
    case measure=>omega
    case rel=>exact⟨j+1,q2,by omega,by omega,by omega,by go_num,HK,HB2,HM2⟩
   |false=>
    rw[hw]at HDJ HCJ;generalize rem1 q s[j]=q2 at*
    have hjr:j=p+r:=by simpa using HDJ
    have HX:=hid hjr;clear HDJ hw HJ hjr;go_wp2_with fail;refine(HCJ.out).mono ?_;rintro e w1⟨rfl,hw1⟩;rw[←hw1]at HB2 HM2;clear hw1;go_wp2_with fail;go_ret;exact⟨ret_nat HX.out,HM2.out⟩
  ·have d:decide (j<s.size)=false:=decide_eq_false hlt
   have HDJ:=HJ.out;rw[HN.out j (by omega),blankN]at HDJ;have hjr:j=p+r:=by simpa using HDJ
   have HX:=hid hjr;clear HDJ HJ hjr;go_wp2_with fail;go_ret;exact⟨ret_nat HX.out,HM.out⟩
theorem blank_any(s:ByteArray)(p:Nat)(w:World)(hp:p≤s.size)(hs:s.size≤65536):
 Calls Tryz.prog 82 #[.string s,.int .i64 (p:Int)] w fun e w'=>e=.returned (.int .i64 ((p+blankN false (s.data.toList.drop p):Nat):Int))∧Below w.heap.size w w':=by
 have H:=hid (whileB_any s p w.heap.size (w.alloc (.cells #[.bool false] 4)) (Blk.new _ _ _) hp hs);have HB:=hid ((Below.refl w.heap.size w).alloc (Nat.le_refl _) (.cells #[.bool false] 4));go_enter Tryz.func82,Tryz.ntmps82;go_wp2_with fail;refine(H.out).mono ?_;rintro e w1⟨rfl,hm⟩;have HM:=hid (hm.below HB.out);clear hm;go_wp2_with fail;go_ret;exact⟨rfl,HM.out⟩
theorem two_below{w:World}{E P:Nat}{x y:Value}{B:Nat}(hE:B≤E)(hP:B≤P):Below B w ((w.setCell ⟨E,0,none⟩ x).setCell ⟨P,0,none⟩ y):=((Below.refl B w).setCell hE _).setCell hP _
def NumP(B E P:Nat)(c:UInt8)(p b:Bool)(w:World)(e:Ending)(w':World):Prop:=e=.returned (.bool (numC b c))∧Blk w' E 4 #[.bool (numB' p c)]∧Blk w' P 4 #[.bool (numP p c)]∧Below B w w'
theorem blk_other{w:World}{E P i:Nat}{t:TypeId}{cs:Array Value}(h:Blk w E t cs)(hne:E≠P)(v:Value):Blk (w.setCell ⟨P,i,none⟩ v) E t cs:=((Moved.set P i w v).block E hne).trans h
theorem eq_of{c:UInt8}{n:Nat}(hn:n<256)(h:c.toNat=n):c=UInt8.ofNat n:=by rw[←UInt8.toNat_inj];simp;omega
theorem numc_any(B E P:Nat)(c:UInt8)(p b:Bool)(w:World)(hE:Blk w E 4 #[.bool b])(hP:Blk w P 4 #[.bool p])(hne:E≠P)(hBE:B≤E)(hBP:B≤P):
 Calls Tryz.prog 122 #[.int .u8 (c.toNat:Int),.pointer (some ⟨E,0,none⟩),.pointer (some ⟨P,0,none⟩)] w (NumP B E P c p b w):=by
 have c0:=hE.cell 0;have c1:=hE.frozen 0;have c2:=hP.cell 0;have c3:=hP.frozen 0;simp at c0 c2;have hne1:(E==P)=false:=by simp;exact hne
 have hne2:(P==E)=false:=by simp;exact fun e=>hne e.symm
 have c4:∀v,(w.setCell ⟨E,0,none⟩ v).cell? ⟨P,0,none⟩=some (.bool p):=fun v=>by have:=(blk_other (i:=0) hP hne.symm v).cell 0;simpa using this
 have c5:∀v,(w.setCell ⟨E,0,none⟩ v).frozen? ⟨P,0,none⟩=false:=fun v=>(blk_other (i:=0) hP hne.symm v).frozen 0;have HE:=hid hE;have HP:=hid hP;have HNE:=hid hne;have HB1:=hid hBE;have HB2:=hid hBP;have HL:=hid (letter_any c);have HD:=hid (digit_any c);clear hE hP hne hBE hBP;by_cases h43:c.toNat=43∨c.toNat=45
 ·have hc:c=43∨c=45:=h43.imp (fun h=>eq_of (n:=43) (by omega) h) (fun h=>eq_of (n:=45) (by omega) h)
  have hN:NumP B E P c p b w=fun e w'=>e=.returned (.bool b)∧Blk w' E 4 #[.bool false]∧Blk w' P 4 #[.bool p]∧Below B w w':=by funext e w';unfold NumP numC numB' numP;rw[if_pos hc,if_pos hc,if_pos hc]
  rw[hN];have HF:Hid (Blk (w.setCell ⟨E,0,none⟩ (.bool false)) E 4 #[.bool false]∧Blk (w.setCell ⟨E,0,none⟩ (.bool false)) P 4 #[.bool p]∧Below B w (w.setCell ⟨E,0,none⟩ (.bool false))):=⟨HE.out.set_ 0 (.bool false),blk_other HP.out HNE.out.symm _,(Below.refl B w).setCell HB1.out _⟩
  clear hN hc;rcases h43 with h|h
  ·have hx:(c.toNat:Int)=43:=by omega
   clear h;generalize (c.toNat:Int)=n at*
   subst hx;go_enter Tryz.func122,Tryz.ntmps122;go_wp2_with fail;go_ret;exact⟨rfl,HF.out⟩
  ·have hx:(c.toNat:Int)=45:=by omega
   clear h;generalize (c.toNat:Int)=n at*
   subst hx;go_enter Tryz.func122,Tryz.ntmps122;go_wp2_with fail;go_ret;exact⟨rfl,HF.out⟩
 ·have hc:¬(c=43∨c=45):=by rintro(rfl|rfl)<;>exact h43 (by decide)
  have e101:=byte_eq c 101 (by omega);have e69:=byte_eq c 69 (by omega);have e46:=byte_eq c 46 (by omega);have hN:NumP B E P c p b w=fun e w'=>e=.returned (.bool (Lx.isL c||Lx.isD c||((c.toNat:Int)==46)))∧Blk w' E 4 #[.bool (p&&(((c.toNat:Int)==101)||((c.toNat:Int)==69)))]∧Blk w' P 4 #[.bool (p&&(Lx.isD c||((c.toNat:Int)==46)))]∧Below B w w':=by funext e w';unfold NumP numC numB' numP;rw[if_neg hc,if_neg hc,if_neg hc];rw[show(101:Int)=((101:Nat):Int)from rfl,show(69:Int)=((69:Nat):Int)from rfl,show(46:Int)=((46:Nat):Int)from rfl,←e101,←e69,←e46];rfl
  rw[hN];have d43:((c.toNat:Int)==43)=false:=beq_eq_false_iff_ne.2 (by omega);have d45:((c.toNat:Int)==45)=false:=beq_eq_false_iff_ne.2 (by omega);have hcnt:∃n:Int,(c.toNat:Int)=n:=⟨_,rfl⟩
  have HF:Hid (∀x y:Bool,Blk ((w.setCell ⟨E,0,none⟩ (.bool x)).setCell ⟨P,0,none⟩ (.bool y)) E 4 #[.bool x]∧Blk ((w.setCell ⟨E,0,none⟩ (.bool x)).setCell ⟨P,0,none⟩ (.bool y)) P 4 #[.bool y]∧Below B w ((w.setCell ⟨E,0,none⟩ (.bool x)).setCell ⟨P,0,none⟩ (.bool y))):=fun x y=>⟨blk_other (HE.out.set_ 0 (.bool x)) HNE.out _,(blk_other HP.out HNE.out.symm _).set_ 0 (.bool y),two_below HB1.out HB2.out⟩
  clear hN hc h43 e101 e69 e46 HE HP HNE HB1 HB2;generalize (c.toNat:Int)=n at*
  clear hcnt;generalize Lx.isL c=l at*
  generalize Lx.isD c=d at*
  cases p with
  |false=>
   cases l with
   |true=>go_enter Tryz.func122,Tryz.ntmps122;go_wp2_with fail;refine(HL.out _).mono ?_;rintro e w1⟨rfl,rfl⟩;go_wp2_with fail;go_ret;exact⟨rfl,HF.out _ _⟩
   |false=>
    cases d with
    |true=>go_enter Tryz.func122,Tryz.ntmps122;go_wp2_with fail;refine(HL.out _).mono ?_;rintro e w1⟨rfl,rfl⟩;go_wp2_with fail;refine(HD.out _).mono ?_;rintro e w1⟨rfl,rfl⟩;go_wp2_with fail;go_ret;exact⟨rfl,HF.out _ _⟩
    |false=>go_enter Tryz.func122,Tryz.ntmps122;go_wp2_with fail;refine(HL.out _).mono ?_;rintro e w1⟨rfl,rfl⟩;go_wp2_with fail;refine(HD.out _).mono ?_;rintro e w1⟨rfl,rfl⟩;go_wp2_with fail;go_ret;exact⟨rfl,HF.out _ _⟩
  |true=>
   by_cases h101:n=101
   ·subst h101
    cases d with
    |true=>
     go_enter Tryz.func122,Tryz.ntmps122;go_wp2_with fail;refine(HD.out _).mono ?_;rintro e w1⟨rfl,rfl⟩;go_wp2_with fail;refine(HL.out _).mono ?_;rintro e w1⟨rfl,rfl⟩;cases l with
     |true=>go_wp2_with fail;go_ret;exact⟨rfl,HF.out _ _⟩
     |false=>go_wp2_with fail;refine(HD.out _).mono ?_;rintro e w1⟨rfl,rfl⟩;go_wp2_with fail;go_ret;exact⟨rfl,HF.out _ _⟩
    |false=>
     go_enter Tryz.func122,Tryz.ntmps122;go_wp2_with fail;refine(HD.out _).mono ?_;rintro e w1⟨rfl,rfl⟩;go_wp2_with fail;refine(HL.out _).mono ?_;rintro e w1⟨rfl,rfl⟩;cases l with
     |true=>go_wp2_with fail;go_ret;exact⟨rfl,HF.out _ _⟩
     |false=>go_wp2_with fail;refine(HD.out _).mono ?_;rintro e w1⟨rfl,rfl⟩;go_wp2_with fail;go_ret;exact⟨rfl,HF.out _ _⟩
   ·have d101:(n==101)=false:=beq_eq_false_iff_ne.2 h101
    rw[d101,Bool.true_and,Bool.false_or,Bool.true_and];clear h101;cases d with
    |true=>
     go_enter Tryz.func122,Tryz.ntmps122;go_wp2_with fail;refine(HD.out _).mono ?_;rintro e w1⟨rfl,rfl⟩;go_wp2_with fail;refine(HL.out _).mono ?_;rintro e w1⟨rfl,rfl⟩;cases l with
     |true=>go_wp2_with fail;go_ret;exact⟨rfl,HF.out _ _⟩
     |false=>go_wp2_with fail;refine(HD.out _).mono ?_;rintro e w1⟨rfl,rfl⟩;go_wp2_with fail;go_ret;exact⟨rfl,HF.out _ _⟩
    |false=>
     go_enter Tryz.func122,Tryz.ntmps122;go_wp2_with fail;refine(HD.out _).mono ?_;rintro e w1⟨rfl,rfl⟩;go_wp2_with fail;refine(HL.out _).mono ?_;rintro e w1⟨rfl,rfl⟩;cases l with
     |true=>go_wp2_with fail;go_ret;exact⟨rfl,HF.out _ _⟩
     |false=>go_wp2_with fail;refine(HD.out _).mono ?_;rintro e w1⟨rfl,rfl⟩;go_wp2_with fail;go_ret;exact⟨rfl,HF.out _ _⟩
theorem whileN_any(s:ByteArray)(p E P B:Nat)(w:World)(hE:Blk w E 4 #[.bool false])(hP:Blk w P 4 #[.bool true])(hne:E≠P)(hBE:B≤E)(hBP:B≤P)(hp:p≤s.size)(hs:s.size≤65536):
 Calls Tryz.prog 91 #[.string s,.int .i64 (p:Int),.func (.func 122) #[] #[.pointer (some ⟨E,0,none⟩),.pointer (some ⟨P,0,none⟩)]] w fun e w'=>e=.returned (.int .i64 ((p+numE true false (s.data.toList.drop p):Nat):Int))∧Below B w w':=by
 have HC:=hid (fun c q b W h1 h2=>numc_any B E P c q b W h1 h2 hne hBE hBP);have HD:=hid (drop_byte s);have HN:=hid (drop_none s);have HE:=hid hE;have HP:=hid hP;generalize hr:numE true false (s.data.toList.drop p)=r;have HR:=hid hr;clear hr hE hP hne hBE hBP;go_enter Tryz.func91,Tryz.ntmps91;go_wp2_with fail
 go_loopg [1] s.size (fun g s1 wx=>∃(j:Nat) (q b:Bool),p≤j∧j≤s.size∧s.size≤g+j∧s1=.int .i64 (j:Int)∧Hid (numE q b (s.data.toList.drop j)+j=p+r)∧Hid (Blk wx E 4 #[.bool b])∧Hid (Blk wx P 4 #[.bool q])∧Hid (Below B w wx))
 case atStart=>exact⟨p,true,false,Nat.le_refl _,hp,by omega,rfl,by show _=_;rw[HR.out];omega,HE,HP,Below.refl _ _⟩
 case round=>
  obtain⟨j,q,b,hpj,hj,hg,rfl,HJ,HXE,HXP,HM⟩:=hrel;by_cases hlt:j<s.size
  ·have d:decide (j<s.size)=true:=decide_eq_true hlt
   have HDJ:=HJ.out;rw[HD.out j hlt,numE_cons]at HDJ;have HCJ:=hid (HC.out s[j] q b _ HXE.out HXP.out);unfold NumP at HCJ;cases hw:numC b s[j]with
   |true=>
    rw[hw]at HDJ HCJ;simp only[if_true]at HDJ;generalize numP q s[j]=q2 at*
    generalize numB' q s[j]=b2 at*
    have HK:=hid (show numE q2 b2 (s.data.toList.drop (j+1))+(j+1)=p+r by omega);clear HDJ hw HJ;obtain⟨g,rfl⟩:∃g,gk=g+1:=⟨gk-1,by omega⟩
    go_wp2_with fail;refine(HCJ.out).mono ?_;rintro e w1⟨rfl,k1,k2,k3⟩;have HB1:=hid k1;have HB2:=hid k2;have HM2:=hid (HM.out.trans k3);clear k1 k2 k3;go_wp2_with fail
    go_roundg g
    case measure=>omega
    case rel=>exact⟨j+1,q2,b2,by omega,by omega,by omega,by go_num,HK,HB1,HB2,HM2⟩
   |false=>
    rw[hw]at HDJ HCJ;have hjr:j=p+r:=by simpa using HDJ
    have HX:=hid hjr;clear HDJ hw HJ hjr;go_wp2_with fail;refine(HCJ.out).mono ?_;rintro e w1⟨rfl,k1,k2,k3⟩;have HM2:=hid (HM.out.trans k3);clear k1 k2 k3;go_wp2_with fail;go_ret;exact⟨ret_nat HX.out,HM2.out⟩
  ·have d:decide (j<s.size)=false:=decide_eq_false hlt
   have HDJ:=HJ.out;rw[HN.out j (by omega),numE]at HDJ;have hjr:j=p+r:=by simpa using HDJ
   have HX:=hid hjr;clear HDJ HJ hjr;go_wp2_with fail;go_ret;exact⟨ret_nat HX.out,HM.out⟩
theorem numEnd_any(s:ByteArray)(p:Nat)(w:World)(hp:p≤s.size)(hs:s.size≤65536):
 Calls Tryz.prog 109 #[.string s,.int .i64 (p:Int)] w fun e w'=>e=.returned (.int .i64 ((p+numE true false (s.data.toList.drop p):Nat):Int))∧Below w.heap.size w w':=by
 have h1:Blk ((w.alloc (.cells #[.bool true] 4)).alloc (.cells #[.bool false] 4)) (w.heap.size+1) 4 #[.bool false]:=by have:=Blk.new (w.alloc (.cells #[.bool true] 4)) 4 #[.bool false];simpa using this
 have h2:Blk ((w.alloc (.cells #[.bool true] 4)).alloc (.cells #[.bool false] 4)) w.heap.size 4 #[.bool true]:=(Blk.new w 4 #[.bool true]).alloc _;have H:=hid (whileN_any s p (w.heap.size+1) w.heap.size w.heap.size _ h1 h2 (by omega) (by omega) (by omega) hp hs);have HB:=hid (((Below.refl w.heap.size w).alloc (Nat.le_refl _) (.cells #[.bool true] 4)).alloc (by simp) (.cells #[.bool false] 4));clear h1 h2;go_enter Tryz.func109,Tryz.ntmps109;go_wp2_with fail;refine(H.out).mono ?_;rintro e w1⟨rfl,hm⟩;have HM:=hid (HB.out.trans hm);clear hm;go_wp2_with fail;go_ret;exact⟨rfl,HM.out⟩
end Go.Proofs.YtmodehfedhgcbaaGreatDoor

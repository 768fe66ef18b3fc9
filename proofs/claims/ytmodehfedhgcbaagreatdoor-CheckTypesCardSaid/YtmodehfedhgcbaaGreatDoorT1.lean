import Derived.Test.YtmodehfedhgcbaaGreatDoorRows
import Derived.WalkKit
import Derived.WalkLawsBesides
import Derived.WalkSpells
import Derived.RegionTactic
import Derived.Deep.QuietTactic
import Derived.BigQuiet
import Derived.Deep.LoopGhost
import Derived.Lib.Hide
import Derived.Handy
import Derived.WalkMore
import Derived.Lib.ItoaNum
import Derived.Lib.IndexBytes
import Derived.Laws.RangeAny
import Derived.Laws.RangeString
set_option linter.unusedVariables false
set_option maxHeartbeats 1000000
namespace Go.Proofs.YtmodehfedhgcbaaGreatDoor.Sp
open Go.RowKit
open Lib (hid)
def isD(b:UInt8):Bool:=decide (48≤b.toNat)&&decide (b.toNat≤57)
def isL(b:UInt8):Bool:= !isD b
abbrev M:Nat:=35184372088832
def stepN(n:Nat)(b:UInt8):Nat:=min (10*n+(b.toNat-48)) 35184372088833
def digs(l:List UInt8):List UInt8:=l.takeWhile isD
def rest(l:List UInt8):List UInt8:=l.dropWhile isD
def numN(l:List UInt8):Nat:=(digs l).foldl stepN 0
def lets(l:List UInt8):List UInt8:=l.takeWhile isL
def tail(l:List UInt8):List UInt8:=l.dropWhile isL
def names:List (List UInt8):=[[121],[119],[100],[104],[109],[115],[109,115]]
def sizes:List Nat:=[31536000000,604800000,86400000,3600000,60000,1000,1]
def nameAt(k:Nat):List UInt8:=names.getD k []
def sizeAt(k:Nat):Nat:=sizes.getD k 1
def findGo(nm:List UInt8):Nat→Nat→Nat
 |0,_=>7
 |f+1,k=>if nameAt k=nm then k else findGo nm f (k+1)
def findF(nm:List UInt8)(from_:Nat):Nat:=findGo nm (7-from_) from_
def parseL:Nat→List UInt8→Nat→Nat→Option Nat
 |0,l,_,sum=>if l=[]then some sum else none
 |f+1,l,from_,sum=>
  if l=[]then some sum
  else if(rest l).length=l.length∨findF (lets (rest l)) from_=7∨M/sizeAt (findF (lets (rest l)) from_)<numN l then none
  else if M<sum+numN l*sizeAt (findF (lets (rest l)) from_)then none
  else parseL f (tail (rest l)) (findF (lets (rest l)) from_+1) (sum+numN l*sizeAt (findF (lets (rest l)) from_))
def parseP(l:List UInt8)(from_ sum:Nat):Option Nat:=parseL l.length l from_ sum
def spanF(l:List UInt8):Option Nat:=if l.length=0∨200<l.length then none else parseP l 0 0
theorem drop_len{p:UInt8→Bool}:∀l:List UInt8,(l.dropWhile p).length≤l.length
 |[]=>by simp
 |b::l=>by
  rw[List.dropWhile_cons];split
  ·have:=drop_len (p:=p) l;simp;omega
  ·simp
theorem tail_len(l:List UInt8):(tail l).length≤l.length:=drop_len l
theorem rest_len(l:List UInt8):(rest l).length≤l.length:=drop_len l
theorem parseL_fuel:∀(f g:Nat) (l:List UInt8) (from_ sum:Nat),l.length≤f→l.length≤g→parseL f l from_ sum=parseL g l from_ sum
 |0,0,_,_,_,_,_=>rfl
 |0,g+1,l,_,_,h,_=>by have:l=[]:=List.length_eq_zero_iff.1 (by omega);subst this;rfl
 |f+1,0,l,_,_,_,h=>by have:l=[]:=List.length_eq_zero_iff.1 (by omega);subst this;rfl
 |f+1,g+1,l,from_,sum,h1,h2=>by
  unfold parseL;by_cases h0:l=[]
  ·rw[if_pos h0,if_pos h0]
  rw[if_neg h0,if_neg h0];by_cases h3:(rest l).length=l.length∨findF (lets (rest l)) from_=7∨M/sizeAt (findF (lets (rest l)) from_)<numN l
  ·rw[if_pos h3,if_pos h3]
  rw[if_neg h3,if_neg h3];by_cases h4:M<sum+numN l*sizeAt (findF (lets (rest l)) from_)
  ·rw[if_pos h4,if_pos h4]
  rw[if_neg h4,if_neg h4];have e1:=rest_len l;have e2:=tail_len (rest l);have e3:(rest l).length≠l.length:=fun e=>h3 (.inl e);exact parseL_fuel f g _ _ _ (by omega) (by omega)
theorem parse_nil(from_ sum:Nat):parseP [] from_ sum=some sum:=rfl
theorem parse_bad{l:List UInt8}{from_ sum:Nat}(h0:l≠[])(h3:(rest l).length=l.length∨findF (lets (rest l)) from_=7∨M/sizeAt (findF (lets (rest l)) from_)<numN l):parseP l from_ sum=none:=by
 unfold parseP;cases hl:l.length with
 |zero=>exact absurd (List.length_eq_zero_iff.1 hl) h0
 |succ f=>rw[parseL,if_neg h0,if_pos h3]
theorem parse_much{l:List UInt8}{from_ sum:Nat}(h0:l≠[])(h3:¬((rest l).length=l.length∨findF (lets (rest l)) from_=7∨M/sizeAt (findF (lets (rest l)) from_)<numN l))
 (h4:M<sum+numN l*sizeAt (findF (lets (rest l)) from_)):parseP l from_ sum=none:=by
 unfold parseP;cases hl:l.length with
 |zero=>exact absurd (List.length_eq_zero_iff.1 hl) h0
 |succ f=>rw[parseL,if_neg h0,if_neg h3,if_pos h4]
theorem parse_next{l:List UInt8}{from_ sum:Nat}(h0:l≠[])(h3:¬((rest l).length=l.length∨findF (lets (rest l)) from_=7∨M/sizeAt (findF (lets (rest l)) from_)<numN l))
 (h4:¬M<sum+numN l*sizeAt (findF (lets (rest l)) from_)):
 parseP l from_ sum=parseP (tail (rest l)) (findF (lets (rest l)) from_+1) (sum+numN l*sizeAt (findF (lets (rest l)) from_)):=by
 unfold parseP;cases hl:l.length with
 |zero=>exact absurd (List.length_eq_zero_iff.1 hl) h0
 |succ f=>rw[parseL,if_neg h0,if_neg h3,if_neg h4];have e1:=rest_len l;have e2:=tail_len (rest l);have e3:(rest l).length≠l.length:=fun e=>h3 (.inl e);exact parseL_fuel _ _ _ _ _ (by omega) (by omega)
theorem takeWhile_all{p:UInt8→Bool}:∀{a b:List UInt8},(∀x∈a,p x=true)→(∀y,b.head? =some y→p y=false)→(a++b).takeWhile p=a∧(a++b).dropWhile p=b
 |[],[],_,_=>⟨rfl,rfl⟩
 |[],y::b,_,h=>by have:=h y rfl;exact⟨by rw[List.nil_append,List.takeWhile_cons,this];rfl,by rw[List.nil_append,List.dropWhile_cons,this];rfl⟩
 |x::a,b,h,h'=>by have hx:=h x (by simp);have ih:=takeWhile_all (a:=a) (b:=b) (fun z hz=>h z (by simp[hz])) h';simp only[List.cons_append,List.takeWhile_cons,List.dropWhile_cons,hx,if_true];exact⟨by rw[ih.1],ih.2⟩
theorem takeWhile_cut{p:UInt8→Bool}{l:List UInt8}{k:Nat}(hk:k≤l.length)(h:∀i (hi:i<l.length),i<k→p l[i]=true)(h':∀(hi:k<l.length),p l[k]=false):l.takeWhile p=l.take k∧l.dropWhile p=l.drop k:=by
 have:=takeWhile_all (p:=p) (a:=l.take k) (b:=l.drop k) (fun x hx=>by
  obtain⟨i,hi,rfl⟩:=List.getElem_of_mem hx;rw[List.getElem_take];have:i<k∧i<l.length:=by simp at hi;omega
  exact h i this.2 this.1) (fun y hy=>by
  rw[List.head?_drop]at hy;obtain⟨hi,rfl⟩:=List.getElem?_eq_some_iff.1 hy;exact h' hi)
 rw[List.take_append_drop]at this;exact this
theorem sizes_pos:∀k,k<7→0<sizeAt k:=by decide
theorem findGo_le(nm:List UInt8):∀f k,k+f=7→findGo nm f k≤7
 |0,_,_=>Nat.le_refl _
 |f+1,k,h=>by
  unfold findGo;split
  ·omega
  ·exact findGo_le nm f (k+1) (by omega)
theorem findGo_ge(nm:List UInt8):∀f k,k+f=7→k≤findGo nm f k
 |0,_,h=>by unfold findGo;omega
 |f+1,k,h=>by
  unfold findGo;split
  ·omega
  ·have:=findGo_ge nm f (k+1) (by omega);omega
def numTo(l:List UInt8)(k:Nat):Nat:=(l.take k).foldl stepN 0
def AllD(l:List UInt8)(k:Nat):Prop:=∀i (hi:i<l.length),i<k→isD l[i]=true
theorem numTo_zero(l:List UInt8):numTo l 0=0:=rfl
theorem allD_zero(l:List UInt8):AllD l 0:=fun _ _ h=>absurd h (Nat.not_lt_zero _)
theorem stepN_le(n:Nat)(b:UInt8):stepN n b≤35184372088833:=by unfold stepN;omega
theorem numTo_succ(l:List UInt8)(k:Nat)(h:k<l.length):numTo l (k+1)=stepN (numTo l k) l[k]:=by unfold numTo;rw[List.take_succ_eq_append_getElem h,List.foldl_append];rfl
theorem numTo_le(l:List UInt8)(k:Nat):numTo l k≤35184372088833:=by
 induction k with
 |zero=>simp[numTo]
 |succ k ih=>
  by_cases h:k<l.length
  ·rw[numTo_succ l k h];exact stepN_le _ _
  ·unfold numTo at*
   rw[List.take_of_length_le (by omega)]at*
   exact ih
theorem allD_succ{l:List UInt8}{k:Nat}(h:AllD l k)(hk:k<l.length)(hd:isD l[k]=true):AllD l (k+1):=by
 intro i hi hik;by_cases e:i=k
 ·subst e;exact hd
 ·exact h i hi (by omega)
theorem isD_iff(b:UInt8):isD b=true↔48≤b.toNat∧b.toNat≤57:=by simp[isD]
theorem num_end{l:List UInt8}{k:Nat}(hk:k≤l.length)(h:AllD l k)(h':∀(hi:k<l.length),isD l[k]=false):numTo l k=numN l∧l.drop k=rest l:=by
 obtain⟨h1,h2⟩:=takeWhile_cut hk h h';unfold numTo numN digs rest
 rw[h1,h2];exact⟨rfl,rfl⟩
theorem data_at(s:ByteArray)(k:Nat)(h:k<s.size)(h':k<s.data.toList.length):s.data.toList[k]=s[k]:=by have:=Lib.data_getElem? s k h;rw[List.getElem?_eq_getElem h']at this;exact Option.some.inj this
theorem str_ext{a:ByteArray}{l:List UInt8}(h:a.data.toList=l):a=⟨l.toArray⟩:=by subst h;rfl
theorem step_int(n:Nat)(b:UInt8)(h:(48:Int)≤(b.toNat:Int)):(if(35184372088833:Int)<10*(n:Int)+((b.toNat:Int)-48)then(35184372088833:Int)else 10*(n:Int)+((b.toNat:Int)-48))=((stepN n b:Nat):Int):=by unfold stepN;split<;>omega
theorem number_any(s:ByteArray)(w:World)(hs:s.size≤65536):
 Calls Tryz.prog 126 #[.string s] w fun e w'=>e=.returned (.tuple #[.int .i64 (numN s.data.toList),.string ⟨(rest s.data.toList).toArray⟩])∧∃q,w'=w.drewN q:=by
 have hlen:=Lib.size_eq s;have HLEN:=hid hlen;clear hlen;go_enter Tryz.func126,Tryz.ntmps126;go_wp2
 go_step3
 go_wp2
 go_step3
 go_wp2
 go_loop [4,5] (fun n i=>∃k:Nat,k≤s.size∧i=.int .i64 k∧n=.int .i64 (numTo s.data.toList k)∧Hid (AllD s.data.toList k)) (fun _ i=>s.size-(intOf i).toNat)
 case atStart=>exact⟨0,Nat.zero_le _,rfl,by rw[numTo_zero];rfl,allD_zero _⟩
 case round=>
  obtain⟨k,hk,rfl,rfl,HA⟩:=hrel;have hle:=numTo_le s.data.toList k;by_cases hlt:k<s.size
  ·have hkl:k<s.data.toList.length:=by rw[←HLEN.out];exact hlt
   have hx:=data_at s k hlt hkl;have HSU:=hid (numTo_succ s.data.toList k hkl);have HAS:=hid (@allD_succ s.data.toList k HA.out hkl);have HEND:=hid (@num_end s.data.toList k (by omega) HA.out);have HDR:=hid (fun(h:numTo s.data.toList k=numN s.data.toList∧s.data.toList.drop k=rest s.data.toList)=>str_ext ((Lib.extract_to_end s k).trans h.2));rw[hx]at HSU HAS;have HX:=hid hx;clear hx;cases hd:isD s[k]with
   |true=>
    have hd':=(isD_iff _).1 hd;have b1:(48:Int)≤(s[k].toNat:Int):=by omega
    have b2:(s[k].toNat:Int)≤57:=by omega
    have d1:decide ((s[k].toNat:Int)<48)=false:=by simp;omega
    have d2:decide ((57:Int)<(s[k].toNat:Int))=false:=by simp;omega
    have HS:Hid (AllD s.data.toList (k+1)):=HAS.out hd;clear hd hd';generalize numTo s.data.toList k=n at*
    go_wp2
    go_round
    case rel=>exact⟨k+1,by omega,by go_num,by rw[HSU.out];exact congrArg _ (step_int n s[k] b1),HS⟩
    case measure=>simp[intOf];omega
   |false=>
    have HE:=hid (HEND.out (fun _=>by rw[HX.out];exact hd));have hd':¬(48≤s[k].toNat∧s[k].toNat≤57):=fun h=>by rw[(isD_iff _).2 h]at hd;cases hd
    have HEX:=hid (HDR.out HE.out);have HE1:=hid HE.out.1;have hb:=s[k].toNat_lt;clear hd hle;generalize numTo s.data.toList k=n at*
    by_cases h1:s[k].toNat<48
    ·have d1:decide ((s[k].toNat:Int)<48)=true:=by simp;omega
     have d1':(s[k].toNat:Int)<48:=by omega
     clear hd';go_wp2
     go_quiet (fail)
     go_wp2;try rw[Exit.noGoto_ret]
     go_ret2
     exact⟨by rw[HE1.out,HEX.out];rfl,_,rfl⟩
    ·have d1:decide ((s[k].toNat:Int)<48)=false:=by simp;omega
     have d2:decide ((57:Int)<(s[k].toNat:Int))=true:=by simp;omega
     have d2':(57:Int)<(s[k].toNat:Int):=by omega
     clear hd';go_wp2
     go_quiet (fail)
     go_wp2;try rw[Exit.noGoto_ret]
     go_ret2
     exact⟨by rw[HE1.out,HEX.out];rfl,_,rfl⟩
  ·have hke:k=s.size:=by omega
   have HE:=hid (@num_end s.data.toList k (by rw[←HLEN.out];omega) HA.out (fun h=>by rw[←HLEN.out]at h;omega));have HEX:=hid (str_ext ((Lib.extract_to_end s k).trans HE.out.2));have HE1:=hid HE.out.1;have d:decide (k<s.size)=false:=by simpa using hlt
   clear hke hle;generalize numTo s.data.toList k=n at*
   go_wp2
   go_quiet (fail)
   go_wp2;try rw[Exit.noGoto_ret]
   go_ret2
   exact⟨by rw[HE1.out,HEX.out];rfl,_,rfl⟩
def Units(w:World):Prop:=∀k,k<7→w.cell? ⟨4,k*2,none⟩=some (.string ⟨(nameAt k).toArray⟩)∧w.cell? ⟨4,k*2+1,none⟩=some (.int .i64 (sizeAt k:Nat))
def NoneTo(nm:List UInt8)(a k:Nat):Prop:=∀i,a≤i→i<k→nameAt i≠nm
theorem findGo_none{nm:List UInt8}:∀(f k:Nat),k+f=7→NoneTo nm k 7→findGo nm f k=7
 |0,_,_,_=>rfl
 |f+1,k,h,hn=>by unfold findGo;rw[if_neg (hn k (Nat.le_refl _) (by omega))];exact findGo_none f (k+1) (by omega) fun i h1 h2=>hn i (by omega) h2
theorem findGo_at{nm:List UInt8}:∀(f k j:Nat),k+f=7→k≤j→j<7→NoneTo nm k j→nameAt j=nm→findGo nm f k=j
 |0,_,_,_,_,_,_,_=>by omega
 |f+1,k,j,h,h1,h2,hn,he=>by
  unfold findGo;by_cases e:k=j
  ·subst e;rw[if_pos he]
  ·rw[if_neg (hn k (Nat.le_refl _) (by omega))]
   exact findGo_at f (k+1) j (by omega) (by omega) h2 (fun i a b=>hn i (by omega) b) he
theorem find_any(nm:ByteArray)(a:Nat)(w:World)(hU:Units w)(ha:a≤7):
 Calls Tryz.prog 128 #[.string nm,.int .i64 a] w fun e w'=>e=.returned (.int .i64 (findF nm.data.toList a))∧w=w':=by
 have HU:=hid hU;clear hU;generalize hr:findF nm.data.toList a=r;have HR:=hid hr;clear hr;go_enter Tryz.func128,Tryz.ntmps128;go_wp2
 go_loop [5] (fun i=>∃k:Nat,a≤k∧k≤7∧i=.int .i64 k∧Hid (NoneTo nm.data.toList a k)) (fun i=>7-(intOf i).toNat)
 case atStart=>exact⟨a,Nat.le_refl _,ha,rfl,fun i h1 h2=>absurd h2 (by omega)⟩
 case round=>
  obtain⟨k,hak,hk,rfl,HN⟩:=hrel;by_cases hlt:k<7
  ·have hc:=(HU.out k hlt).1
   by_cases he:nameAt k=nm.data.toList
   ·have hf:findF nm.data.toList a=k:=findGo_at _ _ k (by omega) hak hlt HN.out he
    obtain rfl:r=k:=by rw[←HR.out];exact hf
    have e1:(({data:=(nameAt r).toArray}:ByteArray).toList==nm.toList)=true:=by rw[Lib.toList_data,Lib.toList_data];simp[he]
    have HE:=hid he;clear he hf HR;generalize (nameAt r).toArray=q at*
    go_wp2;go_ret;exact⟨rfl,rfl⟩
   ·have e1:(({data:=(nameAt k).toArray}:ByteArray).toList==nm.toList)=false:=by rw[Lib.toList_data,Lib.toList_data];simp[he]
    have HS:Hid (NoneTo nm.data.toList a (k+1)):=fun i h1 h2=>by
     by_cases e:i=k
     ·subst e;exact he
     ·exact HN.out i h1 (by omega)
    clear he;generalize (nameAt k).toArray=q at*
    go_wp2
    go_round
    case rel=>exact⟨k+1,by omega,by omega,by go_num,HS⟩
    case measure=>simp[intOf];omega
  ·have hf:findF nm.data.toList a=7:=findGo_none _ _ (by omega) (by have:=HN.out;rwa[show k=7 by omega]at this)
   obtain rfl:r=7:=by rw[←HR.out];exact hf
   clear hf HR;go_wp2;go_ret;exact⟨rfl,rfl⟩
end Go.Proofs.YtmodehfedhgcbaaGreatDoor.Sp

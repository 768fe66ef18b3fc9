/- Lemmas. No condition. -/
import Derived.Lib.ValidU
namespace Go.Proofs.YtmodehfedhgcbaaGreatDoor.Lx
open Go
def isD(c:UInt8):Bool:=decide (48≤c.toNat)&&decide (c.toNat≤57)
def isL(c:UInt8):Bool:=(decide (97≤c.toNat)&&decide (c.toNat≤122))||(decide (65≤c.toNat)&&decide (c.toNat≤90))||c==95||c==58
def isW(c:UInt8):Bool:=isL c||isD c
def isB(c:UInt8):Bool:=c==32||c==9||c==10||c==13
def rem1(r:Bool)(c:UInt8):Bool:=c==35||(r&&c != 10)
def blankN:Bool→List UInt8→Nat
 |_,[]=>0
 |r,c::l=>if(rem1 r c||isB c)=true then 1+blankN (rem1 r c) l else 0
def numE:Bool→Bool→List UInt8→Nat
 |_,_,[]=>0
 |p,b,c::l=>
  if c=43∨c=45 then(if b=true then 1+numE p false l else 0)
  else if(isL c||isD c||c==46)=true then 1+numE (p&&(isD c||c==46)) (p&&(c==101||c==69)) l else 0
def quoteL:List UInt8→Nat→List UInt8→Option (List UInt8×Nat)
 |_,_,[]=>none
 |acc,n,c::l=>
  if c=34 then(if Lib.validD acc=true then some (acc,n+1)else none)
  else if c=10 then none
  else if c=92 then
   match l with
   |[]=>none
   |d::l'=>if d=34∨d=92 then quoteL (acc++[d]) (n+2) l' else if d=110 then quoteL (acc++[10]) (n+2) l' else none
  else quoteL (acc++[c]) (n+1) l
theorem quoteL_cons(acc:List UInt8)(n:Nat)(c:UInt8)(l:List UInt8):quoteL acc n (c::l)=
 if c=34 then(if Lib.validD acc=true then some (acc,n+1)else none)
 else if c=10 then none
 else if c=92 then
  match l with
  |[]=>none
  |d::l'=>if d=34∨d=92 then quoteL (acc++[d]) (n+2) l' else if d=110 then quoteL (acc++[10]) (n+2) l' else none
 else quoteL (acc++[c]) (n+1) l:=by rw[quoteL.eq_def]
def dbl(c d:UInt8):Bool:=(c==61&&d==61)||(c==33&&d==61)||(c==61&&d==126)||(c==33&&d==126)||(c==62&&d==61)||(c==60&&d==61)
def signs:List UInt8:=[61,62,60,43,45,42,47,37,64,40,41,123,125,91,93,44]
def sgn1(c:UInt8):Bool:=signs.contains c
def signN:List UInt8→Nat
 |[]=>0
 |[c]=>if sgn1 c=true then 1 else 0
 |c::d::_=>if dbl c d=true then 2 else if sgn1 c=true then 1 else 0
def numHead:List UInt8→Bool
 |[]=>false
 |[c]=>isD c
 |c::d::_=>isD c||(c==46&&isD d)
section
variable (numB spanB:List UInt8→Bool)
def tokF:List UInt8→Option (Nat×List UInt8×Nat)
 |[]=>none
 |c::r=>
  if isL c=true then some (1,(c::r).takeWhile isW,((c::r).takeWhile isW).length)
  else if numHead (c::r)=true then
   (if numB ((c::r).take (numE true false (c::r)))=true then some (2,(c::r).take (numE true false (c::r)),numE true false (c::r))
   else if spanB ((c::r).take (numE true false (c::r)))=true then some (3,(c::r).take (numE true false (c::r)),numE true false (c::r))else none)
  else if c=34 then(quoteL [] 1 r).map fun q=>(4,q.1,q.2)
  else if signN (c::r)=0 then none else some (5,(c::r).take (signN (c::r)),signN (c::r))
abbrev Tk:=Nat×Nat×List UInt8
def lexGo:Nat→List UInt8→Nat→Except Nat (List Tk)
 |0,_,_=>.ok []
 |f+1,l,at_=>
  if l.drop (blankN false l)=[]then .ok []
  else match tokF numB spanB (l.drop (blankN false l))with
   |none=>.error (at_+blankN false l)
   |some (k,t,n)=>match lexGo f ((l.drop (blankN false l)).drop n) (at_+blankN false l+n)with
    |.error e=>.error e
    |.ok ts=>.ok ((k,at_+blankN false l,t)::ts)
def lexS(l:List UInt8)(at_:Nat):Except Nat (List Tk):=lexGo numB spanB (l.length+1) l at_
theorem blankN_le:∀(r:Bool) (l:List UInt8),blankN r l≤l.length
 |_,[]=>Nat.le_refl _
 |r,c::l=>by
  unfold blankN;split
  ·have:=blankN_le (rem1 r c) l;simp;omega
  ·omega
theorem numE_le:∀(p b:Bool) (l:List UInt8),numE p b l≤l.length
 |_,_,[]=>Nat.le_refl _
 |p,b,c::l=>by
  unfold numE;split
  ·split
   ·have:=numE_le p false l;simp;omega
   ·omega
  ·split
   ·have:=numE_le (p&&(isD c||c==46)) (p&&(c==101||c==69)) l;simp;omega
   ·omega
theorem numE_pos{l:List UInt8}(h:numHead l=true):1≤numE true false l:=by
 have hd:∀c:UInt8,(isD c||c==46)=true→¬(c=43∨c=45)∧(isL c||isD c||c==46)=true:=by intro c hc;refine⟨?_,by cases h1:isL c<;>simp_all⟩;rintro(rfl|rfl)<;>revert hc<;>decide
 have key:∀c l,(isD c||c==46)=true→1≤numE true false (c::l):=by intro c l hc;obtain⟨h1,h2⟩:=hd c hc;unfold numE;rw[if_neg h1,if_pos h2];omega
 match l,h with
 |[c],h=>exact key c [] (by have h:isD c=true:=h;rw[h];rfl)
 |c::d::r,h=>exact key c _ (by
   have h:(isD c||(c==46&&isD d))=true:=h;cases h1:isD c with
   |true=>rfl
   |false=>rw[h1]at h;simp at h⊢;exact h.1)
theorem quoteL_le:∀(acc:List UInt8) (n:Nat) (l:List UInt8) (t:List UInt8) (m:Nat),quoteL acc n l=some (t,m)→n+1≤m∧m≤n+l.length
 |_,_,[],_,_,h=>by unfold quoteL at h;cases h
 |acc,n,c::l,t,m,h=>by
  unfold quoteL at h;split at h
  ·split at h
   ·cases h;simp
   ·cases h
  ·split at h
   ·cases h
   ·split at h
    ·match l,h with
     |[],h=>cases h
     |d::l',h=>
      simp only at h;split at h
      ·have:=quoteL_le _ _ l' t m h;simp;omega
      ·split at h
       ·have:=quoteL_le _ _ l' t m h;simp;omega
       ·cases h
    ·have:=quoteL_le _ _ l t m h;simp;omega
theorem signN_le:∀l:List UInt8,signN l≤l.length
 |[]=>Nat.le_refl _
 |[c]=>by show(if sgn1 c=true then 1 else 0)≤1;split<;>simp
 |c::d::r=>by
  show(if dbl c d=true then 2 else if sgn1 c=true then 1 else 0)≤r.length+1+1;split
  ·omega
  ·split<;>omega
theorem tok_len{l:List UInt8}{k:Nat}{t:List UInt8}{n:Nat}(h:tokF numB spanB l=some (k,t,n)):1≤n∧n≤l.length:=by
 match l,h with
 |c::r,h=>
  rw[tokF]at h;split at h
  ·rename_i hl
   cases h;refine⟨?_,(List.takeWhile_sublist _).length_le⟩;rw[List.takeWhile_cons,if_pos (by unfold isW;rw[hl];rfl)];simp
  ·split at h
   ·rename_i hn
    have h1:=numE_pos hn;have h2:=numE_le true false (c::r);split at h
    ·cases h;exact⟨h1,h2⟩
    ·split at h
     ·cases h;exact⟨h1,h2⟩
     ·cases h
   ·split at h
    ·cases hq:quoteL [] 1 r with
     |none=>rw[hq]at h;cases h
     |some q=>rw[hq]at h;cases h;have:=quoteL_le _ _ _ q.1 q.2 hq;simp;omega
    ·split at h
     ·cases h
     ·cases h;exact⟨by omega,signN_le _⟩
theorem lexGo_fuel:∀(f g:Nat) (l:List UInt8) (a:Nat),l.length<f→l.length<g→lexGo numB spanB f l a=lexGo numB spanB g l a
 |0,_,_,_,h,_=>absurd h (Nat.not_lt_zero _)
 |_,0,_,_,_,h=>absurd h (Nat.not_lt_zero _)
 |f+1,g+1,l,a,h1,h2=>by
  unfold lexGo;split
  ·rfl
  ·split
   ·rfl
   ·rename_i k t n ht
    have hl:=tok_len numB spanB ht;have hd:((l.drop (blankN false l)).drop n).length<l.length:=by simp at hl⊢;omega
    rw[lexGo_fuel f g _ _ (by omega) (by omega)]
theorem lexS_end{l:List UInt8}(h:l.drop (blankN false l)=[])(a:Nat):lexS numB spanB l a=.ok []:=by unfold lexS lexGo;rw[if_pos h]
theorem lexS_bad{l:List UInt8}(h:l.drop (blankN false l)≠[])(a:Nat)(h2:tokF numB spanB (l.drop (blankN false l))=none):lexS numB spanB l a=.error (a+blankN false l):=by unfold lexS lexGo;rw[if_neg h,h2]
def pre(ts:List Tk):Except Nat (List Tk)→Except Nat (List Tk)
 |.ok us=>.ok (ts++us)
 |.error e=>.error e
theorem pre_nil(r:Except Nat (List Tk)):pre [] r=r:=by cases r<;>rfl
theorem pre_pre(a b:List Tk)(r:Except Nat (List Tk)):pre a (pre b r)=pre (a++b) r:=by cases r<;>simp[pre]
theorem lexS_next{l:List UInt8}(a:Nat){k:Nat}{t:List UInt8}{n:Nat}(h2:tokF numB spanB (l.drop (blankN false l))=some (k,t,n)):
 lexS numB spanB l a=pre [(k,a+blankN false l,t)] (lexS numB spanB ((l.drop (blankN false l)).drop n) (a+blankN false l+n)):=by
 have h:l.drop (blankN false l)≠[]:=by intro e;rw[e]at h2;cases h2
 have hl:=tok_len numB spanB h2;unfold lexS
 conv=>lhs;unfold lexGo
 rw[if_neg h,h2];simp only;rw[lexGo_fuel numB spanB l.length (((l.drop (blankN false l)).drop n).length+1) _ _ (by simp at hl⊢;omega) (by omega)];split<;>(rename_i h;rw[h];rfl)
end
def stS:Bool→List UInt8→Option Bool
 |r,[]=>some r
 |r,c::g=>if(rem1 r c||isB c)=true then stS (rem1 r c) g else none
theorem blank_cut:∀(r:Bool) (l:List UInt8),∃r',stS r (l.take (blankN r l))=some r'∧∀c m,l.drop (blankN r l)=c::m→(rem1 r' c||isB c)=false
 |r,[]=>⟨r,rfl,fun c m h=>by cases h⟩
 |r,c::l=>by
  by_cases hc:(rem1 r c||isB c)=true
  ·obtain⟨r',h1,h2⟩:=blank_cut (rem1 r c) l
   refine⟨r',?_,?_⟩
   ·rw[blankN,if_pos hc,Nat.add_comm,List.take_succ_cons,stS,if_pos hc,h1]
   ·rw[blankN,if_pos hc,Nat.add_comm,List.drop_succ_cons];exact h2
  ·refine⟨r,?_,?_⟩
   ·rw[blankN,if_neg hc];rfl
   ·rw[blankN,if_neg hc]
    intro d m h;cases h;simpa using hc
theorem shut_of{r:Bool}{c:UInt8}(h:(rem1 r c||isB c)=false):r=false:=by
 cases r with
 |false=>rfl
 |true=>
  exfalso;by_cases h10:c=10
  ·subst h10;revert h;decide
  ·have:rem1 true c=true:=by unfold rem1;simp[h10]
   rw[this]at h;cases h
def Ends(y y':List UInt8):Prop:=y'.head? =y.head? ∨∃c r,y'=c::r∧isB c=true
section
variable (numB spanB:List UInt8→Bool)
theorem lexS_cons{l:List UInt8}{a k a2:Nat}{t:List UInt8}{ts:List Tk}(h:lexS numB spanB l a=.ok ((k,a2,t)::ts)):
 ∃g x y,l=g++(x++y)∧stS false g=some false∧a2=a+g.length∧tokF numB spanB (x++y)=some (k,t,x.length)∧lexS numB spanB y (a2+x.length)=.ok ts:=by
 by_cases h0:l.drop (blankN false l)=[]
 ·rw[lexS_end numB spanB h0]at h;cases h
 ·cases ht:tokF numB spanB (l.drop (blankN false l))with
  |none=>rw[lexS_bad numB spanB h0 _ ht]at h;cases h
  |some q=>
   obtain⟨k',t',n⟩:=q;rw[lexS_next numB spanB _ ht]at h;have hl:=tok_len numB spanB ht;cases hr:lexS numB spanB ((l.drop (blankN false l)).drop n) (a+blankN false l+n)with
   |error e=>rw[hr]at h;cases h
   |ok us=>
    rw[hr]at h;simp only[pre,List.cons_append,List.nil_append,Except.ok.injEq,List.cons.injEq,Prod.mk.injEq]at h;obtain⟨⟨rfl,rfl,rfl⟩,rfl⟩:=h;have hle:=blankN_le false l;obtain⟨r,h1,h2⟩:=blank_cut false l;obtain⟨c,m,hm⟩:=List.exists_cons_of_ne_nil h0;have hr0:=shut_of (h2 c m hm);subst hr0;have hx:((l.drop (blankN false l)).take n).length=n:=by rw[List.length_take];omega
    refine⟨l.take (blankN false l),(l.drop (blankN false l)).take n,(l.drop (blankN false l)).drop n,?_,h1,?_,?_,?_⟩
    ·rw[List.take_append_drop,List.take_append_drop]
    ·rw[List.length_take];omega
    ·rw[List.take_append_drop,hx];exact ht
    ·rw[hx];exact hr
end
section
variable (numB spanB:List UInt8→Bool)
def shiftT(d:Nat)(ts:List Tk):List Tk:=ts.map fun q=>(q.1,q.2.1+d,q.2.2)
theorem tok_head{l:List UInt8}{k:Nat}{t:List UInt8}{n:Nat}(h:tokF numB spanB l=some (k,t,n)):blankN false l=0:=by
 match l,h with
 |[],_=>rfl
 |c::r,h=>
  rw[blankN];by_cases hc:(rem1 false c||isB c)=true
  ·exfalso
   have hc:c=35∨((c=32∨c=9)∨c=10)∨c=13:=by simpa[rem1,isB]using hc
   have h1:isL c=false∧isD c=false∧c≠46∧c≠34∧sgn1 c=false∧c≠61∧c≠33∧c≠62∧c≠60:=by rcases hc with rfl|((rfl|rfl)|rfl)|rfl<;>decide
   obtain⟨a1,a2,a3,a4,a5,a6,a7,a8,a9⟩:=h1;have hn:numHead (c::r)=false:=by
    cases r with
    |nil=>exact a2
    |cons d r=>show(isD c||(c==46&&isD d))=false;rw[a2];simp[a3]
   have hs:signN (c::r)=0:=by
    cases r with
    |nil=>rw[signN,a5];rfl
    |cons d r=>rw[signN,a5,if_neg (by unfold dbl;simp[a6,a7,a8,a9])];rfl
   rw[tokF,if_neg (by rw[a1];decide),if_neg (by rw[hn];decide),if_neg a4,if_pos hs]at h;cases h
  ·rw[if_neg hc]
def sep(i:Nat):List UInt8:=if i% 4=0 then[32]else if i% 4=1 then[10]else if i% 4=2 then[9]else[32,10,35,120,10]
def insF:List UInt8→Nat→Nat→List Tk→List UInt8
 |l,_,_,[]=>l++[10,35]
 |l,p,i,(_,a,_)::ts=>l.take (a-p)++(sep i++insF (l.drop (a-p)) a (i+1) ts)
inductive Moves:List Tk→List Tk→Prop
 |nil:Moves [] []
 |cons {k a b:Nat} {t:List UInt8} {ts us:List Tk}:a≤b→Moves ts us→Moves ((k,a,t)::ts) ((k,b,t)::us)
end
section
variable (numB spanB:List UInt8→Bool)
theorem lexS_tok0{l:List UInt8}{k:Nat}{t:List UInt8}{n:Nat}(h2:tokF numB spanB l=some (k,t,n))(a:Nat):lexS numB spanB l a=pre [(k,a,t)] (lexS numB spanB (l.drop n) (a+n)):=by have hb:=tok_head numB spanB h2;have:=lexS_next numB spanB (l:=l) a (k:=k) (t:=t) (n:=n) (by rw[hb];exact h2);rwa[hb]at this
end
def numC(b:Bool)(c:UInt8):Bool:=if c=43∨c=45 then b else(isL c||isD c||c==46)
def numP(p:Bool)(c:UInt8):Bool:=if c=43∨c=45 then p else(p&&(isD c||c==46))
def numB'(p:Bool)(c:UInt8):Bool:=if c=43∨c=45 then false else(p&&(c==101||c==69))
theorem numE_cons(p b:Bool)(c:UInt8)(l:List UInt8):numE p b (c::l)=if numC b c=true then 1+numE (numP p c) (numB' p c) l else 0:=by rw[numE];unfold numC numP numB';split<;>rfl
end Go.Proofs.YtmodehfedhgcbaaGreatDoor.Lx

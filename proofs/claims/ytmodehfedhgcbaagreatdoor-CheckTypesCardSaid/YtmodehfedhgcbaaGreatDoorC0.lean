/- Plain facts on floats of 64 bits: what is no NaN stays none under products, quotients and a change of sign. No condition. -/
import Derived.Laws.FloatArith
set_option linter.unusedVariables false
namespace Go.Proofs.YtmodehfedhgcbaaGreatDoor.Fl
open Ieee
theorem bin:double.binade=4503599627370496:=by decide
theorem infr:double.infRung=9218868437227405312:=by decide
theorem sgnw:double.signWeight=9223372036854775808:=by decide
theorem lp:double.leastPlace= -1074:=by decide
theorem word_f(r:Nat):double.word false r=r:=rfl
theorem word_t(r:Nat):double.word true r=9223372036854775808+r:=by unfold Format.word;rw[sgnw];rfl
def magOf(r:Nat):Nat:=if r<4503599627370496 then r else 4503599627370496+r% 4503599627370496
def plcOf(r:Nat):Nat:=if r<4503599627370496 then 0 else r/4503599627370496-1
theorem read_rung(s:Bool)(r:Nat)(h:r<9218868437227405312):double.read (double.word s r)=.number s (magOf r) ((plcOf r:Int)-1074):=by
 have hw:double.word s r/9223372036854775808% 2=s.toNat∧double.word s r% 9223372036854775808=r:=by
  cases s
  ·rw[word_f];simp only[Bool.toNat_false];omega
  ·rw[word_t];simp only[Bool.toNat_true];omega
 unfold Format.read;rw[sgnw,bin,infr,lp,hw.1,hw.2];have hs:(s.toNat==1)=s:=by cases s<;>rfl
 rw[hs];unfold magOf plcOf;by_cases h1:r<4503599627370496
 ·simp only[if_pos h1];rfl
 ·simp only[if_neg h1,if_pos h]
  congr 1
theorem read_inf(s:Bool):double.read (double.word s 9218868437227405312)=.infinity s:=by cases s<;>decide
def Pl(x:Nat):Prop:=∃s r,r≤9218868437227405312∧x=double.word s r
theorem word_pl(s:Bool)(r:Nat)(h:r≤9218868437227405312):Pl (double.word s r):=⟨s,r,h,rfl⟩
theorem write_num(s:Bool)(m:Nat)(p:Int):Pl (double.write (.number s m p)):=by
 unfold Format.write Format.nearest;simp only;split
 ·exact word_pl _ _ (by omega)
 ·rw[infr];exact word_pl _ _ (Nat.min_le_right _ _)
theorem write_inf(s:Bool):Pl (double.write (.infinity s)):=by unfold Format.write;simp only;rw[infr];exact word_pl _ _ (Nat.le_refl _)
theorem pl_some{x:Nat}(h:Pl x):(∃s m p,double.read x=.number s m p)∨(∃s,double.read x=.infinity s):=by
 obtain⟨s,r,hr,rfl⟩:=h;by_cases e:r=9218868437227405312
 ·subst e;exact .inr ⟨s,read_inf s⟩
 ·exact .inl ⟨s,_,_,read_rung s r (by omega)⟩
theorem pos_read{y:Nat}(h0:0<y)(h1:y<9218868437227405312):∃m p,m≠0∧double.read y=.number false m p:=by have e:=read_rung false y h1;rw[word_f]at e;refine⟨_,_,?_,e⟩;unfold magOf;split<;>omega
theorem mul_pl{x y:Nat}(hx:Pl x)(h0:0<y)(h1:y<9218868437227405312):∃z,double.mul x y=some z∧Pl z:=by
 obtain⟨n,q,hn,ey⟩:=pos_read h0 h1;unfold Format.mul;rw[ey];rcases pl_some hx with ⟨s,m,p,e⟩|⟨s,e⟩
 ·rw[e];exact⟨_,rfl,write_num _ _ _⟩
 ·rw[e]
  unfold Datum.product;simp only[if_neg hn];exact⟨_,rfl,write_inf _⟩
theorem div_pl{x y:Nat}(hx:Pl x)(h0:0<y)(h1:y<9218868437227405312):∃z,double.div x y=some z∧Pl z:=by
 obtain⟨n,q,hn,ey⟩:=pos_read h0 h1;unfold Format.div;rw[ey];rcases pl_some hx with ⟨s,m,p,e⟩|⟨s,e⟩
 ·rw[e]
  unfold Datum.quotient;simp only[if_neg hn];exact⟨_,rfl,write_num _ _ _⟩
 ·rw[e]
  exact⟨_,rfl,write_inf _⟩
theorem of_int(n:Int):Pl (Go.floatOfInt .f64 n):=write_num _ _ _
theorem neg_pl{x:Nat}(h:Pl x):Pl (x^^^9223372036854775808):=by
 obtain⟨s,r,hr,rfl⟩:=h;refine⟨!s,r,hr,?_⟩;have key:∀a:Nat,a^^^9223372036854775808=9223372036854775808*((a/9223372036854775808)^^^1)+a% 9223372036854775808:=by intro a;have h1:=Nat.div_add_mod (a^^^9223372036854775808) 9223372036854775808;have h2:(a^^^9223372036854775808)/2^63=a/2^63^^^9223372036854775808/2^63:=Nat.xor_div_two_pow;have h3:(a^^^9223372036854775808)% 2^63=a% 2^63^^^9223372036854775808% 2^63:=Nat.xor_mod_two_pow;rw[show(2:Nat)^63=9223372036854775808 from rfl]at h2 h3;rw[h2,h3,show(9223372036854775808:Nat)/9223372036854775808=1 from rfl,show(9223372036854775808:Nat)% 9223372036854775808=0 from rfl,Nat.xor_zero]at h1;exact h1.symm
 rw[key];cases s
 ·rw[word_f,Nat.div_eq_of_lt (by omega),Nat.mod_eq_of_lt (by omega)]
  rfl
 ·rw[word_t,show(9223372036854775808+r)/9223372036854775808=1 by omega,show(9223372036854775808+r)% 9223372036854775808=r by omega]
  show _=double.word false r;rw[word_f,show(1^^^1:Nat)=0 from rfl];omega
end Go.Proofs.YtmodehfedhgcbaaGreatDoor.Fl

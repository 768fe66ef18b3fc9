/- Lemmas. No condition. -/
import Derived.Test.YticmkabafmmlhaaGreatDoorKWbj
import Derived.Test.YticmkabafmmlhaaGreatDoorKXaj
set_option linter.unusedVariables false
set_option maxRecDepth 100000
set_option maxHeartbeats 8000000
namespace Go.Proofs.YticmkabafmmlhaaGreatDoor.Rg
open Go.RowKit Rx
theorem row_cells{w:World}{v:Value}{l:List Nat}{k:Nat}(h:rowS w v l)(hk:k<l.length):∃g c,v=.slice (some ⟨g,0,none⟩) l.length c∧10≤g∧g<w.heap.size∧
 w.cell? ⟨g,k*4,none⟩=some (wv (l.getD k 0) 0)∧w.cell? ⟨g,k*4+1,none⟩=some (wv (l.getD k 0) 1)∧w.cell? ⟨g,k*4+2,none⟩=some (wv (l.getD k 0) 2)∧w.cell? ⟨g,k*4+3,none⟩=some (wv (l.getD k 0) 3)∧
 ∀i,w.frozen? ⟨g,i,none⟩=false:=by
 rcases h.2 with ⟨_,hn⟩|⟨g,cap,cur,hv,hg,hh,_⟩
 ·omega
 ·have c:=h.cells (g:=g) (by rw[hv];rfl)
  have f:=flatS_at l k hk;have e:∀i,(⟨g,0,none⟩:Addr).add i=⟨g,i,none⟩:=fun i=>by unfold Addr.add;split<;>simp_all
  have c0:=c _ _ f.1;have c1:=c _ _ f.2.1;have c2:=c _ _ f.2.2.1;have c3:=c _ _ f.2.2.2;rw[e]at c0 c1 c2 c3;exact⟨g,cap,hv,hg,(h.lt g (by rw[hv];rfl)).2,c0,c1,c2,c3,fun i=>by simp[World.frozen?,hh]⟩
theorem row_set{w:World}{base e s n g i:Nat}{v:Value}{xs:List Value}(h:w.ownsRow base e s v n xs)(hv:v.ownBlock=some g)(u:Value)(hi:i<xs.length):(w.setCell ⟨g,i,none⟩ u).ownsRow base e s v n (xs.set i u):=by
 refine⟨by rw[List.length_set];exact h.1,?_⟩;rcases h.2 with ⟨h1,_⟩|⟨q,cap,cur,h1,h2,h3,h4,h5,h6,h7⟩
 ·rw[h1]at hv;cases hv
 ·rw[h1]at hv
  injection hv with hv;subst hv;refine .inr ⟨q,cap,cur.setIfInBounds i u,h1,h2,by simp[World.setCell,Array.getElem?_modify,h3],h4,h5,by simpa using h6,?_⟩
  ·rw[Array.toList_setIfInBounds,List.take_set,h7]
theorem own_mono{w:World}{base e s n m:Nat}{v:Value}{xs ys:List Value}(h:w.ownsRow base e s v n xs)(hn:n=m)(hx:xs=ys):w.ownsRow base e s v m ys:=by subst hn;subst hx;exact h
theorem Rdr.link{w:World}{b g k c u n:Nat}{T:Value}{l:ByteArray}{m:Mach}{a o:Nat}(h:Rdr w b T (.slice (some ⟨g,0,none⟩) n c) l m a o)(hk:k<m.follow.length):
 Rdr ((((w.setCell ⟨g,k*4,none⟩ (wv u 0)).setCell ⟨g,k*4+1,none⟩ (wv u 1)).setCell ⟨g,k*4+2,none⟩ (wv u 2)).setCell ⟨g,k*4+3,none⟩ (wv u 3)) b T (.slice (some ⟨g,0,none⟩) n c) l ⟨m.takes,m.follow.set k u⟩ a o:=by
 have hgb:b≠g:=fun e=>h.f_b (by rw[e];rfl);have hT:T.ownBlock≠some g:=fun e=>h.apart g e rfl;have hl:=flatS_length m.follow;refine⟨(((h.blk.other hgb _ _).other hgb _ _).other hgb _ _).other hgb _ _,h.low,own_ne (own_ne (own_ne (own_ne h.tk hT _ _) hT _ _) hT _ _) hT _ _,?_,h.apart⟩;have r1:=row_set h.fl rfl (wv u 0) (i:=k*4) (by omega);have r2:=row_set r1 rfl (wv u 1) (i:=k*4+1) (by rw[List.length_set];omega);have r3:=row_set r2 rfl (wv u 2) (i:=k*4+2) (by rw[List.length_set,List.length_set];omega);have r4:=row_set r3 rfl (wv u 3) (i:=k*4+3) (by rw[List.length_set,List.length_set,List.length_set];omega);refine own_mono r4 ?_ (flatS_set m.follow k u hk);show _=(m.follow.set k u).length;rw[List.length_set]
theorem link1_any(b a o k tq p1 p2:Nat)(T F:Value)(l:ByteArray)(m:Mach)(w:World)(hr:Rdr w b T F l m a o)(hk:k<m.follow.length)(hn:m.follow.length≤256)(h1:Blk w p1 169 #[.pointer (some ⟨b,0,none⟩)])(h2:Blk w p2 202 (setC tq))(hn2:¬Foot b T F p2):
 Calls Tryz.prog 229 #[.int .i64 k,.pointer (some ⟨p1,0,none⟩),.pointer (some ⟨p2,0,none⟩)] w fun e w'=>e=.returned (.tuple #[])∧Rdr w' b T F l ⟨m.takes,m.follow.set k (m.follow.getD k 0|||tq)⟩ a o∧Moves b T F w T F w':=by
 obtain⟨g,c,rfl,hg5,hgl,c0,c1,c2,c3,fz⟩:=row_cells hr.fl hk;have HW:=Lib.hid (fun W=>with_any (m.follow.getD k 0) tq W);have q1:=(rd_cells hr).2.1;have y0:=h1.cell 0;have z0:=h2.cell 0;have z1:=h2.cell 1;have z2:=h2.cell 2;have z3:=h2.cell 3;simp only[List.getElem?_toArray,List.getElem?_cons_zero,List.getElem?_cons_succ]at y0 z0 z1 z2 z3;have HR:=Lib.hid hr;have n1:b≠g:=fun e=>hr.f_b (by rw[e];rfl);have n2:p1≠g:=fun e=>hr.off h1 (by decide) (by decide) (.inr (.inr (by rw[e];rfl)));have n3:p2≠g:=fun e=>hn2 (.inr (.inr (by rw[e];rfl)));have hk0:(0:Int)≤(k:Int):=by omega
 have hk1:(k:Int)<(m.follow.length:Int):=by omega
 have hk2:(k:Int)<256:=by omega
 generalize hx:m.follow.getD k 0=x at*
 have f0:=fz (k*4);have f1:=fz (k*4+1);have f2:=fz (k*4+2);have f3:=fz (k*4+3);have hkn:=hk;generalize hN:m.follow.length=n at*
 rw[←hN]at hkn;clear hr h1 h2 hx hN fz hn2;go_enter Tryz.func229,Tryz.ntmps229;go_wp2_with fail
 go_region_with
  (first
    |(go_at_call 206;refine(HW.out _).mono ?_;rintro e w1 ⟨rfl,hb⟩
      have l1:=below_cell hb q1;have l2:=below_cell hb y0;have l3:=below_cell hb z0;have l4:=below_cell hb z1;have l5:=below_cell hb z2;have l6:=below_cell hb z3;have m1:=(hb.frozen (p:=⟨g,k*4,none⟩) hgl).trans f0;have m2:=(hb.frozen (p:=⟨g,k*4+1,none⟩) hgl).trans f1;have m3:=(hb.frozen (p:=⟨g,k*4+2,none⟩) hgl).trans f2;have m4:=(hb.frozen (p:=⟨g,k*4+3,none⟩) hgl).trans f3;have l7:=below_cell hb c0;have l8:=below_cell hb c1;have l9:=below_cell hb c2;have l10:=below_cell hb c3;have HB:Hid (Below w.heap.size w w1):=⟨hb.os,hb.tape,hb.output,hb.size,hb.block⟩
      clear hb))
 all_goals
  go_wp2;have hf:Foot b T (.slice (some ⟨g,0,none⟩) n c) g:=.inr (.inr rfl);refine bodyPost_end (v:=.tuple #[]) (by simp[results,Tryz.results229,go_sem]) rfl ⟨rfl,(HR.out.below HB.out).link hkn,?_⟩;exact(((((Moves.refl _ _ _ _).below HB.out).set_foot hf _ _).set_foot hf _ _).set_foot hf _ _).set_foot hf _ _
end Go.Proofs.YticmkabafmmlhaaGreatDoor.Rg

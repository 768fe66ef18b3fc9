/- Lemmas. No condition. -/
import Derived.Test.YticmkabafmmlhaaGreatDoorKWdj
set_option linter.unusedVariables false
set_option maxRecDepth 100000
set_option maxHeartbeats 8000000
namespace Go.Proofs.YticmkabafmmlhaaGreatDoor.Rg
open Go.RowKit Rx
open Lib (hid)
def GC(b:Nat)(l:ByteArray)(o:Nat)(grp:Nat→Mach→Res):Prop:=∀(T F:Value) (m:Mach) (a:Nat) (w:World),Rdr w b T F l m a o→TzT w→a<l.size→Rx.Good m→m.takes.length≤a→Calls Tryz.prog 222 #[.pointer (some ⟨b,0,none⟩)] w (PP b T F l o w (grp a m))
theorem PP.store{b:Nat}{T F:Value}{l:ByteArray}{o j:Nat}{w W w':World}{r:Res}{p:Pc}{err:Value}(k:PP b T F l o W r (.returned (.tuple #[pcV p,err])) w')(hM:Moves b T F w T F W)(hj:w.heap.size≤j)(hB:Blk w' j 210 zero9)(hb:Blk W j 210 zero9):
 PP b T F l o w r (.returned (.tuple #[pcV p,err])) (put9 w' j (.bool p.empty) (wv p.first 0) (wv p.first 1) (wv p.first 2) (wv p.first 3) (wv p.last 0) (wv p.last 1) (wv p.last 2) (wv p.last 3)):=by
 obtain⟨T',F',hm,hr⟩:=k;refine⟨T',F',(hM.trans hm).set9 hj _ _ _ _ _ _ _ _ _,?_⟩;cases r with
 |bad pl c=>obtain⟨q,err',he,f,hf,hB2⟩:=hr;exact⟨q,err',he,f,hf,hB2.set9_other (blk_ne hB2 hB (by decide)) _ _ _ _ _ _ _ _ _⟩
 |ok a m q=>exact⟨hr.1,hr.2.set9 (hr.2.off hB (by decide) (by decide)) _ _ _ _ _ _ _ _ _⟩
theorem atom_grp(b a o:Nat)(T F:Value)(l:ByteArray)(grp:Nat→Mach→Res)(m:Mach)(w:World)(hr:Rdr w b T F l m a o)(hT:TzT w)(hl:l.size≤200)(ha:a<l.size)(hm:Rx.Good m)(hn:m.takes.length≤a)(hg:GC b l o grp)(h1:by_ l a=40):
 Calls Tryz.prog 214 #[.pointer (some ⟨b,0,none⟩)] w (PP b T F l o w (atomF l grp a m)):=by
 have HX:Hid (atomF l grp a m=grp a m):=by show atomF l grp a m=_;unfold atomF;rw[if_pos h1]
 have HR:=hid (hr.alloc (.cells zero9 210));have HM:=hid ((Moves.refl b T F w).alloc (.cells zero9 210));have B0:=hid (Blk.new w 210 zero9);have HFT:Hid (∀j,w.heap.size≤j→¬Foot b T F j):=fun j hj hf=>by have:=(hr.lt_foot hf).1;omega
 have HT:=hid (HM.out.tz hr hT);have HGC:=hid hg;have HMG:=hid hm;obtain⟨c,hc⟩:∃c,c=l[a].toNat:=⟨_,rfl⟩
 have hcb:c=by_ l a:=by rw[hc,by_eq]
 have hc':l[a].toNat=c:=hc.symm;clear hr hT hg hm hc;obtain rfl:c=40:=by omega
 clear h1 hcb;go_enter Tryz.func214,Tryz.ntmps214;go_upto_region 1 with fail;generalize hW:w.alloc (.cells zero9 210)=W at*
 clear hW;have q3:=(rd_cells HR.out).2.2.1;have q4:=(rd_cells HR.out).2.2.2.1
 go_quiet (fail)
 rename_i nq;have HR1:=hid (HR.out.drewN nq);have HM1:=hid (HM.out.drewN nq);have B1:=hid (B0.out.drewN nq);have HT1:Hid (TzT (W.drewN nq)):=HT.out;generalize hW:W.drewN nq=W1 at*
 clear hW HR HM B0 HT q3 q4;have HC:=hid (HGC.out T F m a W1 HR1.out HT1.out ha HMG.out hn);clear HGC;go_wp2_with fail;refine(HC.out).mono ?_;rintro e w2 hpp;have HP:=hid hpp;obtain⟨T2,F2,hm2,hrest⟩:=hpp;have B2:=hid (B1.out.moves hm2 (HFT.out _ (Nat.le_refl _)));have hv:∃p err,e=.returned (.tuple #[pcV p,err]):=by
  clear B2 HP HX;split at hrest
  ·exact⟨_,_,hrest.choose_spec.choose_spec.1⟩
  ·exact⟨_,_,hrest.1⟩
 obtain⟨p,err,rfl⟩:=hv;clear hrest hm2;obtain⟨r0,r1,r2,r3,r4,r5,r6,r7,r8⟩:=cells9 B2.out;obtain⟨g0,g1,g2,g3,g4,g5,g6,g7,g8⟩:=frozen9 B2.out;go_wp2;rw[HX.out];exact bodyPost_ret (v:=.tuple #[pcV p,err]) (by simp[results,Tryz.results214,go_sem,r0,r1,r2,r3,r4,r5,r6,r7,r8]) rfl (HP.out.store HM1.out (Nat.le_refl _) B2.out B1.out)
theorem atom_cls(b a o:Nat)(T F:Value)(l:ByteArray)(grp:Nat→Mach→Res)(m:Mach)(w:World)(hr:Rdr w b T F l m a o)(hT:TzT w)(hl:l.size≤200)(ha:a<l.size)(hm:Rx.Good m)(hn:m.takes.length≤a)(hg:GC b l o grp)(h1:by_ l a=91):
 Calls Tryz.prog 214 #[.pointer (some ⟨b,0,none⟩)] w (PP b T F l o w (atomF l grp a m)):=by
 have HX:Hid (atomF l grp a m=classF l a m):=by show atomF l grp a m=_;unfold atomF;rw[if_neg (by omega),if_pos h1]
 have HR:=hid (hr.alloc (.cells zero9 210));have HM:=hid ((Moves.refl b T F w).alloc (.cells zero9 210));have B0:=hid (Blk.new w 210 zero9);have HFT:Hid (∀j,w.heap.size≤j→¬Foot b T F j):=fun j hj hf=>by have:=(hr.lt_foot hf).1;omega
 have HT:=hid (HM.out.tz hr hT);have HGC:=hid hg;have HMG:=hid hm;obtain⟨c,hc⟩:∃c,c=l[a].toNat:=⟨_,rfl⟩
 have hcb:c=by_ l a:=by rw[hc,by_eq]
 have hc':l[a].toNat=c:=hc.symm;clear hr hT hg hm hc;obtain rfl:c=91:=by omega
 clear h1 hcb;go_enter Tryz.func214,Tryz.ntmps214;go_upto_region 1 with fail;generalize hW:w.alloc (.cells zero9 210)=W at*
 clear hW;have q3:=(rd_cells HR.out).2.2.1;have q4:=(rd_cells HR.out).2.2.2.1
 go_quiet (fail)
 rename_i nq;have HR1:=hid (HR.out.drewN nq);have HM1:=hid (HM.out.drewN nq);have B1:=hid (B0.out.drewN nq);have HT1:Hid (TzT (W.drewN nq)):=HT.out;generalize hW:W.drewN nq=W1 at*
 clear hW HR HM B0 HT q3 q4;have HC:=hid (class_any b a o T F l m W1 HR1.out hl ha (by omega) HMG.out.1);clear HGC;go_wp2_with fail;refine(HC.out).mono ?_;rintro e w2 hpp;have HP:=hid hpp;obtain⟨T2,F2,hm2,hrest⟩:=hpp;have B2:=hid (B1.out.moves hm2 (HFT.out _ (Nat.le_refl _)));have hv:∃p err,e=.returned (.tuple #[pcV p,err]):=by
  clear B2 HP HX;split at hrest
  ·exact⟨_,_,hrest.choose_spec.choose_spec.1⟩
  ·exact⟨_,_,hrest.1⟩
 obtain⟨p,err,rfl⟩:=hv;clear hrest hm2;obtain⟨r0,r1,r2,r3,r4,r5,r6,r7,r8⟩:=cells9 B2.out;obtain⟨g0,g1,g2,g3,g4,g5,g6,g7,g8⟩:=frozen9 B2.out;go_wp2;rw[HX.out];exact bodyPost_ret (v:=.tuple #[pcV p,err]) (by simp[results,Tryz.results214,go_sem,r0,r1,r2,r3,r4,r5,r6,r7,r8]) rfl (HP.out.store HM1.out (Nat.le_refl _) B2.out B1.out)
theorem atom_bad(b a o:Nat)(T F:Value)(l:ByteArray)(grp:Nat→Mach→Res)(m:Mach)(w:World)(hr:Rdr w b T F l m a o)(hT:TzT w)(hl:l.size≤200)(ha:a<l.size)(hm:Rx.Good m)(hn:m.takes.length≤a)(hg:GC b l o grp)(h1:[93,123,125,94,36,42,43,63].contains (by_ l a)=true):
 Calls Tryz.prog 214 #[.pointer (some ⟨b,0,none⟩)] w (PP b T F l o w (atomF l grp a m)):=by
 have HX:Hid (atomF l grp a m=.bad a 2):=by
  show atomF l grp a m=_;unfold atomF;have h2:by_ l a≠40∧by_ l a≠91:=by simp at h1;omega
  rw[if_neg h2.1,if_neg h2.2,if_pos h1]
 have HR:=hid (hr.alloc (.cells zero9 210));have HM:=hid ((Moves.refl b T F w).alloc (.cells zero9 210));have B0:=hid (Blk.new w 210 zero9);have HFT:Hid (∀j,w.heap.size≤j→¬Foot b T F j):=fun j hj hf=>by have:=(hr.lt_foot hf).1;omega
 have HT:=hid (HM.out.tz hr hT);have HGC:=hid hg;have HMG:=hid hm;obtain⟨c,hc⟩:∃c,c=l[a].toNat:=⟨_,rfl⟩
 have hcb:c=by_ l a:=by rw[hc,by_eq]
 have hc':l[a].toNat=c:=hc.symm;clear hr hT hg hm hc;have h3:c=93∨c=123∨c=125∨c=94∨c=36∨c=42∨c=43∨c=63:=by rw[hcb];simpa using h1
 clear h1 hcb;rcases h3 with rfl|rfl|rfl|rfl|rfl|rfl|rfl|rfl;all_goals
  go_enter Tryz.func214,Tryz.ntmps214;go_upto_region 1 with fail;generalize hW:w.alloc (.cells zero9 210)=W at*
  clear hW;have q3:=(rd_cells HR.out).2.2.1;have q4:=(rd_cells HR.out).2.2.2.1
  go_quiet (fail)
  rename_i nq;have HR1:=hid (HR.out.drewN nq);have HM1:=hid (HM.out.drewN nq);have B1:=hid (B0.out.drewN nq);have HT1:Hid (TzT (W.drewN nq)):=HT.out;generalize hW:W.drewN nq=W1 at*
  clear hW HR HM B0 HT q3 q4;have HC:=hid (bad_any b a W1 (rd_cells HR1.out).2.2.2.1);clear HGC;go_wp2_with fail;refine(HC.out).mono ?_;rintro e w2⟨f,rfl,hf,hb⟩;have B2:=hid (B1.out.below hb);have HM2:=hid (HM1.out.below hb);have F2:=hid (hf.set9_other (blk_ne hf B2.out (by decide)) (.bool false) (.int .u64 0) (.int .u64 0) (.int .u64 0) (.int .u64 0) (.int .u64 0) (.int .u64 0) (.int .u64 0) (.int .u64 0));clear hf hb;obtain⟨r0,r1,r2,r3,r4,r5,r6,r7,r8⟩:=cells9 B2.out;obtain⟨g0,g1,g2,g3,g4,g5,g6,g7,g8⟩:=frozen9 B2.out;go_wp2;exact bodyPost_ret (v:=.tuple #[.agg zero9,.iface 175 (.pointer (some ⟨f,0,none⟩))]) (by simp[results,Tryz.results214,go_sem,r0,r1,r2,r3,r4,r5,r6,r7,r8]) rfl (pp_bad HX.out (HM2.out.set9 (Nat.le_refl _) _ _ _ _ _ _ _ _ _) pc0_eq F2.out)
theorem atom_dot(b a o:Nat)(T F:Value)(l:ByteArray)(grp:Nat→Mach→Res)(m:Mach)(w:World)(hr:Rdr w b T F l m a o)(hT:TzT w)(hl:l.size≤200)(ha:a<l.size)(hm:Rx.Good m)(hn:m.takes.length≤a)(hg:GC b l o grp)(h1:by_ l a=46):
 Calls Tryz.prog 214 #[.pointer (some ⟨b,0,none⟩)] w (PP b T F l o w (atomF l grp a m)):=by
 have HX:Hid (atomF l grp a m=.ok (a+1) (placeM m full) (placeP m)):=by show atomF l grp a m=_;unfold atomF;rw[if_neg (by omega),if_neg (by omega),if_neg (by rw[h1];decide),if_pos h1]
 have HR:=hid (hr.alloc (.cells zero9 210));have HM:=hid ((Moves.refl b T F w).alloc (.cells zero9 210));have B0:=hid (Blk.new w 210 zero9);have HFT:Hid (∀j,w.heap.size≤j→¬Foot b T F j):=fun j hj hf=>by have:=(hr.lt_foot hf).1;omega
 have HT:=hid (HM.out.tz hr hT);have HGC:=hid hg;have HMG:=hid hm;obtain⟨c,hc⟩:∃c,c=l[a].toNat:=⟨_,rfl⟩
 have hcb:c=by_ l a:=by rw[hc,by_eq]
 have hc':l[a].toNat=c:=hc.symm;clear hr hT hg hm hc;obtain rfl:c=46:=by omega
 clear h1 hcb;go_enter Tryz.func214,Tryz.ntmps214;go_upto_region 1 with fail;generalize hW:w.alloc (.cells zero9 210)=W at*
 clear hW;have q3:=(rd_cells HR.out).2.2.1;have q4:=(rd_cells HR.out).2.2.2.1
 go_quiet (fail)
 rename_i nq;have HR1:=hid (HR.out.drewN nq);have HM1:=hid (HM.out.drewN nq);have B1:=hid (B0.out.drewN nq);have HT1:Hid (TzT (W.drewN nq)):=HT.out;generalize hW:W.drewN nq=W1 at*
 clear hW HR HM B0 HT q3 q4;clear HGC;have q4:=(rd_cells HR1.out).2.2.2.1;have qf:=HR1.out.blk.frozen 12;go_upto_region 20 with fail;have HR2:=hid (HR1.out.set_at (a+1) (.int .i64 ((a:Int)+1)) (by rfl));have HM2:=hid (HM1.out.set_foot (foot_self b T F) 12 (.int .i64 ((a:Int)+1)));have B2:=hid (B1.out.other (k:=b) (fun e=>HFT.out _ (Nat.le_refl _) (.inl e)) 12 (.int .i64 ((a:Int)+1)));generalize hW:W1.setCell ⟨b,12,none⟩ (.int .i64 ((a:Int)+1))=W2 at*
 clear hW HR1 HM1 B1 HT1 q4 qf;have HN0:Hid (∀W,Calls Tryz.prog 225 #[.agg #[.int .u64 0,.int .u64 0,.int .u64 0,.int .u64 0]] W fun e w'=>e=.returned (setV full)∧Below W.heap.size W w'):=fun W=>by have:=not_any 0 (by decide) W;unfold setV at this;rw[wv_zero,wv_zero,wv_zero,wv_zero]at this;exact this
 have HPL:=hid (fun X (hX:Rdr X b T F l m (a+1) o)=>place_any b (a+1) o full T F l m X hX (by omega) HMG.out.1)
 go_region_with (first
  |(go_at_call 225;refine(HN0.out _).mono ?_;rintro e w3 ⟨rfl,hb3⟩
    have HR3:Hid (Rdr w3 b T F l m (a+1) o):=⟨(hb3.block _ HR2.out.blk.lt).trans HR2.out.blk,HR2.out.low,own_below (by exact HR2.out.tk) hb3,own_below (by exact HR2.out.fl) hb3,HR2.out.apart⟩
    have HM3:Hid (Moves b T F w T F w3):=HM2.out.new (below_of hb3.os hb3.tape hb3.output hb3.size (fun k hk=>hb3.block k (Nat.lt_of_lt_of_le hk HM2.out.size)));have B3:Hid (Blk w3 w.heap.size 210 zero9):=(hb3.block _ B2.out.lt).trans B2.out;clear hb3)
  |(go_at_call 224;refine(HPL.out _ HR3.out).mono ?_;rintro e w4 ⟨T4,F4,hm4,rfl,hr4⟩
    have HM4:=hid (HM3.out.trans hm4);have HR4:=hid hr4;have B4:=hid (B3.out.moves hm4 (HFT.out _ (Nat.le_refl _)));clear hm4 hr4;obtain⟨r0,r1,r2,r3,r4,r5,r6,r7,r8⟩:=cells9 B4.out;obtain⟨g0,g1,g2,g3,g4,g5,g6,g7,g8⟩:=frozen9 B4.out))
 all_goals
  go_wp2;exact bodyPost_ret (v:=.tuple #[pcV (placeP m),.nilIface]) (by simp[results,Tryz.results214,go_sem,r0,r1,r2,r3,r4,r5,r6,r7,r8,placeP]) rfl (pp_ok HX.out (HM4.out.set9 (Nat.le_refl _) _ _ _ _ _ _ _ _ _) rfl (HR4.out.set9 (HR4.out.off B4.out (by decide) (by decide)) _ _ _ _ _ _ _ _ _))
theorem atom_char(b a o:Nat)(T F:Value)(l:ByteArray)(grp:Nat→Mach→Res)(m:Mach)(w:World)(hr:Rdr w b T F l m a o)(hT:TzT w)(hl:l.size≤200)(ha:a<l.size)(hm:Rx.Good m)(hn:m.takes.length≤a)(hg:GC b l o grp)(h1:by_ l a≠40)(h2:by_ l a≠91)(h3:[93,123,125,94,36,42,43,63].contains (by_ l a)=false)(h4:by_ l a≠46):
 Calls Tryz.prog 214 #[.pointer (some ⟨b,0,none⟩)] w (PP b T F l o w (atomF l grp a m)):=by
 have HX:Hid (atomF l grp a m=match charF l a with|.bad pl=>.bad pl 2|.ok a1 c=>.ok a1 (placeM m (2^c)) (placeP m)):=by show atomF l grp a m=_;unfold atomF;rw[if_neg h1,if_neg h2,if_neg (by rw[h3];simp),if_neg h4];cases charF l a<;>rfl
 have HR:=hid (hr.alloc (.cells zero9 210));have HM:=hid ((Moves.refl b T F w).alloc (.cells zero9 210));have B0:=hid (Blk.new w 210 zero9);have HFT:Hid (∀j,w.heap.size≤j→¬Foot b T F j):=fun j hj hf=>by have:=(hr.lt_foot hf).1;omega
 have HT:=hid (HM.out.tz hr hT);have HGC:=hid hg;have HMG:=hid hm;obtain⟨c,hc⟩:∃c,c=l[a].toNat:=⟨_,rfl⟩
 have hcb:c=by_ l a:=by rw[hc,by_eq]
 have hc':l[a].toNat=c:=hc.symm;clear hr hT hg hm hc;have h5:c≠93∧c≠123∧c≠125∧c≠94∧c≠36∧c≠42∧c≠43∧c≠63:=by rw[hcb];simpa using h3
 have e40:((c:Int)==40)=false:=by simp;omega
 have e91:((c:Int)==91)=false:=by simp;omega
 have e46:((c:Int)==46)=false:=by simp;omega
 have e93:((c:Int)==93)=false:=by simp;omega
 have e123:((c:Int)==123)=false:=by simp;omega
 have e125:((c:Int)==125)=false:=by simp;omega
 have e94:((c:Int)==94)=false:=by simp;omega
 have e36:((c:Int)==36)=false:=by simp;omega
 have e42:((c:Int)==42)=false:=by simp;omega
 have e43:((c:Int)==43)=false:=by simp;omega
 have e63:((c:Int)==63)=false:=by simp;omega
 clear h1 h2 h3 h4 h5 hcb;go_enter Tryz.func214,Tryz.ntmps214;go_upto_region 1 with fail;generalize hW:w.alloc (.cells zero9 210)=W at*
 clear hW;have q3:=(rd_cells HR.out).2.2.1;have q4:=(rd_cells HR.out).2.2.2.1
 go_quiet (fail)
 rename_i nq;have HR1:=hid (HR.out.drewN nq);have HM1:=hid (HM.out.drewN nq);have B1:=hid (B0.out.drewN nq);have HT1:Hid (TzT (W.drewN nq)):=HT.out;generalize hW:W.drewN nq=W1 at*
 clear hW HR HM B0 HT q3 q4;clear HGC;have HC:=hid (char_any b a o T F l m W1 HR1.out hl (by omega));have HPL:=hid (fun X a1 t (hX:Rdr X b T F l m a1 o)=>place_any b a1 o t T F l m X hX (by omega) HMG.out.1);cases hc1:charF l a with
 |bad pl=>
  rw[hc1]at HX HC;dsimp only at HX;clear hc1;go_wp2_with fail;refine(HC.out).mono ?_;rintro e w2⟨hm2,err,rfl,⟨f,rfl,hf⟩,hr2⟩;have HR2:=hid hr2;have HM2:=hid (HM1.out.trans hm2);have B2:=hid (B1.out.moves hm2 (HFT.out _ (Nat.le_refl _)));have F2:=hid hf;clear hm2 hr2 hf;go_upto_region 4 with fail;have HO:=hid (fun W=>one_any 0 (by decide) W)
  go_region_with (first
   |(go_at_call 227;refine(HO.out _).mono ?_;rintro e w3 ⟨rfl,hb3⟩
     have HR3:Hid (Rdr w3 b T F l m pl o):=⟨(hb3.block _ HR2.out.blk.lt).trans HR2.out.blk,HR2.out.low,own_below (by exact HR2.out.tk) hb3,own_below (by exact HR2.out.fl) hb3,HR2.out.apart⟩
     have HM3:Hid (Moves b T F w T F w3):=HM2.out.new (below_of hb3.os hb3.tape hb3.output hb3.size (fun k hk=>hb3.block k (Nat.lt_of_lt_of_le hk HM2.out.size)));have B3:Hid (Blk w3 w.heap.size 210 zero9):=(hb3.block _ B2.out.lt).trans B2.out;have F3:Hid (Blk w3 f 177 #[.int .i64 pl,.iface 40 (.int .i64 2)]):=(hb3.block _ F2.out.lt).trans F2.out;clear hb3)
   |(go_at_call 224;refine(HPL.out _ _ _ HR3.out).mono ?_;rintro e w4 ⟨T4,F4,hm4,rfl,hr4⟩
     have HM4:=hid (HM3.out.trans hm4);have B4:=hid (B3.out.moves hm4 (HFT.out _ (Nat.le_refl _)));have F4:=hid (F3.out.moves hm4 (HR3.out.off F3.out (by decide) (by decide)));have F5:=hid (F4.out.set9_other (blk_ne F4.out B4.out (by decide)) (.bool false) (wv (2^m.takes.length) 0) (wv (2^m.takes.length) 1) (wv (2^m.takes.length) 2) (wv (2^m.takes.length) 3) (wv (2^m.takes.length) 0) (wv (2^m.takes.length) 1) (wv (2^m.takes.length) 2) (wv (2^m.takes.length) 3));clear hm4 hr4;obtain⟨r0,r1,r2,r3,r4,r5,r6,r7,r8⟩:=cells9 B4.out;obtain⟨g0,g1,g2,g3,g4,g5,g6,g7,g8⟩:=frozen9 B4.out))
  all_goals
   go_wp2;exact bodyPost_ret (v:=.tuple #[pcV (placeP m),.iface 175 (.pointer (some ⟨f,0,none⟩))]) (by simp[results,Tryz.results214,go_sem,r0,r1,r2,r3,r4,r5,r6,r7,r8,placeP]) rfl (pp_bad HX.out (HM4.out.set9 (Nat.le_refl _) _ _ _ _ _ _ _ _ _) rfl F5.out)
 |ok a1 d=>
  have hd:=(charF_ok hc1).2.2;rw[hc1]at HX HC;dsimp only at HX;clear hc1;go_wp2_with fail;refine(HC.out).mono ?_;rintro e w2⟨hm2,rfl,hr2⟩;have HR2:=hid hr2;have HM2:=hid (HM1.out.trans hm2);have B2:=hid (B1.out.moves hm2 (HFT.out _ (Nat.le_refl _)));clear hm2 hr2;go_upto_region 4 with fail;have HO:=hid (fun W=>one_any d hd W)
  go_region_with (first
   |(go_at_call 227;refine(HO.out _).mono ?_;rintro e w3 ⟨rfl,hb3⟩
     have HR3:Hid (Rdr w3 b T F l m a1 o):=⟨(hb3.block _ HR2.out.blk.lt).trans HR2.out.blk,HR2.out.low,own_below (by exact HR2.out.tk) hb3,own_below (by exact HR2.out.fl) hb3,HR2.out.apart⟩
     have HM3:Hid (Moves b T F w T F w3):=HM2.out.new (below_of hb3.os hb3.tape hb3.output hb3.size (fun k hk=>hb3.block k (Nat.lt_of_lt_of_le hk HM2.out.size)));have B3:Hid (Blk w3 w.heap.size 210 zero9):=(hb3.block _ B2.out.lt).trans B2.out;clear hb3)
   |(go_at_call 224;refine(HPL.out _ _ _ HR3.out).mono ?_;rintro e w4 ⟨T4,F4,hm4,rfl,hr4⟩
     have HM4:=hid (HM3.out.trans hm4);have HR4:=hid hr4;have B4:=hid (B3.out.moves hm4 (HFT.out _ (Nat.le_refl _)));clear hm4 hr4;obtain⟨r0,r1,r2,r3,r4,r5,r6,r7,r8⟩:=cells9 B4.out;obtain⟨g0,g1,g2,g3,g4,g5,g6,g7,g8⟩:=frozen9 B4.out))
  all_goals
   go_wp2;exact bodyPost_ret (v:=.tuple #[pcV (placeP m),.nilIface]) (by simp[results,Tryz.results214,go_sem,r0,r1,r2,r3,r4,r5,r6,r7,r8,placeP]) rfl (pp_ok HX.out (HM4.out.set9 (Nat.le_refl _) _ _ _ _ _ _ _ _ _) rfl (HR4.out.set9 (HR4.out.off B4.out (by decide) (by decide)) _ _ _ _ _ _ _ _ _))
theorem atom_any(b a o:Nat)(T F:Value)(l:ByteArray)(grp:Nat→Mach→Res)(m:Mach)(w:World)(hr:Rdr w b T F l m a o)(hT:TzT w)(hl:l.size≤200)(ha:a<l.size)(hm:Rx.Good m)(hn:m.takes.length≤a)(hg:GC b l o grp):
 Calls Tryz.prog 214 #[.pointer (some ⟨b,0,none⟩)] w (PP b T F l o w (atomF l grp a m)):=by
 by_cases h1:by_ l a=40
 ·exact atom_grp b a o T F l grp m w hr hT hl ha hm hn hg h1
 ·by_cases h2:by_ l a=91
  ·exact atom_cls b a o T F l grp m w hr hT hl ha hm hn hg h2
  ·cases h3:[93,123,125,94,36,42,43,63].contains (by_ l a)with
   |true=>exact atom_bad b a o T F l grp m w hr hT hl ha hm hn hg h3
   |false=>
    by_cases h4:by_ l a=46
    ·exact atom_dot b a o T F l grp m w hr hT hl ha hm hn hg h4
    ·exact atom_char b a o T F l grp m w hr hT hl ha hm hn hg h1 h2 h3 h4
def nest9(w:World)(j:Nat)(p:Pc):World:=put9 w j (.bool p.empty) (wv p.first 0) (wv p.first 1) (wv p.first 2) (wv p.first 3) (wv p.last 0) (wv p.last 1) (wv p.last 2) (wv p.last 3)
theorem rep_any(b a o:Nat)(T F:Value)(l:ByteArray)(grp:Nat→Mach→Res)(m:Mach)(w:World)(hr:Rdr w b T F l m a o)(hT:TzT w)(hl:l.size≤200)(ha:a<l.size)(hm:Rx.Good m)(hn:m.takes.length≤a)(hg:GC b l o grp)(hf:FineG l grp):
 Calls Tryz.prog 204 #[.pointer (some ⟨b,0,none⟩)] w (PP b T F l o w (repF l grp a m)):=by
 have HR:=hid (hr.alloc (.cells zero9 210));have HM:=hid ((Moves.refl b T F w).alloc (.cells zero9 210));have B0:=hid (Blk.new w 210 zero9);have HFT:Hid (∀j,w.heap.size≤j→¬Foot b T F j):=fun j hj hf=>by have:=(hr.lt_foot hf).1;omega
 have HT:=hid (HM.out.tz hr hT);have HA:=hid (atom_any b a o T F l grp m _ HR.out HT.out hl ha hm hn hg);have HFI:=hid (atom_fine hf ha hm);have HX:Hid (∀r,atomF l grp a m=r→repF l grp a m=match r with|.bad pl c=>.bad pl c|.ok a1 m1 p=>repL l (l.size+1) a1 m1 p):=fun r h=>by subst h;unfold repF;cases atomF l grp a m<;>rfl
 clear hr hT hg hm hf;go_enter Tryz.func204,Tryz.ntmps204;go_wp2_with fail;refine(HA.out).mono ?_;rintro e w1⟨T1,F1,hm1,hrest⟩;have HM1:=hid (HM.out.trans hm1);have B1:=hid (B0.out.moves hm1 (HFT.out _ (Nat.le_refl _)));have hlt:w.heap.size<w1.heap.size:=B1.out.lt;have HT1:Hid (TzT w1):=hm1.tz HR.out HT.out;have hne:w.heap.size≠w1.heap.size:=by omega
 clear hm1 HA HR HM B0 HT;cases hA:atomF l grp a m with
 |bad pl c=>
  rw[hA]at hrest;obtain⟨p0,err,rfl,f,rfl,hB⟩:=hrest;have J1:=hid (Blk.new w1 210 (pcC p0));have JR:=hid (B1.out.alloc (.cells (pcC p0) 210));have JM:=hid ((Moves.refl b T1 F1 w1).alloc (.cells (pcC p0) 210));have HF:=hid (hB.alloc (.cells (pcC p0) 210));have HX1:=hid (HX.out _ hA);clear hA HX HFI hB;obtain⟨pe0,pf0,pl0⟩:=p0;go_upto_region 2 with fail;generalize hW:w1.alloc (.cells (pcC _) 210)=W2 at*
  clear hW;refine wp_loop_rounds 1 ?_;rw[rounds_succ];obtain⟨x0,x1,x2,x3,x4,x5,x6,x7,x8⟩:=cells9 J1.out;obtain⟨r0,r1,r2,r3,r4,r5,r6,r7,r8⟩:=cells9 JR.out;obtain⟨g0,g1,g2,g3,g4,g5,g6,g7,g8⟩:=frozen9 JR.out;go_wp2;exact bodyPost_ret (v:=.tuple #[pcV ⟨pe0,pf0,pl0⟩,.iface 175 (.pointer (some ⟨f,0,none⟩))]) (by simp[results,Tryz.results204,go_sem,r0,r1,r2,r3,r4,r5,r6,r7,r8]) rfl (pp_bad HX1.out ((HM1.out.trans JM.out).set9 (Nat.le_refl _) _ _ _ _ _ _ _ _ _) rfl (HF.out.set9_other (blk_ne HF.out JR.out (by decide)) _ _ _ _ _ _ _ _ _))
 |ok a1 m1 p1=>
  rw[hA]at hrest;obtain⟨rfl,hR1⟩:=hrest;obtain⟨f1,f2,f3,f4,f5,f6⟩:=HFI.out a1 m1 p1 hA;have HX1:=hid (HX.out _ hA);have J1:=hid (Blk.new w1 210 (pcC p1));have HR2:=hid (hR1.alloc (.cells (pcC p1) 210));have JM:=hid ((Moves.refl b T1 F1 w1).alloc (.cells (pcC p1) 210));have HFU:Hid (∀j,w1.heap.size≤j→¬Foot b T1 F1 j):=fun j hj hf=>by have:=(hR1.lt_foot hf).1;omega
  have HFB:Hid (¬Foot b T1 F1 w.heap.size):=hR1.off B1.out (by decide) (by decide);have HQ1:Hid (Rx.Good m1∧PcIn m1.takes.length p1∧m1.takes.length≤a1):=⟨f3,f4,by omega⟩
  clear hA HX HFI f3 f4 f5 f6;have HR1:=hid hR1;clear hR1;have HJ1:Hid (∃p:Pc,p=p1):=⟨_,rfl⟩
  obtain⟨pe0,pf0,pl0⟩:=p1;go_upto_region 2 with fail;generalize hW:w1.alloc (.cells (pcC _) 210)=W2 at*
  clear hW
  go_loopw [11,12] (fun s11 s12 wr=>∃(k a':Nat) (m':Mach) (p':Pc),l.size<k+a'∧a'≤l.size∧Hid (Rdr wr b T1 F1 l m' a' o)∧Hid (Moves b T1 F1 w1 T1 F1 wr)∧Hid (Blk wr w1.heap.size 210 (pcC p'))∧Hid (Rx.Good m'∧PcIn m'.takes.length p'∧m'.takes.length≤a')∧Hid (repF l grp a m=repL l k a' m' p')) (fun s11 s12 wr=>l.size-atOf wr b)
  case atStart=>exact⟨l.size+1,a1,m1,⟨pe0,pf0,pl0⟩,by omega,f2,HR2,JM,J1,HQ1,HX1⟩
  case round=>
   obtain⟨k,a',m',p',hk,ha',HRr,HMr,Jr,HQr,HE⟩:=hrel;have HMEAS:Hid (atOf wr b=a'):=HRr.out.at_of;have HTr:Hid (TzT wr):=HMr.out.tz HR1.out HT1.out;have HS:=hid (sees_is b a' l ⟨#[42,43,63]⟩ [42,43,63] sg_rep wr hl ha' (rd_cells HRr.out).2.2.1 (rd_cells HRr.out).2.2.2.1);obtain⟨k',rfl⟩:∃k',k=k'+1:=⟨k-1,by omega⟩
   obtain⟨pe,pf,pl⟩:=p';cases hs:seesAny l a' [42,43,63]with
   |false=>
    rw[hs]at HS;have HE2:Hid (repF l grp a m=.ok a' m' ⟨pe,pf,pl⟩):=by show repF l grp a m=_;rw[HE.out];unfold repL;rw[hs];rfl
    clear hs HE HX1;go_wp2_with fail;refine(HS.out).mono ?_;rintro e w3⟨rfl,n3,rfl⟩;have HR3:=hid (HRr.out.drewN n3);have HM3:=hid (HMr.out.drewN n3);have J3:=hid (Jr.out.drewN n3);have B3:=hid (B1.out.moves HM3.out HFB.out);generalize hW:wr.drewN n3=W3 at*
    clear hW HRr HMr Jr HTr HS;obtain⟨x0,x1,x2,x3,x4,x5,x6,x7,x8⟩:=cells9 J3.out;obtain⟨r0,r1,r2,r3,r4,r5,r6,r7,r8⟩:=cells9 B3.out;obtain⟨g0,g1,g2,g3,g4,g5,g6,g7,g8⟩:=frozen9 B3.out;go_wp2;exact bodyPost_ret (v:=.tuple #[pcV ⟨pe,pf,pl⟩,.nilIface]) (by simp[results,Tryz.results204,go_sem,r0,r1,r2,r3,r4,r5,r6,r7,r8]) rfl (pp_ok HE2.out ((HM1.out.trans HM3.out).set9 (Nat.le_refl _) _ _ _ _ _ _ _ _ _) rfl (HR3.out.set9 (HR3.out.off B3.out (by decide) (by decide)) _ _ _ _ _ _ _ _ _))
   |true=>
    rw[hs]at HS;have hlt1:=seesAny_lt hs;have HE2:Hid (repF l grp a m=repL l k' (a'+1) (repM m' ⟨pe,pf,pl⟩ (by_ l a')) (repP ⟨pe,pf,pl⟩ (by_ l a'))):=by
     show repF l grp a m=_;rw[HE.out];conv=>lhs;unfold repL
     rw[hs];rfl
    have HQ2:Hid (Rx.Good (repM m' ⟨pe,pf,pl⟩ (by_ l a'))∧PcIn (repM m' ⟨pe,pf,pl⟩ (by_ l a')).takes.length (repP ⟨pe,pf,pl⟩ (by_ l a'))∧(repM m' ⟨pe,pf,pl⟩ (by_ l a')).takes.length≤a'+1):=by have q:=HQr.out.1.rep HQr.out.2.1 (by_ l a');refine⟨q.1,by rw[q.2.2];exact q.2.1,by rw[q.2.2];have:=HQr.out.2.2;omega⟩
    clear hs HE HX1;go_wp2_with fail;refine(HS.out).mono ?_;rintro e w3⟨rfl,n3,rfl⟩;have HR3:=hid (HRr.out.drewN n3);have HM3:=hid (HMr.out.drewN n3);have J3:=hid (Jr.out.drewN n3);have HT3:Hid (TzT (wr.drewN n3)):=HTr.out;generalize hW:wr.drewN n3=W3 at*
    clear hW HRr HMr Jr HTr HS;obtain⟨c,hc⟩:∃c,c=l[a'].toNat:=⟨_,rfl⟩
    have hc':l[a'].toNat=c:=hc.symm;have HCB:Hid (by_ l a'=c):=by show by_ l a'=c;rw[hc,by_eq]
    have hb0:(0:Int)≤(a':Int):=by omega
    have hb1:(a':Int)<(l.size:Int):=by omega
    rw[HCB.out]at HE2 HQ2;have HRP:Hid (∀X,Rdr X b T1 F1 l m' a' o→TzT X→Calls Tryz.prog 215 #[.pointer (some ⟨b,0,none⟩),pcV ⟨pe,pf,pl⟩,.int .u8 c] X (ChainP b T1 F1 l a' o X (repM m' ⟨pe,pf,pl⟩ c) (repP ⟨pe,pf,pl⟩ c))):=fun X h1 h2=>repeat_any b a' o c ⟨pe,pf,pl⟩ T1 F1 l m' X h1 h2 (by rw[HQr.out.1.1];exact HQr.out.2.1.2) (by rw[HQr.out.1.1];have:=HQr.out.2.2;omega);have c3:=(rd_cells HR3.out).2.2.1;have c4:=(rd_cells HR3.out).2.2.2.1;obtain⟨x0,x1,x2,x3,x4,x5,x6,x7,x8⟩:=cells9 J3.out;have HNJ:Hid (b≠w1.heap.size):=fun e=>HFU.out _ (Nat.le_refl _) (.inl e.symm);have HR3d:Hid (Rdr W3.drew b T1 F1 l m' a' o):=HR3.out.below (below_drew _);have HT3d:Hid (TzT W3.drew):=HT3.out;clear hc;generalize hmq:repM m' ⟨pe,pf,pl⟩ c=mq at*
    generalize hq:repP ⟨pe,pf,pl⟩ c=q at*
    obtain⟨qe,qf,ql⟩:=q;clear hq hmq;go_upto_region 3 with fail
    go_cut []from 17 to 30 (fun wx=>∃W6:World,W6=wx∧Hid (Rdr W6 b T1 F1 l mq a' o)∧Hid (Moves b T1 F1 w1 T1 F1 W6)∧Hid (Blk W6 w1.heap.size 210 (pcC ⟨qe,qf,ql⟩)))
    case first=>
     clear HE2 HQ2 HQr;refine wp_region_noPanic ?_
     go_region_with
      (first
        |(go_at_call 215;refine(HRP.out W3.drew HR3d.out HT3d.out).mono ?_;rintro e w5 ⟨rfl,hr5,hm5⟩
          have HR5:=hid hr5;have k3:=(rd_cells hr5).2.2.1;have k4:=(rd_cells hr5).2.2.2.1;have HM5:=hid (HM3.out.drew.trans hm5);have J5:=hid (Blk.moves (w:=W3.drew) (by exact J3.out) hm5 (HFU.out _ (Nat.le_refl _)));obtain⟨z0,z1,z2,z3,z4,z5,z6,z7,z8⟩:=cells9 J5.out;obtain⟨g0,g1,g2,g3,g4,g5,g6,g7,g8⟩:=frozen9 J5.out;clear hr5 hm5))
     all_goals
      have J6:=hid (J5.out.set9 (.bool qe) (wv qf 0) (wv qf 1) (wv qf 2) (wv qf 3) (wv ql 0) (wv ql 1) (wv ql 2) (wv ql 3));have HR6:=hid (HR5.out.set9 (HFU.out _ (Nat.le_refl _)) (.bool qe) (wv qf 0) (wv qf 1) (wv qf 2) (wv qf 3) (wv ql 0) (wv ql 1) (wv ql 2) (wv ql 3));have HM6:=hid (HM5.out.set9 (Nat.le_refl _) (.bool qe) (wv qf 0) (wv qf 1) (wv qf 2) (wv qf 3) (wv ql 0) (wv ql 1) (wv ql 2) (wv ql 3));unfold put9 at J6 HR6 HM6;refine NoPanic.normal ?_;generalize hW:(((((((((w5.setCell ⟨w1.heap.size,0,none⟩ (.bool qe)).setCell ⟨w1.heap.size,1,none⟩ (wv qf 0)).setCell ⟨w1.heap.size,2,none⟩ (wv qf 1)).setCell ⟨w1.heap.size,3,none⟩ (wv qf 2)).setCell ⟨w1.heap.size,4,none⟩ (wv qf 3)).setCell ⟨w1.heap.size,5,none⟩ (wv ql 0)).setCell ⟨w1.heap.size,6,none⟩ (wv ql 1)).setCell ⟨w1.heap.size,7,none⟩ (wv ql 2)).setCell ⟨w1.heap.size,8,none⟩ (wv ql 3))=W6 at*
      clear hW J5 HR5 HM5 k3 k4 c3 c4 x0 x1 x2 x3 x4 x5 x6 x7 x8 z0 z1 z2 z3 z4 z5 z6 z7 z8 g0 g1 g2 g3 g4 g5 g6 g7 g8;go_wp2_with fail
      go_meet
      exact⟨_,rfl,HR6,HM6,J6⟩
    case rest=>
     obtain⟨W6,rfl,HR6,HM6,J6⟩:=hcut;clear J3 HR3 HM3 HR3d HT3d HT3 c3 c4 x0 x1 x2 x3 x4 x5 x6 x7 x8 hc' HRP;have c4:=(rd_cells HR6.out).2.2.2.1;have cf:=HR6.out.blk.frozen 12;go_wp2;have HR7:=hid (HR6.out.set_at (a'+1) (.int .i64 ((a':Int)+1)) (by rfl));have HM7:=hid (HM6.out.set_foot (foot_self b T1 F1) 12 (.int .i64 ((a':Int)+1)));have J7:=hid (J6.out.other (k:=b) (fun e=>HNJ.out e.symm) 12 (.int .i64 ((a':Int)+1)));have HA7:Hid (atOf (W6.setCell ⟨b,12,none⟩ (.int .i64 ((a':Int)+1))) b=a'+1):=HR7.out.at_of
     go_roundw
     case rel=>exact⟨k',a'+1,mq,⟨qe,qf,ql⟩,by omega,by omega,HR7,HM7,J7,HQ2,HE2⟩
     case measure=>rw[HA7.out,HMEAS.out];omega
theorem cat_any(b a o:Nat)(T F:Value)(l:ByteArray)(grp:Nat→Mach→Res)(m:Mach)(w:World)(hr:Rdr w b T F l m a o)(hT:TzT w)(hl:l.size≤200)(ha:a≤l.size)(hm:Rx.Good m)(hn:m.takes.length≤a)(hg:GC b l o grp)(hf:FineG l grp):
 Calls Tryz.prog 185 #[.pointer (some ⟨b,0,none⟩)] w (PP b T F l o w (catF l grp a m)):=by
 have HR:=hid (hr.alloc (.cells zero9 210));have HM:=hid ((Moves.refl b T F w).alloc (.cells zero9 210));have B0:=hid (Blk.new w 210 zero9);have HT:=hid (HM.out.tz hr hT);have HFT:Hid (∀j,w.heap.size≤j→¬Foot b T F j):=fun j hj hf=>by have:=(hr.lt_foot hf).1;omega
 have HG:=hid hg;have HFG:=hid hf;have HQ1:Hid (Rx.Good m∧PcIn m.takes.length unit∧m.takes.length≤a):=⟨hm,unit_in _,hn⟩
 clear hr hT hg hm hf hn;go_enter Tryz.func185,Tryz.ntmps185;go_upto_region 1 with fail;generalize hW:w.alloc (.cells zero9 210)=W at*
 clear hW;have J1:Hid (Blk (W.alloc (.cells #[.bool true,.int .u64 0,.int .u64 0,.int .u64 0,.int .u64 0,.int .u64 0,.int .u64 0,.int .u64 0,.int .u64 0] 210)) W.heap.size 210 (pcC unit)):=by show Blk _ _ _ _;unfold pcC unit;simp only[wv_zero];exact Blk.new W 210 _
 have HR2:=hid (HR.out.alloc (.cells #[.bool true,.int .u64 0,.int .u64 0,.int .u64 0,.int .u64 0,.int .u64 0,.int .u64 0,.int .u64 0,.int .u64 0] 210));have JM:=hid ((Moves.refl b T F W).alloc (.cells #[.bool true,.int .u64 0,.int .u64 0,.int .u64 0,.int .u64 0,.int .u64 0,.int .u64 0,.int .u64 0,.int .u64 0] 210));have hlt:w.heap.size<W.heap.size:=B0.out.lt;have hne:w.heap.size≠W.heap.size:=by omega
 go_upto_region 2 with fail;generalize hW:W.alloc (.cells #[.bool true,.int .u64 0,.int .u64 0,.int .u64 0,.int .u64 0,.int .u64 0,.int .u64 0,.int .u64 0,.int .u64 0] 210)=W2 at*
 clear hW
 go_loopw [5,6] (fun s5 s6 wr=>∃(k a':Nat) (m':Mach) (p':Pc) (T' F':Value),l.size<k+a'∧a'≤l.size∧Hid (Rdr wr b T' F' l m' a' o)∧Hid (Moves b T F W T' F' wr)∧Hid (Blk wr W.heap.size 210 (pcC p'))∧Hid (Rx.Good m'∧PcIn m'.takes.length p'∧m'.takes.length≤a')∧Hid (catF l grp a m=catL l grp k a' m' p')) (fun s5 s6 wr=>l.size-atOf wr b)
 case atStart=>exact⟨l.size+1,a,m,unit,T,F,by omega,ha,HR2,JM,J1,HQ1,rfl⟩
 case round=>
  obtain⟨k,a',m',p',T1,F1,hk,ha',HRr,HMr,Jr,HQr,HE⟩:=hrel;have HMEAS:Hid (atOf wr b=a'):=HRr.out.at_of;have HTr:Hid (TzT wr):=HMr.out.tz HR.out HT.out;obtain⟨k',rfl⟩:∃k',k=k'+1:=⟨k-1,by omega⟩
  obtain⟨pe,pf,pl⟩:=p';by_cases hlt1:a'<l.size
  ·have HEN:=hid (ended_any b a' l false (by simp;omega) wr hl (rd_cells HRr.out).2.2.1 (rd_cells HRr.out).2.2.2.1)
   have HS:=hid (fun n=>sees_is b a' l ⟨#[124,41]⟩ [124,41] sg_cat (wr.drewN n) hl ha' (rd_cells HRr.out).2.2.1 (rd_cells HRr.out).2.2.2.1);cases hs:seesAny l a' [124,41]with
   |true=>
    rw[hs]at HS;have HE2:Hid (catF l grp a m=.ok a' m' ⟨pe,pf,pl⟩):=by show catF l grp a m=_;rw[HE.out];unfold catL;rw[if_neg (by rw[hs];simp)]
    clear hs HE;go_wp2_with fail;refine(HEN.out).mono ?_;rintro e w3⟨rfl,n3,rfl⟩;go_wp2_with fail;refine(HS.out n3).mono ?_;rintro e w4⟨rfl,n4,rfl⟩;have HR3:=hid ((HRr.out.drewN n3).drewN n4);have HM3:=hid ((HMr.out.drewN n3).drewN n4);have J3:=hid ((Jr.out.drewN n3).drewN n4);have B3:=hid (B0.out.moves HM3.out (HFT.out _ (Nat.le_refl _)));generalize hW:(wr.drewN n3).drewN n4=W3 at*
    clear hW HRr HMr Jr HTr HS HEN;obtain⟨x0,x1,x2,x3,x4,x5,x6,x7,x8⟩:=cells9 J3.out;obtain⟨r0,r1,r2,r3,r4,r5,r6,r7,r8⟩:=cells9 B3.out;obtain⟨g0,g1,g2,g3,g4,g5,g6,g7,g8⟩:=frozen9 B3.out;go_wp2;exact bodyPost_ret (v:=.tuple #[pcV ⟨pe,pf,pl⟩,.nilIface]) (by simp[results,Tryz.results185,go_sem,r0,r1,r2,r3,r4,r5,r6,r7,r8]) rfl (pp_ok HE2.out ((HM.out.trans HM3.out).set9 (Nat.le_refl _) _ _ _ _ _ _ _ _ _) rfl (HR3.out.set9 (HR3.out.off B3.out (by decide) (by decide)) _ _ _ _ _ _ _ _ _))
   |false=>
    rw[hs]at HS;have HRE:=hid (fun X (hX:Rdr X b T1 F1 l m' a' o) (hT:TzT X)=>rep_any b a' o T1 F1 l grp m' X hX hT hl hlt1 HQr.out.1 HQr.out.2.2 HG.out HFG.out);have HFI:=hid (rep_fine HFG.out hlt1 HQr.out.1);have HE2:Hid (∀r,repF l grp a' m'=r→catF l grp a m=match r with|.bad pl c=>.bad pl c|.ok a1 m1 p=>catL l grp k' a1 (chainM m1 ⟨pe,pf,pl⟩ p) (chainP ⟨pe,pf,pl⟩ p)):=fun r h=>by
     rw[HE.out];conv=>lhs;unfold catL
     rw[if_pos ⟨hlt1,hs⟩,h];cases r<;>rfl
    clear hs HE;go_wp2_with fail;refine(HEN.out).mono ?_;rintro e w3⟨rfl,n3,rfl⟩;go_wp2_with fail;refine(HS.out n3).mono ?_;rintro e w4⟨rfl,n4,rfl⟩;have HR3:=hid ((HRr.out.drewN n3).drewN n4);have HM3:=hid ((HMr.out.drewN n3).drewN n4);have J3:=hid ((Jr.out.drewN n3).drewN n4);have HT3:Hid (TzT ((wr.drewN n3).drewN n4)):=HTr.out;generalize hW:(wr.drewN n3).drewN n4=W3 at*
    clear hW HRr HMr Jr HTr HS HEN;go_wp2_with fail;refine(HRE.out W3 HR3.out HT3.out).mono ?_;rintro e w4⟨T2,F2,hm4,hrest⟩;have HM4:=hid (HM3.out.trans hm4);have J4:=hid (J3.out.moves hm4 (HR3.out.off J3.out (by decide) (by decide)));have B4:=hid (B0.out.moves HM4.out (HFT.out _ (Nat.le_refl _)));have HT4:Hid (TzT w4):=hm4.tz HR3.out HT3.out;have hj1:W.heap.size<w4.heap.size:=J4.out.lt;clear hm4 HRE HR3 HM3 J3 HT3;cases hA:repF l grp a' m' with
    |bad plc cc=>
     rw[hA]at hrest;obtain⟨p0,err,rfl,f,rfl,hB⟩:=hrest;have HX1:=hid (HE2.out _ hA);have HF:=hid (hB.alloc (.cells (pcC p0) 210));have BB:=hid (B4.out.alloc (.cells (pcC p0) 210));have MM:=hid (HM4.out.alloc (.cells (pcC p0) 210));clear hA hB HE2 HFI;obtain⟨pe0,pf0,pl0⟩:=p0;go_upto_region 4 with fail;generalize hW:w4.alloc (.cells (pcC _) 210)=W5 at*
     clear hW;obtain⟨r0,r1,r2,r3,r4,r5,r6,r7,r8⟩:=cells9 BB.out;obtain⟨g0,g1,g2,g3,g4,g5,g6,g7,g8⟩:=frozen9 BB.out;go_wp2;exact bodyPost_ret (v:=.tuple #[.agg zero9,.iface 175 (.pointer (some ⟨f,0,none⟩))]) (by simp[results,Tryz.results185,go_sem,r0,r1,r2,r3,r4,r5,r6,r7,r8]) rfl (pp_bad HX1.out ((HM.out.trans MM.out).set9 (Nat.le_refl _) _ _ _ _ _ _ _ _ _) pc0_eq (HF.out.set9_other (blk_ne HF.out BB.out (by decide)) _ _ _ _ _ _ _ _ _))
    |ok a2 m2 q2=>
     rw[hA]at hrest;obtain⟨rfl,hR4⟩:=hrest;obtain⟨f1,f2,f3,f4,f5,f6⟩:=HFI.out a2 m2 q2 hA;have HX1:Hid (catF l grp a m=catL l grp k' a2 (chainM m2 ⟨pe,pf,pl⟩ q2) (chainP ⟨pe,pf,pl⟩ q2)):=HE2.out _ hA;have hgc:=f3.chain (HQr.out.2.1.mono f5) f4;have HQ2:Hid (Rx.Good (chainM m2 ⟨pe,pf,pl⟩ q2)∧PcIn (chainM m2 ⟨pe,pf,pl⟩ q2).takes.length (chainP ⟨pe,pf,pl⟩ q2)∧(chainM m2 ⟨pe,pf,pl⟩ q2).takes.length≤a2):=⟨hgc.1,hgc.2,by have e:(chainM m2 ⟨pe,pf,pl⟩ q2).takes.length=m2.takes.length:=rfl;have:=HQr.out.2.2;omega⟩
     have HCH:Hid (∀X,Rdr X b T2 F2 l m2 a2 o→TzT X→Calls Tryz.prog 205 #[.pointer (some ⟨b,0,none⟩),pcV ⟨pe,pf,pl⟩,pcV q2] X (ChainP b T2 F2 l a2 o X (chainM m2 ⟨pe,pf,pl⟩ q2) (chainP ⟨pe,pf,pl⟩ q2))):=fun X h1 h2=>chain_any b a2 o ⟨pe,pf,pl⟩ q2 T2 F2 l m2 X h1 h2 (by rw[f3.1];exact(HQr.out.2.1.mono f5).2) (by rw[f3.1];have:=HQr.out.2.2;omega);have HR5:=hid (hR4.alloc (.cells (pcC q2) 210));have HM5:=hid (HM4.out.alloc (.cells (pcC q2) 210));have J5:=hid (J4.out.alloc (.cells (pcC q2) 210));have K5:=hid (Blk.new w4 210 (pcC q2));have HT5:Hid (TzT (w4.alloc (.cells (pcC q2) 210))):=HT4.out.below ((Below.refl _ _).alloc (Nat.le_refl _) _);clear hA HE2 HFI hgc f3 f4 f5 f6 hR4 HM4 J4 B4 HT4 HQr;generalize hcm:chainM m2 ⟨pe,pf,pl⟩ q2=cm at*
     generalize hcp:chainP ⟨pe,pf,pl⟩ q2=q at*
     clear hcm hcp;obtain⟨xe,xf,xl⟩:=q2;obtain⟨qe,qf,ql⟩:=q;go_upto_region 4 with fail;generalize hW:w4.alloc (.cells (pcC _) 210)=W5 at*
     clear hW;have HNJ:Hid (w4.heap.size≠W.heap.size):=by show _≠_;omega
     have HNB:Hid (b≠W.heap.size):=fun e=>HR5.out.off J5.out (by decide) (by decide) (.inl e.symm);have HFJ:Hid (¬Foot b T2 F2 W.heap.size):=HR5.out.off J5.out (by decide) (by decide);have HFK:Hid (¬Foot b T2 F2 w4.heap.size):=HR5.out.off K5.out (by decide) (by decide);have HR5d:Hid (Rdr W5.drew b T2 F2 l m2 a2 o):=HR5.out.below (below_drew _);have HT5d:Hid (TzT W5.drew):=HT5.out;obtain⟨x0,x1,x2,x3,x4,x5,x6,x7,x8⟩:=cells9 J5.out;obtain⟨y0,y1,y2,y3,y4,y5,y6,y7,y8⟩:=cells9 K5.out;go_upto_region 6 with fail
     go_region_with
      (first
        |(go_at_call 205;refine(HCH.out W5.drew HR5d.out HT5d.out).mono ?_;rintro e w6 ⟨rfl,hr6,hm6⟩
          have HR6:=hid hr6;have HM6:=hid (HM5.out.drew.trans hm6);have J6:=hid (Blk.moves (w:=W5.drew) (by exact J5.out) hm6 HFJ.out);have K6:=hid (Blk.moves (w:=W5.drew) (by exact K5.out) hm6 HFK.out);obtain⟨k0,k1,k2,k3,k4,k5,k6,k7,k8⟩:=cells9 K6.out;obtain⟨z0,z1,z2,z3,z4,z5,z6,z7,z8⟩:=cells9 J6.out;obtain⟨g0,g1,g2,g3,g4,g5,g6,g7,g8⟩:=frozen9 J6.out;clear hr6 hm6))
     all_goals
      have J7:=hid (J6.out.set9 (.bool qe) (wv qf 0) (wv qf 1) (wv qf 2) (wv qf 3) (wv ql 0) (wv ql 1) (wv ql 2) (wv ql 3));have HR7:=hid (HR6.out.set9 HFJ.out (.bool qe) (wv qf 0) (wv qf 1) (wv qf 2) (wv qf 3) (wv ql 0) (wv ql 1) (wv ql 2) (wv ql 3));have HM7:=hid (HM6.out.set9 (Nat.le_refl _) (.bool qe) (wv qf 0) (wv qf 1) (wv qf 2) (wv qf 3) (wv ql 0) (wv ql 1) (wv ql 2) (wv ql 3));unfold put9 at J7 HR7 HM7;generalize hW:(((((((((w6.setCell ⟨W.heap.size,0,none⟩ (.bool qe)).setCell ⟨W.heap.size,1,none⟩ (wv qf 0)).setCell ⟨W.heap.size,2,none⟩ (wv qf 1)).setCell ⟨W.heap.size,3,none⟩ (wv qf 2)).setCell ⟨W.heap.size,4,none⟩ (wv qf 3)).setCell ⟨W.heap.size,5,none⟩ (wv ql 0)).setCell ⟨W.heap.size,6,none⟩ (wv ql 1)).setCell ⟨W.heap.size,7,none⟩ (wv ql 2)).setCell ⟨W.heap.size,8,none⟩ (wv ql 3))=W6 at*
      clear hW J6 HR6 HM6 K6 J5 HR5 HM5 HR5d HT5d HT5 K5 x0 x1 x2 x3 x4 x5 x6 x7 x8 y0 y1 y2 y3 y4 y5 y6 y7 y8 z0 z1 z2 z3 z4 z5 z6 z7 z8 g0 g1 g2 g3 g4 g5 g6 g7 g8 k0 k1 k2 k3 k4 k5 k6 k7 k8 HCH;have HA7:Hid (atOf W6 b=a2):=HR7.out.at_of;go_wp2
      go_roundw
      case rel=>exact⟨k',a2,cm,⟨qe,qf,ql⟩,T2,F2,by omega,f2,HR7,HM7,J7,HQ2,HX1⟩
      case measure=>rw[HA7.out,HMEAS.out];omega
  ·obtain rfl:a'=l.size:=by omega
   have HEN:=hid (ended_any b l.size l true (by simp) wr hl (rd_cells HRr.out).2.2.1 (rd_cells HRr.out).2.2.2.1);have HE2:Hid (catF l grp a m=.ok l.size m' ⟨pe,pf,pl⟩):=by show catF l grp a m=_;rw[HE.out];unfold catL;rw[if_neg (by omega)]
   clear HE;go_wp2_with fail;refine(HEN.out).mono ?_;rintro e w3⟨rfl,n3,rfl⟩;have HR3:=hid (HRr.out.drewN n3);have HM3:=hid (HMr.out.drewN n3);have J3:=hid (Jr.out.drewN n3);have B3:=hid (B0.out.moves HM3.out (HFT.out _ (Nat.le_refl _)));generalize hW:wr.drewN n3=W3 at*
   clear hW HRr HMr Jr HTr HEN;obtain⟨x0,x1,x2,x3,x4,x5,x6,x7,x8⟩:=cells9 J3.out;obtain⟨r0,r1,r2,r3,r4,r5,r6,r7,r8⟩:=cells9 B3.out;obtain⟨g0,g1,g2,g3,g4,g5,g6,g7,g8⟩:=frozen9 B3.out;go_wp2;exact bodyPost_ret (v:=.tuple #[pcV ⟨pe,pf,pl⟩,.nilIface]) (by simp[results,Tryz.results185,go_sem,r0,r1,r2,r3,r4,r5,r6,r7,r8]) rfl (pp_ok HE2.out ((HM.out.trans HM3.out).set9 (Nat.le_refl _) _ _ _ _ _ _ _ _ _) rfl (HR3.out.set9 (HR3.out.off B3.out (by decide) (by decide)) _ _ _ _ _ _ _ _ _))
def altMeas(s:Value)(n:Nat):Nat:=match s with|.nilIface=>n|_=>0
def AltRel(b:Nat)(l:ByteArray)(o:Nat)(grp:Nat→Mach→Res)(target:Res)(p':Pc)(T' F' s5:Value)(wr:World):Prop:=
 (∃(k a':Nat) (m':Mach),s5=.nilIface∧l.size<k+a'∧a'≤l.size∧Rdr wr b T' F' l m' a' o∧(Rx.Good m'∧PcIn m'.takes.length p'∧m'.takes.length≤a')∧target=altL l grp k a' m' p')∨
 (∃(f pl c:Nat),s5=.iface 175 (.pointer (some ⟨f,0,none⟩))∧Blk wr f 177 #[.int .i64 pl,.iface 40 (.int .i64 c)]∧target=.bad pl c)
theorem alt_any(b a o:Nat)(T F:Value)(l:ByteArray)(grp:Nat→Mach→Res)(m:Mach)(w:World)(hr:Rdr w b T F l m a o)(hT:TzT w)(hl:l.size≤200)(ha:a≤l.size)(hm:Rx.Good m)(hn:m.takes.length≤a)(hg:GC b l o grp)(hf:FineG l grp):
 Calls Tryz.prog 149 #[.pointer (some ⟨b,0,none⟩)] w (PP b T F l o w (altF l grp a m)):=by
 have HR:=hid (hr.alloc (.cells zero9 210));have HM:=hid ((Moves.refl b T F w).alloc (.cells zero9 210));have B0:=hid (Blk.new w 210 zero9);have HT:=hid (HM.out.tz hr hT);have HFT:Hid (∀j,w.heap.size≤j→¬Foot b T F j):=fun j hj hf=>by have:=(hr.lt_foot hf).1;omega
 have HG:=hid hg;have HFG:=hid hf;have HFI:=hid (cat_fine hf ha hm);have HCA:=hid (cat_any b a o T F l grp m _ HR.out HT.out hl ha hm hn hg hf);have HX:Hid (∀r,catF l grp a m=r→altF l grp a m=match r with|.bad pl c=>.bad pl c|.ok a1 m1 p=>altL l grp (l.size+1) a1 m1 p):=fun r h=>by subst h;unfold altF;cases catF l grp a m<;>rfl
 have HNN:=hid hn;clear hr hT hg hm hf hn;go_enter Tryz.func149,Tryz.ntmps149;go_upto_region 1 with fail;generalize hW:w.alloc (.cells zero9 210)=W at*
 clear hW;have hlt:w.heap.size<W.heap.size:=B0.out.lt;go_wp2_with fail;refine(HCA.out).mono ?_;rintro e w1⟨T1,F1,hm1,hrest⟩;have HM1:=hid hm1;have HSH:Hid (∃p s5,e=.returned (.tuple #[pcV p,s5])∧AltRel b l o grp (altF l grp a m) p T1 F1 s5 (w1.alloc (.cells (pcC p) 210))):=by
  cases hA:catF l grp a m with
  |bad pl c=>rw[hA]at hrest;obtain⟨p,err,he,f,hf,hB⟩:=hrest;exact⟨p,err,he,.inr ⟨f,pl,c,hf,hB.alloc _,HX.out _ hA⟩⟩
  |ok a1 m1 p1=>rw[hA]at hrest;obtain⟨f1,f2,f3,f4,f5,f6⟩:=HFI.out a1 m1 p1 hA;exact⟨p1,.nilIface,hrest.1,.inl ⟨l.size+1,a1,m1,rfl,by omega,f2,hrest.2.alloc _,⟨f3,f4,by have:=HNN.out;omega⟩,HX.out _ hA⟩⟩
 obtain⟨p1,s5,rfl,hrel1⟩:=HSH.out;have HREL1:=hid hrel1;have J1:=hid (Blk.new w1 210 (pcC p1));have JM:=hid (hm1.alloc (.cells (pcC p1) 210));have hj1:W.heap.size≤w1.heap.size:=hm1.size;clear hrel1 hrest HSH HCA HFI HX hm1 HNN;obtain⟨pe0,pf0,pl0⟩:=p1;go_upto_region 2 with fail;generalize hW:w1.alloc (.cells (pcC _) 210)=W2 at*
 generalize hj:w1.heap.size=j1 at*
 clear hW hj
 go_loopw [5,6] (fun s5 s6 wr=>∃(p':Pc) (T' F':Value),Hid (Moves b T F W T' F' wr)∧Hid (Blk wr j1 210 (pcC p'))∧Hid (AltRel b l o grp (altF l grp a m) p' T' F' s5 wr)) (fun s5 s6 wr=>altMeas s5 (l.size+1-atOf wr b))
 case atStart=>exact⟨⟨pe0,pf0,pl0⟩,T1,F1,JM,J1,HREL1⟩
 case round=>
  obtain⟨p',T1,F1,HMr,Jr,HREL⟩:=hrel;obtain⟨pe,pf,pl⟩:=p';rcases HREL.out with ⟨k,a',m',rfl,hk,ha',hRr,hQr,hEr⟩|⟨f,plc,cc,rfl,hB,hEr⟩
  ·have HRr:=hid hRr
   have HQr:=hid hQr;have HE:=hid hEr;have HMEAS:Hid (atOf wr b=a'):=hRr.at_of;have HTr:Hid (TzT wr):=HMr.out.tz HR.out HT.out;clear hRr hQr hEr HREL;obtain⟨k',rfl⟩:∃k',k=k'+1:=⟨k-1,by omega⟩
   have HS:=hid (sees_is b a' l ⟨#[124]⟩ [124] sg_bar wr hl ha' (rd_cells HRr.out).2.2.1 (rd_cells HRr.out).2.2.2.1);rw[sees_one]at HS;cases hs:sees l a' 124 with
   |false=>
    rw[hs]at HS;have HE2:Hid (altF l grp a m=.ok a' m' ⟨pe,pf,pl⟩):=by show altF l grp a m=_;rw[HE.out];unfold altL;rw[hs];rfl
    clear hs HE;go_wp2_with fail;refine(HS.out).mono ?_;rintro e w3⟨rfl,n3,rfl⟩;have HR3:=hid (HRr.out.drewN n3);have HM3:=hid (HMr.out.drewN n3);have J3:=hid (Jr.out.drewN n3);have B3:=hid (B0.out.moves HM3.out (HFT.out _ (Nat.le_refl _)));generalize hW:wr.drewN n3=W3 at*
    clear hW HRr HMr Jr HTr HS;obtain⟨x0,x1,x2,x3,x4,x5,x6,x7,x8⟩:=cells9 J3.out;obtain⟨r0,r1,r2,r3,r4,r5,r6,r7,r8⟩:=cells9 B3.out;obtain⟨g0,g1,g2,g3,g4,g5,g6,g7,g8⟩:=frozen9 B3.out;have hne:w.heap.size≠j1:=by omega
    go_wp2;exact bodyPost_ret (v:=.tuple #[pcV ⟨pe,pf,pl⟩,.nilIface]) (by simp[results,Tryz.results149,go_sem,r0,r1,r2,r3,r4,r5,r6,r7,r8]) rfl (pp_ok HE2.out ((HM.out.trans HM3.out).set9 (Nat.le_refl _) _ _ _ _ _ _ _ _ _) rfl (HR3.out.set9 (HR3.out.off B3.out (by decide) (by decide)) _ _ _ _ _ _ _ _ _))
   |true=>
    rw[hs]at HS;have hlt1:=sees_lt hs;have HCA:=hid (fun X (hX:Rdr X b T1 F1 l m' (a'+1) o) (hT:TzT X)=>cat_any b (a'+1) o T1 F1 l grp m' X hX hT hl hlt1 HQr.out.1 (by have:=HQr.out.2.2;omega) HG.out HFG.out);have HFI:=hid (cat_fine HFG.out (show a'+1≤l.size from hlt1) HQr.out.1);have HE2:Hid (∀r,catF l grp (a'+1) m'=r→altF l grp a m=match r with|.bad pl c=>.bad pl c|.ok a1 m1 p=>altL l grp k' a1 m1 (eitherP ⟨pe,pf,pl⟩ p)):=fun r h=>by
     rw[HE.out];conv=>lhs;unfold altL
     rw[if_pos hs,h];cases r<;>rfl
    clear hs HE;go_wp2_with fail;refine(HS.out).mono ?_;rintro e w3⟨rfl,n3,rfl⟩;have HR3:=hid (HRr.out.drewN n3);have HM3:=hid (HMr.out.drewN n3);have J3:=hid (Jr.out.drewN n3);have HT3:Hid (TzT (wr.drewN n3)):=HTr.out;generalize hW:wr.drewN n3=W3 at*
    clear hW HRr HMr Jr HTr HS;have c4:=(rd_cells HR3.out).2.2.2.1;have cf:=HR3.out.blk.frozen 12;have HNB:Hid (j1≠b):=fun e=>HR3.out.off J3.out (by decide) (by decide) (.inl e);go_upto_region 4 with fail;have HR3a:=hid ((HR3.out.set_at (a'+1) (.int .i64 ((a':Int)+1)) (by rfl)).alloc (.cells zero9 210));have HM3a:=hid ((HM3.out.set_foot (foot_self b T1 F1) 12 (.int .i64 ((a':Int)+1))).alloc (.cells zero9 210));have J3a:=hid ((J3.out.other HNB.out 12 (.int .i64 ((a':Int)+1))).alloc (.cells zero9 210));have K3:=hid (Blk.new (W3.setCell ⟨b,12,none⟩ (.int .i64 ((a':Int)+1))) 210 zero9);have HT3a:Hid (TzT ((W3.setCell ⟨b,12,none⟩ (.int .i64 ((a':Int)+1))).alloc (.cells zero9 210))):=HM3a.out.tz HR.out HT.out;have hj2:W.heap.size≤(W3.setCell ⟨b,12,none⟩ (.int .i64 ((a':Int)+1))).heap.size:=(HM3.out.set_foot (foot_self b T1 F1) 12 (.int .i64 ((a':Int)+1))).size;have hjk:j1≠(W3.setCell ⟨b,12,none⟩ (.int .i64 ((a':Int)+1))).heap.size:=fun e=>by have:=(J3.out.other HNB.out 12 (.int .i64 ((a':Int)+1))).lt;omega
    clear HR3 HM3 J3 HT3 c4 cf;generalize hW:W3.setCell ⟨b,12,none⟩ (.int .i64 ((a':Int)+1))=W4 at*
    clear hW;go_upto_region 5 with fail;generalize hW:W4.alloc (.cells zero9 210)=W4a at*
    generalize hj:W4.heap.size=j2 at*
    clear hW hj;go_wp2_with fail;refine(HCA.out W4a HR3a.out HT3a.out).mono ?_;rintro e w4⟨T2,F2,hm4,hrest⟩;have HM4:=hid (HM3a.out.trans hm4);have J4:=hid (J3a.out.moves hm4 (HR3a.out.off J3a.out (by decide) (by decide)));have K4:=hid (K3.out.moves hm4 (HR3a.out.off K3.out (by decide) (by decide)));clear hm4 HCA HR3a HM3a J3a K3 HT3a;cases hA:catF l grp (a'+1) m' with
    |bad plc cc=>
     rw[hA]at hrest;obtain⟨p0,err,rfl,f,rfl,hB⟩:=hrest;have HX1:Hid (altF l grp a m=.bad plc cc):=HE2.out _ hA;have F4:=hid hB;clear hA hB HE2 HFI HQr;have HEI:Hid (∀X,Calls Tryz.prog 187 #[.pointer (some ⟨b,0,none⟩),pcV ⟨pe,pf,pl⟩,pcV p0] X fun e w'=>e=.returned (pcV (eitherP ⟨pe,pf,pl⟩ p0))∧Below X.heap.size X w'):=fun X=>either_any b ⟨pe,pf,pl⟩ p0 X;obtain⟨xe,xf,xl⟩:=p0;generalize hcp:eitherP ⟨pe,pf,pl⟩ ⟨xe,xf,xl⟩=q at*
     obtain⟨qe,qf,ql⟩:=q;obtain⟨x0,x1,x2,x3,x4,x5,x6,x7,x8⟩:=cells9 K4.out;obtain⟨g0,g1,g2,g3,g4,g5,g6,g7,g8⟩:=frozen9 K4.out;have K5:=hid (K4.out.set9 (.bool xe) (wv xf 0) (wv xf 1) (wv xf 2) (wv xf 3) (wv xl 0) (wv xl 1) (wv xl 2) (wv xl 3));have J5:=hid (J4.out.set9_other hjk (.bool xe) (wv xf 0) (wv xf 1) (wv xf 2) (wv xf 3) (wv xl 0) (wv xl 1) (wv xl 2) (wv xl 3));have HM5:=hid (HM4.out.set9 (j:=j2) hj2 (.bool xe) (wv xf 0) (wv xf 1) (wv xf 2) (wv xf 3) (wv xl 0) (wv xl 1) (wv xl 2) (wv xl 3));have F5:=hid (F4.out.set9_other (blk_ne F4.out K4.out (by decide)) (.bool xe) (wv xf 0) (wv xf 1) (wv xf 2) (wv xf 3) (wv xl 0) (wv xl 1) (wv xl 2) (wv xl 3));unfold put9 at K5 J5 HM5 F5;go_upto_region 6 with fail;generalize hW:(((((((((w4.setCell ⟨j2,0,none⟩ (.bool xe)).setCell ⟨j2,1,none⟩ (wv xf 0)).setCell ⟨j2,2,none⟩ (wv xf 1)).setCell ⟨j2,3,none⟩ (wv xf 2)).setCell ⟨j2,4,none⟩ (wv xf 3)).setCell ⟨j2,5,none⟩ (wv xl 0)).setCell ⟨j2,6,none⟩ (wv xl 1)).setCell ⟨j2,7,none⟩ (wv xl 2)).setCell ⟨j2,8,none⟩ (wv xl 3))=W5 at*
     clear hW hcp K4 J4 HM4 x0 x1 x2 x3 x4 x5 x6 x7 x8 g0 g1 g2 g3 g4 g5 g6 g7 g8;obtain⟨x0,x1,x2,x3,x4,x5,x6,x7,x8⟩:=cells9 J5.out;obtain⟨y0,y1,y2,y3,y4,y5,y6,y7,y8⟩:=cells9 K5.out;have HNJ:Hid (j2≠j1):=fun e=>hjk e.symm
     go_region_with
      (first
        |(go_at_call 187;refine(HEI.out W5.drew).mono ?_;rintro e w6 ⟨rfl,hb6⟩
          have HM6:=hid (HM5.out.drew.below hb6);have J6:=hid (Blk.below (w:=W5.drew) (by exact J5.out) hb6);have K6:=hid (Blk.below (w:=W5.drew) (by exact K5.out) hb6);have F6:=hid (Blk.below (w:=W5.drew) (by exact F5.out) hb6);obtain⟨k0,k1,k2,k3,k4,k5,k6,k7,k8⟩:=cells9 K6.out;obtain⟨z0,z1,z2,z3,z4,z5,z6,z7,z8⟩:=cells9 J6.out;obtain⟨g0,g1,g2,g3,g4,g5,g6,g7,g8⟩:=frozen9 J6.out;clear hb6))
     all_goals
      have J8:=hid (J6.out.set9 (.bool qe) (wv qf 0) (wv qf 1) (wv qf 2) (wv qf 3) (wv ql 0) (wv ql 1) (wv ql 2) (wv ql 3));have HM8:=hid (HM6.out.set9 hj1 (.bool qe) (wv qf 0) (wv qf 1) (wv qf 2) (wv qf 3) (wv ql 0) (wv ql 1) (wv ql 2) (wv ql 3));have F8:=hid (F6.out.set9_other (blk_ne F6.out J6.out (by decide)) (.bool qe) (wv qf 0) (wv qf 1) (wv qf 2) (wv qf 3) (wv ql 0) (wv ql 1) (wv ql 2) (wv ql 3));unfold put9 at J8 HM8 F8;generalize hW:(((((((((w6.setCell ⟨j1,0,none⟩ (.bool qe)).setCell ⟨j1,1,none⟩ (wv qf 0)).setCell ⟨j1,2,none⟩ (wv qf 1)).setCell ⟨j1,3,none⟩ (wv qf 2)).setCell ⟨j1,4,none⟩ (wv qf 3)).setCell ⟨j1,5,none⟩ (wv ql 0)).setCell ⟨j1,6,none⟩ (wv ql 1)).setCell ⟨j1,7,none⟩ (wv ql 2)).setCell ⟨j1,8,none⟩ (wv ql 3))=W8 at*
      clear hW J6 HM6 K6 J5 HM5 K5 x0 x1 x2 x3 x4 x5 x6 x7 x8 y0 y1 y2 y3 y4 y5 y6 y7 y8 z0 z1 z2 z3 z4 z5 z6 z7 z8 g0 g1 g2 g3 g4 g5 g6 g7 g8 k0 k1 k2 k3 k4 k5 k6 k7 k8 HEI;have HREL:Hid (AltRel b l o grp (altF l grp a m) ⟨qe,qf,ql⟩ T2 F2 (.iface 175 (.pointer (some ⟨f,0,none⟩))) W8):=.inr ⟨f,plc,cc,rfl,F8.out,HX1.out⟩;go_wp2
      go_roundw
      case rel=>exact⟨⟨qe,qf,ql⟩,T2,F2,HM8,J8,HREL⟩
      case measure=>unfold altMeas;rw[HMEAS.out];show 0<l.size+1-a';omega
    |ok a2 m2 q2=>
     rw[hA]at hrest;obtain⟨rfl,hR4⟩:=hrest;obtain⟨f1,f2,f3,f4,f5,f6⟩:=HFI.out a2 m2 q2 hA;have HX1:Hid (altF l grp a m=altL l grp k' a2 m2 (eitherP ⟨pe,pf,pl⟩ q2)):=HE2.out _ hA;have HQ2:Hid (Rx.Good m2∧PcIn m2.takes.length (eitherP ⟨pe,pf,pl⟩ q2)∧m2.takes.length≤a2):=⟨f3,either_in (HQr.out.2.1.mono f5) f4,by have:=HQr.out.2.2;omega⟩
     have HR4:=hid hR4;clear hA HE2 HFI f3 f4 f5 f6 hR4 HQr;have HEI:Hid (∀X,Calls Tryz.prog 187 #[.pointer (some ⟨b,0,none⟩),pcV ⟨pe,pf,pl⟩,pcV q2] X fun e w'=>e=.returned (pcV (eitherP ⟨pe,pf,pl⟩ q2))∧Below X.heap.size X w'):=fun X=>either_any b ⟨pe,pf,pl⟩ q2 X;obtain⟨xe,xf,xl⟩:=q2;generalize hcp:eitherP ⟨pe,pf,pl⟩ ⟨xe,xf,xl⟩=q at*
     obtain⟨qe,qf,ql⟩:=q;obtain⟨x0,x1,x2,x3,x4,x5,x6,x7,x8⟩:=cells9 K4.out;obtain⟨g0,g1,g2,g3,g4,g5,g6,g7,g8⟩:=frozen9 K4.out;have K5:=hid (K4.out.set9 (.bool xe) (wv xf 0) (wv xf 1) (wv xf 2) (wv xf 3) (wv xl 0) (wv xl 1) (wv xl 2) (wv xl 3));have J5:=hid (J4.out.set9_other hjk (.bool xe) (wv xf 0) (wv xf 1) (wv xf 2) (wv xf 3) (wv xl 0) (wv xl 1) (wv xl 2) (wv xl 3));have HM5:=hid (HM4.out.set9 (j:=j2) hj2 (.bool xe) (wv xf 0) (wv xf 1) (wv xf 2) (wv xf 3) (wv xl 0) (wv xl 1) (wv xl 2) (wv xl 3));have HR5:=hid (HR4.out.set9 (HR4.out.off K4.out (by decide) (by decide)) (.bool xe) (wv xf 0) (wv xf 1) (wv xf 2) (wv xf 3) (wv xl 0) (wv xl 1) (wv xl 2) (wv xl 3));unfold put9 at K5 J5 HM5 HR5;go_upto_region 6 with fail;generalize hW:(((((((((w4.setCell ⟨j2,0,none⟩ (.bool xe)).setCell ⟨j2,1,none⟩ (wv xf 0)).setCell ⟨j2,2,none⟩ (wv xf 1)).setCell ⟨j2,3,none⟩ (wv xf 2)).setCell ⟨j2,4,none⟩ (wv xf 3)).setCell ⟨j2,5,none⟩ (wv xl 0)).setCell ⟨j2,6,none⟩ (wv xl 1)).setCell ⟨j2,7,none⟩ (wv xl 2)).setCell ⟨j2,8,none⟩ (wv xl 3))=W5 at*
     clear hW hcp K4 J4 HM4 x0 x1 x2 x3 x4 x5 x6 x7 x8 g0 g1 g2 g3 g4 g5 g6 g7 g8;obtain⟨x0,x1,x2,x3,x4,x5,x6,x7,x8⟩:=cells9 J5.out;obtain⟨y0,y1,y2,y3,y4,y5,y6,y7,y8⟩:=cells9 K5.out;have HNJ:Hid (j2≠j1):=fun e=>hjk e.symm
     go_region_with
      (first
        |(go_at_call 187;refine(HEI.out W5.drew).mono ?_;rintro e w6 ⟨rfl,hb6⟩
          have HM6:=hid (HM5.out.drew.below hb6);have J6:=hid (Blk.below (w:=W5.drew) (by exact J5.out) hb6);have K6:=hid (Blk.below (w:=W5.drew) (by exact K5.out) hb6);have HR6:=hid (Rdr.below (w:=W5.drew) (by exact HR5.out.below (below_drew _)) hb6);obtain⟨k0,k1,k2,k3,k4,k5,k6,k7,k8⟩:=cells9 K6.out;obtain⟨z0,z1,z2,z3,z4,z5,z6,z7,z8⟩:=cells9 J6.out;obtain⟨g0,g1,g2,g3,g4,g5,g6,g7,g8⟩:=frozen9 J6.out;clear hb6))
     all_goals
      have J8:=hid (J6.out.set9 (.bool qe) (wv qf 0) (wv qf 1) (wv qf 2) (wv qf 3) (wv ql 0) (wv ql 1) (wv ql 2) (wv ql 3));have HM8:=hid (HM6.out.set9 hj1 (.bool qe) (wv qf 0) (wv qf 1) (wv qf 2) (wv qf 3) (wv ql 0) (wv ql 1) (wv ql 2) (wv ql 3));have HR8:=hid (HR6.out.set9 (HR6.out.off J6.out (by decide) (by decide)) (.bool qe) (wv qf 0) (wv qf 1) (wv qf 2) (wv qf 3) (wv ql 0) (wv ql 1) (wv ql 2) (wv ql 3));unfold put9 at J8 HM8 HR8;generalize hW:(((((((((w6.setCell ⟨j1,0,none⟩ (.bool qe)).setCell ⟨j1,1,none⟩ (wv qf 0)).setCell ⟨j1,2,none⟩ (wv qf 1)).setCell ⟨j1,3,none⟩ (wv qf 2)).setCell ⟨j1,4,none⟩ (wv qf 3)).setCell ⟨j1,5,none⟩ (wv ql 0)).setCell ⟨j1,6,none⟩ (wv ql 1)).setCell ⟨j1,7,none⟩ (wv ql 2)).setCell ⟨j1,8,none⟩ (wv ql 3))=W8 at*
      clear hW J6 HM6 K6 J5 HM5 K5 x0 x1 x2 x3 x4 x5 x6 x7 x8 y0 y1 y2 y3 y4 y5 y6 y7 y8 z0 z1 z2 z3 z4 z5 z6 z7 z8 g0 g1 g2 g3 g4 g5 g6 g7 g8 k0 k1 k2 k3 k4 k5 k6 k7 k8 HEI;have HREL:Hid (AltRel b l o grp (altF l grp a m) ⟨qe,qf,ql⟩ T2 F2 .nilIface W8):=.inl ⟨k',a2,m2,rfl,by omega,f2,HR8.out,HQ2.out,HX1.out⟩;have HA8:Hid (atOf W8 b=a2):=HR8.out.at_of;go_wp2
      go_roundw
      case rel=>exact⟨⟨qe,qf,ql⟩,T2,F2,HM8,J8,HREL⟩
      case measure=>unfold altMeas;rw[HA8.out,HMEAS.out];show l.size+1-a2<l.size+1-a';omega
  ·have HE2:=hid hEr
   have HF:=hid hB;have B3:=hid (B0.out.moves HMr.out (HFT.out _ (Nat.le_refl _)));clear hB hEr HREL;obtain⟨x0,x1,x2,x3,x4,x5,x6,x7,x8⟩:=cells9 Jr.out;obtain⟨r0,r1,r2,r3,r4,r5,r6,r7,r8⟩:=cells9 B3.out;obtain⟨g0,g1,g2,g3,g4,g5,g6,g7,g8⟩:=frozen9 B3.out;have hne:w.heap.size≠j1:=by omega
   go_wp2;exact bodyPost_ret (v:=.tuple #[pcV ⟨pe,pf,pl⟩,.iface 175 (.pointer (some ⟨f,0,none⟩))]) (by simp[results,Tryz.results149,go_sem,r0,r1,r2,r3,r4,r5,r6,r7,r8]) rfl (pp_bad HE2.out ((HM.out.trans HMr.out).set9 (Nat.le_refl _) _ _ _ _ _ _ _ _ _) rfl (HF.out.set9_other (blk_ne HF.out B3.out (by decide)) _ _ _ _ _ _ _ _ _))
end Go.Proofs.YticmkabafmmlhaaGreatDoor.Rg

set_option linter.unusedVariables false
set_option maxRecDepth 100000
set_option maxHeartbeats 8000000
namespace Go.Proofs.YticmkabafmmlhaaGreatDoor.Rg
open Go.RowKit Rx
open Lib (hid)
theorem sees_par(b a:Nat)(l:ByteArray)(r:Bool)(hs:sees l a 41=r)(w:World)(hl:l.size≤200)(ha:a≤l.size)(c1:w.cell? ⟨b,11,none⟩=some (.string l))(c2:w.cell? ⟨b,12,none⟩=some (.int .i64 a)):
 Calls Tryz.prog 186 #[.pointer (some ⟨b,0,none⟩),.string ⟨#[41]⟩] w fun e w'=>e=.returned (.bool r)∧∃n,w'=w.drewN n:=by
 have h:=sees_is b a l ⟨#[41]⟩ [41] sg_par w hl ha c1 c2;rw[sees_one,hs]at h;exact h
theorem group_more(b a o d:Nat)(T F:Value)(l:ByteArray)(m:Mach)(w:World)(hr:Rdr w b T F l m a o)(hT:TzT w)(hl:l.size≤200)(ha:a<l.size)(hm:Rx.Good m)(hn:m.takes.length≤a)(ho:o<32)(hg:GC b l (o+1) (grpF l d)):
 Calls Tryz.prog 222 #[.pointer (some ⟨b,0,none⟩)] w (PP b T F l o w (grpF l (d+1) a m)):=by
 have HR:=hid (hr.alloc (.cells zero9 210));have HM:=hid ((Moves.refl b T F w).alloc (.cells zero9 210));have B0:=hid (Blk.new w 210 zero9);have HT:=hid (HM.out.tz hr hT);have HFT:Hid (∀j,w.heap.size≤j→¬Foot b T F j):=fun j hj hf=>by have:=(hr.lt_foot hf).1;omega
 have HX:Hid (∀r,altF l (grpF l d) (a+1) m=r→grpF l (d+1) a m=match r with|.bad pl c=>.bad pl c|.ok a1 m1 p=>if sees l a1 41=true then .ok (a1+1) m1 p else .bad a1 2):=fun r h=>by
  subst h
  conv=>lhs;unfold grpF
  cases altF l (grpF l d) (a+1) m<;>rfl
 have HFI:=hid (alt_fine (grp_fine l d) (show a+1≤l.size from ha) hm);have HAL:=hid (fun X (hX:Rdr X b T F l m (a+1) (o+1)) hT=>alt_any b (a+1) (o+1) T F l (grpF l d) m X hX hT hl ha hm (by omega) hg (grp_fine l d));have ho32:((o:Int)==32)=false:=by simp;omega
 clear hr hT hg hm;go_enter Tryz.func222,Tryz.ntmps222;go_upto_region 1 with fail;generalize hW:w.alloc (.cells zero9 210)=W at*
 have hsz:w.heap.size<W.heap.size:=B0.out.lt;clear hW;have q4:=(rd_cells HR.out).2.2.2.1;have q5:=(rd_cells HR.out).2.2.2.2;have f13:=HR.out.blk.frozen 13;go_upto_region 4 with fail;have HR1:=hid (HR.out.set_open (o+1) (.int .i64 ((o:Int)+1)) (by rfl));have HM1:=hid (HM.out.set_foot (foot_self b T F) 13 (.int .i64 ((o:Int)+1)));have B1:=hid (B0.out.other (k:=b) (fun e=>HFT.out _ (Nat.le_refl _) (.inl e)) 13 (.int .i64 ((o:Int)+1)));have HT1:Hid (TzT (W.setCell ⟨b,13,none⟩ (.int .i64 ((o:Int)+1)))):=((Moves.refl b T F W).set_foot (foot_self b T F) 13 (.int .i64 ((o:Int)+1))).tz HR.out HT.out;generalize hW:W.setCell ⟨b,13,none⟩ (.int .i64 ((o:Int)+1))=W1 at*
 clear hW HR HM B0 HT q4 q5 f13;have q4:=(rd_cells HR1.out).2.2.2.1;have f12:=HR1.out.blk.frozen 12;go_upto_region 5 with fail;have HR2:=hid (HR1.out.set_at (a+1) (.int .i64 ((a:Int)+1)) (by rfl));have HM2:=hid (HM1.out.set_foot (foot_self b T F) 12 (.int .i64 ((a:Int)+1)));have B2:=hid (B1.out.other (k:=b) (fun e=>HFT.out _ (Nat.le_refl _) (.inl e)) 12 (.int .i64 ((a:Int)+1)));have HT2:Hid (TzT (W1.setCell ⟨b,12,none⟩ (.int .i64 ((a:Int)+1)))):=((Moves.refl b T F W1).set_foot (foot_self b T F) 12 (.int .i64 ((a:Int)+1))).tz HR1.out HT1.out;generalize hW:W1.setCell ⟨b,12,none⟩ (.int .i64 ((a:Int)+1))=W2 at*
 clear hW HR1 HM1 B1 HT1 q4 f12;have HA1:=hid (HAL.out W2 HR2.out HT2.out);clear HAL;go_wp2_with fail;refine(HA1.out).mono ?_;rintro e W3⟨T3,F3,hm3,hrest⟩;have HM3:=hid (HM2.out.trans hm3);have B3:=hid (B2.out.moves hm3 (HFT.out _ (Nat.le_refl _)));have h3l:=hid B3.out.lt;clear hm3 HA1 HR2 HM2 B2 HT2;cases hA:altF l (grpF l d) (a+1) m with
 |bad pl c=>
  rw[hA]at hrest;obtain⟨p,err,rfl,f,rfl,hB⟩:=hrest;have HX1:Hid (grpF l (d+1) a m=.bad pl c):=HX.out _ hA;have B4:=hid (B3.out.alloc (.cells (pcC p) 210));have HM4:=hid (HM3.out.alloc (.cells (pcC p) 210));have F4:=hid (Blk.alloc hB (.cells (pcC p) 210));clear hA hB HX HFI HM3 B3;obtain⟨pe,pf,pl'⟩:=p;go_upto_region 6 with fail;generalize hW:W3.alloc (.cells (pcC _) 210)=W4 at*
  clear hW;obtain⟨r0,r1,r2,r3,r4,r5,r6,r7,r8⟩:=cells9 B4.out;obtain⟨g0,g1,g2,g3,g4,g5,g6,g7,g8⟩:=frozen9 B4.out;go_wp2;exact bodyPost_ret (v:=.tuple #[.agg zero9,.iface 175 (.pointer (some ⟨f,0,none⟩))]) (by simp[results,Tryz.results222,go_sem,r0,r1,r2,r3,r4,r5,r6,r7,r8]) rfl (pp_bad HX1.out (HM4.out.set9 (Nat.le_refl _) _ _ _ _ _ _ _ _ _) pc0_eq (F4.out.set9_other (blk_ne F4.out B4.out (by decide)) _ _ _ _ _ _ _ _ _))
 |ok a1 m1 p=>
  rw[hA]at hrest;obtain⟨rfl,hR3⟩:=hrest;have ha1:a1≤l.size:=(HFI.out a1 m1 p hA).2.1;have HX1:Hid (grpF l (d+1) a m=if sees l a1 41=true then .ok (a1+1) m1 p else .bad a1 2):=HX.out _ hA;have B4:=hid (B3.out.alloc (.cells (pcC p) 210));have HM4:=hid (HM3.out.alloc (.cells (pcC p) 210));have HR4:=hid (hR3.alloc (.cells (pcC p) 210));have P4:=hid (Blk.new W3 210 (pcC p));clear hA hR3 HX HFI HM3 B3;obtain⟨pe,pf,pl'⟩:=p;go_upto_region 6 with fail;have h34:=h3l.out;generalize hW:W3.alloc (.cells (pcC _) 210)=W4 at*
  generalize hj:W3.heap.size=j3 at*
  clear hW hj;have HS:=hid (fun r (hs:sees l a1 41=r)=>sees_par b a1 l r hs W4 hl ha1 (rd_cells HR4.out).2.2.1 (rd_cells HR4.out).2.2.2.1);cases hs:sees l a1 41 with
  |false=>
   have HS1:=hid (HS.out false hs);have HX2:Hid (grpF l (d+1) a m=.bad a1 2):=HX1.out.trans (if_neg (by rw[hs];simp));clear hs HX1 HS;go_wp2_with fail;refine(HS1.out).mono ?_;rintro e w5⟨rfl,n5,rfl⟩;have HR5:=hid (HR4.out.drewN n5);have HM5:=hid (HM4.out.drewN n5);have B5:=hid (B4.out.drewN n5);generalize W4.drewN n5=W5 at*
   clear HR4 HM4 B4 P4 HS1;have HB:=hid (bad_any b a1 W5 (rd_cells HR5.out).2.2.2.1);go_wp2_with fail;refine(HB.out).mono ?_;rintro e w6⟨f,rfl,hf,hb⟩;have B6:=hid (B5.out.below hb);have HM6:=hid (HM5.out.below hb);have F6:=hid (hf.set9_other (blk_ne hf B6.out (by decide)) (.bool false) (.int .u64 0) (.int .u64 0) (.int .u64 0) (.int .u64 0) (.int .u64 0) (.int .u64 0) (.int .u64 0) (.int .u64 0));clear hf hb;obtain⟨r0,r1,r2,r3,r4,r5,r6,r7,r8⟩:=cells9 B6.out;obtain⟨g0,g1,g2,g3,g4,g5,g6,g7,g8⟩:=frozen9 B6.out;go_wp2;exact bodyPost_ret (v:=.tuple #[.agg zero9,.iface 175 (.pointer (some ⟨f,0,none⟩))]) (by simp[results,Tryz.results222,go_sem,r0,r1,r2,r3,r4,r5,r6,r7,r8]) rfl (pp_bad HX2.out (HM6.out.set9 (Nat.le_refl _) _ _ _ _ _ _ _ _ _) pc0_eq F6.out)
  |true=>
   have HS1:=hid (HS.out true hs);have HX2:Hid (grpF l (d+1) a m=.ok (a1+1) m1 ⟨pe,pf,pl'⟩):=HX1.out.trans (if_pos hs);clear hs HX1 HS;go_wp2_with fail;refine(HS1.out).mono ?_;rintro e w5⟨rfl,n5,rfl⟩;have HR5:=hid (HR4.out.drewN n5);have HM5:=hid (HM4.out.drewN n5);have B5:=hid (B4.out.drewN n5);have P5:=hid (P4.out.drewN n5);generalize W4.drewN n5=W5 at*
   clear HR4 HM4 B4 P4 HS1;have hnB:w.heap.size≠b:=fun e=>HR5.out.off B5.out (by decide) (by decide) (.inl e);have hnP:j3≠b:=fun e=>HR5.out.off P5.out (by decide) (by decide) (.inl e);have q5:=(rd_cells HR5.out).2.2.2.2;have f13:=HR5.out.blk.frozen 13;go_upto_region 11 with fail;have HR6:Hid (Rdr (W5.setCell ⟨b,13,none⟩ (.int .i64 o)) b T3 F3 l m1 a1 o):=HR5.out.set_open o _ rfl;have HM6:=hid (HM5.out.set_foot (foot_self b T3 F3) 13 (.int .i64 o));have B6:=hid (B5.out.other (k:=b) hnB 13 (.int .i64 o));have P6:=hid (P5.out.other (k:=b) hnP 13 (.int .i64 o));generalize W5.setCell ⟨b,13,none⟩ (.int .i64 o)=W6 at*
   clear HR5 HM5 B5 P5 q5 f13;have q4:=(rd_cells HR6.out).2.2.2.1;have f12:=HR6.out.blk.frozen 12;go_upto_region 12 with fail;have HR7:=hid (HR6.out.set_at (a1+1) (.int .i64 ((a1:Int)+1)) (by rfl));have HM7:=hid (HM6.out.set_foot (foot_self b T3 F3) 12 (.int .i64 ((a1:Int)+1)));have B7:=hid (B6.out.other (k:=b) hnB 12 (.int .i64 ((a1:Int)+1)));have P7:=hid (P6.out.other (k:=b) hnP 12 (.int .i64 ((a1:Int)+1)));generalize W6.setCell ⟨b,12,none⟩ (.int .i64 ((a1:Int)+1))=W7 at*
   clear HR6 HM6 B6 P6 q4 f12;obtain⟨r0,r1,r2,r3,r4,r5,r6,r7,r8⟩:=cells9 B7.out;obtain⟨g0,g1,g2,g3,g4,g5,g6,g7,g8⟩:=frozen9 B7.out;obtain⟨x0,x1,x2,x3,x4,x5,x6,x7,x8⟩:=cells9 P7.out;go_wp2;exact bodyPost_ret (v:=.tuple #[pcV ⟨pe,pf,pl'⟩,.nilIface]) (by simp[results,Tryz.results222,go_sem,r0,r1,r2,r3,r4,r5,r6,r7,r8]) rfl (pp_ok HX2.out (HM7.out.set9 (Nat.le_refl _) _ _ _ _ _ _ _ _ _) rfl (HR7.out.set9 (HR7.out.off B7.out (by decide) (by decide)) _ _ _ _ _ _ _ _ _))
theorem kept_alloc{w:World}{a:Addr}{v:Value}(h:w.cell? a=some v)(o:Obj):(w.alloc o).cell? a=some v:=below_cell ((Below.refl _ _).alloc (Nat.le_refl _) o) h
theorem group_deep(b a:Nat)(T F:Value)(l:ByteArray)(m:Mach)(w:World)(hr:Rdr w b T F l m a 32)(hl:l.size≤200):
 Calls Tryz.prog 222 #[.pointer (some ⟨b,0,none⟩)] w (PP b T F l 32 w (grpF l 0 a m)):=by
 have HR:=hid (hr.alloc (.cells zero9 210));have HM:=hid ((Moves.refl b T F w).alloc (.cells zero9 210));have B0:=hid (Blk.new w 210 zero9);have HFT:Hid (∀j,w.heap.size≤j→¬Foot b T F j):=fun j hj hf=>by have:=(hr.lt_foot hf).1;omega
 clear hr;go_enter Tryz.func222,Tryz.ntmps222;go_upto_region 1 with fail;generalize hW:w.alloc (.cells zero9 210)=W at*
 have hsz:w.heap.size<W.heap.size:=B0.out.lt;clear hW;have q4:=(rd_cells HR.out).2.2.2.1;have q5:=(rd_cells HR.out).2.2.2.2;have HNB:Hid (b≠w.heap.size):=fun e=>HFT.out _ (Nat.le_refl _) (.inl e.symm);have HBA:=hid (B0.out.alloc (.cells #[.int .i64 a,.iface 40 (.int .i64 12)] 177));have HMA:=hid ((HM.out.alloc (.cells #[.int .i64 a,.iface 40 (.int .i64 12)] 177)).set9 (Nat.le_refl _) (.bool false) (.int .u64 0) (.int .u64 0) (.int .u64 0) (.int .u64 0) (.int .u64 0) (.int .u64 0) (.int .u64 0) (.int .u64 0));have HFA:=hid ((Blk.new W 177 #[.int .i64 a,.iface 40 (.int .i64 12)]).set9_other (j:=w.heap.size) (by omega) (.bool false) (.int .u64 0) (.int .u64 0) (.int .u64 0) (.int .u64 0) (.int .u64 0) (.int .u64 0) (.int .u64 0) (.int .u64 0));have HMB:=hid ((HM.out.set9 (Nat.le_refl _) (.bool false) (.int .u64 0) (.int .u64 0) (.int .u64 0) (.int .u64 0) (.int .u64 0) (.int .u64 0) (.int .u64 0) (.int .u64 0)).alloc (.cells #[.int .i64 a,.iface 40 (.int .i64 12)] 177));have HFB:Hid (Blk ((put9 W w.heap.size (.bool false) (.int .u64 0) (.int .u64 0) (.int .u64 0) (.int .u64 0) (.int .u64 0) (.int .u64 0) (.int .u64 0) (.int .u64 0)).alloc (.cells #[.int .i64 a,.iface 40 (.int .i64 12)] 177)) W.heap.size 177 #[.int .i64 a,.iface 40 (.int .i64 12)]):=by
  have h:=Blk.new (put9 W w.heap.size (.bool false) (.int .u64 0) (.int .u64 0) (.int .u64 0) (.int .u64 0) (.int .u64 0) (.int .u64 0) (.int .u64 0) (.int .u64 0)) 177 #[.int .i64 a,.iface 40 (.int .i64 12)];have e:(put9 W w.heap.size (.bool false) (.int .u64 0) (.int .u64 0) (.int .u64 0) (.int .u64 0) (.int .u64 0) (.int .u64 0) (.int .u64 0) (.int .u64 0)).heap.size=W.heap.size:=by simp[put9,World.setCell]
  rw[e]at h;exact h
 have HBA2:=hid (HBA.out.set9 (.bool false) (.int .u64 0) (.int .u64 0) (.int .u64 0) (.int .u64 0) (.int .u64 0) (.int .u64 0) (.int .u64 0) (.int .u64 0));have HBB:=hid ((B0.out.set9 (.bool false) (.int .u64 0) (.int .u64 0) (.int .u64 0) (.int .u64 0) (.int .u64 0) (.int .u64 0) (.int .u64 0) (.int .u64 0)).alloc (.cells #[.int .i64 a,.iface 40 (.int .i64 12)] 177));obtain⟨g0,g1,g2,g3,g4,g5,g6,g7,g8⟩:=frozen9 B0.out;obtain⟨r0,r1,r2,r3,r4,r5,r6,r7,r8⟩:=cells9 B0.out;go_wp2_with fail
 go_region_held3 (fun w'=>w'.cell? ⟨b,12,none⟩=some (.int .i64 a)) ((rw[World.cell?_drew];first|with_reducible exact q4|with_reducible exact kept_alloc q4 _|with_reducible exact kept9 q4 HNB.out|with_reducible exact kept9 (kept_alloc q4 _) HNB.out|with_reducible exact kept_alloc (kept9 q4 HNB.out) _)) (fail)
 all_goals
  clear r0 r1 r2 r3 r4 r5 r6 r7 r8 g0 g1 g2 g3 g4 g5 g6 g7 g8 q4 q5;unfold put9 at HMA HFA HMB HFB HBA2 HBB;first
   |(generalize World.alloc (World.setCell _ ⟨w.heap.size,8,none⟩ _) _=W9 at*
     obtain⟨y0,y1,y2,y3,y4,y5,y6,y7,y8⟩:=cells9 HBB.out;go_wp2;exact bodyPost_ret (v:=.tuple #[.agg zero9,.iface 175 (.pointer (some ⟨W.heap.size,0,none⟩))]) (by simp[results,Tryz.results222,go_sem,y0,y1,y2,y3,y4,y5,y6,y7,y8]) rfl (pp_bad (T':=T) (F':=F) rfl HMB.out.drew pc0_eq HFB.out))
   |(generalize World.setCell _ ⟨w.heap.size,8,none⟩ _=W9 at*
     obtain⟨y0,y1,y2,y3,y4,y5,y6,y7,y8⟩:=cells9 HBA2.out;go_wp2;exact bodyPost_ret (v:=.tuple #[.agg zero9,.iface 175 (.pointer (some ⟨W.heap.size,0,none⟩))]) (by simp[results,Tryz.results222,go_sem,y0,y1,y2,y3,y4,y5,y6,y7,y8]) rfl (pp_bad (T':=T) (F':=F) rfl HMA.out.drew pc0_eq HFA.out))
theorem group_any(b:Nat)(l:ByteArray)(hl:l.size≤200):∀d o,o+d=32→GC b l o (grpF l d)
 |0,o,h=>fun T F m a w hr hT ha hm hn=>by
  obtain rfl:o=32:=by omega
  exact group_deep b a T F l m w hr hl
 |d+1,o,h=>fun T F m a w hr hT ha hm hn=>group_more b a o d T F l m w hr hT hl ha hm hn (by omega) (group_any b l hl d (o+1) (by omega))
abbrev mcC(T F:Value)(p:Pc)(l:ByteArray)(a o:Nat):Array Value:=#[T,F,wv p.last 0,wv p.last 1,wv p.last 2,wv p.last 3,wv p.first 0,wv p.first 1,wv p.first 2,wv p.first 3,.bool p.empty,.string l,.int .i64 a,.int .i64 o]
structure Mem (w:World) (b:Nat) (l:ByteArray) (m:Mach) (p:Pc):Prop where
 blk:∃(T F:Value) (a o:Nat),Blk w b 208 (mcC T F p l a o)∧rowS w T m.takes∧rowS w F m.follow
 low:10≤b
 good:Rx.Good m
 pin:PcIn m.takes.length p
 few:m.takes.length≤200
def RdPost(l:ByteArray)(w:World)(r:Res)(e:Ending)(w':World):Prop:=
 Below w.heap.size w w'∧match r with
 |.bad pl c=>∃err,e=.returned (.tuple #[.pointer none,err])∧ErrAt w' err pl c
 |.ok a m p=>∃b,e=.returned (.tuple #[.pointer (some ⟨b,0,none⟩),.nilIface])∧Mem w' b l m p∧w.heap.size≤b
theorem rdpost_bad{l:ByteArray}{w w':World}{r:Res}{pl c f:Nat}(hr:r=.bad pl c)(hb:Below w.heap.size w w')(hf:Blk w' f 177 #[.int .i64 pl,.iface 40 (.int .i64 c)]):RdPost l w r (.returned (.tuple #[.pointer none,.iface 175 (.pointer (some ⟨f,0,none⟩))])) w':=by subst hr;exact⟨hb,_,rfl,f,rfl,hf⟩
theorem rdpost_ok{l:ByteArray}{w w':World}{r:Res}{a b:Nat}{m:Mach}{p:Pc}(hr:r=.ok a m p)(hb:Below w.heap.size w w')(hm:Mem w' b l m p)(hw:w.heap.size≤b):RdPost l w r (.returned (.tuple #[.pointer (some ⟨b,0,none⟩),.nilIface])) w':=by subst hr;exact⟨hb,b,rfl,hm,hw⟩
theorem row_nil(w:World):rowS w (.slice none 0 0) []:=⟨rfl,.inl ⟨rfl,rfl⟩⟩
theorem rdr_new(w:World)(l:ByteArray)(h5:10≤w.heap.size):Rdr (w.alloc (.cells (rdC (.slice none 0 0) (.slice none 0 0) l 0 0) 208)) w.heap.size (.slice none 0 0) (.slice none 0 0) l ⟨[],[]⟩ 0 0:=⟨Blk.new w 208 _,h5,row_nil _,row_nil _,fun g hg=>by cases hg⟩
theorem moves_below{b:Nat}{T1 F1:Value}{w w1 w2:World}(hb:b=w.heap.size)(h:Moves b (.slice none 0 0) (.slice none 0 0) w1 T1 F1 w2)(h1:Below w.heap.size w w1):Below w.heap.size w w2:=
 ⟨h.os.trans h1.os,h.tape.trans h1.tape,h.output.trans h1.output,Nat.le_trans h1.size h.size,fun j hj=>(h.block j (Nat.lt_of_lt_of_le hj h1.size) (fun hf=>by
   rcases hf with rfl|hf|hf
   ·omega
   ·cases hf
   ·cases hf)).trans (h1.block j hj)⟩
theorem read_long(l:ByteArray)(w:World)(hl:200<l.size):
 Calls Tryz.prog 123 #[.string l] w (RdPost l w (readF l)):=by
 have HX:Hid (readF l=.bad 0 2):=if_pos hl;have hd:decide ((200:Int)<(l.size:Int))=true:=by simp;omega
 go_enter Tryz.func123,Tryz.ntmps123;go_wp2
 go_ret2
 exact rdpost_bad HX.out (by go_grown) (Blk.new w 177 _)
theorem read_short(l:ByteArray)(w:World)(hl:l.size≤200)(h5:10≤w.heap.size)(hT:TzT w):
 Calls Tryz.prog 123 #[.string l] w (RdPost l w (readF l)):=by
 have hX:∀r,altF l (grpF l 32) 0 ⟨[],[]⟩=r→readF l=match r with|.bad pl c=>.bad pl c|.ok a m p=>if a=l.size then .ok a m p else .bad a 2:=fun r h=>by subst h;unfold readF;rw[if_neg (by omega)];cases altF l (grpF l 32) 0 ⟨[],[]⟩<;>rfl
 have HX:=hid hX;have hd:decide ((200:Int)<(l.size:Int))=false:=by simp;omega
 have HR:=hid (rdr_new w l h5);have HT:Hid (TzT (w.alloc (.cells (rdC (.slice none 0 0) (.slice none 0 0) l 0 0) 208))):=hT.below ((Below.refl _ _).alloc (Nat.le_refl _) _);have HB:=hid ((Below.refl w.heap.size w).alloc (Nat.le_refl _) (.cells (rdC (.slice none 0 0) (.slice none 0 0) l 0 0) 208));have HA:=hid (alt_any w.heap.size 0 0 (.slice none 0 0) (.slice none 0 0) l (grpF l 32) ⟨[],[]⟩ _ HR.out HT.out hl (Nat.zero_le _) good_nil (Nat.le_refl _) (group_any w.heap.size l hl 32 0 rfl) (grp_fine l 32));have HFI:=hid (alt_fine (grp_fine l 32) (Nat.zero_le l.size) good_nil);clear hX hT;go_enter Tryz.func123,Tryz.ntmps123;go_wp2_with fail;generalize w.alloc (.cells _ 208)=W at*
 refine(HA.out).mono ?_;rintro e W1⟨T1,F1,hm1,hrest⟩;have HB1:=hid (moves_below rfl hm1 HB.out);have HM1:=hid hm1;clear hm1 HA;cases hA:altF l (grpF l 32) 0 ⟨[],[]⟩with
 |bad pl c=>
  rw[hA]at hrest;obtain⟨p,err,rfl,f,rfl,hB⟩:=hrest;have HX1:Hid (readF l=.bad pl c):=HX.out _ hA;have HB2:=hid (HB1.out.alloc HB1.out.size (.cells (pcC p) 210));have F2:=hid (Blk.alloc hB (.cells (pcC p) 210));clear hA hB HX HFI HR HT HB HM1 HB1;obtain⟨pe,pf,pl'⟩:=p;go_upto_region 5 with fail;generalize hW:W1.alloc (.cells (pcC _) 210)=W2 at*
  clear hW;go_wp2
  go_ret2
  exact rdpost_bad HX1.out HB2.out F2.out
 |ok a m p=>
  rw[hA]at hrest;obtain⟨rfl,hR⟩:=hrest;obtain⟨f1,f2,f3,f4,f5,f6⟩:=HFI.out a m p hA;have HX1:Hid (readF l=if a=l.size then .ok a m p else .bad a 2):=HX.out _ hA;have HB2:=hid (HB1.out.alloc HB1.out.size (.cells (pcC p) 210));have HR2:=hid (hR.alloc (.cells (pcC p) 210));have P2:=hid (Blk.new W1 210 (pcC p));have HFW:Hid (∀w2,Moves w.heap.size T1 F1 (W1.alloc (.cells (pcC p) 210)) T1 F1 w2→Below w.heap.size w w2):=fun w2 h=>moves_below rfl ((HM1.out.alloc (.cells (pcC p) 210)).trans h) HB.out;have HGP:Hid (Rx.Good m∧PcIn m.takes.length p∧m.takes.length≤200):=⟨f3,f4,by have:m.takes.length+0≤a+0:=f6;omega⟩
  clear hA hR HX HFI HR HT HM1 HB1 HB f1 f3 f4 f5 f6;obtain⟨pe,pf,pl'⟩:=p;go_upto_region 5 with fail;generalize hW:W1.alloc (.cells (pcC _) 210)=W2 at*
  generalize hj:W1.heap.size=j1 at*
  clear hW hj;go_upto_region 7 with fail;by_cases ha:a=l.size
  ·have HE:=hid (ended_any w.heap.size a l true (by simp[ha]) W2 hl (rd_cells HR2.out).2.2.1 (rd_cells HR2.out).2.2.2.1)
   have HX2:Hid (readF l=.ok a m ⟨pe,pf,pl'⟩):=HX1.out.trans (if_pos ha);clear HX1;go_wp2_with fail;refine(HE.out).mono ?_;rintro e w3⟨rfl,n3,rfl⟩;have HR3:=hid (HR2.out.drewN n3);have P3:=hid (P2.out.drewN n3);have HFW3:Hid (∀w2,Moves w.heap.size T1 F1 (W2.drewN n3) T1 F1 w2→Below w.heap.size w w2):=fun w2 h=>HFW.out w2 (((Moves.refl _ _ _ W2).drewN n3).trans h);generalize W2.drewN n3=W3 at*
   clear HR2 P2 HE HB2 HFW;obtain⟨x0,x1,x2,x3,x4,x5,x6,x7,x8⟩:=cells9 P3.out;have HR4:Hid (Rdr W3.drew w.heap.size T1 F1 l m a 0):=HR3.out.below (below_drew _);have HFW4:Hid (∀w2,Moves w.heap.size T1 F1 W3.drew T1 F1 w2→Below w.heap.size w w2):=fun w2 h=>HFW3.out w2 (((Moves.refl _ _ _ W3).drew).trans h);go_upto_region 9 with fail
   go_still_tail 4,(by kernel_rfl)
   change wpList _ _ _ _ _ W3.drew;generalize W3.drew=W4 at*
   have HWH:=hid (whole_any w.heap.size a 0 ⟨pe,pf,pl'⟩ T1 F1 l m W4 HR4.out);clear HR3 P3 HFW3 x0 x1 x2 x3 x4 x5 x6 x7 x8;go_wp2_with fail;refine(HWH.out).mono ?_;rintro e w5⟨rfl,hm5,hb5,ht5,hf5⟩;have HB5:=hid (HFW4.out _ hm5);have HME:Hid (Mem w5 w.heap.size l m ⟨pe,pf,pl'⟩):=⟨⟨T1,F1,a,0,hb5,ht5,hf5⟩,h5,HGP.out.1,HGP.out.2.1,HGP.out.2.2⟩
   clear hm5 hb5 ht5 hf5;go_wp2
   go_ret2
   exact rdpost_ok HX2.out HB5.out HME.out (Nat.le_refl _)
  ·have HE:=hid (ended_any w.heap.size a l false (by simp;omega) W2 hl (rd_cells HR2.out).2.2.1 (rd_cells HR2.out).2.2.2.1)
   have HX2:Hid (readF l=.bad a 2):=HX1.out.trans (if_neg ha);clear HX1;go_wp2_with fail;refine(HE.out).mono ?_;rintro e w3⟨rfl,n3,rfl⟩;have HR3:=hid (HR2.out.drewN n3);have HB3:Hid (Below w.heap.size w (W2.drewN n3)):=Below.trans HB2.out ⟨rfl,rfl,rfl,Nat.le_refl _,fun _ _=>rfl⟩;generalize W2.drewN n3=W3 at*
   clear HR2 P2 HE HB2 HFW;have HBD:=hid (bad_any w.heap.size a W3 (rd_cells HR3.out).2.2.2.1);go_wp2_with fail;refine(HBD.out).mono ?_;rintro e w4⟨f,rfl,hf,hb⟩;have HB4:=hid (HB3.out.trans (below_of hb.os hb.tape hb.output hb.size (fun k hk=>hb.block k (Nat.lt_of_lt_of_le hk HB3.out.size))));have F4:=hid hf;clear hf hb;go_wp2
   go_ret2
   exact rdpost_bad HX2.out HB4.out F4.out
theorem read_any(l:ByteArray)(w:World)(h5:10≤w.heap.size)(hT:TzT w):Calls Tryz.prog 123 #[.string l] w (RdPost l w (readF l)):=by
 by_cases h:200<l.size
 ·exact read_long l w h
 ·exact read_short l w (by omega) h5 hT
end Go.Proofs.YticmkabafmmlhaaGreatDoor.Rg

/- Lemmas. No condition. -/
import Derived.Test.YtmodehfedhgcbaaGreatDoorT1
import Derived.Test.YtmodehfedhgcbaaGreatDoorShelf
import Derived.Stop.FmtQuoteTie
import Derived.Shelf.Small.Utf8
import Derived.Lib.OthersKept
import Derived.Deep.RegionWith
set_option linter.unusedVariables false
set_option maxRecDepth 1000000
set_option maxHeartbeats 8000000
namespace Go.Proofs.YtmodehfedhgcbaaGreatDoor.Sp
open Go.RowKit Go.Shelf
open Lib (hid)
def D10:ByteArray:=⟨#[48,49,50,51,52,53,54,55,56,57]⟩
theorem ib_any(s:ByteArray)(c:Int)(w:World):Calls Tryz.prog 93 #[.string s,.int .u8 c] w fun e w'=>e=.returned (.int .i64 (Lib.indexByte s.data.toList c.toNat.toUInt8))∧w'=w:=Any.strings_IndexByte (ρ:=Tryz.lays153_ren) {Tryz.lays153 with} s c w
theorem validRune_any(r:Int)(w:World):Calls Tryz.prog 164 #[.int .i32 r] w fun e w'=>e=.returned (.bool (Lib.validRune r))∧w'=w:=Any.utf8_ValidRune (ρ:=Tryz.lays153_ren) {Tryz.lays153 with} r w
theorem ir_ascii(s:ByteArray)(r:Int)(h0:0≤r)(h1:r<128)(w:World):Calls Tryz.prog 152 #[.string s,.int .i32 r] w fun e w'=>e=.returned (.int .i64 (Lib.indexByte s.data.toList r.toNat.toUInt8))∧w'=w:=Any.strings_IndexRune_ascii (ρ:=Tryz.lays153_ren) {Tryz.lays153 with} s r w h0 h1
theorem useSet(n:Int)(w:World):Calls Tryz.prog 153 #[.int .i64 n] w fun e w'=>e=.returned (.bool (decide (8<n)))∧w'=w:=Any.strings_shouldUseASCIISet (ρ:=Tryz.lays153_ren) {Tryz.lays153 with} n w
def High(r:Nat):Prop:=128≤r∧(r<55296∨57344≤r)∧r≤1114111
theorem indexByte_none:∀(l:List UInt8) (c:UInt8),(∀b∈l,b≠c)→Lib.indexByte l c= -1
 |[],_,_=>rfl
 |b::l,c,h=>by unfold Lib.indexByte;rw[if_neg (by simpa using h b (by simp)),indexByte_none l c fun x hx=>h x (by simp[hx])];rfl
theorem ir_err(w:World):Calls Tryz.prog 152 #[.string D10,.int .i32 65533] w fun e w'=>e=.returned (.int .i64 (-1))∧Below w.heap.size w w':=by
 have hsz:D10.size=10:=rfl;have HSZ:=hid hsz;have HB:Hid (∀i (h:i<D10.size),(D10[i]'h).toNat<128):=by show∀i (h:i<D10.size),(D10[i]'h).toNat<128;decide
 clear hsz;generalize D10=s at*
 go_enter Tryz.func152,Tryz.ntmps152;go_wp2_with fail
 go_loopg [5,6] s.size (fun g _ _ wx=>∃i:Nat,i+g=s.size∧wx=w.iter s i)
 case atStart=>exact⟨0,by omega,rfl⟩
 case round=>
  obtain⟨i,hig,rfl⟩:=hrel;cases gk with
  |zero=>
   obtain rfl:i=s.size:=by omega
   have hnx:=fun ty=>run_next_end (P:=Tryz.prog) w s s.size ty (by omega);go_wp2;try rw[Exit.noGoto_ret]
   go_ret;exact⟨rfl,(Below.refl _ _).alloc (Nat.le_refl _) _⟩
  |succ g=>
   have hi:i<s.size:=by omega
   have hx128:=HB.out i hi;have hnx:=fun ty=>run_next_ascii (P:=Tryz.prog) w s i ty hi hx128;have hne:((s[i].toNat:Int)==65533)=false:=beq_eq_false_iff_ne.2 (by omega);generalize (s[i].toNat:Int)=x at*
   go_wp2
   go_roundg g
   case measure=>omega
   case rel=>exact⟨i+1,by omega,rfl⟩
theorem enc_cases(r:Nat)(h:High r)(h0:r≠65533):∃(a b c d:UInt8),(128≤a.toNat∧128≤b.toNat∧128≤c.toNat∧128≤d.toNat)∧((Utf8.encode (r:Int))=⟨#[a,b]⟩∨(Utf8.encode (r:Int))=⟨#[a,b,c]⟩∨(Utf8.encode (r:Int))=⟨#[a,b,c,d]⟩):=by
 obtain⟨h1,h2,h3⟩:=h;have big:∀n,128≤n→n<256→128≤(UInt8.ofNat n).toNat:=fun n a b=>by rw[UInt8.toNat_ofNat'];omega
 have ext:∀{x:ByteArray} {l:List UInt8},x.data.toList=l→x=⟨l.toArray⟩:=fun h=>by subst h;rfl
 by_cases c2:r<2048
 ·exact⟨_,_,255,255,⟨big (192+r/64) (by omega) (by omega),big (128+r% 64) (by omega) (by omega),by decide,by decide⟩,.inl (ext (Go.Extern.FmtText.enc2 r (by omega) c2))⟩
 by_cases c3:r<65536
 ·exact⟨_,_,_,255,⟨big (224+r/4096) (by omega) (by omega),big (128+r/64% 64) (by omega) (by omega),big (128+r% 64) (by omega) (by omega),by decide⟩,.inr (.inl (ext (Go.Extern.FmtText.enc3 r c2 c3 h2)))⟩
 ·exact⟨_,_,_,_,⟨big (240+r/262144) (by omega) (by omega),big (128+r/4096% 64) (by omega) (by omega),big (128+r/64% 64) (by omega) (by omega),big (128+r% 64) (by omega) (by omega)⟩,.inr (.inr (ext (Go.Extern.FmtText.enc4 r c3 h3)))⟩
theorem conv_rune(r:Int)(w:World):(convert 21 9 (.int .i32 r)).run Tryz.prog w=.ok (.string (Utf8.encode r)) w:=by kernel_rfl
theorem validRune_q(r:Int)(w:World)(h:Lib.validRune r=true):Calls Tryz.prog 164 #[.int .i32 r] w fun e w'=>e=.returned (.bool true)∧w=w':=(validRune_any r w).mono fun e w' ⟨h1,h2⟩=>⟨h1.trans (by rw[h]),h2.symm⟩
theorem bel_drawn{B:Nat}{w w':World}(h:Below B w w')(n:Nat):Below B w (w'.drewN n):=⟨h.os,h.tape,h.output,h.size,h.block⟩
theorem idx_at(s:ByteArray)(k:Nat)(h:k<s.size)(w:World):(Instr.index 9 (.string s) (.int .i64 (k:Nat))).run Tryz.prog w=.ok (.int .u8 ((s[k]'h).toNat:Nat)) w:=by rw[run_index_string (P:=Tryz.prog) _ 9 s .i64 _ Tryz.underlying9];simp[h]
theorem sl_at(s:ByteArray)(k:Nat)(h:k≤s.size)(w:World):(Instr.slice 9 (.string s) (some (.int .i64 (k:Nat))) none none).run Tryz.prog w=.ok (.string (s.extract k s.size)) w:=by rw[run_slice_string_from_if (P:=Tryz.prog) _ 9 s .i64 _ Tryz.underlying9];simp[h]
theorem d10_none(k:Nat)(x:UInt8)(hx:128≤x.toNat):Lib.indexByte (D10.extract k D10.size).data.toList x= -1:=by
 refine indexByte_none _ _ fun b hb e=>?_;subst e;rw[Lib.extract_to_end]at hb;have:∀b∈D10.data.toList,b.toNat<128:=by decide
 have:=this b (List.mem_of_mem_drop hb);omega
theorem d10_ne(k:Nat)(x:UInt8)(hx:128≤x.toNat)(h:k<D10.size):(((D10[k]'h).toNat:Int) != (x.toNat:Int))=true:=by
 have:∀i (h:i<D10.size),(D10[i]'h).toNat<128:=by decide
 have:=this k h;simp;omega
theorem ir_high2(s:ByteArray)(r:Nat)(a x:UInt8)(hs:2≤s.size)(hs0:1<s.size)(hm:s.size≤65536)(hne:(((s[1]'hs0).toNat:Int) != (x.toNat:Int))=true)(HN:Hid (Lib.indexByte (s.extract 2 s.size).data.toList x= -1))
 (h:128≤r) (h':r≠65533) (hv:Lib.validRune r=true) (he:Utf8.encode (r:Int)=⟨#[a,x]⟩) (w:World):
 Calls Tryz.prog 152 #[.string s,.int .i32 r] w fun e w'=>e=.returned (.int .i64 (-1))∧Below w.heap.size w w':=by
 have hcv:=fun w=>conv_rune r w;rw[he]at hcv;have h1:decide ((r:Int)<128)=false:=by simp;omega
 have h2:((r:Int)==65533)=false:=beq_eq_false_iff_ne.2 (by omega);have hb:(x.toNat:Int).toNat.toUInt8=x:=by simp
 have HV:=hid hv;have HNE:=hid hne;have HB:=hid hb;clear he hv h' hne hb;go_enter Tryz.func152,Tryz.ntmps152;go_wp2_with (go_at_call 164;refine(validRune_q _ _ HV.out).mono ?_;rintro e w1 ⟨rfl,rfl⟩)
 go_step3
 have d1:decide ((1:Int)<(s.size:Int))=true:=by simp;omega
 have ix:∀wx,(Instr.index 9 (.string s) (.int .i64 1)).run Tryz.prog wx=.ok (.int .u8 ((s[1]'hs0).toNat:Nat)) wx:=fun wx=>idx_at s 1 hs0 wx;have ir:∀wx,(Instr.index 9 (.string ⟨#[a,x]⟩) (.int .i64 1)).run Tryz.prog wx=.ok (.int .u8 x.toNat) wx:=fun _=>by kernel_rfl
 have sl:∀wx,(Instr.slice 9 (.string s) (some (.int .i64 2)) none none).run Tryz.prog wx=.ok (.string (s.extract 2 s.size)) wx:=fun wx=>sl_at s 2 hs wx;have hne:=HNE.out;generalize ((s[1]'hs0).toNat:Int)=y at ix hne;generalize s.extract 2 s.size=t at sl HN;go_wp2
 go_loopg [9,10] 1 (fun g a b wx=>a=.int .i64 1∧b=.int .i64 0∧wx=w)
 case atStart=>exact⟨rfl,rfl,rfl⟩
 case round=>
  obtain⟨rfl,rfl,rfl⟩:=hrel;go_wp2_with fail
  go_step3
  go_wp2_with fail
  go_quiet (fail)
  go_wp2_with fail;have HBE:=hid (bel_drawn (Below.refl wr.heap.size wr) nq);generalize wr.drewN nq=w2 at*
  have hwr:IntKind.i64.wrap ((1:Int)+1)=2:=by decide
  go_quiet ((go_at_call 93;exact Calls.quiet_of_same ((ib_any _ _ _).mono fun e w' ⟨h1,h2⟩=>⟨h1.trans (by rw[HB.out,HN.out]),h2⟩)))
  go_wp2;simp only[Exit.noGoto,Exit.inBlock,Exit.then];go_ret;exact⟨rfl,bel_drawn HBE.out _⟩
theorem ir_high3(s:ByteArray)(r:Nat)(a b x:UInt8)(hs:3≤s.size)(hs0:2<s.size)(hm:s.size≤65536)(hne:(((s[2]'hs0).toNat:Int) != (x.toNat:Int))=true)(HN:Hid (Lib.indexByte (s.extract 3 s.size).data.toList x= -1))
 (h:128≤r) (h':r≠65533) (hv:Lib.validRune r=true) (he:Utf8.encode (r:Int)=⟨#[a,b,x]⟩) (w:World):
 Calls Tryz.prog 152 #[.string s,.int .i32 r] w fun e w'=>e=.returned (.int .i64 (-1))∧Below w.heap.size w w':=by
 have hcv:=fun w=>conv_rune r w;rw[he]at hcv;have h1:decide ((r:Int)<128)=false:=by simp;omega
 have h2:((r:Int)==65533)=false:=beq_eq_false_iff_ne.2 (by omega);have hb:(x.toNat:Int).toNat.toUInt8=x:=by simp
 have HV:=hid hv;have HNE:=hid hne;have HB:=hid hb;clear he hv h' hne hb;go_enter Tryz.func152,Tryz.ntmps152;go_wp2_with (go_at_call 164;refine(validRune_q _ _ HV.out).mono ?_;rintro e w1 ⟨rfl,rfl⟩)
 go_step3
 have d1:decide ((2:Int)<(s.size:Int))=true:=by simp;omega
 have ix:∀wx,(Instr.index 9 (.string s) (.int .i64 2)).run Tryz.prog wx=.ok (.int .u8 ((s[2]'hs0).toNat:Nat)) wx:=fun wx=>idx_at s 2 hs0 wx;have ir:∀wx,(Instr.index 9 (.string ⟨#[a,b,x]⟩) (.int .i64 2)).run Tryz.prog wx=.ok (.int .u8 x.toNat) wx:=fun _=>by kernel_rfl
 have sl:∀wx,(Instr.slice 9 (.string s) (some (.int .i64 3)) none none).run Tryz.prog wx=.ok (.string (s.extract 3 s.size)) wx:=fun wx=>sl_at s 3 hs wx;have hne:=HNE.out;generalize ((s[2]'hs0).toNat:Int)=y at ix hne;generalize s.extract 3 s.size=t at sl HN;go_wp2
 go_loopg [9,10] 1 (fun g a b wx=>a=.int .i64 2∧b=.int .i64 0∧wx=w)
 case atStart=>exact⟨rfl,rfl,rfl⟩
 case round=>
  obtain⟨rfl,rfl,rfl⟩:=hrel;go_wp2_with fail
  go_step3
  go_wp2_with fail
  go_quiet (fail)
  go_wp2_with fail;have HBE:=hid (bel_drawn (Below.refl wr.heap.size wr) nq);generalize wr.drewN nq=w2 at*
  have hwr:IntKind.i64.wrap ((2:Int)+1)=3:=by decide
  go_quiet ((go_at_call 93;exact Calls.quiet_of_same ((ib_any _ _ _).mono fun e w' ⟨h1,h2⟩=>⟨h1.trans (by rw[HB.out,HN.out]),h2⟩)))
  go_wp2;simp only[Exit.noGoto,Exit.inBlock,Exit.then];go_ret;exact⟨rfl,bel_drawn HBE.out _⟩
theorem ir_high4(s:ByteArray)(r:Nat)(a b c x:UInt8)(hs:4≤s.size)(hs0:3<s.size)(hm:s.size≤65536)(hne:(((s[3]'hs0).toNat:Int) != (x.toNat:Int))=true)(HN:Hid (Lib.indexByte (s.extract 4 s.size).data.toList x= -1))
 (h:128≤r) (h':r≠65533) (hv:Lib.validRune r=true) (he:Utf8.encode (r:Int)=⟨#[a,b,c,x]⟩) (w:World):
 Calls Tryz.prog 152 #[.string s,.int .i32 r] w fun e w'=>e=.returned (.int .i64 (-1))∧Below w.heap.size w w':=by
 have hcv:=fun w=>conv_rune r w;rw[he]at hcv;have h1:decide ((r:Int)<128)=false:=by simp;omega
 have h2:((r:Int)==65533)=false:=beq_eq_false_iff_ne.2 (by omega);have hb:(x.toNat:Int).toNat.toUInt8=x:=by simp
 have HV:=hid hv;have HNE:=hid hne;have HB:=hid hb;clear he hv h' hne hb;go_enter Tryz.func152,Tryz.ntmps152;go_wp2_with (go_at_call 164;refine(validRune_q _ _ HV.out).mono ?_;rintro e w1 ⟨rfl,rfl⟩)
 go_step3
 have d1:decide ((3:Int)<(s.size:Int))=true:=by simp;omega
 have ix:∀wx,(Instr.index 9 (.string s) (.int .i64 3)).run Tryz.prog wx=.ok (.int .u8 ((s[3]'hs0).toNat:Nat)) wx:=fun wx=>idx_at s 3 hs0 wx;have ir:∀wx,(Instr.index 9 (.string ⟨#[a,b,c,x]⟩) (.int .i64 3)).run Tryz.prog wx=.ok (.int .u8 x.toNat) wx:=fun _=>by kernel_rfl
 have sl:∀wx,(Instr.slice 9 (.string s) (some (.int .i64 4)) none none).run Tryz.prog wx=.ok (.string (s.extract 4 s.size)) wx:=fun wx=>sl_at s 4 hs wx;have hne:=HNE.out;generalize ((s[3]'hs0).toNat:Int)=y at ix hne;generalize s.extract 4 s.size=t at sl HN;go_wp2
 go_loopg [9,10] 1 (fun g a b wx=>a=.int .i64 3∧b=.int .i64 0∧wx=w)
 case atStart=>exact⟨rfl,rfl,rfl⟩
 case round=>
  obtain⟨rfl,rfl,rfl⟩:=hrel;go_wp2_with fail
  go_step3
  go_wp2_with fail
  go_quiet (fail)
  go_wp2_with fail;have HBE:=hid (bel_drawn (Below.refl wr.heap.size wr) nq);generalize wr.drewN nq=w2 at*
  have hwr:IntKind.i64.wrap ((3:Int)+1)=4:=by decide
  go_quiet ((go_at_call 93;exact Calls.quiet_of_same ((ib_any _ _ _).mono fun e w' ⟨h1,h2⟩=>⟨h1.trans (by rw[HB.out,HN.out]),h2⟩)))
  go_wp2;simp only[Exit.noGoto,Exit.inBlock,Exit.then];go_ret;exact⟨rfl,bel_drawn HBE.out _⟩
theorem ir_high(r:Nat)(h:High r)(w:World):Calls Tryz.prog 152 #[.string D10,.int .i32 r] w fun e w'=>e=.returned (.int .i64 (-1))∧Below w.heap.size w w':=by
 by_cases h0:r=65533
 ·subst h0;exact ir_err w
 have hv:Lib.validRune r=true:=by obtain⟨h1,h2,h3⟩:=h;unfold Lib.validRune;rw[decide_eq_true_eq];omega
 obtain⟨a,b,c,d,⟨ha,hb,hc,hd⟩,e|e|e⟩:=enc_cases r h h0
 ·exact ir_high2 D10 r a b (by decide) (by decide) (by decide) (d10_ne 1 b hb _) (d10_none 2 b hb) h.1 h0 hv e w
 ·exact ir_high3 D10 r a b c (by decide) (by decide) (by decide) (d10_ne 2 c hc _) (d10_none 3 c hc) h.1 h0 hv e w
 ·exact ir_high4 D10 r a b c d (by decide) (by decide) (by decide) (d10_ne 3 d hd _) (d10_none 4 d hd) h.1 h0 hv e w
theorem get_lt(s:ByteArray)(i:Nat)(h:i<s.size):s.get! i=s[i]'h:=by simp[ByteArray.get!,getElem!_pos,h];rfl
theorem decode_skip(s:ByteArray)(pos:Nat)(h:pos<s.size)(ha:128≤(s[pos]'h).toNat):
 High (Utf8.decode s pos).1∧1≤(Utf8.decode s pos).2∧pos+(Utf8.decode s pos).2≤s.size∧∀k,k<(Utf8.decode s pos).2→128≤(s.get! (pos+k)).toNat:=by
 have hb:∀k,(s.get! (pos+k)).toNat<256:=fun k=>(s.get! (pos+k)).toNat_lt;have h0:128≤(s.get! (pos+0)).toNat:=by rw[Nat.add_zero,get_lt s pos h];exact ha
 have c0:=hb 0;have c1:=hb 1;have c2:=hb 2;have c3:=hb 3
 have hcont:∀k,(s.get! (pos+k)).toNat/64=2→128≤(s.get! (pos+k)).toNat:=fun k h=>by omega
 have one:∀k,k<1→128≤(s.get! (pos+k)).toNat:=fun k hk=>by obtain rfl:k=0:=by omega
                                                          exact h0
 have err:High Utf8.runeError∧1≤1∧pos+1≤s.size∧∀k,k<1→128≤(s.get! (pos+k)).toNat:=⟨by unfold High Utf8.runeError;omega,by omega,by omega,one⟩
 unfold Utf8.decode;simp only;rw[if_neg (by omega)];by_cases q1:((s.get! (pos+0)).toNat/32==6&&(decide (pos+1<s.size)&&(s.get! (pos+1)).toNat/64==2))=true
 ·rw[if_pos q1]
  simp only[Bool.and_eq_true,beq_iff_eq,decide_eq_true_eq]at q1;by_cases q2:(s.get! (pos+0)).toNat% 32*64+(s.get! (pos+1)).toNat% 64≥128
  ·rw[if_pos q2]
   refine⟨by unfold High;simp only;omega,by simp,by simp only;omega,fun k hk=>?_⟩;simp only at hk;rcases(show k=0∨k=1 by omega)with rfl|rfl
   ·exact h0
   ·exact hcont 1 q1.2.2
  ·rw[if_neg q2];exact err
 rw[if_neg q1];by_cases q3:((s.get! (pos+0)).toNat/16==14&&(decide (pos+1<s.size)&&(s.get! (pos+1)).toNat/64==2)&&(decide (pos+2<s.size)&&(s.get! (pos+2)).toNat/64==2))=true
 ·rw[if_pos q3]
  simp only[Bool.and_eq_true,beq_iff_eq,decide_eq_true_eq]at q3;generalize hc:(s.get! (pos+0)).toNat% 16*4096+(s.get! (pos+1)).toNat% 64*64+(s.get! (pos+2)).toNat% 64=c;by_cases q2:(decide (c≥2048)&&Utf8.valid c)=true
  ·rw[if_pos q2]
   simp only[Bool.and_eq_true,decide_eq_true_eq,Utf8.valid,Bool.or_eq_true]at q2;refine⟨by unfold High;simp only;omega,by simp,by simp only;omega,fun k hk=>?_⟩;simp only at hk;rcases(show k=0∨k=1∨k=2 by omega)with rfl|rfl|rfl
   ·exact h0
   ·exact hcont 1 q3.1.2.2
   ·exact hcont 2 q3.2.2
  ·rw[if_neg q2];exact err
 rw[if_neg q3];by_cases q4:((s.get! (pos+0)).toNat/8==30&&(decide (pos+1<s.size)&&(s.get! (pos+1)).toNat/64==2)&&(decide (pos+2<s.size)&&(s.get! (pos+2)).toNat/64==2)&&(decide (pos+3<s.size)&&(s.get! (pos+3)).toNat/64==2))=true
 ·rw[if_pos q4]
  simp only[Bool.and_eq_true,beq_iff_eq,decide_eq_true_eq]at q4;generalize hc:(s.get! (pos+0)).toNat% 8*262144+(s.get! (pos+1)).toNat% 64*4096+(s.get! (pos+2)).toNat% 64*64+(s.get! (pos+3)).toNat% 64=c;by_cases q2:(decide (c≥65536)&&Utf8.valid c)=true
  ·rw[if_pos q2]
   simp only[Bool.and_eq_true,decide_eq_true_eq,Utf8.valid,Bool.or_eq_true]at q2;refine⟨by unfold High;simp only;omega,by simp,by simp only;omega,fun k hk=>?_⟩;simp only at hk;rcases(show k=0∨k=1∨k=2∨k=3 by omega)with rfl|rfl|rfl|rfl
   ·exact h0
   ·exact hcont 1 q4.1.1.2.2
   ·exact hcont 2 q4.1.2.2
   ·exact hcont 3 q4.2.2
  ·rw[if_neg q2];exact err
 rw[if_neg q4];exact err
def d10:List UInt8:=[48,49,50,51,52,53,54,55,56,57]
theorem d10_isD(b:UInt8):d10.contains b=isD b:=by
 have:∀n:Nat,n<256→d10.contains (UInt8.ofNat n)=isD (UInt8.ofNat n):=by decide+kernel
 have h:=this b.toNat b.toNat_lt;rwa[UInt8.ofNat_toNat]at h
theorem noAny_skip{s:ByteArray}{i n:Nat}(h:Lib.NoAny s.data.toList d10 i)(hn:i+n≤s.size)(hk:∀k,k<n→128≤(s.get! (i+k)).toNat):Lib.NoAny s.data.toList d10 (i+n):=by
 intro j b hj hb;by_cases h1:j<i
 ·exact h j b h1 hb
 ·have hjs:j<s.size:=by omega
  rw[Lib.data_getElem? s j hjs]at hb;have hb:=Option.some.inj hb;have:=hk (j-i) (by omega);rw[show i+(j-i)=j by omega,get_lt s j hjs,hb]at this;rw[d10_isD];unfold isD;simp;omega
theorem any_short(s:ByteArray)(w:World)(h8:s.size≤8):
 Calls Tryz.prog 137 #[.string s,.string D10] w fun e w'=>e=.returned (.int .i64 (Lib.indexAny s.data.toList d10))∧Below w.heap.size w w':=by
 have hemp:D10.toList.isEmpty=false:=by rw[Lib.toList_data];rfl
 have hn1:((D10.size:Int)==1)=false:=by decide
 have h8z:decide ((8:Int)<(s.size:Int))=false:=decide_eq_false (by omega);have HD:Hid (D10.data.toList=d10):=(rfl:D10.data.toList=d10)
 have HIR:=hid (fun(r:Nat) (h:High r) (w:World)=>ir_high r h w);generalize D10=dd at*
 go_enter Tryz.func137,Tryz.ntmps137;go_wp2_with (go_at_call 153;refine(useSet _ _).mono ?_;rintro e w' ⟨rfl,hw⟩;rw[hw,h8z]);clear hw
 go_loopg [9,10] s.size (fun g _ _ wx=>∃i:Nat,i≤s.size∧s.size≤i+g∧wx.heap[w.heap.size]? =some (.stringIter s i)∧Hid (Below w.heap.size w wx)∧Hid (Lib.NoAny s.data.toList d10 i))
 case atStart=>exact⟨0,by omega,by omega,World.iter_heap w s 0,(Below.refl _ _).alloc (Nat.le_refl _) _,Lib.NoAny.zero _ _⟩
 case round=>
  obtain⟨i,hi,hig,hit,HB,HN⟩:=hrel;by_cases hlt:i<s.size
  ·obtain⟨g,rfl⟩:∃g,gk=g+1:=⟨gk-1,by omega⟩
   by_cases ha:128≤(s[i]'hlt).toNat
   ·obtain⟨q1,q2,q3,q4⟩:=decode_skip s i hlt ha
    have hnx:=fun ty=>Lib.run_next_any_at (P:=Tryz.prog) wr w.heap.size s i ty hit hlt;have HS:=hid (noAny_skip HN.out q3 q4);have hit2:=Lib.iterAt_heap wr w.heap.size s i (i+(Utf8.decode s i).2) hit;have HB2:=hid (Lib.below_iterAt HB.out (k:=w.heap.size) (Nat.le_refl _) s (i+(Utf8.decode s i).2));have HQ:=hid (fun w=>HIR.out _ q1 w);have hsz:w.heap.size<(wr.iterAt w.heap.size s (i+(Utf8.decode s i).2)).heap.size:=(Array.getElem?_eq_some_iff.1 hit2).1;have HIT:=hid hit2;clear hit hit2 q1 q4 ha;generalize (Utf8.decode s i).1=r at*
    generalize (Utf8.decode s i).2=n at*
    generalize wr.iterAt w.heap.size s (i+n)=w2 at*
    go_wp2_with fail;refine(HQ.out _).mono ?_;rintro e w3⟨rfl,hb3⟩;have HB3:=hid hb3;clear hb3 hnx;go_wp2
    go_roundg g
    case measure=>omega
    case rel=>exact⟨i+n,by omega,by omega,(HB3.out.block _ hsz).trans HIT.out,HB2.out.trans (HB3.out.mono HB2.out.size),HS⟩
   ·have hx128:(s[i]'hlt).toNat<128:=by omega
    have hnx:=fun ty=>Lib.run_next_ascii_at (P:=Tryz.prog) wr w.heap.size s i ty hit hlt hx128;have hit2:=Lib.iterAt_heap wr w.heap.size s i (i+1) hit;have HB2:=hid (Lib.below_iterAt HB.out (k:=w.heap.size) (Nat.le_refl _) s (i+1));have HIT:=hid hit2;have Hx:=hid (Lib.data_getElem? s i hlt);clear hit hit2 ha;generalize s[i]'hlt=x at*
    generalize wr.iterAt w.heap.size s (i+1)=w2 at*
    have hcon:=Lib.contains_iff_indexByte dd.data.toList x;have hback:((x.toNat:Int)).toNat.toUInt8=x:=by simp
    have HBK:=hid hback;clear hback;rw[HD.out]at hcon;cases hin:d10.contains x
    ·rw[hin]at hcon
     have hlt:¬((0:Int)≤Lib.indexByte d10 x):=of_decide_eq_false hcon.symm;have HS:=hid (HN.out.succ Hx.out hin);clear hcon hin;go_wp2_with (go_at_call 152;refine(ir_ascii _ _ (by omega) (by omega) _).mono ?_;rintro e w' ⟨rfl,hw⟩;rw[hw,HBK.out,HD.out])
     go_roundg g
     case measure=>omega
     case rel=>exact⟨i+1,by omega,by omega,HIT.out,HB2.out,HS⟩
    ·rw[hin]at hcon
     have hge:(0:Int)≤Lib.indexByte d10 x:=of_decide_eq_true hcon.symm;have HI:=hid (Lib.indexAny_hit HN.out Hx.out hin);clear hcon hin;go_wp2_with (go_at_call 152;refine(ir_ascii _ _ (by omega) (by omega) _).mono ?_;rintro e w' ⟨rfl,hw⟩;rw[hw,HBK.out,HD.out]);try rw[Exit.noGoto_ret]
     go_ret;exact⟨by rw[HI.out];rfl,HB2.out⟩
  ·obtain rfl:i=s.size:=by omega
   have hnx:=fun ty=>Lib.run_next_end_at (P:=Tryz.prog) wr w.heap.size s s.size ty hit (by omega);have HIT:=hid hit;clear hit;go_wp2;try rw[Exit.noGoto_ret]
   go_ret;exact⟨by rw[Lib.indexAny_none (by rw[←Lib.size_eq];exact HN.out)];rfl,HB.out⟩
theorem zero72(w:World):(zeroValue 203).run Tryz.prog w=.ok (.agg (Array.replicate 256 (.bool false))) w:=by kernel_rfl
theorem info72:(Tryz.prog.info? 203).map (·.size)=some 256:=by kernel_rfl
theorem index_any(s:ByteArray)(w:World)(hs:s.size≤65536):
 Calls Tryz.prog 137 #[.string s,.string D10] w fun e w'=>e=.returned (.int .i64 (Lib.indexAny s.data.toList d10))∧Below w.heap.size w w':=by
 by_cases h8:s.size≤8
 ·exact any_short s w h8
 ·refine(Any.strings_IndexAny_long (ρ:=Tryz.lays153_ren) Tryz.lays153 zero72 info72 s D10 w (by decide) (by omega) (by omega) (by decide) (fun j b hb=>?_)).mono fun e w' ⟨h1,h2⟩=>⟨h1,?_⟩
  ·have:∀b∈D10.data.toList,b.toNat<128:=by decide
   exact this b (List.mem_of_getElem? hb)
  ·rw[h2]
   exact((Below.refl _ _).alloc (Nat.le_refl _) _).alloc (by simp) _
theorem lets_none:∀l:List UInt8,Lib.indexAny l d10= -1→lets l=l
 |[],_=>rfl
 |b::l,h=>by
  unfold Lib.indexAny at h;rw[d10_isD]at h;have hge:=Lib.indexAny_ge d10 l;cases hb:isD b with
  |true=>rw[hb]at h;simp at h
  |false=>
   rw[hb]at h;simp only[Bool.false_eq_true,if_false]at h;have ih:Lib.indexAny l d10= -1:=by
    by_cases e:Lib.indexAny l d10= -1
    ·exact e
    ·rw[if_neg (by simpa using e)]at h;omega
   unfold lets;rw[List.takeWhile_cons,show isL b=true by simp[isL,hb]];exact congrArg _ (lets_none l ih)
theorem lets_at:∀(l:List UInt8) (k:Nat),Lib.indexAny l d10=(k:Int)→lets l=l.take k∧k<l.length
 |[],k,h=>by simp[Lib.indexAny]at h
 |b::l,k,h=>by
  unfold Lib.indexAny at h;rw[d10_isD]at h;have hge:=Lib.indexAny_ge d10 l;cases hb:isD b with
  |true=>
   rw[hb]at h;simp at h;have hk:k=0:=by omega
   subst hk;unfold lets;rw[List.takeWhile_cons,show isL b=false by simp[isL,hb]];exact⟨rfl,by simp⟩
  |false=>
   rw[hb]at h;simp only[Bool.false_eq_true,if_false]at h;by_cases e:Lib.indexAny l d10= -1
   ·rw[if_pos (by simpa using e)]at h;omega
   ·rw[if_neg (by simpa using e)]at h
    obtain⟨j,hj⟩:∃j:Nat,Lib.indexAny l d10=(j:Int):=⟨(Lib.indexAny l d10).toNat,by omega⟩
    have hk:k=j+1:=by omega
    subst hk;obtain⟨h1,h2⟩:=lets_at l j hj;unfold lets at h1⊢
    rw[List.takeWhile_cons,show isL b=true by simp[isL,hb],if_pos rfl,h1];exact⟨rfl,by simp;omega⟩
theorem letters_any(s:ByteArray)(w:World)(hs:s.size≤65536):
 Calls Tryz.prog 127 #[.string s] w fun e w'=>e=.returned (.string ⟨(lets s.data.toList).toArray⟩)∧Below w.heap.size w w':=by
 have hge:=Lib.indexAny_ge d10 s.data.toList;have H:=hid (index_any s w hs);have hd:(D10:ByteArray)=⟨#[48,49,50,51,52,53,54,55,56,57]⟩:=rfl;by_cases h:Lib.indexAny s.data.toList d10= -1
 ·have HL:=hid (lets_none _ h)
  rw[h,hd]at H;clear h hge hd;go_enter Tryz.func127,Tryz.ntmps127;go_wp2_with fail;refine(H.out).mono ?_;rintro e w1⟨rfl,hb1⟩;go_wp2;go_ret;exact⟨by rw[HL.out];rfl,hb1⟩
 ·obtain⟨k,hk⟩:∃k:Nat,Lib.indexAny s.data.toList d10=(k:Int):=⟨(Lib.indexAny s.data.toList d10).toNat,by omega⟩
  obtain⟨h1,h2⟩:=lets_at _ k hk;have HL:=hid h1;rw[hk,hd]at H;have h3:k<s.size:=by rw[Lib.size_eq];exact h2
  have HE:=hid (str_ext (a:=s.extract 0 k) (l:=s.data.toList.take k) (by rw[Lib.extract_data];simp));clear h1 h2 hk hge h hd;go_enter Tryz.func127,Tryz.ntmps127;go_wp2_with fail;refine(H.out).mono ?_;rintro e w1⟨rfl,hb1⟩;go_wp2;go_ret;exact⟨by rw[HL.out,←HE.out];rfl,hb1⟩
theorem Units.below{w w':World}{B:Nat}(h:Units w)(hB:4<B)(hb:Below B w w'):Units w':=fun k hk=>⟨(hb.cell (p:=⟨4,k*2,none⟩) hB).trans (h k hk).1,(hb.cell (p:=⟨4,k*2+1,none⟩) hB).trans (h k hk).2⟩
theorem Units.size{w:World}(h:Units w):4<w.heap.size:=World.block_lt_of_cell? _ _ (h 0 (by decide)).1
theorem sizes_le:∀k,k<7→sizeAt k≤31536000000:=by decide
def parseVal:Option Nat→Value
 |some v=>.tuple #[.int .i64 (v:Nat),.nilIface]
 |none=>.tuple #[.int .i64 0,.iface 41 (.int .i64 13)]
theorem tail_drop(l:List UInt8):l.drop (lets l).length=tail l:=by
 unfold lets tail
 induction l with
 |nil=>rfl
 |cons b l ih=>
  rw[List.takeWhile_cons,List.dropWhile_cons];split
  ·simpa using ih
  ·rfl
theorem findF_le(nm:List UInt8)(a:Nat)(ha:a≤7):findF nm a≤7∧a≤findF nm a:=⟨findGo_le nm _ _ (by omega),findGo_ge nm _ _ (by omega)⟩
theorem size_list(l:List UInt8):(⟨l.toArray⟩:ByteArray).size=l.length:=by rw[Lib.size_eq]
theorem lets_len(l:List UInt8):(lets l).length≤l.length:=(List.takeWhile_sublist _).length_le
theorem foldN_le:∀(l:List UInt8) (n:Nat),n≤35184372088833→l.foldl stepN n≤35184372088833
 |[],_,h=>h
 |b::l,n,_=>foldN_le l _ (stepN_le n b)
theorem numN_le(l:List UInt8):numN l≤35184372088833:=foldN_le _ 0 (by omega)
theorem parse_loop(s:ByteArray)(o:Option Nat)(w:World)(hU:Units w)(h0:s.size≠0)(h200:s.size≤200)(ho:parseP s.data.toList 0 0=o):
 Calls Tryz.prog 111 #[.string s] w fun e w'=>e=.returned (parseVal o)∧Below w.heap.size w w':=by
 have hB:=hU.size;have HU:=hid hU;have HO:=hid ho;clear hU ho;have e1:s.toList.isEmpty=false:=by
  rw[Lib.toList_data];have:=Lib.size_eq s;cases h:s.data.toList with
  |nil=>rw[h]at this;exact absurd this h0
  |cons _ _=>rfl
 have d1:decide ((200:Int)<(s.size:Int))=false:=by simp;omega
 go_enter Tryz.func111,Tryz.ntmps111;go_wp2
 go_loopg [0,4,5] s.size (fun g a b c wx=>∃(t:ByteArray) (sum fr:Nat),t.size≤g∧t.size≤200∧fr≤7∧sum≤35184372088832∧a=.string t∧b=.int .i64 sum∧c=.int .i64 fr∧Hid (parseP t.data.toList fr sum=o)∧Hid (Below w.heap.size w wx))
 case atStart=>exact⟨s,0,0,by omega,h200,by omega,by omega,rfl,rfl,rfl,HO.out,Below.refl _ _⟩
 case round=>
  clear e1 d1 h0 h200 HO;obtain⟨t,sum,fr,htg,ht,hfr,hsum,rfl,rfl,rfl,HO,HB⟩:=hrel;by_cases hz:t.size=0
  ·have hn:t.data.toList=[]:=List.length_eq_zero_iff.1 (by rw[←Lib.size_eq];exact hz)
   have hv:o=some sum:=by rw[←HO.out,hn,parse_nil]
   have e2:t.toList.isEmpty=true:=by rw[Lib.toList_data,hn];rfl
   subst hv;clear HO hn hz;go_wp2
   go_ret2
   exact⟨rfl,HB.out⟩
  ·have hne:t.data.toList≠[]:=fun h=>hz (by rw[Lib.size_eq,h];rfl)
   have e2:t.toList.isEmpty=false:=by rw[Lib.toList_data];simpa using hne
   have HNE:=hid hne;clear hne;go_wp2_with fail;refine(number_any _ _ (by omega)).mono ?_;rintro e w1⟨rfl,q1,rfl⟩;have HB1:=hid (bel_drawn HB.out q1);generalize wr.drewN q1=w1 at*
   generalize hl:t.data.toList=l at*
   have HL:=hid hl;have hrl:=rest_len l;have hll:=lets_len (rest l);have hlen:t.size=l.length:=by rw[Lib.size_eq,hl]
   have hrs:=size_list (rest l);have hls:=size_list (lets (rest l));obtain⟨hf1,hf2⟩:=findF_le (lets (rest l)) fr hfr;have HNX:=hid (@parse_next l fr sum HNE.out);have HBAD:=hid (@parse_bad l fr sum HNE.out);have HMUCH:=hid (@parse_much l fr sum HNE.out);have HLT:Hid (∀W,Calls Tryz.prog 127 #[.string ⟨(rest l).toArray⟩] W fun e w'=>e=.returned (.string ⟨(lets (rest l)).toArray⟩)∧Below W.heap.size W w'):=fun W=>letters_any ⟨(rest l).toArray⟩ W (by rw[size_list];omega);have HFI:Hid (∀W,Units W→Calls Tryz.prog 128 #[.string ⟨(lets (rest l)).toArray⟩,.int .i64 fr] W fun e w'=>e=.returned (.int .i64 (findF (lets (rest l)) fr:Nat))∧W=w'):=fun W hW=>find_any ⟨(lets (rest l)).toArray⟩ fr W hW hfr;have HTL:Hid ((⟨(rest l).toArray⟩:ByteArray).extract (lets (rest l)).length (rest l).length=⟨(tail (rest l)).toArray⟩):=str_ext (by rw[Lib.extract_data,tail_drop,List.take_of_length_le (by have:=congrArg List.length (tail_drop (rest l));simp at this⊢;omega)]);have hnn:=numN_le l;rw[←hrs,←hls]at HTL;rw[←hrs,←hls]at hll;rw[←hrs,←hlen]at hrl HNX HBAD HMUCH;have htl:=size_list (tail (rest l));have htl2:=tail_len (rest l);rw[←htl,←hrs]at htl2;have HZ:=hid (sizes_pos (findF (lets (rest l)) fr));have HZL:=hid (sizes_le (findF (lets (rest l)) fr));have HTD:Hid ((⟨(tail (rest l)).toArray⟩:ByteArray).data.toList=tail (rest l)):=(rfl:(⟨(tail (rest l)).toArray⟩:ByteArray).data.toList=tail (rest l))
   clear hl hlen hrs hls htl;generalize (⟨(tail (rest l)).toArray⟩:ByteArray)=TL at*
   generalize tail (rest l)=tl at*
   generalize hR:(⟨(rest l).toArray⟩:ByteArray)=R at*
   generalize hNM:(⟨(lets (rest l)).toArray⟩:ByteArray)=NM at*
   generalize findF (lets (rest l)) fr=at' at*
   generalize numN l=n at*
   clear hR hNM;go_wp2_with fail;refine(HLT.out _).mono ?_;rintro e w2⟨rfl,hb2⟩;have HB2:=hid (HB1.out.trans (hb2.mono HB1.out.size));clear hb2;go_wp2_with fail;refine(HFI.out _ (HU.out.below hB HB2.out)).mono ?_;rintro e w3⟨rfl,rfl⟩;by_cases c1:R.size=t.size
   ·have hv:o=none:=by rw[←HO.out];exact HBAD.out (.inl c1)
    subst hv;have x1:((R.size:Int)==(t.size:Int))=true:=by simp[c1]
    clear c1;go_wp2
    go_ret2
    exact⟨rfl,HB2.out⟩
   have x1:((R.size:Int)==(t.size:Int))=false:=beq_eq_false_iff_ne.2 (by omega);by_cases c2:at'=7
   ·have hv:o=none:=by rw[←HO.out];exact HBAD.out (.inr (.inl c2))
    subst hv;have x2:((at':Int)==7)=true:=by simp[c2]
    clear c2;go_wp2
    go_ret2
    exact⟨rfl,HB2.out⟩
   have x2:((at':Int)==7)=false:=by simp;omega
   have c2':at'<7:=by omega
   have hcell:=((HU.out.below hB HB2.out) at' c2').2;have hz0:=HZ.out c2';have hzl:=HZL.out c2';clear HZ HZL;generalize sizeAt at'=z at*
   have hdiv:((35184372088832/z:Nat):Int)=(35184372088832:Int)/(z:Int):=by simp
   by_cases c3:35184372088832/z<n
   ·have hv:o=none:=by rw[←HO.out];exact HBAD.out (.inr (.inr c3))
    subst hv;have x3:(35184372088832:Int)/(z:Int)<(n:Int):=by rw[←hdiv];omega
    clear hdiv c3;go_wp2
    go_ret2
    exact⟨rfl,HB2.out⟩
   have x3:¬(35184372088832:Int)/(z:Int)<(n:Int):=by rw[←hdiv];omega
   have hmul:n*z≤35184372088832:=Nat.le_trans (Nat.mul_le_mul_right z (Nat.le_of_not_lt c3)) (Nat.div_mul_le_self _ _);have hmi:((n*z:Nat):Int)=(n:Int)*(z:Int):=by simp
   have hmul':(n:Int)*(z:Int)≤35184372088832:=by rw[←hmi];omega
   have hmul0:0≤(n:Int)*(z:Int):=by rw[←hmi];omega
   clear hdiv;by_cases c4:35184372088832<sum+n*z
   ·have hv:o=none:=by rw[←HO.out];exact HMUCH.out (by rintro(h|h|h);exact c1 h;exact c2 h;exact c3 h) c4
    subst hv;have x4:(35184372088832:Int)<(sum:Int)+(n:Int)*(z:Int):=by rw[←hmi];omega
    clear hmi c4 c3;go_wp2
    go_ret2
    exact⟨rfl,HB2.out⟩
   have x4:¬(35184372088832:Int)<(sum:Int)+(n:Int)*(z:Int):=by rw[←hmi];omega
   have HV:=hid ((HNX.out (by rintro(h|h|h);exact c1 h;exact c2 h;exact c3 h) c4).symm.trans HO.out);have HMI:=hid hmi;obtain⟨g,rfl⟩:∃g,gk=g+1:=⟨gk-1,by omega⟩
   clear hmi c4 c3;go_wp2
   go_roundg g
   case measure=>omega
   case rel=>
    refine⟨TL,sum+n*z,at'+1,by omega,by omega,by omega,by omega,?_,?_,by go_num,by rw[HTD.out];exact HV.out,HB2.out⟩
    ·rw[HTL.out]
    ·rw[show((sum+n*z:Nat):Int)=(sum:Int)+(n:Int)*(z:Int) by rw[←HMI.out];simp]
theorem parse_any(s:ByteArray)(o:Option Nat)(w:World)(hU:Units w)(ho:spanF s.data.toList=o):
 Calls Tryz.prog 111 #[.string s] w fun e w'=>e=.returned (parseVal o)∧Below w.heap.size w w':=by
 have hlen:=Lib.size_eq s;by_cases h0:s.size=0
 ·have hn:s.data.toList=[]:=List.length_eq_zero_iff.1 (by omega)
  have hv:o=none:=by rw[←ho];unfold spanF;rw[if_pos (by omega)]
  subst hv;have e1:s.toList.isEmpty=true:=by rw[Lib.toList_data,hn];rfl
  clear ho hlen hn h0 hU;go_enter Tryz.func111,Tryz.ntmps111;go_wp2
  go_ret2
  exact⟨rfl,Below.refl _ _⟩
 ·by_cases h2:200<s.size
  ·have hv:o=none:=by rw[←ho];unfold spanF;rw[if_pos (by omega)]
   subst hv;have e1:s.toList.isEmpty=false:=by
    rw[Lib.toList_data];cases h:s.data.toList with
    |nil=>rw[h]at hlen;exact absurd hlen h0
    |cons _ _=>rfl
   have d1:decide ((200:Int)<(s.size:Int))=true:=by simp;omega
   clear ho hlen h0 hU;go_enter Tryz.func111,Tryz.ntmps111;go_wp2
   go_ret2
   exact⟨rfl,Below.refl _ _⟩
  ·refine parse_loop s o w hU h0 (by omega) ?_
   rw[←ho];unfold spanF;rw[if_neg (by omega)]
end Go.Proofs.YtmodehfedhgcbaaGreatDoor.Sp

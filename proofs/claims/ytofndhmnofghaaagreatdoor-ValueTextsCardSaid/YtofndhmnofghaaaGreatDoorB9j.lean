/- Lemmas. No condition. -/
import Derived.Test.YtofndhmnofghaaaGreatDoorB7j
import Derived.Deep.RegionHeld3
import Derived.Laws.Bits64b
namespace Go.Proofs.YtofndhmnofghaaaGreatDoor
open Go.RowKit Ieee
set_option linter.unusedVariables false

/-! a float that is a number, and not 0 -/
abbrev bufO : Obj := .cells #[.int .u8 0, .int .u8 0, .int .u8 0, .int .u8 0, .int .u8 0, .int .u8 0, .int .u8 0, .int .u8 0, .int .u8 0, .int .u8 0, .int .u8 0, .int .u8 0, .int .u8 0, .int .u8 0, .int .u8 0, .int .u8 0, .int .u8 0, .int .u8 0, .int .u8 0, .int .u8 0, .int .u8 0, .int .u8 0, .int .u8 0, .int .u8 0, .int .u8 0, .int .u8 0, .int .u8 0, .int .u8 0, .int .u8 0, .int .u8 0, .int .u8 0, .int .u8 0] 96
theorem bufO_is : bufO = .cells (Array.replicate 32 (.int .u8 0)) 96 := rfl
def FtP (w0 : World) (base : Nat) (out : List UInt8) (e : Ending) (w' : World) : Prop := ∃ v, e = .returned v ∧ w'.ownsRow base 5 1 v out.length (out.map encB) ∧ Below base w0 w' ∧ base ≤ w'.heap.size
theorem FtP.of {w0 w' : World} {base b : Nat} {ds out : List UInt8} {e : Ending} (h : EfgP w0 base b ds out e w') : FtP w0 base out e w' := by
  obtain ⟨v, he, hO⟩ := h
  exact ⟨v, he, hO.own, hO.bel, hO.le⟩
theorem buf_row (w : World) (W : World) (hW : Below (w.alloc bufO).heap.size (w.alloc bufO) W) : Row8 W w.heap.size 32 ∧ Buf W w.heap.size ∧ w.heap.size < W.heap.size := by
  have hb : W.heap[w.heap.size]? = some bufO := (hW.block w.heap.size (by simp)).trans (heap_alloc_new w bufO)
  have hs := hW.size
  rw [World.size_alloc] at hs
  rw [bufO_is] at hb
  refine ⟨fun j hj => ⟨⟨0, ?_⟩, ?_⟩, ⟨_, hb⟩, by omega⟩
  · have := cell_of_row W w.heap.size j _ 96 (0, 0) hb
    rw [this]
    simp [hj]
  · simp [World.frozen?, hb]
theorem take_dig (W : World) (b u nd nz : Nat) (hz : nz ≤ nd) (h : ∀ j, j < nd → W.cell? ⟨b, j, none⟩ = some (encB (Lib.dg u (nd - 1 - j)))) : Dig W b ((dgs u nd).take nz) := by
  intro j hj
  have hj2 : j < nz ∧ j < nd := by simp [dgs] at hj; omega
  rw [h j hj2.2]
  simp [dgs, hj2.1, hj2.2]
theorem len_dig (u nd nz : Nat) (hz : nz ≤ nd) : ((dgs u nd).take nz).length = nz := by simp [dgs]; omega
/-- what setDigits leaves, all in all -/
theorem outp_digits {w0 w1 w2 w' : World} {base b u nd nz n : Nat} {v : Value} (hown : w1.ownsRow base 5 1 v 0 []) (hlt : ∀ k, v.ownBlock = some k → k < b) (hbuf : Buf w1 b) (hbel : Below base w0 w1) (hle : base ≤ b) (hb : b < w1.heap.size) (hD : DigP u nd b w1 w2) (hw : w' = w2.drewN n) (hz : nz ≤ nd) :
    Outp w0 base b ((dgs u nd).take nz) v [] w' := by
  subst hw
  obtain ⟨h1, h2, h3, h4⟩ := hD
  obtain ⟨cs, hc⟩ := hbuf
  obtain ⟨cs', hc'⟩ := h4 cs 96 (0, 0) hc
  have e : ∀ x, (w2.drewN n).cell? x = w2.cell? x := fun x => rfl
  exact ⟨own_below (own_below hown h2 hlt) (bel_drawn (Below.refl b w2) n) hlt, ⟨cs', hc'⟩, take_dig (w2.drewN n) b u nd nz hz (fun j hj => h1 j hj), by show base ≤ w2.heap.size; omega, bel_drawn (hbel.trans (h2.mono hle)) n⟩

set_option maxRecDepth 100000 in
set_option maxHeartbeats 4000000 in
theorem ftoa_norm (n f x L s mant m D nd base : Nat) (E e e1 p : Int) (neg : Bool) (w w0 : World) (v : Value) (hown : w.ownsRow base 5 1 v 0 []) (hbel : Below base w0 w) (hle : base ≤ w.heap.size)
    (hx1 : 1 ≤ x) (hx2 : x ≤ 2046) (hn : n < 18446744073709551616)
    (r1 : bits BinOp.and IntKind.i64 ((n : Int) / 4503599627370496) 2047 = (x : Int)) (r2 : bits BinOp.and IntKind.u64 (n : Int) 4503599627370495 = (f : Int))
    (r3 : bits BinOp.or IntKind.u64 (f : Int) 4503599627370496 = (mant : Int)) (r4 : ((n : Int) / 9223372036854775808 != 0) = neg) (hm0 : ((mant : Int) == 0) = false) (hm1 : mant < 9007199254740992)
    (rE : (x : Int) + -1023 = E) (rs : (64 : Int) - (L : Int) = (s : Int)) (hs : s ≤ 63) (rm : IntKind.u64.wrap ((mant : Int) * 2 ^ s) = (m : Int)) (re1 : E - (s : Int) = e1) (re : e1 - 52 = e) (hE1 : -1100 ≤ E) (hE2 : E ≤ 1100)
    (hDn : D < 10 ^ nd) (hD64 : D < 18446744073709551616) (hnd20 : nd ≤ 20) (hp1 : -360 ≤ p) (hp2 : p ≤ 360)
    (HL : Hid (∀ W, Calls Tryz.prog 57 #[.int .u64 (mant : Int)] W fun e w' => e = .returned (.int .i64 (L : Int)) ∧ W = w'))
    (HSF : Hid (∀ nq, Calls Tryz.prog 66 #[.int .u64 (m : Int), .int .i64 e] ((w.drewN nq).alloc bufO) fun en w' => en = .returned (.tuple #[.int .u64 (D : Int), .int .i64 p]) ∧ Below ((w.drewN nq).alloc bufO).heap.size ((w.drewN nq).alloc bufO) w'))
    (HDG : Hid (∀ nq W, Below ((w.drewN nq).alloc bufO).heap.size ((w.drewN nq).alloc bufO) W → Calls Tryz.prog 60 #[.int .u64 (D : Int)] W fun e w' => e = .returned (.int .i64 (nd : Int)) ∧ W = w')) :
    Calls Tryz.prog 41 #[v, .float .f64 n, .int .u8 103, .int .i64 (-1)] w (FtP w0 base (gText neg ((dgs D nd).take (trimN D nd nd)) ((nd : Int) + p))) := by
  have hx3 : ((x : Int) == 2047) = false := by simp; omega
  have hx4 : ((x : Int) == 0) = false := by simp; omega
  have hbits : ∀ w : World, (callFunc 53 #[.float .f64 n]).run Tryz.prog w = .ok (.value (.int .u64 (n : Int))) w := fun w => by kernel_rfl
  have HOWN := Lib.hid hown
  have HBEL := Lib.hid hbel
  have HDN := Lib.hid hDn
  clear hown hbel
  go_enter Tryz.func41, Tryz.ntmps41
  go_upto_region 14 with fail
  go_quiet (fail)
  go_wp2_with fail
  refine (HL.out _).mono ?_
  rintro en w1 ⟨rfl, rfl⟩
  go_wp2_with fail
  refine (HSF.out _).mono ?_
  rintro en w1 ⟨rfl, hb1⟩
  obtain ⟨hrow, hbuf, hlt⟩ := buf_row _ w1 hb1
  have HND := Lib.hid (fun n => HDG.out _ (w1.drewN n) (bel_drawn hb1 n))
  have HSD := Lib.hid (fun n => setd_any w.heap.size D nd 32 p (w1.drewN n) hrow hlt HDN.out hD64 hnd20 (by omega) (by omega) (by omega) (by omega))
  have hww : Below w.heap.size w w1 := (bel_drawn (Below.refl _ w) _ : Below w.heap.size w (w.drewN _)).trans (((Below.refl w.heap.size (w.drewN _)).alloc (Nat.le_refl _) _).trans (hb1.mono (by simp)))
  have HCV := Lib.hid (fun k n (w2 w' : World) (hD : DigP D nd w.heap.size (w1.drewN k) w2) (hw : w' = w2.drewN n) =>
    outp_digits (own_below HOWN.out (bel_drawn hww k) fun i hi => (HOWN.out.lt i hi).2) (fun i hi => (HOWN.out.lt i hi).2) (show Buf (w1.drewN k) w.heap.size from hbuf) (HBEL.out.trans ((bel_drawn hww k).mono hle)) hle (show w.heap.size < (w1.drewN k).heap.size from hlt) hD hw (trimN_le D nd nd))
  clear hww
  have HB1 := Lib.hid hb1
  have HBUF := Lib.hid hbuf
  have HLT := Lib.hid hlt
  clear hb1 hrow hbuf hlt
  go_upto_region 38 with fail
  go_cut [22, 23] (fun s22 s23 wx => s22 = .int .i64 ((nd : Int) + p) ∧ s23 = .int .i64 (trimN D nd nd : Int) ∧ Hid (Outp w0 base w.heap.size ((dgs D nd).take (trimN D nd nd)) v [] wx))
  case first => as_aux_lemma =>
    go_region_held3 (fun W => (∃ k, W = w1.drewN k) ∨ Outp w0 base w.heap.size ((dgs D nd).take (trimN D nd nd)) v [] W) (first | exact .inl ⟨_, rfl⟩ | exact .inl ⟨0, rfl⟩ | exact .inr HD2.out)
      (first | (go_at_call 60; refine (HND.out _).mono ?_; rintro en w2 ⟨rfl, rfl⟩)
             | (go_at_call 59; refine (HSD.out _).mono ?_; rintro en w2 ⟨rfl, hd2⟩; have HD2 := Lib.hid (by obtain ⟨n, w3, hd3, hw3⟩ := hd2.out; exact HCV.out _ n w3 _ hd3 hw3); clear hd2))
    all_goals (go_wp2_with fail; go_meet; exact ⟨rfl, rfl, HD2⟩)
  case rest => as_aux_lemma =>
    obtain ⟨rfl, rfl, HOUT⟩ := hcut
    have htl := trimN_le D nd nd
    have hlen := len_dig D nd (trimN D nd nd) htl
    generalize (dgs D nd).take (trimN D nd nd) = ds at *
    generalize trimN D nd nd = nz at *
    have HEF := Lib.hid (efg_any neg ds ((nd : Int) + p) w.heap.size 32 base nz wc w0 v HOUT.out hlen (by omega) (by omega) (by omega) (by omega) (by omega))
    go_wp2_with fail
    refine (HEF.out).mono ?_
    intro en w4 h4
    have hF := FtP.of h4
    clear h4
    obtain ⟨v4, rfl, h4⟩ := hF
    have H4 := Lib.hid h4
    clear h4
    go_wp2
    go_ret
    exact ⟨v4, rfl, H4.out⟩
set_option maxRecDepth 100000 in
set_option maxHeartbeats 4000000 in
theorem ftoa_sub (n L s mant m D nd base : Nat) (e e1 p : Int) (neg : Bool) (w w0 : World) (v : Value) (hown : w.ownsRow base 5 1 v 0 []) (hbel : Below base w0 w) (hle : base ≤ w.heap.size)
    (hn : n < 18446744073709551616)
    (r1 : bits BinOp.and IntKind.i64 ((n : Int) / 4503599627370496) 2047 = 0) (r2 : bits BinOp.and IntKind.u64 (n : Int) 4503599627370495 = (mant : Int))
    (r4 : ((n : Int) / 9223372036854775808 != 0) = neg) (hm0 : ((mant : Int) == 0) = false) (hm1 : mant < 9007199254740992)
    (rs : (64 : Int) - (L : Int) = (s : Int)) (hs : s ≤ 63) (rm : IntKind.u64.wrap ((mant : Int) * 2 ^ s) = (m : Int)) (re1 : -1022 - (s : Int) = e1) (re : e1 - 52 = e)
    (hDn : D < 10 ^ nd) (hD64 : D < 18446744073709551616) (hnd20 : nd ≤ 20) (hp1 : -360 ≤ p) (hp2 : p ≤ 360)
    (HL : Hid (∀ W, Calls Tryz.prog 57 #[.int .u64 (mant : Int)] W fun e w' => e = .returned (.int .i64 (L : Int)) ∧ W = w'))
    (HSF : Hid (∀ nq, Calls Tryz.prog 66 #[.int .u64 (m : Int), .int .i64 e] ((w.drewN nq).alloc bufO) fun en w' => en = .returned (.tuple #[.int .u64 (D : Int), .int .i64 p]) ∧ Below ((w.drewN nq).alloc bufO).heap.size ((w.drewN nq).alloc bufO) w'))
    (HDG : Hid (∀ nq W, Below ((w.drewN nq).alloc bufO).heap.size ((w.drewN nq).alloc bufO) W → Calls Tryz.prog 60 #[.int .u64 (D : Int)] W fun e w' => e = .returned (.int .i64 (nd : Int)) ∧ W = w')) :
    Calls Tryz.prog 41 #[v, .float .f64 n, .int .u8 103, .int .i64 (-1)] w (FtP w0 base (gText neg ((dgs D nd).take (trimN D nd nd)) ((nd : Int) + p))) := by
  have hbits : ∀ w : World, (callFunc 53 #[.float .f64 n]).run Tryz.prog w = .ok (.value (.int .u64 (n : Int))) w := fun w => by kernel_rfl
  have HOWN := Lib.hid hown
  have HBEL := Lib.hid hbel
  have HDN := Lib.hid hDn
  clear hown hbel
  go_enter Tryz.func41, Tryz.ntmps41
  go_upto_region 14 with fail
  go_quiet (fail)
  go_wp2_with fail
  refine (HL.out _).mono ?_
  rintro en w1 ⟨rfl, rfl⟩
  go_wp2_with fail
  refine (HSF.out _).mono ?_
  rintro en w1 ⟨rfl, hb1⟩
  obtain ⟨hrow, hbuf, hlt⟩ := buf_row _ w1 hb1
  have HND := Lib.hid (fun n => HDG.out _ (w1.drewN n) (bel_drawn hb1 n))
  have HSD := Lib.hid (fun n => setd_any w.heap.size D nd 32 p (w1.drewN n) hrow hlt HDN.out hD64 hnd20 (by omega) (by omega) (by omega) (by omega))
  have hww : Below w.heap.size w w1 := (bel_drawn (Below.refl _ w) _ : Below w.heap.size w (w.drewN _)).trans (((Below.refl w.heap.size (w.drewN _)).alloc (Nat.le_refl _) _).trans (hb1.mono (by simp)))
  have HCV := Lib.hid (fun k n (w2 w' : World) (hD : DigP D nd w.heap.size (w1.drewN k) w2) (hw : w' = w2.drewN n) =>
    outp_digits (own_below HOWN.out (bel_drawn hww k) fun i hi => (HOWN.out.lt i hi).2) (fun i hi => (HOWN.out.lt i hi).2) (show Buf (w1.drewN k) w.heap.size from hbuf) (HBEL.out.trans ((bel_drawn hww k).mono hle)) hle (show w.heap.size < (w1.drewN k).heap.size from hlt) hD hw (trimN_le D nd nd))
  clear hww
  have HB1 := Lib.hid hb1
  have HBUF := Lib.hid hbuf
  have HLT := Lib.hid hlt
  clear hb1 hrow hbuf hlt
  go_upto_region 38 with fail
  go_cut [22, 23] (fun s22 s23 wx => s22 = .int .i64 ((nd : Int) + p) ∧ s23 = .int .i64 (trimN D nd nd : Int) ∧ Hid (Outp w0 base w.heap.size ((dgs D nd).take (trimN D nd nd)) v [] wx))
  case first => as_aux_lemma =>
    go_region_held3 (fun W => (∃ k, W = w1.drewN k) ∨ Outp w0 base w.heap.size ((dgs D nd).take (trimN D nd nd)) v [] W) (first | exact .inl ⟨_, rfl⟩ | exact .inl ⟨0, rfl⟩ | exact .inr HD2.out)
      (first | (go_at_call 60; refine (HND.out _).mono ?_; rintro en w2 ⟨rfl, rfl⟩)
             | (go_at_call 59; refine (HSD.out _).mono ?_; rintro en w2 ⟨rfl, hd2⟩; have HD2 := Lib.hid (by obtain ⟨n, w3, hd3, hw3⟩ := hd2.out; exact HCV.out _ n w3 _ hd3 hw3); clear hd2))
    all_goals (go_wp2_with fail; go_meet; exact ⟨rfl, rfl, HD2⟩)
  case rest => as_aux_lemma =>
    obtain ⟨rfl, rfl, HOUT⟩ := hcut
    have htl := trimN_le D nd nd
    have hlen := len_dig D nd (trimN D nd nd) htl
    generalize (dgs D nd).take (trimN D nd nd) = ds at *
    generalize trimN D nd nd = nz at *
    have HEF := Lib.hid (efg_any neg ds ((nd : Int) + p) w.heap.size 32 base nz wc w0 v HOUT.out hlen (by omega) (by omega) (by omega) (by omega) (by omega))
    go_wp2_with fail
    refine (HEF.out).mono ?_
    intro en w4 h4
    have hF := FtP.of h4
    clear h4
    obtain ⟨v4, rfl, h4⟩ := hF
    have H4 := Lib.hid h4
    clear h4
    go_wp2
    go_ret
    exact ⟨v4, rfl, H4.out⟩


/-- what is no number, or infinite -/
def specT (neg : Bool) (f : Nat) : ByteArray := if f ≠ 0 then ⟨#[78, 97, 78]⟩ else if neg = true then ⟨#[45, 73, 110, 102]⟩ else ⟨#[43, 73, 110, 102]⟩
set_option maxRecDepth 100000 in
set_option maxHeartbeats 4000000 in
theorem ftoa_spec (n f base : Nat) (neg : Bool) (w w0 : World) (v : Value) (hown : w.ownsRow base 5 1 v 0 []) (hbel : Below base w0 w) (hle : base ≤ w.heap.size) (hn : n < 18446744073709551616)
    (r1 : bits BinOp.and IntKind.i64 ((n : Int) / 4503599627370496) 2047 = 2047) (r2 : bits BinOp.and IntKind.u64 (n : Int) 4503599627370495 = (f : Int)) (r4 : ((n : Int) / 9223372036854775808 != 0) = neg) :
    Calls Tryz.prog 41 #[v, .float .f64 n, .int .u8 103, .int .i64 (-1)] w (FtP w0 base (specT neg f).data.toList) := by
  have hbits : ∀ w : World, (callFunc 53 #[.float .f64 n]).run Tryz.prog w = .ok (.value (.int .u64 (n : Int))) w := fun w => by kernel_rfl
  have HOWN := Lib.hid (fun n => (own_below hown (bel_drawn (Below.refl _ w) n) fun i hi => (hown.lt i hi).2 : (w.drewN n).ownsRow base 5 1 v 0 []))
  have HBEL := Lib.hid (fun n => bel_drawn hbel n)
  clear hown hbel
  have Z1 := Lib.hid (show (⟨#[45, 73, 110, 102]⟩ : ByteArray).size ≤ 65536 from by simp [ByteArray.size])
  have Z2 := Lib.hid (show (⟨#[43, 73, 110, 102]⟩ : ByteArray).size ≤ 65536 from by simp [ByteArray.size])
  have Z3 := Lib.hid (show (⟨#[78, 97, 78]⟩ : ByteArray).size ≤ 65536 from by simp [ByteArray.size])
  by_cases hf : f = 0
  · have e : ((f : Int) != 0) = false := by simp [hf]
    cases neg with
    | true =>
      have HS : Hid (specT true f = ⟨#[45, 73, 110, 102]⟩) := by show specT true f = _; unfold specT; rw [if_neg (by simpa using hf)]; rfl
      clear hf
      go_enter Tryz.func41, Tryz.ntmps41
      go_upto_region 14 with fail
      go_quiet (fail)
      go_wp2_with (at_builtin; refine push_str (w := w.drewN nq) rfl _ _ rfl rfl (HBEL.out nq) hle (HOWN.out nq) ⟨#[45, 73, 110, 102]⟩ rfl Z1.out ?_; intro v2 w2 ho2 hb2 hl2; have HO2 := Lib.hid ho2; clear ho2)
      go_ret
      rw [HS.out]
      exact ⟨v2, rfl, HO2.out, hb2, hl2⟩
    | false =>
      have HS : Hid (specT false f = ⟨#[43, 73, 110, 102]⟩) := by show specT false f = _; unfold specT; rw [if_neg (by simpa using hf)]; rfl
      clear hf
      go_enter Tryz.func41, Tryz.ntmps41
      go_upto_region 14 with fail
      go_quiet (fail)
      go_wp2_with (at_builtin; refine push_str (w := w.drewN nq) rfl _ _ rfl rfl (HBEL.out nq) hle (HOWN.out nq) ⟨#[43, 73, 110, 102]⟩ rfl Z2.out ?_; intro v2 w2 ho2 hb2 hl2; have HO2 := Lib.hid ho2; clear ho2)
      go_ret
      rw [HS.out]
      exact ⟨v2, rfl, HO2.out, hb2, hl2⟩
  · have e : ((f : Int) != 0) = true := by simp; omega
    have HS : Hid (specT neg f = ⟨#[78, 97, 78]⟩) := by show specT neg f = _; unfold specT; rw [if_pos hf]
    clear hf
    go_enter Tryz.func41, Tryz.ntmps41
    go_upto_region 14 with fail
    go_quiet (fail)
    go_wp2_with (at_builtin; refine push_str (w := w.drewN nq) rfl _ _ rfl rfl (HBEL.out nq) hle (HOWN.out nq) ⟨#[78, 97, 78]⟩ rfl Z3.out ?_; intro v2 w2 ho2 hb2 hl2; have HO2 := Lib.hid ho2; clear ho2)
    go_ret
    rw [HS.out]
    exact ⟨v2, rfl, HO2.out, hb2, hl2⟩
set_option maxRecDepth 100000 in
set_option maxHeartbeats 4000000 in
theorem ftoa_zero (n base : Nat) (neg : Bool) (w w0 : World) (v : Value) (hown : w.ownsRow base 5 1 v 0 []) (hbel : Below base w0 w) (hle : base ≤ w.heap.size) (hn : n < 18446744073709551616)
    (r1 : bits BinOp.and IntKind.i64 ((n : Int) / 4503599627370496) 2047 = 0) (r2 : bits BinOp.and IntKind.u64 (n : Int) 4503599627370495 = 0) (r4 : ((n : Int) / 9223372036854775808 != 0) = neg)
    (HZ : Hid (∀ k, Calls Tryz.prog 56 #[v, .bool neg, .slice none 0 0, .int .i64 0, .int .i64 0, .int .i64 (-1), .int .u8 103, .bool true] (w.drewN k) (FtP w0 base (sgn neg ++ [48])))) :
    Calls Tryz.prog 41 #[v, .float .f64 n, .int .u8 103, .int .i64 (-1)] w (FtP w0 base (sgn neg ++ [48])) := by
  have hbits : ∀ w : World, (callFunc 53 #[.float .f64 n]).run Tryz.prog w = .ok (.value (.int .u64 (n : Int))) w := fun w => by kernel_rfl
  clear hown hbel
  go_enter Tryz.func41, Tryz.ntmps41
  go_upto_region 14 with fail
  go_quiet (fail)
  go_wp2_with fail
  refine (HZ.out _).mono ?_
  intro en w4 hF
  obtain ⟨v4, rfl, h4⟩ := hF
  have H4 := Lib.hid h4
  clear h4
  go_wp2
  go_ret
  exact ⟨v4, rfl, H4.out⟩
end Go.Proofs.YtofndhmnofghaaaGreatDoor

namespace Go.Proofs.YtofndhmnofghaaaGreatDoor
open Go.RowKit Ieee
set_option linter.unusedVariables false

/-! any float at all -/
structure Outq (w0 : World) (base : Nat) (v : Value) (bs : List UInt8) (w : World) : Prop where
  own : w.ownsRow base 5 1 v bs.length (bs.map encB)
  bel : Below base w0 w
  le : base ≤ w.heap.size
theorem pushq {w0 w : World} {base : Nat} {v : Value} {bs : List UInt8} {ops : Array Oper} {rest : List Oper} {o : Oper} {a : Act} {Q : Exit → Act → World → Prop}
    (hgd : o.guard = none) (s x : Operand) (ho : o.op = .call { callee := .builtin .append, args := #[s, x], argTypes := #[66, 66] }) (hs : a.eval s = v) (t : TypeId) (c : UInt8) (z : Int) (hz : z = (c.toNat : Int)) (hO : Outq w0 base v bs w)
    (hx : a.eval x = .slice (some ⟨w.heap.size, 0, none⟩) 1 1) (hl : bs.length < 4096)
    (h : ∀ v' w', Outq w0 base v' (bs ++ [c]) w' → wpList Tryz.prog ops Q rest (a.put o.dst v') w') : wpList Tryz.prog ops Q (o :: rest) a (w.alloc (.cells #[.int .u8 z] t)) := by
  subst hz
  obtain ⟨i0, hi0, hz0, hz1, hz2⟩ := info_parts info5
  refine wpList_append_own (w.alloc _) hgd s x 66 ho base 5 i0 _ 1 1 Tryz.underlying66 hi0 hz0 hz1 hz2 rfl (by decide) v bs.length (bs.map encB) hs (hO.own.alloc _) ⟨w.heap.size, 0, none⟩ 1 1 [encB c] hx rfl (fun j u hj => ?_) (by intro u hu; simp at hu; subst hu; rfl) (by unfold maxLen; omega) (by omega) (by have := hO.le; simp; omega) ?_
  · have hj0 : j = 0 := by
      rcases Nat.eq_zero_or_pos j with h0 | h0
      · exact h0
      · rw [List.getElem?_eq_none (by simp; omega)] at hj; cases hj
    subst hj0
    simp at hj
    subst hj
    exact (Blk.new w t #[encB c]).cell 0
  · intro v' w' ho' hg _
    refine h v' w' ⟨?_, (hO.bel.alloc hO.le _).grown hg (by have := hO.le; simp; omega) fun k hk => (hO.own.lt k hk).1, by have := hO.le; have := hg.size; simp at this; omega⟩
    rw [List.length_append, List.map_append]
    exact ho'
set_option maxRecDepth 100000 in
set_option maxHeartbeats 4000000 in
theorem efg_zeroq (neg : Bool) (base : Nat) (w w0 : World) (v : Value) (hO : Outq w0 base v [] w) :
    Calls Tryz.prog 56 #[v, .bool neg, .slice none 0 0, .int .i64 0, .int .i64 0, .int .i64 (-1), .int .u8 103, .bool true] w (FtP w0 base (sgn neg ++ [48])) := by
  have HO := Lib.hid hO
  clear hO
  go_enter Tryz.func56, Tryz.ntmps56
  go_upto_if 178 with fail
  go_cut [0] (fun s0 wx => Hid (Outq w0 base s0 (sgn neg) wx))
  case first => as_aux_lemma =>
    cases neg with
    | false =>
      go_wp2
      go_meet
      exact HO
    | true =>
      go_wp2_with (at_builtin; refine pushq rfl _ _ rfl rfl _ 45 _ rfl HO.out rfl (by decide) ?_; intro v1 w1 hO1; have HO1 := Lib.hid hO1; clear hO1)
      go_meet
      exact HO1
  case rest => as_aux_lemma =>
    have HO1 := hcut
    clear hcut HO
    have hs1 : (sgn neg).length ≤ 1 := by cases neg <;> decide
    go_wp2_with (at_builtin; refine pushq rfl _ _ rfl rfl _ 48 _ rfl HO1.out rfl (by omega) ?_; intro v2 w2 hO2; have HO2 := Lib.hid hO2; clear hO2)
    go_ret
    exact ⟨_, rfl, HO2.out.own, HO2.out.bel, HO2.out.le⟩
def fmtFin (neg : Bool) (mant : Nat) (E : Int) : List UInt8 :=
  gText neg ((dgs (sfD (mant * 2 ^ (64 - Lib.bitLen mant)) (E - ((64 - Lib.bitLen mant : Nat) : Int) - 52)).toNat (nD (sfD (mant * 2 ^ (64 - Lib.bitLen mant)) (E - ((64 - Lib.bitLen mant : Nat) : Int) - 52)).toNat)).take
      (trimN (sfD (mant * 2 ^ (64 - Lib.bitLen mant)) (E - ((64 - Lib.bitLen mant : Nat) : Int) - 52)).toNat (nD (sfD (mant * 2 ^ (64 - Lib.bitLen mant)) (E - ((64 - Lib.bitLen mant : Nat) : Int) - 52)).toNat) (nD (sfD (mant * 2 ^ (64 - Lib.bitLen mant)) (E - ((64 - Lib.bitLen mant : Nat) : Int) - 52)).toNat)))
    ((nD (sfD (mant * 2 ^ (64 - Lib.bitLen mant)) (E - ((64 - Lib.bitLen mant : Nat) : Int) - 52)).toNat : Int) + sfE (mant * 2 ^ (64 - Lib.bitLen mant)) (E - ((64 - Lib.bitLen mant : Nat) : Int) - 52))
/-- the text of bits -/
def fmtF (n : Nat) : List UInt8 :=
  if n / 4503599627370496 % 2048 = 2047 then (specT (decide (9223372036854775808 ≤ n)) (n % 4503599627370496)).data.toList
  else if n / 4503599627370496 % 2048 = 0 then
    if n % 4503599627370496 = 0 then sgn (decide (9223372036854775808 ≤ n)) ++ [48] else fmtFin (decide (9223372036854775808 ≤ n)) (n % 4503599627370496) (-1022)
  else fmtFin (decide (9223372036854775808 ≤ n)) (n % 4503599627370496 + 4503599627370496) (((n / 4503599627370496 % 2048 : Nat) : Int) - 1023)
theorem u64k : ∀ n : Int, 0 ≤ n → n < 2 ^ 64 → IntKind.u64.wrap n = n := fun n a b => by simp [IntKind.wrap, IntKind.bits, IntKind.signed]; omega
theorem i64k : ∀ n : Int, 0 ≤ n → n < 2 ^ 63 → IntKind.i64.wrap n = n := fun n a b => by rw [IntKind.wrap_i64]; omega
theorem bits_r1 (n : Nat) (hn : n < 18446744073709551616) : bits BinOp.and IntKind.i64 ((n : Int) / 4503599627370496) 2047 = ((n / 4503599627370496 % 2048 : Nat) : Int) := by
  have := bits_mask .i64 63 (by decide) i64k 11 (by omega) ((n : Int) / 4503599627370496) (by omega) (by omega)
  have e : ((2 : Int) ^ 11 - 1) = 2047 := by decide
  rw [e] at this
  rw [this]
  simp
theorem bits_r2 (n : Nat) (hn : n < 18446744073709551616) : bits BinOp.and IntKind.u64 (n : Int) 4503599627370495 = ((n % 4503599627370496 : Nat) : Int) := by
  have := bits_mask .u64 64 (by decide) u64k 52 (by omega) (n : Int) (by omega) (by omega)
  have e : ((2 : Int) ^ 52 - 1) = 4503599627370495 := by decide
  rw [e] at this
  rw [this]
  simp
theorem bits_r3 (f : Nat) (hf : f < 4503599627370496) : bits BinOp.or IntKind.u64 (f : Int) 4503599627370496 = ((f + 4503599627370496 : Nat) : Int) := by
  have h := (bits_nat .u64 64 (by decide) u64k f 4503599627370496 (by omega) (by decide)).2
  have e : f ||| 4503599627370496 = f + 4503599627370496 := by
    have := Nat.two_pow_add_eq_or_of_lt (i := 52) (b := f) (by omega) 1
    rw [Nat.or_comm]
    have e2 : (2 : Nat) ^ 52 * 1 = 4503599627370496 := by decide
    rw [e2] at this
    omega
  rw [e] at h
  exact h
theorem bits_r4 (n : Nat) (hn : n < 18446744073709551616) : ((n : Int) / 9223372036854775808 != 0) = decide (9223372036854775808 ≤ n) := by
  rw [Bool.eq_iff_iff]
  simp only [bne_iff_ne, decide_eq_true_eq]
  omega
/-- the shift that brings the first digit to the front -/
theorem shift_facts (mant : Nat) (h0 : mant ≠ 0) (h1 : mant < 9007199254740992) :
    1 ≤ Lib.bitLen mant ∧ Lib.bitLen mant ≤ 53 ∧ 9223372036854775808 ≤ mant * 2 ^ (64 - Lib.bitLen mant) ∧ mant * 2 ^ (64 - Lib.bitLen mant) < 18446744073709551616 := by
  obtain ⟨a, b, c⟩ := Lib.bitLenAux_bounds 64 mant (by omega) (by omega)
  have hle := Lib.bitLen_le mant 53 (by omega) (by omega)
  have hL : Lib.bitLenAux 64 mant = Lib.bitLen mant := rfl
  rw [hL] at a b c
  generalize Lib.bitLen mant = L at *
  have p1 : 2 ^ (L - 1) * 2 ^ (64 - L) = 2 ^ 63 := by rw [← Nat.pow_add]; congr 1; omega
  have p2 : 2 ^ L * 2 ^ (64 - L) = 2 ^ 64 := by rw [← Nat.pow_add]; congr 1; omega
  have q1 := Nat.mul_le_mul_right (2 ^ (64 - L)) b
  have q2 := Nat.mul_lt_mul_of_pos_right c (Nat.two_pow_pos (64 - L))
  rw [p1] at q1
  rw [p2] at q2
  exact ⟨a, hle, by simpa using q1, by simpa using q2⟩
structure Tabs (w : World) : Prop where
  p10 : P10 w
  pt : PT w
  size : 16 ≤ w.heap.size
theorem Tabs.below {w w' : World} {B : Nat} (h : Tabs w) (hB : 16 ≤ B) (hb : Below B w w') : Tabs w' := ⟨h.p10.below (by omega) hb, h.pt.below (by omega) hb, Nat.le_trans h.size hb.size⟩
theorem fin_facts (n mant : Nat) (E : Int) (w : World) (hT : Tabs w) (h0 : mant ≠ 0) (h1 : mant < 9007199254740992) (s m D nd : Nat) (e : Int) (hs : s = 64 - Lib.bitLen mant) (hm : m = mant * 2 ^ s) (he : e = E - (s : Int) - 52) (hD : D = (sfD m e).toNat) (hnd : nd = nD D) (hE : -1137 ≤ e ∧ e ≤ 960) :
    (64 : Int) - (Lib.bitLen mant : Int) = (s : Int) ∧ s ≤ 63 ∧ IntKind.u64.wrap ((mant : Int) * 2 ^ s) = (m : Int) ∧ D < 10 ^ nd ∧ D < 18446744073709551616 ∧ nd ≤ 20 ∧ -360 ≤ sfE m e ∧ sfE m e ≤ 360 ∧
    (∀ W, Calls Tryz.prog 57 #[.int .u64 (mant : Int)] W fun e w' => e = .returned (.int .i64 (Lib.bitLen mant : Int)) ∧ W = w') ∧
    (∀ nq, Calls Tryz.prog 66 #[.int .u64 (m : Int), .int .i64 e] ((w.drewN nq).alloc bufO) fun en w' => en = .returned (.tuple #[.int .u64 (D : Int), .int .i64 (sfE m e)]) ∧ Below ((w.drewN nq).alloc bufO).heap.size ((w.drewN nq).alloc bufO) w') ∧
    (∀ nq W, Below ((w.drewN nq).alloc bufO).heap.size ((w.drewN nq).alloc bufO) W → Calls Tryz.prog 60 #[.int .u64 (D : Int)] W fun e w' => e = .returned (.int .i64 (nd : Int)) ∧ W = w') := by
  obtain ⟨f1, f2, f3, f4⟩ := shift_facts mant h0 h1
  rw [← hs, ← hm] at f3 f4
  have hd := sfD_in m e
  have hD2 : (D : Int) = sfD m e := by rw [hD]; omega
  have hD64 : D < 18446744073709551616 := by omega
  have hp := sfE_in m e hE.1 hE.2
  have hw : ∀ nq, Tabs ((w.drewN nq).alloc bufO) := fun nq => (show Tabs (w.drewN nq) from ⟨hT.p10, hT.pt, hT.size⟩).below (B := 16) (Nat.le_refl _) ((Below.refl 16 (w.drewN nq)).alloc hT.size _)
  refine ⟨by omega, by omega, ?_, by rw [hnd]; exact lt_nD D, hD64, by rw [hnd]; exact nD_le D hD64, by omega, by omega, fun W => ?_, fun nq => ?_, fun nq W hW => ?_⟩
  · have e1 : ((mant : Int) * 2 ^ s) = ((mant * 2 ^ s : Nat) : Int) := by simp
    rw [e1, wrap_u64_nat, ← hm, Nat.mod_eq_of_lt f4]
  · have := Tryz.bits_Len64 (mant : Int) W (by omega) (by omega)
    rw [Int.toNat_natCast] at this
    exact this.mono fun _ _ h => ⟨h.1, h.2.symm⟩
  · rw [hD2]
    exact short_any m e f3 f4 hE.1 hE.2 _ (hw nq).p10 (hw nq).size
  · rw [hnd]
    exact numDigits_any D hD64 W ((hw nq).pt.below (by have := (hw nq).size; omega) hW)
theorem ftoa_any (n base : Nat) (w w0 : World) (v : Value) (hn : n < 18446744073709551616) (hT : Tabs w) (hown : w.ownsRow base 5 1 v 0 []) (hbel : Below base w0 w) (hle : base ≤ w.heap.size) :
    Calls Tryz.prog 41 #[v, .float .f64 n, .int .u8 103, .int .i64 (-1)] w (FtP w0 base (fmtF n)) := by
  have r1 := bits_r1 n hn
  have r2 := bits_r2 n hn
  have r4 := bits_r4 n hn
  unfold fmtF
  obtain ⟨x, hx⟩ : ∃ x, n / 4503599627370496 % 2048 = x := ⟨_, rfl⟩
  obtain ⟨f, hf⟩ : ∃ f, n % 4503599627370496 = f := ⟨_, rfl⟩
  have hf2 : f < 4503599627370496 := by omega
  have hx2 : x < 2048 := by omega
  rw [hx] at r1 ⊢
  rw [hf] at r2 ⊢
  by_cases h1 : x = 2047
  · rw [if_pos h1]
    subst h1
    exact ftoa_spec n f base _ w w0 v hown hbel hle hn r1 r2 r4
  · rw [if_neg h1]
    by_cases h2 : x = 0
    · rw [if_pos h2]
      subst h2
      by_cases h3 : f = 0
      · rw [if_pos h3]
        subst h3
        exact ftoa_zero n base _ w w0 v hown hbel hle hn r1 r2 r4 (fun k => efg_zeroq _ base (w.drewN k) w0 v ⟨own_below hown (bel_drawn (Below.refl _ w) k) fun i hi => (hown.lt i hi).2, bel_drawn hbel k, hle⟩)
      · rw [if_neg h3]
        obtain ⟨g1, g2, g3, g4⟩ := shift_facts f h3 (by omega)
        have g5 := Lib.bitLen_le f 52 (by omega) (by omega)
        obtain ⟨a1, a2, a3, a4, a5, a6, a7, a8, a9, a10, a11⟩ := fin_facts n f (-1022) w hT h3 (by omega) _ _ _ _ _ rfl rfl rfl rfl rfl (by omega)
        exact ftoa_sub n _ _ f _ _ _ base _ _ _ _ w w0 v hown hbel hle hn r1 r2 r4 (beq_eq_false_iff_ne.2 (by omega)) (by omega) a1 a2 a3 rfl rfl a4 a5 a6 a7 a8 a9 a10 a11
    · rw [if_neg h2]
      obtain ⟨g1, g2, g3, g4⟩ := shift_facts (f + 4503599627370496) (by omega) (by omega)
      have g5 : Lib.bitLen (f + 4503599627370496) = 53 := by
        obtain ⟨c1, c2, c3⟩ := Lib.bitLenAux_bounds 64 (f + 4503599627370496) (by omega) (by omega)
        have hL : Lib.bitLenAux 64 (f + 4503599627370496) = Lib.bitLen (f + 4503599627370496) := rfl
        rw [hL] at c3
        rcases Nat.lt_or_ge (Lib.bitLen (f + 4503599627370496)) 53 with h | h
        · have := Nat.pow_le_pow_right (n := 2) (by omega) (show Lib.bitLen (f + 4503599627370496) ≤ 52 by omega)
          omega
        · omega
      obtain ⟨a1, a2, a3, a4, a5, a6, a7, a8, a9, a10, a11⟩ := fin_facts n (f + 4503599627370496) ((x : Int) - 1023) w hT (by omega) (by omega) _ _ _ _ _ rfl rfl rfl rfl rfl (by rw [g5]; omega)
      exact ftoa_norm n f x _ _ (f + 4503599627370496) _ _ _ base _ _ _ _ _ w w0 v hown hbel hle (by omega) (by omega) hn r1 r2 (bits_r3 f hf2) r4 (beq_eq_false_iff_ne.2 (by omega)) (by omega) (by omega) a1 a2 a3 rfl rfl (by omega) (by omega) a4 a5 a6 a7 a8 a9 a10 a11
end Go.Proofs.YtofndhmnofghaaaGreatDoor

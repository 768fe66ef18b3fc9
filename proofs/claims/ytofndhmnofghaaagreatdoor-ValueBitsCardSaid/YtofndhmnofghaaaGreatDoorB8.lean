import Derived.Test.YtofndhmnofghaaaGreatDoorB7
import Derived.Deep.RegionHeld3
namespace Go.Proofs.YtofndhmnofghaaaGreatDoor
open Go.RowKit Ieee
set_option linter.unusedVariables false

/-! a float that is a number, and not 0 -/
abbrev bufO : Obj := .cells #[.int .u8 0, .int .u8 0, .int .u8 0, .int .u8 0, .int .u8 0, .int .u8 0, .int .u8 0, .int .u8 0, .int .u8 0, .int .u8 0, .int .u8 0, .int .u8 0, .int .u8 0, .int .u8 0, .int .u8 0, .int .u8 0, .int .u8 0, .int .u8 0, .int .u8 0, .int .u8 0, .int .u8 0, .int .u8 0, .int .u8 0, .int .u8 0, .int .u8 0, .int .u8 0, .int .u8 0, .int .u8 0, .int .u8 0, .int .u8 0, .int .u8 0, .int .u8 0] 96
theorem bufO_is : bufO = .cells (Array.replicate 32 (.int .u8 0)) 96 := rfl
def FtP (w0 : World) (base : Nat) (out : List UInt8) (e : Ending) (w' : World) : Prop := ∃ v, e = .returned v ∧ w'.ownsRow base 5 1 v out.length (out.map encB) ∧ Below base w0 w' ∧ base ≤ w'.heap.size
theorem FtP.of {w0 w' : World} {base b : Nat} {ds out : List UInt8} {e : Ending} (h : EfgP w0 base b ds out e w') : FtP w0 base out e w' := by
  obtain ⟨v, he, hO⟩ := h
  exact ⟨v, he, hO.own, hO.bel, hO.le⟩
theorem buf_row (w : World) (W : World) (hW : Below (w.alloc bufO).heap.size (w.alloc bufO) W) : Row8 W w.heap.size 32 ∧ Buf W w.heap.size ∧ w.heap.size < W.heap.size := by
  have hb : W.heap[w.heap.size]? = some bufO := (hW.block w.heap.size (by simp)).trans (heap_alloc_new w bufO)
  have hs := hW.size
  rw [World.size_alloc] at hs
  rw [bufO_is] at hb
  refine ⟨fun j hj => ⟨⟨0, ?_⟩, ?_⟩, ⟨_, hb⟩, by omega⟩
  · have := cell_of_row W w.heap.size j _ 96 (0, 0) hb
    rw [this]
    simp [hj]
  · simp [World.frozen?, hb]
theorem take_dig (W : World) (b u nd nz : Nat) (hz : nz ≤ nd) (h : ∀ j, j < nd → W.cell? ⟨b, j, none⟩ = some (encB (Lib.dg u (nd - 1 - j)))) : Dig W b ((dgs u nd).take nz) := by
  intro j hj
  have hj2 : j < nz ∧ j < nd := by simp [dgs] at hj; omega
  rw [h j hj2.2]
  simp [dgs, hj2.1, hj2.2]
theorem len_dig (u nd nz : Nat) (hz : nz ≤ nd) : ((dgs u nd).take nz).length = nz := by simp [dgs]; omega
/-- what setDigits leaves, all in all -/
theorem outp_digits {w0 w1 w2 w' : World} {base b u nd nz n : Nat} {v : Value} (hown : w1.ownsRow base 5 1 v 0 []) (hlt : ∀ k, v.ownBlock = some k → k < b) (hbuf : Buf w1 b) (hbel : Below base w0 w1) (hle : base ≤ b) (hb : b < w1.heap.size) (hD : DigP u nd b w1 w2) (hw : w' = w2.drewN n) (hz : nz ≤ nd) :
    Outp w0 base b ((dgs u nd).take nz) v [] w' := by
  subst hw
  obtain ⟨h1, h2, h3, h4⟩ := hD
  obtain ⟨cs, hc⟩ := hbuf
  obtain ⟨cs', hc'⟩ := h4 cs 96 (0, 0) hc
  have e : ∀ x, (w2.drewN n).cell? x = w2.cell? x := fun x => rfl
  exact ⟨own_below (own_below hown h2 hlt) (bel_drawn (Below.refl b w2) n) hlt, ⟨cs', hc'⟩, take_dig (w2.drewN n) b u nd nz hz (fun j hj => h1 j hj), by show base ≤ w2.heap.size; omega, bel_drawn (hbel.trans (h2.mono hle)) n⟩

set_option maxRecDepth 100000 in
set_option maxHeartbeats 4000000 in
theorem ftoa_norm (n f x L s mant m D nd base : Nat) (E e e1 p : Int) (neg : Bool) (w w0 : World) (v : Value) (hown : w.ownsRow base 5 1 v 0 []) (hbel : Below base w0 w) (hle : base ≤ w.heap.size)
    (hx1 : 1 ≤ x) (hx2 : x ≤ 2046) (hn : n < 18446744073709551616)
    (r1 : bits BinOp.and IntKind.i64 ((n : Int) / 4503599627370496) 2047 = (x : Int)) (r2 : bits BinOp.and IntKind.u64 (n : Int) 4503599627370495 = (f : Int))
    (r3 : bits BinOp.or IntKind.u64 (f : Int) 4503599627370496 = (mant : Int)) (r4 : ((n : Int) / 9223372036854775808 != 0) = neg) (hm0 : ((mant : Int) == 0) = false) (hm1 : mant < 9007199254740992)
    (rE : (x : Int) + -1023 = E) (rs : (64 : Int) - (L : Int) = (s : Int)) (hs : s ≤ 63) (rm : IntKind.u64.wrap ((mant : Int) * 2 ^ s) = (m : Int)) (re1 : E - (s : Int) = e1) (re : e1 - 52 = e) (hE1 : -1100 ≤ E) (hE2 : E ≤ 1100)
    (hDn : D < 10 ^ nd) (hD64 : D < 18446744073709551616) (hnd20 : nd ≤ 20) (hp1 : -360 ≤ p) (hp2 : p ≤ 360)
    (HL : Hid (∀ W, Calls Tryz.prog 57 #[.int .u64 (mant : Int)] W fun e w' => e = .returned (.int .i64 (L : Int)) ∧ W = w'))
    (HSF : Hid (∀ nq, Calls Tryz.prog 66 #[.int .u64 (m : Int), .int .i64 e] ((w.drewN nq).alloc bufO) fun en w' => en = .returned (.tuple #[.int .u64 (D : Int), .int .i64 p]) ∧ Below ((w.drewN nq).alloc bufO).heap.size ((w.drewN nq).alloc bufO) w'))
    (HDG : Hid (∀ nq W, Below ((w.drewN nq).alloc bufO).heap.size ((w.drewN nq).alloc bufO) W → Calls Tryz.prog 60 #[.int .u64 (D : Int)] W fun e w' => e = .returned (.int .i64 (nd : Int)) ∧ W = w')) :
    Calls Tryz.prog 41 #[v, .float .f64 n, .int .u8 103, .int .i64 (-1)] w (FtP w0 base (gText neg ((dgs D nd).take (trimN D nd nd)) ((nd : Int) + p))) := by
  have hx3 : ((x : Int) == 2047) = false := by simp; omega
  have hx4 : ((x : Int) == 0) = false := by simp; omega
  have hbits : ∀ w : World, (callFunc 53 #[.float .f64 n]).run Tryz.prog w = .ok (.value (.int .u64 (n : Int))) w := fun w => by kernel_rfl
  have HOWN := Lib.hid hown
  have HBEL := Lib.hid hbel
  have HDN := Lib.hid hDn
  clear hown hbel
  go_enter Tryz.func41, Tryz.ntmps41
  go_upto_region 14 with fail
  go_quiet (fail)
  go_wp2_with fail
  refine (HL.out _).mono ?_
  rintro en w1 ⟨rfl, rfl⟩
  go_wp2_with fail
  refine (HSF.out _).mono ?_
  rintro en w1 ⟨rfl, hb1⟩
  obtain ⟨hrow, hbuf, hlt⟩ := buf_row _ w1 hb1
  have HND := Lib.hid (fun n => HDG.out _ (w1.drewN n) (bel_drawn hb1 n))
  have HSD := Lib.hid (fun n => setd_any w.heap.size D nd 32 p (w1.drewN n) hrow hlt HDN.out hD64 hnd20 (by omega) (by omega) (by omega) (by omega))
  have hww : Below w.heap.size w w1 := (bel_drawn (Below.refl _ w) _ : Below w.heap.size w (w.drewN _)).trans (((Below.refl w.heap.size (w.drewN _)).alloc (Nat.le_refl _) _).trans (hb1.mono (by simp)))
  have HCV := Lib.hid (fun k n (w2 w' : World) (hD : DigP D nd w.heap.size (w1.drewN k) w2) (hw : w' = w2.drewN n) =>
    outp_digits (own_below HOWN.out (bel_drawn hww k) fun i hi => (HOWN.out.lt i hi).2) (fun i hi => (HOWN.out.lt i hi).2) (show Buf (w1.drewN k) w.heap.size from hbuf) (HBEL.out.trans ((bel_drawn hww k).mono hle)) hle (show w.heap.size < (w1.drewN k).heap.size from hlt) hD hw (trimN_le D nd nd))
  clear hww
  have HB1 := Lib.hid hb1
  have HBUF := Lib.hid hbuf
  have HLT := Lib.hid hlt
  clear hb1 hrow hbuf hlt
  go_upto_region 38 with fail
  go_cut [22, 23] (fun s22 s23 wx => s22 = .int .i64 ((nd : Int) + p) ∧ s23 = .int .i64 (trimN D nd nd : Int) ∧ Hid (Outp w0 base w.heap.size ((dgs D nd).take (trimN D nd nd)) v [] wx))
  case first => as_aux_lemma =>
    go_region_held3 (fun W => (∃ k, W = w1.drewN k) ∨ Outp w0 base w.heap.size ((dgs D nd).take (trimN D nd nd)) v [] W) (first | exact .inl ⟨_, rfl⟩ | exact .inl ⟨0, rfl⟩ | exact .inr HD2.out)
      (first | (go_at_call 60; refine (HND.out _).mono ?_; rintro en w2 ⟨rfl, rfl⟩)
             | (go_at_call 59; refine (HSD.out _).mono ?_; rintro en w2 ⟨rfl, hd2⟩; have HD2 := Lib.hid (by obtain ⟨n, w3, hd3, hw3⟩ := hd2.out; exact HCV.out _ n w3 _ hd3 hw3); clear hd2))
    all_goals (go_wp2_with fail; go_meet; exact ⟨rfl, rfl, HD2⟩)
  case rest => as_aux_lemma =>
    obtain ⟨rfl, rfl, HOUT⟩ := hcut
    have htl := trimN_le D nd nd
    have hlen := len_dig D nd (trimN D nd nd) htl
    generalize (dgs D nd).take (trimN D nd nd) = ds at *
    generalize trimN D nd nd = nz at *
    have HEF := Lib.hid (efg_any neg ds ((nd : Int) + p) w.heap.size 32 base nz wc w0 v HOUT.out hlen (by omega) (by omega) (by omega) (by omega) (by omega))
    go_wp2_with fail
    refine (HEF.out).mono ?_
    intro en w4 h4
    have hF := FtP.of h4
    clear h4
    obtain ⟨v4, rfl, h4⟩ := hF
    have H4 := Lib.hid h4
    clear h4
    go_wp2
    go_ret
    exact ⟨v4, rfl, H4.out⟩
set_option maxRecDepth 100000 in
set_option maxHeartbeats 4000000 in
theorem ftoa_sub (n L s mant m D nd base : Nat) (e e1 p : Int) (neg : Bool) (w w0 : World) (v : Value) (hown : w.ownsRow base 5 1 v 0 []) (hbel : Below base w0 w) (hle : base ≤ w.heap.size)
    (hn : n < 18446744073709551616)
    (r1 : bits BinOp.and IntKind.i64 ((n : Int) / 4503599627370496) 2047 = 0) (r2 : bits BinOp.and IntKind.u64 (n : Int) 4503599627370495 = (mant : Int))
    (r4 : ((n : Int) / 9223372036854775808 != 0) = neg) (hm0 : ((mant : Int) == 0) = false) (hm1 : mant < 9007199254740992)
    (rs : (64 : Int) - (L : Int) = (s : Int)) (hs : s ≤ 63) (rm : IntKind.u64.wrap ((mant : Int) * 2 ^ s) = (m : Int)) (re1 : -1022 - (s : Int) = e1) (re : e1 - 52 = e)
    (hDn : D < 10 ^ nd) (hD64 : D < 18446744073709551616) (hnd20 : nd ≤ 20) (hp1 : -360 ≤ p) (hp2 : p ≤ 360)
    (HL : Hid (∀ W, Calls Tryz.prog 57 #[.int .u64 (mant : Int)] W fun e w' => e = .returned (.int .i64 (L : Int)) ∧ W = w'))
    (HSF : Hid (∀ nq, Calls Tryz.prog 66 #[.int .u64 (m : Int), .int .i64 e] ((w.drewN nq).alloc bufO) fun en w' => en = .returned (.tuple #[.int .u64 (D : Int), .int .i64 p]) ∧ Below ((w.drewN nq).alloc bufO).heap.size ((w.drewN nq).alloc bufO) w'))
    (HDG : Hid (∀ nq W, Below ((w.drewN nq).alloc bufO).heap.size ((w.drewN nq).alloc bufO) W → Calls Tryz.prog 60 #[.int .u64 (D : Int)] W fun e w' => e = .returned (.int .i64 (nd : Int)) ∧ W = w')) :
    Calls Tryz.prog 41 #[v, .float .f64 n, .int .u8 103, .int .i64 (-1)] w (FtP w0 base (gText neg ((dgs D nd).take (trimN D nd nd)) ((nd : Int) + p))) := by
  have hbits : ∀ w : World, (callFunc 53 #[.float .f64 n]).run Tryz.prog w = .ok (.value (.int .u64 (n : Int))) w := fun w => by kernel_rfl
  have HOWN := Lib.hid hown
  have HBEL := Lib.hid hbel
  have HDN := Lib.hid hDn
  clear hown hbel
  go_enter Tryz.func41, Tryz.ntmps41
  go_upto_region 14 with fail
  go_quiet (fail)
  go_wp2_with fail
  refine (HL.out _).mono ?_
  rintro en w1 ⟨rfl, rfl⟩
  go_wp2_with fail
  refine (HSF.out _).mono ?_
  rintro en w1 ⟨rfl, hb1⟩
  obtain ⟨hrow, hbuf, hlt⟩ := buf_row _ w1 hb1
  have HND := Lib.hid (fun n => HDG.out _ (w1.drewN n) (bel_drawn hb1 n))
  have HSD := Lib.hid (fun n => setd_any w.heap.size D nd 32 p (w1.drewN n) hrow hlt HDN.out hD64 hnd20 (by omega) (by omega) (by omega) (by omega))
  have hww : Below w.heap.size w w1 := (bel_drawn (Below.refl _ w) _ : Below w.heap.size w (w.drewN _)).trans (((Below.refl w.heap.size (w.drewN _)).alloc (Nat.le_refl _) _).trans (hb1.mono (by simp)))
  have HCV := Lib.hid (fun k n (w2 w' : World) (hD : DigP D nd w.heap.size (w1.drewN k) w2) (hw : w' = w2.drewN n) =>
    outp_digits (own_below HOWN.out (bel_drawn hww k) fun i hi => (HOWN.out.lt i hi).2) (fun i hi => (HOWN.out.lt i hi).2) (show Buf (w1.drewN k) w.heap.size from hbuf) (HBEL.out.trans ((bel_drawn hww k).mono hle)) hle (show w.heap.size < (w1.drewN k).heap.size from hlt) hD hw (trimN_le D nd nd))
  clear hww
  have HB1 := Lib.hid hb1
  have HBUF := Lib.hid hbuf
  have HLT := Lib.hid hlt
  clear hb1 hrow hbuf hlt
  go_upto_region 38 with fail
  go_cut [22, 23] (fun s22 s23 wx => s22 = .int .i64 ((nd : Int) + p) ∧ s23 = .int .i64 (trimN D nd nd : Int) ∧ Hid (Outp w0 base w.heap.size ((dgs D nd).take (trimN D nd nd)) v [] wx))
  case first => as_aux_lemma =>
    go_region_held3 (fun W => (∃ k, W = w1.drewN k) ∨ Outp w0 base w.heap.size ((dgs D nd).take (trimN D nd nd)) v [] W) (first | exact .inl ⟨_, rfl⟩ | exact .inl ⟨0, rfl⟩ | exact .inr HD2.out)
      (first | (go_at_call 60; refine (HND.out _).mono ?_; rintro en w2 ⟨rfl, rfl⟩)
             | (go_at_call 59; refine (HSD.out _).mono ?_; rintro en w2 ⟨rfl, hd2⟩; have HD2 := Lib.hid (by obtain ⟨n, w3, hd3, hw3⟩ := hd2.out; exact HCV.out _ n w3 _ hd3 hw3); clear hd2))
    all_goals (go_wp2_with fail; go_meet; exact ⟨rfl, rfl, HD2⟩)
  case rest => as_aux_lemma =>
    obtain ⟨rfl, rfl, HOUT⟩ := hcut
    have htl := trimN_le D nd nd
    have hlen := len_dig D nd (trimN D nd nd) htl
    generalize (dgs D nd).take (trimN D nd nd) = ds at *
    generalize trimN D nd nd = nz at *
    have HEF := Lib.hid (efg_any neg ds ((nd : Int) + p) w.heap.size 32 base nz wc w0 v HOUT.out hlen (by omega) (by omega) (by omega) (by omega) (by omega))
    go_wp2_with fail
    refine (HEF.out).mono ?_
    intro en w4 h4
    have hF := FtP.of h4
    clear h4
    obtain ⟨v4, rfl, h4⟩ := hF
    have H4 := Lib.hid h4
    clear h4
    go_wp2
    go_ret
    exact ⟨v4, rfl, H4.out⟩


/-- what is no number, or infinite -/
def specT (neg : Bool) (f : Nat) : ByteArray := if f ≠ 0 then ⟨#[78, 97, 78]⟩ else if neg = true then ⟨#[45, 73, 110, 102]⟩ else ⟨#[43, 73, 110, 102]⟩
set_option maxRecDepth 100000 in
set_option maxHeartbeats 4000000 in
theorem ftoa_spec (n f base : Nat) (neg : Bool) (w w0 : World) (v : Value) (hown : w.ownsRow base 5 1 v 0 []) (hbel : Below base w0 w) (hle : base ≤ w.heap.size) (hn : n < 18446744073709551616)
    (r1 : bits BinOp.and IntKind.i64 ((n : Int) / 4503599627370496) 2047 = 2047) (r2 : bits BinOp.and IntKind.u64 (n : Int) 4503599627370495 = (f : Int)) (r4 : ((n : Int) / 9223372036854775808 != 0) = neg) :
    Calls Tryz.prog 41 #[v, .float .f64 n, .int .u8 103, .int .i64 (-1)] w (FtP w0 base (specT neg f).data.toList) := by
  have hbits : ∀ w : World, (callFunc 53 #[.float .f64 n]).run Tryz.prog w = .ok (.value (.int .u64 (n : Int))) w := fun w => by kernel_rfl
  have HOWN := Lib.hid (fun n => (own_below hown (bel_drawn (Below.refl _ w) n) fun i hi => (hown.lt i hi).2 : (w.drewN n).ownsRow base 5 1 v 0 []))
  have HBEL := Lib.hid (fun n => bel_drawn hbel n)
  clear hown hbel
  have Z1 := Lib.hid (show (⟨#[45, 73, 110, 102]⟩ : ByteArray).size ≤ 65536 from by simp [ByteArray.size])
  have Z2 := Lib.hid (show (⟨#[43, 73, 110, 102]⟩ : ByteArray).size ≤ 65536 from by simp [ByteArray.size])
  have Z3 := Lib.hid (show (⟨#[78, 97, 78]⟩ : ByteArray).size ≤ 65536 from by simp [ByteArray.size])
  by_cases hf : f = 0
  · have e : ((f : Int) != 0) = false := by simp [hf]
    cases neg with
    | true =>
      have HS : Hid (specT true f = ⟨#[45, 73, 110, 102]⟩) := by show specT true f = _; unfold specT; rw [if_neg (by simpa using hf)]; rfl
      clear hf
      go_enter Tryz.func41, Tryz.ntmps41
      go_upto_region 14 with fail
      go_quiet (fail)
      go_wp2_with (at_builtin; refine push_str (w := w.drewN nq) rfl _ _ rfl rfl (HBEL.out nq) hle (HOWN.out nq) ⟨#[45, 73, 110, 102]⟩ rfl Z1.out ?_; intro v2 w2 ho2 hb2 hl2; have HO2 := Lib.hid ho2; clear ho2)
      go_ret
      rw [HS.out]
      exact ⟨v2, rfl, HO2.out, hb2, hl2⟩
    | false =>
      have HS : Hid (specT false f = ⟨#[43, 73, 110, 102]⟩) := by show specT false f = _; unfold specT; rw [if_neg (by simpa using hf)]; rfl
      clear hf
      go_enter Tryz.func41, Tryz.ntmps41
      go_upto_region 14 with fail
      go_quiet (fail)
      go_wp2_with (at_builtin; refine push_str (w := w.drewN nq) rfl _ _ rfl rfl (HBEL.out nq) hle (HOWN.out nq) ⟨#[43, 73, 110, 102]⟩ rfl Z2.out ?_; intro v2 w2 ho2 hb2 hl2; have HO2 := Lib.hid ho2; clear ho2)
      go_ret
      rw [HS.out]
      exact ⟨v2, rfl, HO2.out, hb2, hl2⟩
  · have e : ((f : Int) != 0) = true := by simp; omega
    have HS : Hid (specT neg f = ⟨#[78, 97, 78]⟩) := by show specT neg f = _; unfold specT; rw [if_pos hf]
    clear hf
    go_enter Tryz.func41, Tryz.ntmps41
    go_upto_region 14 with fail
    go_quiet (fail)
    go_wp2_with (at_builtin; refine push_str (w := w.drewN nq) rfl _ _ rfl rfl (HBEL.out nq) hle (HOWN.out nq) ⟨#[78, 97, 78]⟩ rfl Z3.out ?_; intro v2 w2 ho2 hb2 hl2; have HO2 := Lib.hid ho2; clear ho2)
    go_ret
    rw [HS.out]
    exact ⟨v2, rfl, HO2.out, hb2, hl2⟩
set_option maxRecDepth 100000 in
set_option maxHeartbeats 4000000 in
theorem ftoa_zero (n base : Nat) (neg : Bool) (w w0 : World) (v : Value) (hown : w.ownsRow base 5 1 v 0 []) (hbel : Below base w0 w) (hle : base ≤ w.heap.size) (hn : n < 18446744073709551616)
    (r1 : bits BinOp.and IntKind.i64 ((n : Int) / 4503599627370496) 2047 = 0) (r2 : bits BinOp.and IntKind.u64 (n : Int) 4503599627370495 = 0) (r4 : ((n : Int) / 9223372036854775808 != 0) = neg)
    (HZ : Hid (∀ k, Calls Tryz.prog 56 #[v, .bool neg, .slice none 0 0, .int .i64 0, .int .i64 0, .int .i64 (-1), .int .u8 103, .bool true] (w.drewN k) (FtP w0 base (sgn neg ++ [48])))) :
    Calls Tryz.prog 41 #[v, .float .f64 n, .int .u8 103, .int .i64 (-1)] w (FtP w0 base (sgn neg ++ [48])) := by
  have hbits : ∀ w : World, (callFunc 53 #[.float .f64 n]).run Tryz.prog w = .ok (.value (.int .u64 (n : Int))) w := fun w => by kernel_rfl
  clear hown hbel
  go_enter Tryz.func41, Tryz.ntmps41
  go_upto_region 14 with fail
  go_quiet (fail)
  go_wp2_with fail
  refine (HZ.out _).mono ?_
  intro en w4 hF
  obtain ⟨v4, rfl, h4⟩ := hF
  have H4 := Lib.hid h4
  clear h4
  go_wp2
  go_ret
  exact ⟨v4, rfl, H4.out⟩
end Go.Proofs.YtofndhmnofghaaaGreatDoor

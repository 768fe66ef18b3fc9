/- A decimal out of a text: the function setF. Condition: the text has at most 400 bytes, all of them digits, points, signs, letters e. -/
import Derived.Test.YtofndhmnofghaaaGreatDoorShj
import Derived.Test.YtofndhmnofghaaaGreatDoorUsj
import Derived.StillTailTactics
namespace Go.Proofs.YtofndhmnofghaaaGreatDoor.Sl
open Go.RowKit
set_option linter.unusedVariables false

/-! a decimal out of a text -/
/-- the bytes of a number's text: digits, a point, signs, e or E -/
def Al (s : ByteArray) : Prop := ∀ i (h : i < s.size), (48 ≤ s[i].toNat ∧ s[i].toNat ≤ 57) ∨ s[i].toNat = 46 ∨ s[i].toNat = 43 ∨ s[i].toNat = 45 ∨ s[i].toNat = 101 ∨ s[i].toNat = 69
theorem lower_any (x : Nat) (w : World) : Calls Tryz.prog 75 #[.int .u8 (x : Int)] w fun e w' => e = .returned (.int .u8 (bits BinOp.or IntKind.u8 (x : Int) 32)) ∧ w = w' := by
  go_enter Tryz.func75, Tryz.ntmps75
  go_wp2
  go_ret
  exact ⟨rfl, rfl⟩
/-- what is known while the digits are read -/
structure St where
  f : Nat → Nat
  nd : Nat
  sd : Bool
  sg : Bool
  tr : Bool
  dp : Int
def stL : List UInt8 → St → St × List UInt8
  | [], r => (r, [])
  | c :: l, r =>
    if c.toNat = 46 then (if r.sd = true then (r, c :: l) else stL l { r with sd := true, dp := r.nd })
    else if 48 ≤ c.toNat ∧ c.toNat ≤ 57 then
      (if c.toNat = 48 ∧ r.nd = 0 then stL l { r with sg := true, dp := r.dp - 1 }
      else if r.nd < 800 then stL l { r with sg := true, f := Dm.put r.f r.nd c.toNat, nd := r.nd + 1 }
      else if c.toNat = 48 then stL l { r with sg := true } else stL l { r with sg := true, tr := true })
    else (r, c :: l)
section
open Ut
variable {s : ByteArray} {i nd : Nat} {f : Nat → Nat} {sd sg tr : Bool} {dp : Int} {R : St × List UInt8}
theorem st_dot (h : i < s.size) (hx : s[i].toNat = 46) (hR : stL (Lf s i) ⟨f, nd, false, sg, tr, dp⟩ = R) : stL (Lf s (i + 1)) ⟨f, nd, true, sg, tr, nd⟩ = R := by
  rw [Lf_cons h, stL, if_pos hx, if_neg (by simp)] at hR; exact hR
theorem st_dot2 (h : i < s.size) (hx : s[i].toNat = 46) (hR : stL (Lf s i) ⟨f, nd, true, sg, tr, dp⟩ = R) : R = (⟨f, nd, true, sg, tr, dp⟩, Lf s i) := by
  rw [Lf_cons h, stL, if_pos hx, if_pos rfl] at hR; rw [Lf_cons h]; exact hR.symm
theorem st_zero (h : i < s.size) (hx : s[i].toNat = 48) (hR : stL (Lf s i) ⟨f, 0, sd, sg, tr, dp⟩ = R) : stL (Lf s (i + 1)) ⟨f, 0, sd, true, tr, dp - 1⟩ = R := by
  rw [Lf_cons h, stL, if_neg (by omega), if_pos (by omega), if_pos ⟨hx, rfl⟩] at hR; exact hR
theorem st_dig {x : Nat} (h : i < s.size) (hx : s[i].toNat = x) (h1 : 48 ≤ x) (h2 : x ≤ 57) (h0 : ¬ (x = 48 ∧ nd = 0)) (h8 : nd < 800) (hR : stL (Lf s i) ⟨f, nd, sd, sg, tr, dp⟩ = R) :
    stL (Lf s (i + 1)) ⟨Dm.put f nd x, nd + 1, sd, true, tr, dp⟩ = R := by
  subst hx
  rw [Lf_cons h, stL, if_neg (by omega), if_pos ⟨h1, h2⟩, if_neg h0, if_pos h8] at hR; exact hR
theorem st_more0 (h : i < s.size) (hx : s[i].toNat = 48) (h0 : nd ≠ 0) (h8 : ¬ nd < 800) (hR : stL (Lf s i) ⟨f, nd, sd, sg, tr, dp⟩ = R) :
    stL (Lf s (i + 1)) ⟨f, nd, sd, true, tr, dp⟩ = R := by
  rw [Lf_cons h, stL, if_neg (by omega), if_pos (by omega), if_neg (fun h => h0 h.2), if_neg h8, if_pos hx] at hR; exact hR
theorem st_more {x : Nat} (h : i < s.size) (hx : s[i].toNat = x) (h1 : 48 ≤ x) (h2 : x ≤ 57) (h0 : x ≠ 48) (h8 : ¬ nd < 800) (hR : stL (Lf s i) ⟨f, nd, sd, sg, tr, dp⟩ = R) :
    stL (Lf s (i + 1)) ⟨f, nd, sd, true, true, dp⟩ = R := by
  subst hx
  rw [Lf_cons h, stL, if_neg (by omega), if_pos ⟨h1, h2⟩, if_neg (fun h => h0 h.1), if_neg h8, if_neg h0] at hR; exact hR
theorem st_stop {x : Nat} (h : i < s.size) (hx : s[i].toNat = x) (h46 : x ≠ 46) (hd : ¬ (48 ≤ x ∧ x ≤ 57)) (hR : stL (Lf s i) ⟨f, nd, sd, sg, tr, dp⟩ = R) : R = (⟨f, nd, sd, sg, tr, dp⟩, Lf s i) := by
  subst hx
  rw [Lf_cons h, stL, if_neg h46, if_neg hd] at hR; rw [Lf_cons h]; exact hR.symm
theorem st_end (h : s.size ≤ i) (hR : stL (Lf s i) ⟨f, nd, sd, sg, tr, dp⟩ = R) : R = (⟨f, nd, sd, sg, tr, dp⟩, Lf s i) := by
  rw [Lf_nil h, stL] at hR; rw [Lf_nil h]; exact hR.symm
end
/-- what comes of it: the sign, the decimal, whether it is well -/
def finS (ng : Bool) (f : Nat → Nat) (nd : Nat) (tr : Bool) (o : Ut.Out) : Bool × Dc × Bool := (ng, ⟨f, nd, o.x, tr⟩, o.ok && o.left.isEmpty)
def setB (ng : Bool) (p : St × List UInt8) : Bool × Dc × Bool := finS ng p.1.f p.1.nd p.1.tr (Ut.restR ng ⟨1, p.1.nd, 0, p.1.sd, p.1.sg, p.1.tr, p.1.dp⟩ p.2)
def setF (f : Nat → Nat) : List UInt8 → Bool × Dc × Bool
  | [] => (false, ⟨f, 0, 0, false⟩, false)
  | c :: l => if c.toNat = 43 then setB false (stL l ⟨f, 0, false, false, false, 0⟩) else if c.toNat = 45 then setB true (stL l ⟨f, 0, false, false, false, 0⟩) else setB false (stL (c :: l) ⟨f, 0, false, false, false, 0⟩)
theorem sf_plus {s : ByteArray} {f : Nat → Nat} (h : 0 < s.size) (hx : s[0].toNat = 43) : setF f (Ut.Lf s 0) = setB false (stL (Ut.Lf s 1) ⟨f, 0, false, false, false, 0⟩) := by
  rw [Ut.Lf_cons h, setF, if_pos hx]
theorem sf_minus {s : ByteArray} {f : Nat → Nat} (h : 0 < s.size) (hx : s[0].toNat = 45) : setF f (Ut.Lf s 0) = setB true (stL (Ut.Lf s 1) ⟨f, 0, false, false, false, 0⟩) := by
  rw [Ut.Lf_cons h, setF, if_neg (by omega), if_pos hx]
theorem sf_no {s : ByteArray} {f : Nat → Nat} {x : Nat} (h : 0 < s.size) (hx : s[0].toNat = x) (h1 : x ≠ 43) (h2 : x ≠ 45) : setF f (Ut.Lf s 0) = setB false (stL (Ut.Lf s 0) ⟨f, 0, false, false, false, 0⟩) := by
  subst hx
  rw [Ut.Lf_cons h, setF, if_neg h1, if_neg h2]
theorem fin_bad {s : ByteArray} {i : Nat} {ng : Bool} {f : Nat → Nat} {nd : Nat} {tr : Bool} {r : Ut.Rd} {d : Int} (h : i < s.size) : (finS ng f nd tr (Ut.outR r ng d (Ut.Lf s i))).2.2 = false := by
  unfold finS Ut.outR
  rw [Ut.Lf_cons h]; rfl
theorem fin_good {s : ByteArray} {i : Nat} {ng : Bool} {f : Nat → Nat} {nd : Nat} {tr : Bool} {r : Ut.Rd} {d : Int} (h : s.size ≤ i) (hz : r.z = 1) (hn : r.nm = 0) : finS ng f nd tr (Ut.outR r ng d (Ut.Lf s i)) = (ng, ⟨f, nd, d, tr⟩, true) := by
  unfold finS Ut.outR
  rw [Ut.Lf_nil h, hz, hn, if_neg (by decide), show d - ((0 : Nat) : Int) = d by omega]; rfl
theorem dot_bad {s : ByteArray} {i : Nat} {ng : Bool} {f : Nat → Nat} {nd : Nat} {tr : Bool} {r : Ut.Rd} (h : i < s.size) (hx : s[i].toNat = 46) : (finS ng f nd tr (Ut.restR ng r (Ut.Lf s i))).2.2 = false := by
  by_cases hs : r.sg = true
  · rw [Ut.rs_plain h hs (by omega)]; exact fin_bad h
  · rw [Ut.rs_no _ (by simpa using hs)]; rfl
theorem low_e (x : Nat) (h : (48 ≤ x ∧ x ≤ 57) ∨ x = 46 ∨ x = 43 ∨ x = 45 ∨ x = 101 ∨ x = 69) : bits BinOp.or IntKind.u8 (x : Int) 32 = 101 ↔ (x = 101 ∨ x = 69) := by
  have : ∀ y : Fin 102, (48 ≤ y.val ∧ y.val ≤ 57) ∨ y.val = 46 ∨ y.val = 43 ∨ y.val = 45 ∨ y.val = 101 ∨ y.val = 69 → (bits BinOp.or IntKind.u8 (y.val : Int) 32 = 101 ↔ (y.val = 101 ∨ y.val = 69)) := by decide
  exact this ⟨x, by omega⟩ h
/-- a decimal on its way -/
structure Dse (w : World) (B : Nat) (f : Nat → Nat) (nd : Nat) (dp : Int) (ng tr : Bool) : Prop where
  dz : Dz w B f nd dp ng tr
  dg : Dm.Dg f nd
  first : 0 < nd → 49 ≤ f 0
  le : nd ≤ 800
def SetP (B : Nat) (r : Bool × Dc × Bool) (w : World) (e : Ending) (w' : World) : Prop :=
  (∃ b : Bool, e = .returned (.bool b) ∧ r.2.2 = b ∧ (b = true → ∃ ng x, r = (ng, x, true) ∧ Dse w' B x.d x.nd x.dp ng x.tr)) ∧ Moved B w w'
theorem SetP.no {B : Nat} {r : Bool × Dc × Bool} {w w' : World} (h : Moved B w w') (hr : r.2.2 = false) : SetP B r w (.returned (.bool false)) w' := ⟨⟨false, rfl, hr, fun h => by cases h⟩, h⟩
theorem SetP.yes {B : Nat} {r : Bool × Dc × Bool} {w w' : World} {f : Nat → Nat} {nd : Nat} {dp : Int} {ng tr : Bool} (h : Moved B w w') (hd : Dse w' B f nd dp ng tr) (hr : r = (ng, ⟨f, nd, dp, tr⟩, true)) : SetP B r w (.returned (.bool true)) w' :=
  ⟨⟨true, rfl, by rw [hr], fun _ => ⟨ng, _, hr, hd⟩⟩, h⟩
section
variable {w : World} {B : Nat} {f : Nat → Nat} {nd : Nat} {dp : Int} {ng tr : Bool}
theorem Dse.setP (h : Dse w B f nd dp ng tr) (z : Int) : Dse (w.setCell ⟨B, 801, none⟩ (.int .i64 z)) B f nd z ng tr := ⟨h.dz.setP z, h.dg, h.first, h.le⟩
theorem Dse.setT (h : Dse w B f nd dp ng tr) (z : Bool) : Dse (w.setCell ⟨B, 803, none⟩ (.bool z)) B f nd dp ng z := ⟨h.dz.setT z, h.dg, h.first, h.le⟩
theorem Dse.setG (h : Dse w B f nd dp ng tr) (z : Bool) : Dse (w.setCell ⟨B, 802, none⟩ (.bool z)) B f nd dp z tr := ⟨h.dz.setG z, h.dg, h.first, h.le⟩
theorem Dse.drewN (h : Dse w B f nd dp ng tr) (n : Nat) : Dse (w.drewN n) B f nd dp ng tr := ⟨h.dz.drewN n, h.dg, h.first, h.le⟩
theorem Dse.push (h : Dse w B f nd dp ng tr) (x : Nat) (h1 : 48 ≤ x) (h2 : x ≤ 57) (h0 : nd = 0 → 49 ≤ x) (h8 : nd < 800) (m : Int) (hm : m = ((nd + 1 : Nat) : Int)) (n : Nat) (z : Int) (hz : z = (x : Int)) :
    Dse (((w.setCell ⟨B, nd, none⟩ (.int .u8 z)).drewN n).setCell ⟨B, 800, none⟩ (.int .i64 m)) B (Dm.put f nd x) (nd + 1) dp ng tr := by
  refine ⟨((h.dz.setD nd x z hz h8).drewN n).setN (nd + 1) m hm, fun i hi => ?_, fun _ => ?_, by omega⟩
  · by_cases e : i = nd
    · subst e; rw [Dm.put_same]; exact ⟨h1, h2⟩
    · rw [Dm.put_other _ e]; exact h.dg i (by omega)
  · by_cases e : 0 = nd
    · subst e; rw [Dm.put_same]; exact h0 rfl
    · rw [Dm.put_other _ e]; exact h.first (by omega)
end
set_option maxRecDepth 100000 in
set_option maxHeartbeats 8000000 in
theorem set_any (B : Nat) (s : ByteArray) (f : Nat → Nat) (w : World) (h : Dz w B f 0 0 false false) (hs : s.size ≤ 400) (ha : Al s) :
    Calls Tryz.prog 101 #[.pointer (some ⟨B, 0, none⟩), .string s] w (SetP B (setF f (Ut.Lf s 0)) w) := by
  have H0 : Hid (Dse w B f 0 0 false false) := ⟨h, fun i hi => by omega, fun h => by omega, by omega⟩
  have HA := Lib.hid ha
  have c1 := h.ng_
  have c2 := h.tr_
  have c3 := h.frozen 802
  have c4 := h.frozen 803
  clear h ha
  by_cases hs0 : s.size = 0
  · go_enter Tryz.func101, Tryz.ntmps101
    go_wp2_with fail
    go_ret
    exact SetP.no ((Moved.set _ _ _ _).trans (Moved.set _ _ _ _)) (by rw [Ut.Lf_nil (by omega), setF])
  · have hs1 : 0 < s.size := by omega
    obtain ⟨x, hx⟩ : ∃ x, s[0].toNat = x := ⟨_, rfl⟩
    obtain ⟨F, hF⟩ : ∃ F, setF f (Ut.Lf s 0) = F := ⟨_, rfl⟩
    rw [hF]
    have HF := Lib.hid hF
    clear hF
    go_enter Tryz.func101, Tryz.ntmps101
    go_upto_block 0 with fail
    go_cut [5] (fun s5 wx => ∃ (i : Nat) (ng : Bool), s5 = .int .i64 i ∧ i ≤ 1 ∧ Hid (setB ng (stL (Ut.Lf s i) ⟨f, 0, false, false, false, 0⟩) = F) ∧ Hid (Dse wx B f 0 0 ng false) ∧ Hid (Moved B w wx))
    case first => as_aux_lemma =>
      have HD : Hid (Dse ((w.setCell ⟨B, 802, none⟩ (.bool false)).setCell ⟨B, 803, none⟩ (.bool false)) B f 0 0 false false) := (H0.out.setG false).setT false
      have HM : Hid (Moved B w ((w.setCell ⟨B, 802, none⟩ (.bool false)).setCell ⟨B, 803, none⟩ (.bool false))) := (Moved.set _ _ _ _).trans (Moved.set _ _ _ _)
      by_cases hx1 : x = 43
      · subst hx1
        have HS := Lib.hid ((sf_plus (f := f) hs1 hx).symm.trans HF.out)
        go_wp2_with fail
        go_meet
        exact ⟨1, false, rfl, by omega, HS, HD, HM⟩
      · have hx1f : ((x : Int) == 43) = false := beq_eq_false_iff_ne.2 (by omega)
        by_cases hx2 : x = 45
        · subst hx2
          have HS := Lib.hid ((sf_minus (f := f) hs1 hx).symm.trans HF.out)
          have HD2 := Lib.hid (HD.out.setG true)
          have HM2 := Lib.hid (HM.out.trans (Moved.set B 802 _ (.bool true)))
          clear hx1
          go_wp2_with fail
          go_meet
          exact ⟨1, true, rfl, by omega, HS, HD2, HM2⟩
        · have hx2f : ((x : Int) == 45) = false := beq_eq_false_iff_ne.2 (by omega)
          have HS := Lib.hid ((sf_no (f := f) hs1 hx hx1 hx2).symm.trans HF.out)
          clear hx1 hx2
          go_wp2_with fail
          go_meet
          exact ⟨0, false, rfl, by omega, HS, HD, HM⟩
    case rest => as_aux_lemma =>
      clear HF
      obtain ⟨i0, ng, rfl, hi0, HSB, HD, HM⟩ := hcut
      obtain ⟨R, hR0⟩ : ∃ R, stL (Ut.Lf s i0) ⟨f, 0, false, false, false, 0⟩ = R := ⟨_, rfl⟩
      rw [hR0] at HSB
      have HR0 := Lib.hid hR0
      clear hR0
      clear hx c1 c2 c3 c4
      go_upto_block 1 with fail
      go_cut [5, 6, 7] (fun s5 s6 s7 wx => ∃ (i : Nat) (sd sg : Bool) (f : Nat → Nat) (nd : Nat) (dp : Int) (tr : Bool), s5 = .int .i64 i ∧ s6 = .bool sd ∧ s7 = .bool sg ∧ i ≤ s.size ∧ -400 ≤ dp ∧ dp ≤ 800 ∧ Hid (R = (⟨f, nd, sd, sg, tr, dp⟩, Ut.Lf s i)) ∧ Hid (Dse wx B f nd dp ng tr) ∧ Hid (Moved B w wx))
      case first => as_aux_lemma =>
        go_wp2_with fail
        go_loopg [5, 6, 7] (s.size - i0) (fun g s5 s6 s7 wx => ∃ (i : Nat) (sd sg : Bool) (f : Nat → Nat) (nd : Nat) (dp : Int) (tr : Bool), g = s.size - i ∧ s5 = .int .i64 i ∧ s6 = .bool sd ∧ s7 = .bool sg ∧ i ≤ s.size ∧ -(i : Int) ≤ dp ∧ dp ≤ 800 ∧ Hid (stL (Ut.Lf s i) ⟨f, nd, sd, sg, tr, dp⟩ = R) ∧ Hid (Dse wx B f nd dp ng tr) ∧ Hid (Moved B w wx))
        case atStart => exact ⟨i0, false, false, f, 0, 0, false, rfl, rfl, rfl, rfl, by omega, by omega, by omega, HR0, HD, HM⟩
        case round =>
          clear HD HM HR0
          obtain ⟨i, sd, sg, f, nd, dp, tr, hg, rfl, rfl, rfl, hi, p0, p1, HR, HD, HM⟩ := hrel
          by_cases hil : i < s.size
          · have c800 := HD.out.dz.nd_
            have c801 := HD.out.dz.dp_
            have c803 := HD.out.dz.tr_
            have f801 := HD.out.dz.frozen 801
            have f800 := HD.out.dz.frozen 800
            have f803 := HD.out.dz.frozen 803
            have hal := HA.out i hil
            obtain ⟨x, hx⟩ : ∃ x, s[i].toNat = x := ⟨_, rfl⟩
            rw [hx] at hal
            have hx95 : ((x : Int) == 95) = false := beq_eq_false_iff_ne.2 (by omega)
            by_cases h46 : x = 46
            · have h46t : ((x : Int) == 46) = true := by rw [h46]; rfl
              have H46 := Lib.hid (hx.trans h46)
              clear h46 hal
              cases sd with
              | true =>
                have HX := Lib.hid (st_dot2 hil H46.out HR.out)
                have HNO : Hid (F.2.2 = false) := by
                  show _ = _
                  rw [← HSB.out, HX.out]
                  exact dot_bad hil H46.out
                go_wp2_with fail
                go_ret
                exact SetP.no HM.out HNO.out
              | false =>
                have HX := Lib.hid (st_dot hil H46.out HR.out)
                have HD2 := Lib.hid (HD.out.setP (nd : Int))
                have HM2 := Lib.hid (HM.out.trans (Moved.set B 801 _ (.int .i64 (nd : Int))))
                have hle := HD.out.le
                go_wp2_with fail
                go_roundg (s.size - (i + 1))
                case measure => omega
                case rel => exact ⟨i + 1, true, sg, f, nd, _, tr, rfl, by go_num, rfl, rfl, by omega, by omega, by omega, HX, HD2, HM2⟩
            · have h46f : ((x : Int) == 46) = false := beq_eq_false_iff_ne.2 (by omega)
              by_cases hdg : 48 ≤ x ∧ x ≤ 57
              · obtain ⟨hd1, hd2⟩ := hdg
                clear h46 hal
                have hd1i : (48 : Int) ≤ (x : Int) := by omega
                have hd2i : (x : Int) ≤ 57 := by omega
                by_cases h0 : x = 48 ∧ nd = 0
                · obtain ⟨rfl, rfl⟩ := h0
                  have HX := Lib.hid (st_zero hil hx HR.out)
                  have HD2 := Lib.hid (HD.out.setP (dp - 1))
                  have HM2 := Lib.hid (HM.out.trans (Moved.set B 801 _ (.int .i64 (dp - 1))))
                  go_wp2_with fail
                  go_roundg (s.size - (i + 1))
                  case measure => omega
                  case rel => exact ⟨i + 1, sd, true, f, 0, _, tr, rfl, by go_num, rfl, rfl, by omega, by omega, by omega, HX, HD2, HM2⟩
                · by_cases h8 : nd < 800
                  · have h8i : (nd : Int) < 800 := by omega
                    have h8t : decide ((nd : Int) < 800) = true := decide_eq_true h8i
                    have HX := Lib.hid (st_dig hil hx hd1 hd2 h0 h8 HR.out)
                    have HDP := Lib.hid (fun n => HD.out.push x hd1 hd2 (fun h => by omega) h8 ((nd : Int) + 1) (by omega) n (x : Int) rfl)
                    have fnd := HD.out.dz.frozen nd
                    have cnd := HD.out.dz.dig nd h8
                    have b8 : (nd == 800) = false := by simp; omega
                    have b8' : (800 == nd) = false := by simp; omega
                    by_cases hx48 : x = 48
                    · subst hx48
                      have hndz : ((nd : Int) == 0) = false := beq_eq_false_iff_ne.2 (by omega)
                      clear h0
                      go_wp2_with fail
                      go_still_tail 11, (by kernel_rfl)
                      go_wp2_with fail
                      go_roundg (s.size - (i + 1))
                      case measure => omega
                      case rel => exact ⟨i + 1, sd, true, Dm.put f nd 48, nd + 1, dp, tr, rfl, by go_num, rfl, rfl, by omega, by omega, by omega, HX, HDP.out _, (HM.out.trans ((Moved.set _ _ _ _).drewN _)).trans (Moved.set _ _ _ _)⟩
                    · have hx48f : ((x : Int) == 48) = false := beq_eq_false_iff_ne.2 (by omega)
                      clear h0
                      go_wp2_with fail
                      go_still_tail 11, (by kernel_rfl)
                      go_wp2_with fail
                      go_roundg (s.size - (i + 1))
                      case measure => omega
                      case rel => exact ⟨i + 1, sd, true, Dm.put f nd x, nd + 1, dp, tr, rfl, by go_num, rfl, rfl, by omega, by omega, by omega, HX, HDP.out _, (HM.out.trans ((Moved.set _ _ _ _).drewN _)).trans (Moved.set _ _ _ _)⟩
                  · have h8f : decide ((nd : Int) < 800) = false := decide_eq_false (by omega)
                    have hndz : ((nd : Int) == 0) = false := beq_eq_false_iff_ne.2 (by omega)
                    by_cases hx48 : x = 48
                    · subst hx48
                      have HX := Lib.hid (st_more0 hil hx (fun h => h0 ⟨rfl, h⟩) h8 HR.out)
                      go_wp2_with fail
                      go_roundg (s.size - (i + 1))
                      case measure => omega
                      case rel => exact ⟨i + 1, sd, true, f, nd, dp, tr, rfl, by go_num, rfl, rfl, by omega, by omega, by omega, HX, HD, HM⟩
                    · have hx48f : ((x : Int) == 48) = false := beq_eq_false_iff_ne.2 (by omega)
                      have hx48n : ((x : Int) != 48) = true := by simp; omega
                      have HD2 := Lib.hid (HD.out.setT true)
                      have HM2 := Lib.hid (HM.out.trans (Moved.set B 803 _ (.bool true)))
                      have HX := Lib.hid (st_more hil hx hd1 hd2 hx48 h8 HR.out)
                      clear h0 hx48
                      go_wp2_with fail
                      go_roundg (s.size - (i + 1))
                      case measure => omega
                      case rel => exact ⟨i + 1, sd, true, f, nd, dp, true, rfl, by go_num, rfl, rfl, by omega, by omega, by omega, HX, HD2, HM2⟩
              · by_cases h48 : 48 ≤ x
                · have h48i : (48 : Int) ≤ (x : Int) := by omega
                  have h57 : decide ((x : Int) ≤ 57) = false := decide_eq_false (by omega)
                  have HX := Lib.hid (st_stop hil hx h46 hdg HR.out)
                  clear hal hdg h46
                  go_wp2_with fail
                  go_meet
                  exact ⟨i, sd, sg, f, nd, dp, tr, rfl, rfl, rfl, by omega, by omega, by omega, HX, HD, HM⟩
                · have h48i : decide ((48 : Int) ≤ (x : Int)) = false := decide_eq_false (by omega)
                  have HX := Lib.hid (st_stop hil hx h46 hdg HR.out)
                  clear hal hdg h46 h48
                  go_wp2_with fail
                  go_meet
                  exact ⟨i, sd, sg, f, nd, dp, tr, rfl, rfl, rfl, by omega, by omega, by omega, HX, HD, HM⟩
          · have HX := Lib.hid (st_end (by omega) HR.out)
            go_wp2_with fail
            go_meet
            exact ⟨i, sd, sg, f, nd, dp, tr, rfl, rfl, rfl, by omega, by omega, by omega, HX, HD, HM⟩
      case rest => as_aux_lemma =>
        clear HD HM H0 HR0
        obtain ⟨i, sd, sg, f, nd, dp, tr, rfl, rfl, rfl, hi, p0, p1, HRE, HD, HM⟩ := hcut
        have HB2 : Hid (finS ng f nd tr (Ut.restR ng ⟨1, nd, 0, sd, sg, tr, dp⟩ (Ut.Lf s i)) = F) := by
          show _ = _
          rw [← HSB.out, HRE.out]; rfl
        clear HRE HSB
        cases sg with
        | false =>
          have HNO : Hid (F.2.2 = false) := by
            show _ = _
            rw [← HB2.out, Ut.rs_no _ rfl]; rfl
          go_wp2_with fail
          go_ret
          exact SetP.no HM.out HNO.out
        | true =>
          obtain ⟨dp0, hdp0⟩ : ∃ x, x = dp := ⟨_, rfl⟩
          rw [← hdp0] at HB2
          have HDD : Hid (Ut.dpR ⟨1, nd, 0, sd, true, tr, dp0⟩ = if sd = true then dp else (nd : Int)) := by
            show _ = _
            unfold Ut.dpR; rw [hdp0]
          clear hdp0
          go_upto_if 120 with fail
          go_cut [] (fun wx => ∃ (dp : Int), -400 ≤ dp ∧ dp ≤ 800 ∧ Hid (Ut.dpR ⟨1, nd, 0, sd, true, tr, dp0⟩ = dp) ∧ Hid (Dse wx B f nd dp ng tr) ∧ Hid (Moved B w wx))
          case first => as_aux_lemma =>
            cases sd with
            | true =>
              go_wp2_with fail
              go_meet
              exact ⟨dp, p0, p1, HDD.out.trans (by first | exact if_pos rfl | exact if_pos trivial | simp), HD, HM⟩
            | false =>
              have c800 := HD.out.dz.nd_
              have c801 := HD.out.dz.dp_
              have f801 := HD.out.dz.frozen 801
              have HD2 := Lib.hid (HD.out.setP (nd : Int))
              have HM2 := Lib.hid (HM.out.trans (Moved.set B 801 _ (.int .i64 (nd : Int))))
              have hle := HD.out.le
              go_wp2_with fail
              go_meet
              exact ⟨_, by omega, by omega, HDD.out.trans (by first | exact if_neg (by decide) | simp), HD2, HM2⟩
          case rest => as_aux_lemma =>
            clear HD HM HDD
            obtain ⟨dp, p0, p1, HDD, HD, HM⟩ := hcut
            by_cases hil : i < s.size
            · have hal := HA.out i hil
              obtain ⟨x, hx⟩ : ∃ x, s[i].toNat = x := ⟨_, rfl⟩
              rw [hx] at hal
              have HL := Lib.hid (lower_any x wc)
              obtain ⟨z, hz⟩ : ∃ z, bits BinOp.or IntKind.u8 (x : Int) 32 = z := ⟨_, rfl⟩
              rw [hz] at HL
              have HLE := Lib.hid (low_e x hal)
              rw [hz] at HLE
              have HXX := Lib.hid hx
              clear hz
              by_cases hz1 : z = 101
              · subst hz1
                have HP : Hid (finS ng f nd tr (Ut.sgnR ⟨1, nd, 0, sd, true, tr, dp0⟩ ng (Ut.Lf s (i + 1))) = F) := by
                  show _ = _
                  rw [← HB2.out, Ut.rs_pow hil rfl (by rw [HXX.out]; exact HLE.out.1 rfl)]
                by_cases hi1 : i + 1 < s.size
                · obtain ⟨y, hy⟩ : ∃ y, s[i + 1].toNat = y := ⟨_, rfl⟩
                  have hi1i : (i : Int) + 1 < (s.size : Int) := by omega
                  clear hal
                  go_wp2_with fail
                  refine HL.out.mono ?_
                  rintro e w9 ⟨rfl, rfl⟩
                  go_upto_block 4 with fail
                  go_cut [5, 8] (fun s5 s8 wx => ∃ (j : Nat) (es : Int), s5 = .int .i64 j ∧ s8 = .int .i64 es ∧ j ≤ s.size ∧ (es = 1 ∨ es = -1) ∧ Hid (finS ng f nd tr (Ut.powR ⟨1, nd, 0, sd, true, tr, dp0⟩ ng (decide (es = -1)) (Ut.Lf s j)) = F) ∧ wc = wx)
                  case first => as_aux_lemma =>
                    by_cases hy1 : y = 43
                    · subst hy1
                      have HX : Hid (finS ng f nd tr (Ut.powR ⟨1, nd, 0, sd, true, tr, dp0⟩ ng (decide ((1 : Int) = -1)) (Ut.Lf s (i + 2))) = F) := by
                        show _ = _
                        rw [← HP.out, Ut.pw_plus hi1 hy]; rfl
                      go_wp2_with fail
                      go_meet
                      exact ⟨i + 2, 1, by go_num, rfl, by omega, .inl rfl, HX, rfl⟩
                    · have hy1f : ((y : Int) == 43) = false := beq_eq_false_iff_ne.2 (by omega)
                      by_cases hy2 : y = 45
                      · subst hy2
                        have HX : Hid (finS ng f nd tr (Ut.powR ⟨1, nd, 0, sd, true, tr, dp0⟩ ng (decide ((-1 : Int) = -1)) (Ut.Lf s (i + 2))) = F) := by
                          show _ = _
                          rw [← HP.out, Ut.pw_minus hi1 hy]; rfl
                        clear hy1
                        go_wp2_with fail
                        go_meet
                        exact ⟨i + 2, -1, by go_num, rfl, by omega, .inr rfl, HX, rfl⟩
                      · have hy2f : ((y : Int) == 45) = false := beq_eq_false_iff_ne.2 (by omega)
                        have HX : Hid (finS ng f nd tr (Ut.powR ⟨1, nd, 0, sd, true, tr, dp0⟩ ng (decide ((1 : Int) = -1)) (Ut.Lf s (i + 1))) = F) := by
                          show _ = _
                          rw [← HP.out, Ut.pw_no hi1 hy hy1 hy2]; rfl
                        clear hy1 hy2
                        go_wp2_with fail
                        go_meet
                        exact ⟨i + 1, 1, by go_num, rfl, by omega, .inl rfl, HX, rfl⟩
                  case rest => as_aux_lemma =>
                    clear hx hy HL hi1i hi1
                    obtain ⟨j, es, rfl, rfl, hj, hes, HPW, rfl⟩ := hcut
                    have HES := Lib.hid hes
                    clear hes
                    by_cases hjl : j < s.size
                    · have hal := HA.out j hjl
                      obtain ⟨v, hv⟩ : ∃ v, s[j].toNat = v := ⟨_, rfl⟩
                      rw [hv] at hal
                      have hjf : decide ((s.size : Int) ≤ (j : Int)) = false := decide_eq_false (by omega)
                      have hjf2 : decide (s.size ≤ j) = false := decide_eq_false (by omega)
                      by_cases hv48 : v < 48
                      · have hv48t : decide ((v : Int) < 48) = true := decide_eq_true (by omega)
                        have HNO : Hid (F.2.2 = false) := by
                          show _ = _
                          rw [← HPW.out, Ut.pn_bad hjl hv (by omega)]; rfl
                        clear hal
                        go_wp2_with fail
                        go_ret
                        exact SetP.no HM.out HNO.out
                      · have hv48f : decide ((v : Int) < 48) = false := decide_eq_false (by omega)
                        by_cases hv57 : 57 < v
                        · have hv57t : decide ((57 : Int) < (v : Int)) = true := decide_eq_true (by omega)
                          have HNO : Hid (F.2.2 = false) := by
                            show _ = _
                            rw [← HPW.out, Ut.pn_bad hjl hv (by omega)]; rfl
                          clear hal hv48
                          go_wp2_with fail
                          go_ret
                          exact SetP.no HM.out HNO.out
                        · have hv57f : decide ((57 : Int) < (v : Int)) = false := decide_eq_false (by omega)
                          obtain ⟨Q, hQ⟩ : ∃ Q, Ut.expL (Ut.Lf s j) 0 = Q := ⟨_, rfl⟩
                          have HQ := Lib.hid hQ
                          have HPD : Hid (∀ e2 l, Q = (e2, l) → finS ng f nd tr (Ut.outR ⟨1, nd, 0, sd, true, tr, dp0⟩ ng (dp + (if decide (es = -1) = true then -(e2 : Int) else (e2 : Int))) l) = F) :=
                            Lib.hid fun e2 l h => by rw [← HPW.out, Ut.pn_dig hjl hv (by omega) (by omega) (hQ.trans h), HDD.out]
                          clear hQ
                          clear hal hv48 hv57
                          go_upto_block 5 with fail
                          go_cut [5, 9] (fun s5 s9 wx => ∃ (j e2 : Nat), s5 = .int .i64 j ∧ s9 = .int .i64 e2 ∧ j ≤ s.size ∧ e2 ≤ 100000 ∧ Hid (Q = (e2, Ut.Lf s j)) ∧ wc = wx)
                          case first => as_aux_lemma =>
                            clear hv hjf hjf2
                            go_wp2_with fail
                            go_loopg [5, 9] (s.size - j) (fun g s5 s9 wx => ∃ (j e2 : Nat), g = s.size - j ∧ s5 = .int .i64 j ∧ s9 = .int .i64 e2 ∧ j ≤ s.size ∧ e2 ≤ 100000 ∧ Hid (Ut.expL (Ut.Lf s j) e2 = Q) ∧ wc = wx)
                            case atStart => exact ⟨j, 0, rfl, rfl, rfl, hj, by omega, HQ, rfl⟩
                            case round =>
                              clear hj hjl
                              obtain ⟨j, e2, hg, rfl, rfl, hj, he2, HK, rfl⟩ := hrel
                              by_cases hjl : j < s.size
                              · have hal := HA.out j hjl
                                obtain ⟨u, hu⟩ : ∃ u, s[j].toNat = u := ⟨_, rfl⟩
                                rw [hu] at hal
                                have hu95 : ((u : Int) == 95) = false := beq_eq_false_iff_ne.2 (by omega)
                                have hjt : decide (j < s.size) = true := decide_eq_true hjl
                                by_cases hu48 : 48 ≤ u
                                · have hu48t : decide ((48 : Int) ≤ (u : Int)) = true := decide_eq_true (by omega)
                                  by_cases hu57 : u ≤ 57
                                  · have hu57t : decide ((u : Int) ≤ 57) = true := decide_eq_true (by omega)
                                    clear hal
                                    by_cases he : e2 < 10000
                                    · have hei : (e2 : Int) < 10000 := by omega
                                      have HX := Lib.hid (Ut.ex_dig hjl hu hu48 hu57 he HK.out)
                                      go_wp2_with fail
                                      go_roundg (s.size - (j + 1))
                                      case measure => omega
                                      case rel => exact ⟨j + 1, e2 * 10 + u - 48, rfl, by go_num, by go_num, by omega, by omega, HX, rfl⟩
                                    · have hei : decide ((e2 : Int) < 10000) = false := decide_eq_false (by omega)
                                      have HX := Lib.hid (Ut.ex_big hjl hu hu48 hu57 he HK.out)
                                      go_wp2_with fail
                                      go_roundg (s.size - (j + 1))
                                      case measure => omega
                                      case rel => exact ⟨j + 1, e2, rfl, by go_num, rfl, by omega, he2, HX, rfl⟩
                                  · have hu57f : decide ((u : Int) ≤ 57) = false := decide_eq_false (by omega)
                                    have HX := Lib.hid (Ut.ex_stop hjl hu (by omega) HK.out)
                                    clear hal hu48 hu57
                                    go_wp2_with fail
                                    go_meet
                                    exact ⟨j, e2, rfl, rfl, hj, he2, HX, rfl⟩
                                · have hu48f : decide ((48 : Int) ≤ (u : Int)) = false := decide_eq_false (by omega)
                                  have HX := Lib.hid (Ut.ex_stop hjl hu (by omega) HK.out)
                                  clear hal hu48
                                  go_wp2_with fail
                                  go_meet
                                  exact ⟨j, e2, rfl, rfl, hj, he2, HX, rfl⟩
                              · have hjt : decide (j < s.size) = false := decide_eq_false hjl
                                have HX := Lib.hid (Ut.ex_end (by omega) HK.out)
                                have hjt2 : decide ((j : Int) < (s.size : Int)) = false := decide_eq_false (by omega)
                                go_wp2_with fail
                                go_meet
                                exact ⟨j, e2, rfl, rfl, hj, he2, HX, rfl⟩
                          case rest => as_aux_lemma =>
                            clear hv hjf hjf2 hjl hj
                            obtain ⟨j, e2, rfl, rfl, hj, he2, HQE, rfl⟩ := hcut
                            have HPE := Lib.hid (HPD.out _ _ HQE.out)
                            clear HQE HPD HPW
                            have c801 := HD.out.dz.dp_
                            have f801 := HD.out.dz.frozen 801
                            have HD2 := Lib.hid (fun z => HD.out.setP z)
                            have HM2 := Lib.hid (fun z => HM.out.trans (Moved.set B 801 _ (.int .i64 z)))
                            have he0 : (0 : Int) ≤ (e2 : Int) := by omega
                            have he2i : (e2 : Int) ≤ 100000 := by omega
                            rcases HES.out with rfl | rfl
                            · by_cases hje : j = s.size
                              · have hne : ((j : Int) != (s.size : Int)) = false := by simp; omega
                                have HY : Hid (F = (ng, ⟨f, nd, dp + (e2 : Int), tr⟩, true)) := by
                                  show _ = _
                                  rw [← HPE.out, fin_good (by omega) rfl rfl]; rfl
                                clear hje
                                go_wp2_with fail
                                go_ret
                                exact SetP.yes (HM2.out _) (HD2.out _) (HY.out.trans (by first | rfl | (congr 3; omega) | (congr 2; congr 1; omega)))
                              · have hne : ((j : Int) != (s.size : Int)) = true := by simp; omega
                                have HY : Hid (F.2.2 = false) := by
                                  show _ = _
                                  rw [← HPE.out]; exact fin_bad (by omega)
                                clear hje
                                go_wp2_with fail
                                go_ret
                                exact SetP.no (HM2.out _) HY.out
                            · by_cases hje : j = s.size
                              · have hne : ((j : Int) != (s.size : Int)) = false := by simp; omega
                                have HY : Hid (F = (ng, ⟨f, nd, dp + -(e2 : Int), tr⟩, true)) := by
                                  show _ = _
                                  rw [← HPE.out, fin_good (by omega) rfl rfl]; rfl
                                clear hje
                                go_wp2_with fail
                                go_ret
                                exact SetP.yes (HM2.out _) (HD2.out _) (HY.out.trans (by first | rfl | (congr 3; omega) | (congr 2; congr 1; omega)))
                              · have hne : ((j : Int) != (s.size : Int)) = true := by simp; omega
                                have HY : Hid (F.2.2 = false) := by
                                  show _ = _
                                  rw [← HPE.out]; exact fin_bad (by omega)
                                clear hje
                                go_wp2_with fail
                                go_ret
                                exact SetP.no (HM2.out _) HY.out
                    · have hjt : decide ((s.size : Int) ≤ (j : Int)) = true := decide_eq_true (by omega)
                      have hjt2 : decide (s.size ≤ j) = true := decide_eq_true (by omega)
                      have HNO : Hid (F.2.2 = false) := by
                        show _ = _
                        rw [← HPW.out, Ut.pn_none (by omega)]; rfl
                      go_wp2_with fail
                      go_ret
                      exact SetP.no HM.out HNO.out
                · have hi1i : (s.size : Int) ≤ (i : Int) + 1 := by omega
                  have HNO : Hid (F.2.2 = false) := by
                    show _ = _
                    rw [← HP.out, Ut.pw_none (by omega)]; rfl
                  clear hal
                  go_wp2_with fail
                  refine HL.out.mono ?_
                  rintro e w9 ⟨rfl, rfl⟩
                  go_wp2_with fail
                  go_ret
                  exact SetP.no HM.out HNO.out
              · have hz1f : (z == 101) = false := beq_eq_false_iff_ne.2 hz1
                have hne : ((i : Int) != (s.size : Int)) = true := by simp; omega
                have HNO : Hid (F.2.2 = false) := by
                  show _ = _
                  rw [← HB2.out, Ut.rs_plain hil rfl (fun h => hz1 (HLE.out.2 (by rw [HXX.out] at h; exact h)))]
                  exact fin_bad hil
                clear hal hz1
                go_wp2_with fail
                refine HL.out.mono ?_
                rintro e w9 ⟨rfl, rfl⟩
                go_wp2_with fail
                go_ret
                exact SetP.no HM.out HNO.out
            · have hie : i = s.size := by omega
              have hne : ((i : Int) != (s.size : Int)) = false := by simp; omega
              have HY : Hid (F = (ng, ⟨f, nd, dp, tr⟩, true)) := by
                show _ = _
                rw [← HB2.out, Ut.rs_end (by omega) rfl, HDD.out, fin_good (by omega) rfl rfl]
              clear hie
              go_wp2_with fail
              go_ret
              exact SetP.yes HM.out HD.out HY.out
end Go.Proofs.YtofndhmnofghaaaGreatDoor.Sl

namespace Go.Proofs.YtofndhmnofghaaaGreatDoor.Sl
open Go.RowKit
set_option linter.unusedVariables false

theorem results_tmp3 {fn : Func} {a b c : Tmp} (h : fn.results = #[.tmp a, .tmp b, .tmp c]) (tmps : Array Value) (P : Program) (w : World) :
    (results fn tmps).run P w = .ok (.tuple #[tmps.getD a undef, tmps.getD b undef, tmps.getD c undef]) w := by
  simp [results, h]
theorem results_tmp7 {fn : Func} {a b c d e f g : Tmp} (h : fn.results = #[.tmp a, .tmp b, .tmp c, .tmp d, .tmp e, .tmp f, .tmp g]) (tmps : Array Value) (P : Program) (w : World) :
    (results fn tmps).run P w = .ok (.tuple #[tmps.getD a undef, tmps.getD b undef, tmps.getD c undef, tmps.getD d undef, tmps.getD e undef, tmps.getD f undef, tmps.getD g undef]) w := by
  simp [results, h]
/-! no text of digits is a special one -/
abbrev infS : ByteArray := ⟨#[105, 110, 102, 105, 110, 105, 116, 121]⟩
set_option maxRecDepth 100000 in
theorem common_none (t : ByteArray) (w : World) (h : ∀ h : 0 < t.size, t[0].toNat ≠ 105 ∧ t[0].toNat ≠ 73) (hs : t.size ≤ 1000) : Calls Tryz.prog 113 #[.string t, .string infS] w fun e w' => e = .returned (.int .i64 0) ∧ w = w' := by
  by_cases h0 : t.size = 0
  · go_enter Tryz.func113, Tryz.ntmps113
    go_wp2_with fail
    go_loopg [6] 1 (fun g s6 wx => s6 = .int .i64 0 ∧ w = wx)
    case atStart => exact ⟨rfl, rfl⟩
    case round =>
      obtain ⟨rfl, rfl⟩ := hrel
      go_wp2_with fail
      go_ret
      exact ⟨by first | rfl | simp [h0], rfl⟩
  · have g0 : ∀ h, infS[0]'h = 105 := fun _ => rfl
    have n0 : (105 : UInt8).toNat = 105 := rfl
    have hts : 0 < t.size := by omega
    obtain ⟨x, hx⟩ : ∃ x, t[0].toNat = x := ⟨_, rfl⟩
    have h1 := h hts
    rw [hx] at h1
    obtain ⟨h1, h2⟩ := h1
    rcases Nat.lt_or_ge t.size 8 with h8 | h8
    · have h8i : (t.size : Int) < 8 := by omega
      by_cases hc : 65 ≤ x ∧ x ≤ 90
      · obtain ⟨hc1, hc2⟩ := hc
        have c1 : (65 : Int) ≤ (x : Int) := by omega
        have c2 : decide ((x : Int) ≤ 90) = true := decide_eq_true (by omega)
        have c3 : ((x : Int) + 32 != 105) = true := by simp; omega
        clear h1 h2 h0 h
        go_enter Tryz.func113, Tryz.ntmps113
        go_wp2_with fail
        go_loopg [6] 1 (fun g s6 wx => s6 = .int .i64 0 ∧ w = wx)
        case atStart => exact ⟨rfl, rfl⟩
        case round =>
          obtain ⟨rfl, rfl⟩ := hrel
          go_wp2_with fail
          go_ret
          exact ⟨rfl, rfl⟩
      · have c3 : ((x : Int) != 105) = true := by simp; omega
        by_cases hc1 : 65 ≤ x
        · have c1 : (65 : Int) ≤ (x : Int) := by omega
          have c2 : decide ((x : Int) ≤ 90) = false := decide_eq_false (by omega)
          clear h1 h2 h0 h hc
          go_enter Tryz.func113, Tryz.ntmps113
          go_wp2_with fail
          go_loopg [6] 1 (fun g s6 wx => s6 = .int .i64 0 ∧ w = wx)
          case atStart => exact ⟨rfl, rfl⟩
          case round =>
            obtain ⟨rfl, rfl⟩ := hrel
            go_wp2_with fail
            go_ret
            exact ⟨rfl, rfl⟩
        · have c1 : decide ((65 : Int) ≤ (x : Int)) = false := decide_eq_false (by omega)
          clear h1 h2 h0 h hc
          go_enter Tryz.func113, Tryz.ntmps113
          go_wp2_with fail
          go_loopg [6] 1 (fun g s6 wx => s6 = .int .i64 0 ∧ w = wx)
          case atStart => exact ⟨rfl, rfl⟩
          case round =>
            obtain ⟨rfl, rfl⟩ := hrel
            go_wp2_with fail
            go_ret
            exact ⟨rfl, rfl⟩
    · have h8i : (8 : Int) ≤ (t.size : Int) := by omega
      by_cases hc : 65 ≤ x ∧ x ≤ 90
      · obtain ⟨hc1, hc2⟩ := hc
        have c1 : (65 : Int) ≤ (x : Int) := by omega
        have c2 : decide ((x : Int) ≤ 90) = true := decide_eq_true (by omega)
        have c3 : ((x : Int) + 32 != 105) = true := by simp; omega
        clear h1 h2 h0 h
        go_enter Tryz.func113, Tryz.ntmps113
        go_wp2_with fail
        go_loopg [6] 1 (fun g s6 wx => s6 = .int .i64 0 ∧ w = wx)
        case atStart => exact ⟨rfl, rfl⟩
        case round =>
          obtain ⟨rfl, rfl⟩ := hrel
          go_wp2_with fail
          go_ret
          exact ⟨rfl, rfl⟩
      · have c3 : ((x : Int) != 105) = true := by simp; omega
        by_cases hc1 : 65 ≤ x
        · have c1 : (65 : Int) ≤ (x : Int) := by omega
          have c2 : decide ((x : Int) ≤ 90) = false := decide_eq_false (by omega)
          clear h1 h2 h0 h hc
          go_enter Tryz.func113, Tryz.ntmps113
          go_wp2_with fail
          go_loopg [6] 1 (fun g s6 wx => s6 = .int .i64 0 ∧ w = wx)
          case atStart => exact ⟨rfl, rfl⟩
          case round =>
            obtain ⟨rfl, rfl⟩ := hrel
            go_wp2_with fail
            go_ret
            exact ⟨rfl, rfl⟩
        · have c1 : decide ((65 : Int) ≤ (x : Int)) = false := decide_eq_false (by omega)
          clear h1 h2 h0 h hc
          go_enter Tryz.func113, Tryz.ntmps113
          go_wp2_with fail
          go_loopg [6] 1 (fun g s6 wx => s6 = .int .i64 0 ∧ w = wx)
          case atStart => exact ⟨rfl, rfl⟩
          case round =>
            obtain ⟨rfl, rfl⟩ := hrel
            go_wp2_with fail
            go_ret
            exact ⟨rfl, rfl⟩
theorem cut_byte (s : ByteArray) (a b i : Nat) (hi : i < b - a) (hb : b ≤ s.size) (h1 : i < (s.extract a b).size) : (s.extract a b)[i] = s[a + i] := by
  simp [ByteArray.getElem_extract]
set_option maxRecDepth 100000 in
theorem special_none (s : ByteArray) (w : World) (ha : Al s) (hs : s.size ≤ 1000) : Calls Tryz.prog 94 #[.string s] w fun e w' => e = .returned (.tuple #[.float .f64 0, .int .i64 0, .bool false]) ∧ w = w' := by
  by_cases h0 : s.size = 0
  · go_enter Tryz.func94, Tryz.ntmps94
    go_wp2_with fail
    refine bodyPost_ret (results_tmp3 rfl _ _ _) rfl ?_
    exact ⟨rfl, rfl⟩
  · have hal := ha 0 (by omega)
    have hss : 0 < s.size := by omega
    have hsz : ((s.size : Int) == 0) = false := beq_eq_false_iff_ne.2 (by omega)
    have HC : Hid (∀ W, Calls Tryz.prog 113 #[.string (s.extract 1 s.size), .string infS] W fun e w' => e = .returned (.int .i64 0) ∧ W = w') := by
      intro W
      refine common_none _ W (fun h => ?_) (by rw [ByteArray.size_extract]; omega)
      have hsz : 1 < s.size := by rw [ByteArray.size_extract] at h; omega
      have h1 := ha 1 hsz
      rw [cut_byte s 1 s.size 0 (by omega) (Nat.le_refl _) h]
      have e : s[1 + 0] = s[1] := rfl
      rw [e]
      omega
    obtain ⟨x, hx⟩ : ∃ x, s[0].toNat = x := ⟨_, rfl⟩
    rw [hx] at hal
    clear ha
    by_cases h43 : x = 43
    · subst h43
      clear hal h0
      go_enter Tryz.func94, Tryz.ntmps94
      go_wp2_with fail
      refine (HC.out _).mono ?_
      rintro e w1 ⟨rfl, rfl⟩
      go_wp2_with fail
      refine bodyPost_ret (results_tmp3 rfl _ _ _) rfl ?_
      exact ⟨rfl, rfl⟩
    · have h43f : ((x : Int) == 43) = false := beq_eq_false_iff_ne.2 (by omega)
      by_cases h45 : x = 45
      · subst h45
        clear hal h0
        go_enter Tryz.func94, Tryz.ntmps94
        go_wp2_with fail
        refine (HC.out _).mono ?_
        rintro e w1 ⟨rfl, rfl⟩
        go_wp2_with fail
        refine bodyPost_ret (results_tmp3 rfl _ _ _) rfl ?_
        exact ⟨rfl, rfl⟩
      · have h45f : ((x : Int) == 45) = false := beq_eq_false_iff_ne.2 (by omega)
        have e1 : ((x : Int) == 105) = false := beq_eq_false_iff_ne.2 (by omega)
        have e2 : ((x : Int) == 73) = false := beq_eq_false_iff_ne.2 (by omega)
        have e3 : ((x : Int) == 110) = false := beq_eq_false_iff_ne.2 (by omega)
        have e4 : ((x : Int) == 78) = false := beq_eq_false_iff_ne.2 (by omega)
        clear hal h0 h43 h45
        go_enter Tryz.func94, Tryz.ntmps94
        go_wp2_with fail
        refine bodyPost_ret (results_tmp3 rfl _ _ _) rfl ?_
        exact ⟨rfl, rfl⟩
end Go.Proofs.YtofndhmnofghaaaGreatDoor.Sl

import Derived.Test.YtaggmakaceafgaaGreatDoorA1
import Derived.Test.YtaggmakaceafgaaGreatDoorShelf
namespace Go.Proofs.YtaggmakaceafgaaGreatDoor
open Go.RowKit Ieee
set_option linter.unusedVariables false

/-! isDecimal: the closures that go through a text -/
/-- where the place stands, and the text -/
structure At (w : World) (B S : Nat) (s : ByteArray) (k : Nat) : Prop where
  blk : Blk w B 3 #[.int .i64 (k : Int)]
  txt : w.cell? ⟨S, 0, none⟩ = some (.string s)
  ne : S ≠ B
  le : k ≤ s.size
theorem At.moved {w w' : World} {B S : Nat} {s : ByteArray} {k j : Nat} (h : At w B S s k) (hm : Moved B w w') (hb : Blk w' B 3 #[.int .i64 (j : Int)]) (hj : j ≤ s.size) : At w' B S s j :=
  ⟨hb, (hm.cell h.ne).trans h.txt, h.ne, hj⟩
def takeB (g : List UInt8) (s : ByteArray) (k : Nat) : Bool := if h : k < s.size then decide (0 ≤ Lib.indexByte g s[k]) else false
def TakeP (B S : Nat) (g : ByteArray) (s : ByteArray) (k : Nat) (w : World) (e : Ending) (w' : World) : Prop :=
  e = .returned (.bool (takeB g.data.toList s k)) ∧ Moved B w w' ∧ At w' B S s (if takeB g.data.toList s k = true then k + 1 else k)
set_option maxRecDepth 100000 in
theorem take_any (B S : Nat) (g s : ByteArray) (k : Nat) (w : World) (h : At w B S s k) (hsz : s.size ≤ 9223372036854775806) :
    Calls Tryz.prog 72 #[.string g, .pointer (some ⟨B, 0, none⟩), .pointer (some ⟨S, 0, none⟩)] w (TakeP B S g s k w) := by
  have c0 := h.blk.cell 0
  have c1 := h.blk.frozen 0
  have c2 := h.txt
  simp at c0
  have hne : (B == S) = false := by simp; exact fun e => h.ne e.symm
  have hne2 : (S == B) = false := by simp; exact h.ne
  have HH := Lib.hid h
  have hk := h.le
  clear h
  by_cases hl : k < s.size
  · obtain ⟨z, hz⟩ : ∃ z, Lib.indexByte g.data.toList s[k] = z := ⟨_, rfl⟩
    have HI := Lib.hid (fun W => (Tryz.strings_IndexByte g (s[k].toNat : Int) W).mono (R' := fun e w' => e = .returned (.int .i64 z) ∧ W = w') fun e w' h => by
      refine ⟨?_, h.2.symm⟩
      rw [h.1, Int.toNat_natCast, ← hz]
      congr 4
      simp)
    have ht : takeB g.data.toList s k = decide (0 ≤ z) := by unfold takeB; rw [dif_pos hl, hz]
    have HT := Lib.hid ht
    have hkn : ((k : Int) == (s.size : Int)) = false := beq_eq_false_iff_ne.2 (by omega)
    clear hz ht
    by_cases h0 : z < 0
    · have HT2 := Lib.hid (HT.out.trans (decide_eq_false (by omega)))
      go_enter Tryz.func72, Tryz.ntmps72
      go_wp2_with fail
      refine (HI.out _).mono ?_
      rintro e w1 ⟨rfl, rfl⟩
      go_wp2_with fail
      go_ret
      refine ⟨by rw [HT2.out]; rfl, Moved.refl _ _, ?_⟩
      rw [HT2.out, if_neg (by decide)]
      exact HH.out
    · have HT2 := Lib.hid (HT.out.trans (decide_eq_true (by omega)))
      go_enter Tryz.func72, Tryz.ntmps72
      go_wp2_with fail
      refine (HI.out _).mono ?_
      rintro e w1 ⟨rfl, rfl⟩
      go_wp2_with fail
      go_ret
      refine ⟨by rw [HT2.out]; rfl, Moved.set _ _ _ _, ?_⟩
      rw [HT2.out, if_pos rfl]
      exact HH.out.moved (Moved.set _ _ _ _) (by have := HH.out.blk.set_ 0 (.int .i64 ((k : Int) + 1)); simpa using this) (by omega)
  · have ht : takeB g.data.toList s k = false := by unfold takeB; rw [dif_neg hl]
    have HT := Lib.hid ht
    have hkn : ((k : Int) == (s.size : Int)) = true := beq_iff_eq.2 (by omega)
    clear ht
    go_enter Tryz.func72, Tryz.ntmps72
    go_wp2_with fail
    go_ret
    refine ⟨by rw [HT.out]; rfl, Moved.refl _ _, ?_⟩
    rw [HT.out, if_neg (by decide)]
    exact HH.out
/-- how many digits stand at a place -/
def digN (s : ByteArray) : Nat → Nat → Nat
  | 0, _ => 0
  | f + 1, k => if takeB [48, 49, 50, 51, 52, 53, 54, 55, 56, 57] s k = true then 1 + digN s f (k + 1) else 0
theorem take_lt {g : List UInt8} {s : ByteArray} {k : Nat} (h : takeB g s k = true) : k < s.size := by
  unfold takeB at h
  split at h
  · assumption
  · cases h
theorem digN_more (s : ByteArray) : ∀ f k, s.size - k ≤ f → digN s f k = digN s (s.size - k) k := by
  intro f
  induction f with
  | zero => intro k h; rw [show s.size - k = 0 by omega]
  | succ f ih =>
    intro k h
    by_cases ht : takeB [48, 49, 50, 51, 52, 53, 54, 55, 56, 57] s k = true
    · have hl := take_lt ht
      rw [show s.size - k = (s.size - (k + 1)) + 1 by omega]
      unfold digN
      rw [if_pos ht, if_pos ht, ih (k + 1) (by omega)]
    · unfold digN
      rw [if_neg ht]
      split
      · rfl
      · rw [if_neg ht]
def digs (s : ByteArray) (k : Nat) : Nat := digN s (s.size - k) k
theorem digs_no {s : ByteArray} {k : Nat} (h : takeB [48, 49, 50, 51, 52, 53, 54, 55, 56, 57] s k = false) : digs s k = 0 := by
  unfold digs
  cases hq : s.size - k with
  | zero => rfl
  | succ f => unfold digN; rw [h]; rfl
theorem digs_yes {s : ByteArray} {k : Nat} (h : takeB [48, 49, 50, 51, 52, 53, 54, 55, 56, 57] s k = true) : digs s k = 1 + digs s (k + 1) := by
  have hl := take_lt h
  unfold digs
  rw [show s.size - k = (s.size - (k + 1)) + 1 by omega]
  conv => lhs; unfold digN
  rw [if_pos h]
theorem digs_le (s : ByteArray) (k : Nat) (h : k ≤ s.size) : k + digs s k ≤ s.size := by
  obtain ⟨f, hf⟩ : ∃ f, s.size - k = f := ⟨_, rfl⟩
  induction f generalizing k with
  | zero =>
    cases ht : takeB [48, 49, 50, 51, 52, 53, 54, 55, 56, 57] s k with
    | false => rw [digs_no ht]; omega
    | true => have := take_lt ht; omega
  | succ f ih =>
    cases ht : takeB [48, 49, 50, 51, 52, 53, 54, 55, 56, 57] s k with
    | false => rw [digs_no ht]; omega
    | true => rw [digs_yes ht]; have := ih (k + 1) (by omega) (by omega); omega
abbrev tens : ByteArray := ⟨#[48, 49, 50, 51, 52, 53, 54, 55, 56, 57]⟩
def DigsP (B S : Nat) (s : ByteArray) (k : Nat) (w : World) (e : Ending) (w' : World) : Prop :=
  e = .returned (.int .i64 (digs s k : Int)) ∧ Moved B w w' ∧ At w' B S s (k + digs s k)
set_option maxRecDepth 100000 in
theorem digs_any (B S C : Nat) (s : ByteArray) (k : Nat) (w : World) (h : At w B S s k) (hsz : s.size ≤ 9223372036854775806) (hC : C ≠ B) (hc : w.cell? ⟨C, 0, none⟩ = some (.func (.func 72) #[] #[.pointer (some ⟨B, 0, none⟩), .pointer (some ⟨S, 0, none⟩)])) :
    Calls Tryz.prog 73 #[.pointer (some ⟨C, 0, none⟩)] w (DigsP B S s k w) := by
  have HH := Lib.hid h
  have HC := Lib.hid (fun W (hW : Moved B w W) => (hW.cell hC).trans hc)
  have HT := Lib.hid (fun j W (hW : At W B S s j) => take_any B S tens s j W hW hsz)
  have hk := h.le
  have HL := Lib.hid (digs_le s k hk)
  clear h hc
  go_enter Tryz.func73, Tryz.ntmps73
  go_wp2_with fail
  go_loopg [2] (s.size - k) (fun g s2 wx => ∃ j : Nat, j + g = s.size - k ∧ s2 = .int .i64 j ∧ Hid (At wx B S s (k + j)) ∧ Hid (Moved B w wx) ∧ Hid (digs s k = j + digs s (k + j)))
  case atStart => exact ⟨0, by omega, rfl, HH, Moved.refl _ _, by show _ = _; simp⟩
  case round =>
    obtain ⟨j, hjg, rfl, HA, HM, HD⟩ := hrel
    have hc := HC.out _ HM.out
    obtain ⟨tb, htb⟩ : ∃ tb, takeB [48, 49, 50, 51, 52, 53, 54, 55, 56, 57] s (k + j) = tb := ⟨_, rfl⟩
    have HTJ := HT.out (k + j) _ HA.out
    have e0 : tens.data.toList = [48, 49, 50, 51, 52, 53, 54, 55, 56, 57] := rfl
    unfold TakeP at HTJ
    rw [e0, htb] at HTJ
    have HTB := Lib.hid htb
    have HJ := Lib.hid HTJ
    clear htb HTJ
    cases tb with
    | true =>
      have hl := take_lt HTB.out
      obtain ⟨g, rfl⟩ : ∃ g, gk = g + 1 := ⟨gk - 1, by omega⟩
      go_wp2_with fail
      refine (HJ.out).mono ?_
      rintro e w1 ⟨rfl, hm1, ha1⟩
      have HM1 := Lib.hid (HM.out.trans hm1)
      have HA1 := Lib.hid ha1
      clear hm1 ha1
      go_wp2_with fail
      go_roundg g
      case measure => omega
      case rel => exact ⟨j + 1, by omega, by go_num, HA1, HM1, by show _ = _; rw [HD.out, digs_yes HTB.out, Nat.add_assoc k j 1]; omega⟩
    | false =>
      have HE : Hid (digs s k = j) := by show _ = _; rw [HD.out, digs_no HTB.out]; rfl
      go_wp2_with fail
      refine (HJ.out).mono ?_
      rintro e w1 ⟨rfl, hm1, ha1⟩
      have HM1 := Lib.hid (HM.out.trans hm1)
      have HA1 := Lib.hid ha1
      clear hm1 ha1
      go_wp2_with fail
      go_ret
      exact ⟨by rw [HE.out]; rfl, HM1.out, by rw [HE.out]; exact HA1.out⟩
end Go.Proofs.YtaggmakaceafgaaGreatDoor

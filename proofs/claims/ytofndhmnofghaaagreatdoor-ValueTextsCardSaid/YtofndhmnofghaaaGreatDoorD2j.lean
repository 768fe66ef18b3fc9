/- Lemmas. No condition. -/
import Derived.Test.YtofndhmnofghaaaGreatDoorC2j
import Derived.Laws.EntriesVeiled
namespace Go.Proofs.YtofndhmnofghaaaGreatDoor
open Go.RowKit Ieee
set_option linter.unusedVariables false

/-! isDecimal: the closures that go through a text -/
/-- one block alone is changed -/
structure Moved (B : Nat) (w w' : World) : Prop where
  os : w'.os = w.os
  tape : w'.tape = w.tape
  output : w'.output = w.output
  size : w'.heap.size = w.heap.size
  block : ∀ k, k ≠ B → w'.heap[k]? = w.heap[k]?
theorem Moved.refl (B : Nat) (w : World) : Moved B w w := ⟨rfl, rfl, rfl, rfl, fun _ _ => rfl⟩
theorem Moved.trans {B : Nat} {a b c : World} (h : Moved B a b) (g : Moved B b c) : Moved B a c :=
  ⟨g.os.trans h.os, g.tape.trans h.tape, g.output.trans h.output, g.size.trans h.size, fun k hk => (g.block k hk).trans (h.block k hk)⟩
theorem Moved.set (B : Nat) (w : World) (v : Value) : Moved B w (w.setCell ⟨B, 0, none⟩ v) := by
  refine ⟨rfl, rfl, rfl, by simp, fun k hk => ?_⟩
  simp [World.setCell, Array.getElem?_modify, Ne.symm hk]
theorem Moved.drewN {B : Nat} {a b : World} (h : Moved B a b) (n : Nat) : Moved B a (b.drewN n) := ⟨h.os, h.tape, h.output, h.size, h.block⟩
theorem Moved.cell {B : Nat} {w w' : World} (h : Moved B w w') {S o : Nat} (hS : S ≠ B) : w'.cell? ⟨S, o, none⟩ = w.cell? ⟨S, o, none⟩ := World.cell?_of_block (a := ⟨S, o, none⟩) (h.block S hS)
theorem Moved.below {B : Nat} {w0 w w' : World} (h : Moved B w w') (hb : Below B w0 w) : Below B w0 w' :=
  hb.trans ⟨h.os, h.tape, h.output, by rw [h.size]; exact Nat.le_refl _, fun k hk => h.block k (by omega)⟩
/-- where the place stands, and the text -/
structure At (w : World) (B S : Nat) (s : ByteArray) (k : Nat) : Prop where
  blk : Blk w B 3 #[.int .i64 (k : Int)]
  txt : w.cell? ⟨S, 0, none⟩ = some (.string s)
  ne : S ≠ B
  le : k ≤ s.size
theorem At.moved {w w' : World} {B S : Nat} {s : ByteArray} {k j : Nat} (h : At w B S s k) (hm : Moved B w w') (hb : Blk w' B 3 #[.int .i64 (j : Int)]) (hj : j ≤ s.size) : At w' B S s j :=
  ⟨hb, (hm.cell h.ne).trans h.txt, h.ne, hj⟩
def takeB (g : List UInt8) (s : ByteArray) (k : Nat) : Bool := if h : k < s.size then decide (0 ≤ Lib.indexByte g s[k]) else false
def TakeP (B S : Nat) (g : ByteArray) (s : ByteArray) (k : Nat) (w : World) (e : Ending) (w' : World) : Prop :=
  e = .returned (.bool (takeB g.data.toList s k)) ∧ Moved B w w' ∧ At w' B S s (if takeB g.data.toList s k = true then k + 1 else k)
set_option maxRecDepth 100000 in
theorem take_any (B S : Nat) (g s : ByteArray) (k : Nat) (w : World) (h : At w B S s k) (hsz : s.size ≤ 9223372036854775806) :
    Calls Tryz.prog 30 #[.string g, .pointer (some ⟨B, 0, none⟩), .pointer (some ⟨S, 0, none⟩)] w (TakeP B S g s k w) := by
  have c0 := h.blk.cell 0
  have c1 := h.blk.frozen 0
  have c2 := h.txt
  simp at c0
  have hne : (B == S) = false := by simp; exact fun e => h.ne e.symm
  have hne2 : (S == B) = false := by simp; exact h.ne
  have HH := Lib.hid h
  have hk := h.le
  clear h
  by_cases hl : k < s.size
  · obtain ⟨z, hz⟩ : ∃ z, Lib.indexByte g.data.toList s[k] = z := ⟨_, rfl⟩
    have HI := Lib.hid (fun W => (Tryz.strings_IndexByte g (s[k].toNat : Int) W).mono (R' := fun e w' => e = .returned (.int .i64 z) ∧ W = w') fun e w' h => by
      refine ⟨?_, h.2.symm⟩
      rw [h.1, Int.toNat_natCast, ← hz]
      congr 4
      simp)
    have ht : takeB g.data.toList s k = decide (0 ≤ z) := by unfold takeB; rw [dif_pos hl, hz]
    have HT := Lib.hid ht
    have hkn : ((k : Int) == (s.size : Int)) = false := beq_eq_false_iff_ne.2 (by omega)
    clear hz ht
    by_cases h0 : z < 0
    · have HT2 := Lib.hid (HT.out.trans (decide_eq_false (by omega)))
      go_enter Tryz.func30, Tryz.ntmps30
      go_wp2_with fail
      refine (HI.out _).mono ?_
      rintro e w1 ⟨rfl, rfl⟩
      go_wp2_with fail
      go_ret
      refine ⟨by rw [HT2.out]; rfl, Moved.refl _ _, ?_⟩
      rw [HT2.out, if_neg (by decide)]
      exact HH.out
    · have HT2 := Lib.hid (HT.out.trans (decide_eq_true (by omega)))
      go_enter Tryz.func30, Tryz.ntmps30
      go_wp2_with fail
      refine (HI.out _).mono ?_
      rintro e w1 ⟨rfl, rfl⟩
      go_wp2_with fail
      go_ret
      refine ⟨by rw [HT2.out]; rfl, Moved.set _ _ _, ?_⟩
      rw [HT2.out, if_pos rfl]
      exact HH.out.moved (Moved.set _ _ _) (by have := HH.out.blk.set_ 0 (.int .i64 ((k : Int) + 1)); simpa using this) (by omega)
  · have ht : takeB g.data.toList s k = false := by unfold takeB; rw [dif_neg hl]
    have HT := Lib.hid ht
    have hkn : ((k : Int) == (s.size : Int)) = true := beq_iff_eq.2 (by omega)
    clear ht
    go_enter Tryz.func30, Tryz.ntmps30
    go_wp2_with fail
    go_ret
    refine ⟨by rw [HT.out]; rfl, Moved.refl _ _, ?_⟩
    rw [HT.out, if_neg (by decide)]
    exact HH.out
/-- how many digits stand at a place -/
def digN (s : ByteArray) : Nat → Nat → Nat
  | 0, _ => 0
  | f + 1, k => if takeB [48, 49, 50, 51, 52, 53, 54, 55, 56, 57] s k = true then 1 + digN s f (k + 1) else 0
theorem take_lt {g : List UInt8} {s : ByteArray} {k : Nat} (h : takeB g s k = true) : k < s.size := by
  unfold takeB at h
  split at h
  · assumption
  · cases h
theorem digN_more (s : ByteArray) : ∀ f k, s.size - k ≤ f → digN s f k = digN s (s.size - k) k := by
  intro f
  induction f with
  | zero => intro k h; rw [show s.size - k = 0 by omega]
  | succ f ih =>
    intro k h
    by_cases ht : takeB [48, 49, 50, 51, 52, 53, 54, 55, 56, 57] s k = true
    · have hl := take_lt ht
      rw [show s.size - k = (s.size - (k + 1)) + 1 by omega]
      unfold digN
      rw [if_pos ht, if_pos ht, ih (k + 1) (by omega)]
    · unfold digN
      rw [if_neg ht]
      split
      · rfl
      · rw [if_neg ht]
def digs (s : ByteArray) (k : Nat) : Nat := digN s (s.size - k) k
theorem digs_no {s : ByteArray} {k : Nat} (h : takeB [48, 49, 50, 51, 52, 53, 54, 55, 56, 57] s k = false) : digs s k = 0 := by
  unfold digs
  cases hq : s.size - k with
  | zero => rfl
  | succ f => unfold digN; rw [h]; rfl
theorem digs_yes {s : ByteArray} {k : Nat} (h : takeB [48, 49, 50, 51, 52, 53, 54, 55, 56, 57] s k = true) : digs s k = 1 + digs s (k + 1) := by
  have hl := take_lt h
  unfold digs
  rw [show s.size - k = (s.size - (k + 1)) + 1 by omega]
  conv => lhs; unfold digN
  rw [if_pos h]
theorem digs_le (s : ByteArray) (k : Nat) (h : k ≤ s.size) : k + digs s k ≤ s.size := by
  obtain ⟨f, hf⟩ : ∃ f, s.size - k = f := ⟨_, rfl⟩
  induction f generalizing k with
  | zero =>
    cases ht : takeB [48, 49, 50, 51, 52, 53, 54, 55, 56, 57] s k with
    | false => rw [digs_no ht]; omega
    | true => have := take_lt ht; omega
  | succ f ih =>
    cases ht : takeB [48, 49, 50, 51, 52, 53, 54, 55, 56, 57] s k with
    | false => rw [digs_no ht]; omega
    | true => rw [digs_yes ht]; have := ih (k + 1) (by omega) (by omega); omega
abbrev tens : ByteArray := ⟨#[48, 49, 50, 51, 52, 53, 54, 55, 56, 57]⟩
def DigsP (B S : Nat) (s : ByteArray) (k : Nat) (w : World) (e : Ending) (w' : World) : Prop :=
  e = .returned (.int .i64 (digs s k : Int)) ∧ Moved B w w' ∧ At w' B S s (k + digs s k)
set_option maxRecDepth 100000 in
theorem digs_any (B S C : Nat) (s : ByteArray) (k : Nat) (w : World) (h : At w B S s k) (hsz : s.size ≤ 9223372036854775806) (hC : C ≠ B) (hc : w.cell? ⟨C, 0, none⟩ = some (.func (.func 30) #[] #[.pointer (some ⟨B, 0, none⟩), .pointer (some ⟨S, 0, none⟩)])) :
    Calls Tryz.prog 32 #[.pointer (some ⟨C, 0, none⟩)] w (DigsP B S s k w) := by
  have HH := Lib.hid h
  have HC := Lib.hid (fun W (hW : Moved B w W) => (hW.cell hC).trans hc)
  have HT := Lib.hid (fun j W (hW : At W B S s j) => take_any B S tens s j W hW hsz)
  have hk := h.le
  have HL := Lib.hid (digs_le s k hk)
  clear h hc
  go_enter Tryz.func32, Tryz.ntmps32
  go_wp2_with fail
  go_loopg [2] (s.size - k) (fun g s2 wx => ∃ j : Nat, j + g = s.size - k ∧ s2 = .int .i64 j ∧ Hid (At wx B S s (k + j)) ∧ Hid (Moved B w wx) ∧ Hid (digs s k = j + digs s (k + j)))
  case atStart => exact ⟨0, by omega, rfl, HH, Moved.refl _ _, by show _ = _; simp⟩
  case round =>
    obtain ⟨j, hjg, rfl, HA, HM, HD⟩ := hrel
    have hc := HC.out _ HM.out
    obtain ⟨tb, htb⟩ : ∃ tb, takeB [48, 49, 50, 51, 52, 53, 54, 55, 56, 57] s (k + j) = tb := ⟨_, rfl⟩
    have HTJ := HT.out (k + j) _ HA.out
    have e0 : tens.data.toList = [48, 49, 50, 51, 52, 53, 54, 55, 56, 57] := rfl
    unfold TakeP at HTJ
    rw [e0, htb] at HTJ
    have HTB := Lib.hid htb
    have HJ := Lib.hid HTJ
    clear htb HTJ
    cases tb with
    | true =>
      have hl := take_lt HTB.out
      obtain ⟨g, rfl⟩ : ∃ g, gk = g + 1 := ⟨gk - 1, by omega⟩
      go_wp2_with fail
      refine (HJ.out).mono ?_
      rintro e w1 ⟨rfl, hm1, ha1⟩
      have HM1 := Lib.hid (HM.out.trans hm1)
      have HA1 := Lib.hid ha1
      clear hm1 ha1
      go_wp2_with fail
      go_roundg g
      case measure => omega
      case rel => exact ⟨j + 1, by omega, by go_num, HA1, HM1, by show _ = _; rw [HD.out, digs_yes HTB.out, Nat.add_assoc k j 1]; omega⟩
    | false =>
      have HE : Hid (digs s k = j) := by show _ = _; rw [HD.out, digs_no HTB.out]; rfl
      go_wp2_with fail
      refine (HJ.out).mono ?_
      rintro e w1 ⟨rfl, hm1, ha1⟩
      have HM1 := Lib.hid (HM.out.trans hm1)
      have HA1 := Lib.hid ha1
      clear hm1 ha1
      go_wp2_with fail
      go_ret
      exact ⟨by rw [HE.out]; rfl, HM1.out, by rw [HE.out]; exact HA1.out⟩
end Go.Proofs.YtofndhmnofghaaaGreatDoor

namespace Go.Proofs.YtofndhmnofghaaaGreatDoor
open Go.RowKit Ieee
set_option linter.unusedVariables false

/-! isDecimal, as a function -/
def nxt (b : Bool) (k : Nat) : Nat := if b = true then k + 1 else k
def endB (s : ByteArray) (c : Nat) : Bool :=
  match takeB [101, 69] s c with
  | false => (c : Int) == (s.size : Int)
  | true => if digs s (nxt (takeB [43, 45] s (c + 1)) (c + 1)) = 0 then false else ((nxt (takeB [43, 45] s (c + 1)) (c + 1) + digs s (nxt (takeB [43, 45] s (c + 1)) (c + 1)) : Nat) : Int) == (s.size : Int)
def decB (s : ByteArray) : Bool :=
  match takeB [46] s (nxt (takeB [45] s 0) 0 + digs s (nxt (takeB [45] s 0) 0)) with
  | false => if digs s (nxt (takeB [45] s 0) 0) = 0 then false else endB s (nxt (takeB [45] s 0) 0 + digs s (nxt (takeB [45] s 0) 0))
  | true => if digs s (nxt (takeB [45] s 0) 0) + digs s (nxt (takeB [45] s 0) 0 + digs s (nxt (takeB [45] s 0) 0) + 1) = 0 then false
      else endB s (nxt (takeB [45] s 0) 0 + digs s (nxt (takeB [45] s 0) 0) + 1 + digs s (nxt (takeB [45] s 0) 0 + digs s (nxt (takeB [45] s 0) 0) + 1))
abbrev takeV (w : World) : Value := .func (.func 30) #[] #[.pointer (some ⟨w.heap.size + 1, 0, none⟩), .pointer (some ⟨w.heap.size, 0, none⟩)]
/-- the state of the call -/
structure Dec (w : World) (s : ByteArray) (k : Nat) (W : World) : Prop where
  at_ : At W (w.heap.size + 1) w.heap.size s k
  fn : W.cell? ⟨w.heap.size + 1 + 1, 0, none⟩ = some (takeV w)
  bel : Below w.heap.size w W
theorem Dec.moved {w W W' : World} {s : ByteArray} {k j : Nat} (h : Dec w s k W) (hm : Moved (w.heap.size + 1) W W') (ha : At W' (w.heap.size + 1) w.heap.size s j) : Dec w s j W' :=
  ⟨ha, (hm.cell (by omega)).trans h.fn, h.bel.trans ⟨hm.os, hm.tape, hm.output, by have := h.bel.size; rw [hm.size]; omega, fun k hk => hm.block k (by omega)⟩⟩
theorem Dec.take {w W : World} {s : ByteArray} {k : Nat} (h : Dec w s k W) (g : ByteArray) (hsz : s.size ≤ 9223372036854775806) :
    Calls Tryz.prog 30 #[.string g, .pointer (some ⟨w.heap.size + 1, 0, none⟩), .pointer (some ⟨w.heap.size, 0, none⟩)] W fun e W' => e = .returned (.bool (takeB g.data.toList s k)) ∧ Dec w s (nxt (takeB g.data.toList s k) k) W' :=
  (take_any _ _ g s k W h.at_ hsz).mono fun e W' ⟨he, hm, ha⟩ => ⟨he, h.moved hm ha⟩
theorem Dec.digs {w W : World} {s : ByteArray} {k : Nat} (h : Dec w s k W) (hsz : s.size ≤ 9223372036854775806) :
    Calls Tryz.prog 32 #[.pointer (some ⟨w.heap.size + 1 + 1, 0, none⟩)] W fun e W' => e = .returned (.int .i64 (digs s k : Int)) ∧ Dec w s (k + Go.Proofs.YtofndhmnofghaaaGreatDoor.digs s k) W' :=
  (digs_any _ _ _ s k W h.at_ hsz (by omega) h.fn).mono fun e W' ⟨he, hm, ha⟩ => ⟨he, h.moved hm ha⟩
theorem Dec.cells {w W : World} {s : ByteArray} {k : Nat} (h : Dec w s k W) : W.cell? ⟨w.heap.size + 1, 0, none⟩ = some (.int .i64 (k : Int)) ∧ W.cell? ⟨w.heap.size, 0, none⟩ = some (.string s) ∧ W.cell? ⟨w.heap.size + 1 + 1, 0, none⟩ = some (takeV w) :=
  ⟨h.at_.blk.cell 0, h.at_.txt, h.fn⟩
set_option maxRecDepth 100000 in
set_option maxHeartbeats 2000000 in
theorem dec_any (s : ByteArray) (hsz : s.size ≤ 9223372036854775806) (w : World) : Calls Tryz.prog 24 #[.string s] w fun e w' => e = .returned (.bool (decB s)) ∧ Below w.heap.size w w' := by
  have h0 : Dec w s 0 (((w.alloc (.cells #[.string s] 9)).alloc (.cells #[.int .i64 0] 3)).alloc (.cells #[takeV w] 44)) := by
    refine ⟨⟨?_, ?_, by omega, by omega⟩, ?_, (((Below.refl _ w).alloc (Nat.le_refl _) _).alloc (by simp) _).alloc (by simp; omega) _⟩
    · have := (Blk.new (w.alloc (.cells #[.string s] 9)) 3 #[.int .i64 ((0 : Nat) : Int)]).alloc (.cells #[takeV w] 44)
      simpa using this
    · exact (((Blk.new w 9 #[.string s]).alloc _).alloc _).cell 0
    · have := (Blk.new ((w.alloc (.cells #[.string s] 9)).alloc (.cells #[.int .i64 0] 3)) 44 #[takeV w]).cell 0
      simpa using this
  have H0 := Lib.hid h0
  clear h0
  go_enter Tryz.func24, Tryz.ntmps24
  go_wp2_with fail
  have HT1 := Lib.hid (H0.out.take ⟨#[45]⟩ hsz)
  have e0 : (⟨#[45]⟩ : ByteArray).data.toList = [45] := rfl
  rw [e0] at HT1
  clear e0
  obtain ⟨a, ha⟩ : ∃ a, nxt (takeB [45] s 0) 0 = a := ⟨_, rfl⟩
  obtain ⟨t1, ht1⟩ : ∃ t1, takeB [45] s 0 = t1 := ⟨_, rfl⟩
  have HA := Lib.hid ha
  rw [ha, ht1] at HT1
  have HTT := Lib.hid ht1
  clear ha ht1
  obtain ⟨n1, hn1⟩ : ∃ n1, digs s a = n1 := ⟨_, rfl⟩
  have HN1 := Lib.hid hn1
  clear hn1
  obtain ⟨td, htd⟩ : ∃ td, takeB [46] s (a + n1) = td := ⟨_, rfl⟩
  have HTD := Lib.hid htd
  clear htd
  have hln : n1 ≤ s.size := by
    have := digs_le s a
    rw [HN1.out] at this
    by_cases hq : a ≤ s.size
    · have := this hq; omega
    · have : nxt (takeB [45] s 0) 0 ≤ s.size := by
        cases hq2 : takeB [45] s 0 with
        | false => exact Nat.zero_le _
        | true => have := take_lt hq2; show 0 + 1 ≤ s.size; omega
      rw [HA.out] at this; omega
  refine (HT1.out).mono ?_
  rintro e w1 ⟨rfl, hd1⟩
  have H1 := Lib.hid hd1
  have HG1 := Lib.hid (hd1.digs hsz)
  rw [HN1.out] at HG1
  clear hd1
  obtain ⟨c1, c2, c3⟩ := H1.out.cells
  go_wp2_with fail
  refine (HG1.out).mono ?_
  rintro e w2 ⟨rfl, hd2⟩
  have H2 := Lib.hid hd2
  have HT2 := Lib.hid (hd2.take ⟨#[46]⟩ hsz)
  have e2 : (⟨#[46]⟩ : ByteArray).data.toList = [46] := rfl
  rw [e2, HTD.out] at HT2
  clear hd2 e2 c1 c2 c3
  obtain ⟨c1, c2, c3⟩ := H2.out.cells
  cases td with
  | false =>
    by_cases hz : n1 = 0
    · subst hz
      go_wp2_with fail
      refine (HT2.out).mono ?_
      rintro e w3 ⟨rfl, hd3⟩
      have H3 := Lib.hid hd3
      clear hd3
      go_wp2_with fail
      go_ret
      refine ⟨?_, H3.out.bel⟩
      unfold decB
      rw [HA.out, HN1.out, HTD.out]
      rfl
    · have hz2 : ((n1 : Int) == 0) = false := beq_eq_false_iff_ne.2 (by omega)
      have HFIN : Hid (decB s = endB s (a + n1)) := by
        show decB s = _
        unfold decB
        rw [HA.out, HN1.out, HTD.out]
        show (if n1 = 0 then _ else _) = _
        rw [if_neg hz]
      go_wp2_with fail
      refine (HT2.out).mono ?_
      rintro e w3 ⟨rfl, hd3⟩
      have H3 := Lib.hid (show Dec w s (a + n1) w3 from hd3)
      clear hd3 c1 c2 c3
      obtain ⟨c1, c2, c3⟩ := H3.out.cells
      obtain ⟨cc, hcc⟩ : ∃ cc, a + n1 = cc := ⟨_, rfl⟩
      rw [hcc] at H3 HFIN c1
      clear hcc
      have HE1 := Lib.hid (H3.out.take ⟨#[101, 69]⟩ hsz)
      obtain ⟨te, hte⟩ : ∃ te, takeB [101, 69] s cc = te := ⟨_, rfl⟩
      have HTE := Lib.hid hte
      have e1 : (⟨#[101, 69]⟩ : ByteArray).data.toList = [101, 69] := rfl
      rw [e1, hte] at HE1
      clear hte e1
      cases te with
      | false =>
        go_wp2_with fail
        refine (HE1.out).mono ?_
        rintro e w8 ⟨rfl, hd8⟩
        have H8 := Lib.hid hd8
        clear hd8
        obtain ⟨c1, c2, c3⟩ := H8.out.cells
        have hnx : nxt false cc = cc := rfl
        rw [hnx] at c1
        go_wp2_with fail
        go_ret
        refine ⟨?_, H8.out.bel⟩
        rw [HFIN.out]
        unfold endB
        rw [HTE.out]
        rfl
      | true =>
        go_wp2_with fail
        refine (HE1.out).mono ?_
        rintro e w8 ⟨rfl, hd8⟩
        have H8 := Lib.hid (show Dec w s (cc + 1) w8 from hd8)
        clear hd8
        obtain ⟨c1, c2, c3⟩ := H8.out.cells
        have HE2 := Lib.hid (H8.out.take ⟨#[43, 45]⟩ hsz)
        have e2 : (⟨#[43, 45]⟩ : ByteArray).data.toList = [43, 45] := rfl
        rw [e2] at HE2
        obtain ⟨d, hd⟩ : ∃ d, nxt (takeB [43, 45] s (cc + 1)) (cc + 1) = d := ⟨_, rfl⟩
        obtain ⟨ts, hts⟩ : ∃ ts, takeB [43, 45] s (cc + 1) = ts := ⟨_, rfl⟩
        have HD1 := Lib.hid hd
        rw [hd, hts] at HE2
        have HTS := Lib.hid hts
        clear hd hts e2
        go_wp2_with fail
        refine (HE2.out).mono ?_
        rintro e w9 ⟨rfl, hd9⟩
        have H9 := Lib.hid hd9
        clear hd9 c1 c2 c3
        obtain ⟨c1, c2, c3⟩ := H9.out.cells
        have HE3 := Lib.hid (H9.out.digs hsz)
        obtain ⟨n3, hn3⟩ : ∃ n3, digs s d = n3 := ⟨_, rfl⟩
        rw [hn3] at HE3
        have HN3 := Lib.hid hn3
        clear hn3
        by_cases hz3 : n3 = 0
        · subst hz3
          go_wp2_with fail
          refine (HE3.out).mono ?_
          rintro e w10 ⟨rfl, hd10⟩
          have H10 := Lib.hid hd10
          clear hd10
          go_wp2_with fail
          go_ret
          refine ⟨?_, H10.out.bel⟩
          rw [HFIN.out]
          unfold endB
          rw [HTE.out]
          show _ = Ending.returned (.bool (if digs s (nxt (takeB [43, 45] s (cc + 1)) (cc + 1)) = 0 then _ else _))
          rw [HD1.out, HN3.out, if_pos rfl]
          rfl
        · have hz4 : ((n3 : Int) == 0) = false := beq_eq_false_iff_ne.2 (by omega)
          go_wp2_with fail
          refine (HE3.out).mono ?_
          rintro e w10 ⟨rfl, hd10⟩
          have H10 := Lib.hid hd10
          clear hd10 c1 c2 c3
          obtain ⟨c1, c2, c3⟩ := H10.out.cells
          go_wp2_with fail
          go_ret
          refine ⟨?_, H10.out.bel⟩
          rw [HFIN.out]
          unfold endB
          rw [HTE.out]
          show _ = Ending.returned (.bool (if digs s (nxt (takeB [43, 45] s (cc + 1)) (cc + 1)) = 0 then _ else _))
          rw [HD1.out, HN3.out, if_neg hz3]
          rfl
  | true =>
    obtain ⟨n2, hn2⟩ : ∃ n2, digs s (a + n1 + 1) = n2 := ⟨_, rfl⟩
    have HN2 := Lib.hid hn2
    clear hn2
    have hl2 : a + n1 + 1 + n2 ≤ s.size := by
      have := take_lt HTD.out
      have := digs_le s (a + n1 + 1) (by omega)
      rw [HN2.out] at this
      exact this
    go_wp2_with fail
    refine (HT2.out).mono ?_
    rintro e w3 ⟨rfl, hd3⟩
    have H3 := Lib.hid (show Dec w s (a + n1 + 1) w3 from hd3)
    have HG2 := Lib.hid (H3.out.digs hsz)
    rw [HN2.out] at HG2
    clear hd3 c1 c2 c3
    obtain ⟨c1, c2, c3⟩ := H3.out.cells
    by_cases hz : n1 + n2 = 0
    · obtain rfl : n1 = 0 := by omega
      obtain rfl : n2 = 0 := by omega
      go_wp2_with fail
      refine (HG2.out).mono ?_
      rintro e w4 ⟨rfl, hd4⟩
      have H4 := Lib.hid hd4
      clear hd4
      go_wp2_with fail
      go_ret
      refine ⟨?_, H4.out.bel⟩
      unfold decB
      rw [HA.out, HN1.out, HTD.out]
      show _ = Ending.returned (.bool (if 0 + digs s (a + 0 + 1) = 0 then _ else _))
      rw [HN2.out, if_pos rfl]
      rfl
    · have hz2 : ((n1 : Int) + (n2 : Int) == 0) = false := beq_eq_false_iff_ne.2 (by omega)
      have HFIN : Hid (decB s = endB s (a + n1 + 1 + n2)) := by
        show decB s = _
        unfold decB
        rw [HA.out, HN1.out, HTD.out]
        show (if n1 + digs s (a + n1 + 1) = 0 then _ else endB s (a + n1 + 1 + digs s (a + n1 + 1))) = _
        rw [HN2.out, if_neg hz]
      go_wp2_with fail
      refine (HG2.out).mono ?_
      rintro e w4 ⟨rfl, hd4⟩
      have H4 := Lib.hid hd4
      clear hd4 c1 c2 c3
      obtain ⟨c1, c2, c3⟩ := H4.out.cells
      obtain ⟨cc, hcc⟩ : ∃ cc, a + n1 + 1 + n2 = cc := ⟨_, rfl⟩
      rw [hcc] at H4 HFIN c1
      clear hcc
      have HE1 := Lib.hid (H4.out.take ⟨#[101, 69]⟩ hsz)
      obtain ⟨te, hte⟩ : ∃ te, takeB [101, 69] s cc = te := ⟨_, rfl⟩
      have HTE := Lib.hid hte
      have e1 : (⟨#[101, 69]⟩ : ByteArray).data.toList = [101, 69] := rfl
      rw [e1, hte] at HE1
      clear hte e1
      cases te with
      | false =>
        go_wp2_with fail
        refine (HE1.out).mono ?_
        rintro e w8 ⟨rfl, hd8⟩
        have H8 := Lib.hid hd8
        clear hd8
        obtain ⟨c1, c2, c3⟩ := H8.out.cells
        have hnx : nxt false cc = cc := rfl
        rw [hnx] at c1
        go_wp2_with fail
        go_ret
        refine ⟨?_, H8.out.bel⟩
        rw [HFIN.out]
        unfold endB
        rw [HTE.out]
        rfl
      | true =>
        go_wp2_with fail
        refine (HE1.out).mono ?_
        rintro e w8 ⟨rfl, hd8⟩
        have H8 := Lib.hid (show Dec w s (cc + 1) w8 from hd8)
        clear hd8
        obtain ⟨c1, c2, c3⟩ := H8.out.cells
        have HE2 := Lib.hid (H8.out.take ⟨#[43, 45]⟩ hsz)
        have e2 : (⟨#[43, 45]⟩ : ByteArray).data.toList = [43, 45] := rfl
        rw [e2] at HE2
        obtain ⟨d, hd⟩ : ∃ d, nxt (takeB [43, 45] s (cc + 1)) (cc + 1) = d := ⟨_, rfl⟩
        obtain ⟨ts, hts⟩ : ∃ ts, takeB [43, 45] s (cc + 1) = ts := ⟨_, rfl⟩
        have HD1 := Lib.hid hd
        rw [hd, hts] at HE2
        have HTS := Lib.hid hts
        clear hd hts e2
        go_wp2_with fail
        refine (HE2.out).mono ?_
        rintro e w9 ⟨rfl, hd9⟩
        have H9 := Lib.hid hd9
        clear hd9 c1 c2 c3
        obtain ⟨c1, c2, c3⟩ := H9.out.cells
        have HE3 := Lib.hid (H9.out.digs hsz)
        obtain ⟨n3, hn3⟩ : ∃ n3, digs s d = n3 := ⟨_, rfl⟩
        rw [hn3] at HE3
        have HN3 := Lib.hid hn3
        clear hn3
        by_cases hz3 : n3 = 0
        · subst hz3
          go_wp2_with fail
          refine (HE3.out).mono ?_
          rintro e w10 ⟨rfl, hd10⟩
          have H10 := Lib.hid hd10
          clear hd10
          go_wp2_with fail
          go_ret
          refine ⟨?_, H10.out.bel⟩
          rw [HFIN.out]
          unfold endB
          rw [HTE.out]
          show _ = Ending.returned (.bool (if digs s (nxt (takeB [43, 45] s (cc + 1)) (cc + 1)) = 0 then _ else _))
          rw [HD1.out, HN3.out, if_pos rfl]
          rfl
        · have hz4 : ((n3 : Int) == 0) = false := beq_eq_false_iff_ne.2 (by omega)
          go_wp2_with fail
          refine (HE3.out).mono ?_
          rintro e w10 ⟨rfl, hd10⟩
          have H10 := Lib.hid hd10
          clear hd10 c1 c2 c3
          obtain ⟨c1, c2, c3⟩ := H10.out.cells
          go_wp2_with fail
          go_ret
          refine ⟨?_, H10.out.bel⟩
          rw [HFIN.out]
          unfold endB
          rw [HTE.out]
          show _ = Ending.returned (.bool (if digs s (nxt (takeB [43, 45] s (cc + 1)) (cc + 1)) = 0 then _ else _))
          rw [HD1.out, HN3.out, if_neg hz3]
          rfl
end Go.Proofs.YtofndhmnofghaaaGreatDoor

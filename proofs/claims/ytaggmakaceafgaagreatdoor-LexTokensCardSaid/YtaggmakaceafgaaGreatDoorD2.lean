import Derived.Test.YtaggmakaceafgaaGreatDoorD1
import Derived.Laws.EntriesVeiled
namespace Go.Proofs.YtaggmakaceafgaaGreatDoor
open Go.RowKit Ieee
set_option linter.unusedVariables false

/-! isDecimal, as a function -/
def nxt (b : Bool) (k : Nat) : Nat := if b = true then k + 1 else k
def endB (s : ByteArray) (c : Nat) : Bool :=
  match takeB [101, 69] s c with
  | false => (c : Int) == (s.size : Int)
  | true => if digs s (nxt (takeB [43, 45] s (c + 1)) (c + 1)) = 0 then false else ((nxt (takeB [43, 45] s (c + 1)) (c + 1) + digs s (nxt (takeB [43, 45] s (c + 1)) (c + 1)) : Nat) : Int) == (s.size : Int)
def decB (s : ByteArray) : Bool :=
  match takeB [46] s (nxt (takeB [45] s 0) 0 + digs s (nxt (takeB [45] s 0) 0)) with
  | false => if digs s (nxt (takeB [45] s 0) 0) = 0 then false else endB s (nxt (takeB [45] s 0) 0 + digs s (nxt (takeB [45] s 0) 0))
  | true => if digs s (nxt (takeB [45] s 0) 0) + digs s (nxt (takeB [45] s 0) 0 + digs s (nxt (takeB [45] s 0) 0) + 1) = 0 then false
      else endB s (nxt (takeB [45] s 0) 0 + digs s (nxt (takeB [45] s 0) 0) + 1 + digs s (nxt (takeB [45] s 0) 0 + digs s (nxt (takeB [45] s 0) 0) + 1))
abbrev takeV (w : World) : Value := .func (.func 72) #[] #[.pointer (some ⟨w.heap.size + 1, 0, none⟩), .pointer (some ⟨w.heap.size, 0, none⟩)]
/-- the state of the call -/
structure Dec (w : World) (s : ByteArray) (k : Nat) (W : World) : Prop where
  at_ : At W (w.heap.size + 1) w.heap.size s k
  fn : W.cell? ⟨w.heap.size + 1 + 1, 0, none⟩ = some (takeV w)
  bel : Below w.heap.size w W
theorem Dec.moved {w W W' : World} {s : ByteArray} {k j : Nat} (h : Dec w s k W) (hm : Moved (w.heap.size + 1) W W') (ha : At W' (w.heap.size + 1) w.heap.size s j) : Dec w s j W' :=
  ⟨ha, (hm.cell (by omega)).trans h.fn, h.bel.trans ⟨hm.os, hm.tape, hm.output, by have := h.bel.size; rw [hm.size]; omega, fun k hk => hm.block k (by omega)⟩⟩
theorem Dec.take {w W : World} {s : ByteArray} {k : Nat} (h : Dec w s k W) (g : ByteArray) (hsz : s.size ≤ 9223372036854775806) :
    Calls Tryz.prog 72 #[.string g, .pointer (some ⟨w.heap.size + 1, 0, none⟩), .pointer (some ⟨w.heap.size, 0, none⟩)] W fun e W' => e = .returned (.bool (takeB g.data.toList s k)) ∧ Dec w s (nxt (takeB g.data.toList s k) k) W' :=
  (take_any _ _ g s k W h.at_ hsz).mono fun e W' ⟨he, hm, ha⟩ => ⟨he, h.moved hm ha⟩
theorem Dec.digs {w W : World} {s : ByteArray} {k : Nat} (h : Dec w s k W) (hsz : s.size ≤ 9223372036854775806) :
    Calls Tryz.prog 73 #[.pointer (some ⟨w.heap.size + 1 + 1, 0, none⟩)] W fun e W' => e = .returned (.int .i64 (digs s k : Int)) ∧ Dec w s (k + Go.Proofs.YtaggmakaceafgaaGreatDoor.digs s k) W' :=
  (digs_any _ _ _ s k W h.at_ hsz (by omega) h.fn).mono fun e W' ⟨he, hm, ha⟩ => ⟨he, h.moved hm ha⟩
theorem Dec.cells {w W : World} {s : ByteArray} {k : Nat} (h : Dec w s k W) : W.cell? ⟨w.heap.size + 1, 0, none⟩ = some (.int .i64 (k : Int)) ∧ W.cell? ⟨w.heap.size, 0, none⟩ = some (.string s) ∧ W.cell? ⟨w.heap.size + 1 + 1, 0, none⟩ = some (takeV w) :=
  ⟨h.at_.blk.cell 0, h.at_.txt, h.fn⟩
set_option maxRecDepth 100000 in
set_option maxHeartbeats 2000000 in
theorem dec_any (s : ByteArray) (hsz : s.size ≤ 9223372036854775806) (w : World) : Calls Tryz.prog 60 #[.string s] w fun e w' => e = .returned (.bool (decB s)) ∧ Below w.heap.size w w' := by
  have h0 : Dec w s 0 (((w.alloc (.cells #[.string s] 9)).alloc (.cells #[.int .i64 0] 3)).alloc (.cells #[takeV w] 33)) := by
    refine ⟨⟨?_, ?_, by omega, by omega⟩, ?_, (((Below.refl _ w).alloc (Nat.le_refl _) _).alloc (by simp) _).alloc (by simp; omega) _⟩
    · have := (Blk.new (w.alloc (.cells #[.string s] 9)) 3 #[.int .i64 ((0 : Nat) : Int)]).alloc (.cells #[takeV w] 33)
      simpa using this
    · exact (((Blk.new w 9 #[.string s]).alloc _).alloc _).cell 0
    · have := (Blk.new ((w.alloc (.cells #[.string s] 9)).alloc (.cells #[.int .i64 0] 3)) 33 #[takeV w]).cell 0
      simpa using this
  have H0 := Lib.hid h0
  clear h0
  go_enter Tryz.func60, Tryz.ntmps60
  go_wp2_with fail
  have HT1 := Lib.hid (H0.out.take ⟨#[45]⟩ hsz)
  have e0 : (⟨#[45]⟩ : ByteArray).data.toList = [45] := rfl
  rw [e0] at HT1
  clear e0
  obtain ⟨a, ha⟩ : ∃ a, nxt (takeB [45] s 0) 0 = a := ⟨_, rfl⟩
  obtain ⟨t1, ht1⟩ : ∃ t1, takeB [45] s 0 = t1 := ⟨_, rfl⟩
  have HA := Lib.hid ha
  rw [ha, ht1] at HT1
  have HTT := Lib.hid ht1
  clear ha ht1
  obtain ⟨n1, hn1⟩ : ∃ n1, digs s a = n1 := ⟨_, rfl⟩
  have HN1 := Lib.hid hn1
  clear hn1
  obtain ⟨td, htd⟩ : ∃ td, takeB [46] s (a + n1) = td := ⟨_, rfl⟩
  have HTD := Lib.hid htd
  clear htd
  have hln : n1 ≤ s.size := by
    have := digs_le s a
    rw [HN1.out] at this
    by_cases hq : a ≤ s.size
    · have := this hq; omega
    · have : nxt (takeB [45] s 0) 0 ≤ s.size := by
        cases hq2 : takeB [45] s 0 with
        | false => exact Nat.zero_le _
        | true => have := take_lt hq2; show 0 + 1 ≤ s.size; omega
      rw [HA.out] at this; omega
  refine (HT1.out).mono ?_
  rintro e w1 ⟨rfl, hd1⟩
  have H1 := Lib.hid hd1
  have HG1 := Lib.hid (hd1.digs hsz)
  rw [HN1.out] at HG1
  clear hd1
  obtain ⟨c1, c2, c3⟩ := H1.out.cells
  go_wp2_with fail
  refine (HG1.out).mono ?_
  rintro e w2 ⟨rfl, hd2⟩
  have H2 := Lib.hid hd2
  have HT2 := Lib.hid (hd2.take ⟨#[46]⟩ hsz)
  have e2 : (⟨#[46]⟩ : ByteArray).data.toList = [46] := rfl
  rw [e2, HTD.out] at HT2
  clear hd2 e2 c1 c2 c3
  obtain ⟨c1, c2, c3⟩ := H2.out.cells
  cases td with
  | false =>
    by_cases hz : n1 = 0
    · subst hz
      go_wp2_with fail
      refine (HT2.out).mono ?_
      rintro e w3 ⟨rfl, hd3⟩
      have H3 := Lib.hid hd3
      clear hd3
      go_wp2_with fail
      go_ret
      refine ⟨?_, H3.out.bel⟩
      unfold decB
      rw [HA.out, HN1.out, HTD.out]
      rfl
    · have hz2 : ((n1 : Int) == 0) = false := beq_eq_false_iff_ne.2 (by omega)
      have HFIN : Hid (decB s = endB s (a + n1)) := by
        show decB s = _
        unfold decB
        rw [HA.out, HN1.out, HTD.out]
        show (if n1 = 0 then _ else _) = _
        rw [if_neg hz]
      go_wp2_with fail
      refine (HT2.out).mono ?_
      rintro e w3 ⟨rfl, hd3⟩
      have H3 := Lib.hid (show Dec w s (a + n1) w3 from hd3)
      clear hd3 c1 c2 c3
      obtain ⟨c1, c2, c3⟩ := H3.out.cells
      obtain ⟨cc, hcc⟩ : ∃ cc, a + n1 = cc := ⟨_, rfl⟩
      rw [hcc] at H3 HFIN c1
      clear hcc
      have HE1 := Lib.hid (H3.out.take ⟨#[101, 69]⟩ hsz)
      obtain ⟨te, hte⟩ : ∃ te, takeB [101, 69] s cc = te := ⟨_, rfl⟩
      have HTE := Lib.hid hte
      have e1 : (⟨#[101, 69]⟩ : ByteArray).data.toList = [101, 69] := rfl
      rw [e1, hte] at HE1
      clear hte e1
      cases te with
      | false =>
        go_wp2_with fail
        refine (HE1.out).mono ?_
        rintro e w8 ⟨rfl, hd8⟩
        have H8 := Lib.hid hd8
        clear hd8
        obtain ⟨c1, c2, c3⟩ := H8.out.cells
        have hnx : nxt false cc = cc := rfl
        rw [hnx] at c1
        go_wp2_with fail
        go_ret
        refine ⟨?_, H8.out.bel⟩
        rw [HFIN.out]
        unfold endB
        rw [HTE.out]
        rfl
      | true =>
        go_wp2_with fail
        refine (HE1.out).mono ?_
        rintro e w8 ⟨rfl, hd8⟩
        have H8 := Lib.hid (show Dec w s (cc + 1) w8 from hd8)
        clear hd8
        obtain ⟨c1, c2, c3⟩ := H8.out.cells
        have HE2 := Lib.hid (H8.out.take ⟨#[43, 45]⟩ hsz)
        have e2 : (⟨#[43, 45]⟩ : ByteArray).data.toList = [43, 45] := rfl
        rw [e2] at HE2
        obtain ⟨d, hd⟩ : ∃ d, nxt (takeB [43, 45] s (cc + 1)) (cc + 1) = d := ⟨_, rfl⟩
        obtain ⟨ts, hts⟩ : ∃ ts, takeB [43, 45] s (cc + 1) = ts := ⟨_, rfl⟩
        have HD1 := Lib.hid hd
        rw [hd, hts] at HE2
        have HTS := Lib.hid hts
        clear hd hts e2
        go_wp2_with fail
        refine (HE2.out).mono ?_
        rintro e w9 ⟨rfl, hd9⟩
        have H9 := Lib.hid hd9
        clear hd9 c1 c2 c3
        obtain ⟨c1, c2, c3⟩ := H9.out.cells
        have HE3 := Lib.hid (H9.out.digs hsz)
        obtain ⟨n3, hn3⟩ : ∃ n3, digs s d = n3 := ⟨_, rfl⟩
        rw [hn3] at HE3
        have HN3 := Lib.hid hn3
        clear hn3
        by_cases hz3 : n3 = 0
        · subst hz3
          go_wp2_with fail
          refine (HE3.out).mono ?_
          rintro e w10 ⟨rfl, hd10⟩
          have H10 := Lib.hid hd10
          clear hd10
          go_wp2_with fail
          go_ret
          refine ⟨?_, H10.out.bel⟩
          rw [HFIN.out]
          unfold endB
          rw [HTE.out]
          show _ = Ending.returned (.bool (if digs s (nxt (takeB [43, 45] s (cc + 1)) (cc + 1)) = 0 then _ else _))
          rw [HD1.out, HN3.out, if_pos rfl]
          rfl
        · have hz4 : ((n3 : Int) == 0) = false := beq_eq_false_iff_ne.2 (by omega)
          go_wp2_with fail
          refine (HE3.out).mono ?_
          rintro e w10 ⟨rfl, hd10⟩
          have H10 := Lib.hid hd10
          clear hd10 c1 c2 c3
          obtain ⟨c1, c2, c3⟩ := H10.out.cells
          go_wp2_with fail
          go_ret
          refine ⟨?_, H10.out.bel⟩
          rw [HFIN.out]
          unfold endB
          rw [HTE.out]
          show _ = Ending.returned (.bool (if digs s (nxt (takeB [43, 45] s (cc + 1)) (cc + 1)) = 0 then _ else _))
          rw [HD1.out, HN3.out, if_neg hz3]
          rfl
  | true =>
    obtain ⟨n2, hn2⟩ : ∃ n2, digs s (a + n1 + 1) = n2 := ⟨_, rfl⟩
    have HN2 := Lib.hid hn2
    clear hn2
    have hl2 : a + n1 + 1 + n2 ≤ s.size := by
      have := take_lt HTD.out
      have := digs_le s (a + n1 + 1) (by omega)
      rw [HN2.out] at this
      exact this
    go_wp2_with fail
    refine (HT2.out).mono ?_
    rintro e w3 ⟨rfl, hd3⟩
    have H3 := Lib.hid (show Dec w s (a + n1 + 1) w3 from hd3)
    have HG2 := Lib.hid (H3.out.digs hsz)
    rw [HN2.out] at HG2
    clear hd3 c1 c2 c3
    obtain ⟨c1, c2, c3⟩ := H3.out.cells
    by_cases hz : n1 + n2 = 0
    · obtain rfl : n1 = 0 := by omega
      obtain rfl : n2 = 0 := by omega
      go_wp2_with fail
      refine (HG2.out).mono ?_
      rintro e w4 ⟨rfl, hd4⟩
      have H4 := Lib.hid hd4
      clear hd4
      go_wp2_with fail
      go_ret
      refine ⟨?_, H4.out.bel⟩
      unfold decB
      rw [HA.out, HN1.out, HTD.out]
      show _ = Ending.returned (.bool (if 0 + digs s (a + 0 + 1) = 0 then _ else _))
      rw [HN2.out, if_pos rfl]
      rfl
    · have hz2 : ((n1 : Int) + (n2 : Int) == 0) = false := beq_eq_false_iff_ne.2 (by omega)
      have HFIN : Hid (decB s = endB s (a + n1 + 1 + n2)) := by
        show decB s = _
        unfold decB
        rw [HA.out, HN1.out, HTD.out]
        show (if n1 + digs s (a + n1 + 1) = 0 then _ else endB s (a + n1 + 1 + digs s (a + n1 + 1))) = _
        rw [HN2.out, if_neg hz]
      go_wp2_with fail
      refine (HG2.out).mono ?_
      rintro e w4 ⟨rfl, hd4⟩
      have H4 := Lib.hid hd4
      clear hd4 c1 c2 c3
      obtain ⟨c1, c2, c3⟩ := H4.out.cells
      obtain ⟨cc, hcc⟩ : ∃ cc, a + n1 + 1 + n2 = cc := ⟨_, rfl⟩
      rw [hcc] at H4 HFIN c1
      clear hcc
      have HE1 := Lib.hid (H4.out.take ⟨#[101, 69]⟩ hsz)
      obtain ⟨te, hte⟩ : ∃ te, takeB [101, 69] s cc = te := ⟨_, rfl⟩
      have HTE := Lib.hid hte
      have e1 : (⟨#[101, 69]⟩ : ByteArray).data.toList = [101, 69] := rfl
      rw [e1, hte] at HE1
      clear hte e1
      cases te with
      | false =>
        go_wp2_with fail
        refine (HE1.out).mono ?_
        rintro e w8 ⟨rfl, hd8⟩
        have H8 := Lib.hid hd8
        clear hd8
        obtain ⟨c1, c2, c3⟩ := H8.out.cells
        have hnx : nxt false cc = cc := rfl
        rw [hnx] at c1
        go_wp2_with fail
        go_ret
        refine ⟨?_, H8.out.bel⟩
        rw [HFIN.out]
        unfold endB
        rw [HTE.out]
        rfl
      | true =>
        go_wp2_with fail
        refine (HE1.out).mono ?_
        rintro e w8 ⟨rfl, hd8⟩
        have H8 := Lib.hid (show Dec w s (cc + 1) w8 from hd8)
        clear hd8
        obtain ⟨c1, c2, c3⟩ := H8.out.cells
        have HE2 := Lib.hid (H8.out.take ⟨#[43, 45]⟩ hsz)
        have e2 : (⟨#[43, 45]⟩ : ByteArray).data.toList = [43, 45] := rfl
        rw [e2] at HE2
        obtain ⟨d, hd⟩ : ∃ d, nxt (takeB [43, 45] s (cc + 1)) (cc + 1) = d := ⟨_, rfl⟩
        obtain ⟨ts, hts⟩ : ∃ ts, takeB [43, 45] s (cc + 1) = ts := ⟨_, rfl⟩
        have HD1 := Lib.hid hd
        rw [hd, hts] at HE2
        have HTS := Lib.hid hts
        clear hd hts e2
        go_wp2_with fail
        refine (HE2.out).mono ?_
        rintro e w9 ⟨rfl, hd9⟩
        have H9 := Lib.hid hd9
        clear hd9 c1 c2 c3
        obtain ⟨c1, c2, c3⟩ := H9.out.cells
        have HE3 := Lib.hid (H9.out.digs hsz)
        obtain ⟨n3, hn3⟩ : ∃ n3, digs s d = n3 := ⟨_, rfl⟩
        rw [hn3] at HE3
        have HN3 := Lib.hid hn3
        clear hn3
        by_cases hz3 : n3 = 0
        · subst hz3
          go_wp2_with fail
          refine (HE3.out).mono ?_
          rintro e w10 ⟨rfl, hd10⟩
          have H10 := Lib.hid hd10
          clear hd10
          go_wp2_with fail
          go_ret
          refine ⟨?_, H10.out.bel⟩
          rw [HFIN.out]
          unfold endB
          rw [HTE.out]
          show _ = Ending.returned (.bool (if digs s (nxt (takeB [43, 45] s (cc + 1)) (cc + 1)) = 0 then _ else _))
          rw [HD1.out, HN3.out, if_pos rfl]
          rfl
        · have hz4 : ((n3 : Int) == 0) = false := beq_eq_false_iff_ne.2 (by omega)
          go_wp2_with fail
          refine (HE3.out).mono ?_
          rintro e w10 ⟨rfl, hd10⟩
          have H10 := Lib.hid hd10
          clear hd10 c1 c2 c3
          obtain ⟨c1, c2, c3⟩ := H10.out.cells
          go_wp2_with fail
          go_ret
          refine ⟨?_, H10.out.bel⟩
          rw [HFIN.out]
          unfold endB
          rw [HTE.out]
          show _ = Ending.returned (.bool (if digs s (nxt (takeB [43, 45] s (cc + 1)) (cc + 1)) = 0 then _ else _))
          rw [HD1.out, HN3.out, if_neg hz3]
          rfl
end Go.Proofs.YtaggmakaceafgaaGreatDoor

/- What is left behind a byte. Condition: a machine that the reader has made. -/
import Derived.Test.YtahphjaelpgjdaaDoorW22
import Derived.Test.YtahphjaelpgjdaaDoorX6
namespace Go.Proofs.YtahphjaelpgjdaaDoor
open Go.RowKit Rx
set_option linter.unusedVariables false

abbrev rsC (t : Nat) (d : Bool) : Array Value := #[wv t 0, wv t 1, wv t 2, wv t 3, .bool d]
abbrev rsV (t : Nat) (d : Bool) : Value := .agg (rsC t d)
abbrev zero5 : Array Value := #[.int .u64 0, .int .u64 0, .int .u64 0, .int .u64 0, .bool false]
theorem zero5_eq : zero5 = rsC 0 false := by unfold zero5 rsC; simp only [wv_zero]
theorem cells5 {w : World} {g : Nat} {t : TypeId} {v0 v1 v2 v3 v4 : Value} (h : Blk w g t #[v0, v1, v2, v3, v4]) : w.cell? ⟨g, 0, none⟩ = some v0 ∧ w.cell? ⟨g, 1, none⟩ = some v1 ∧ w.cell? ⟨g, 2, none⟩ = some v2 ∧ w.cell? ⟨g, 3, none⟩ = some v3 ∧ w.cell? ⟨g, 4, none⟩ = some v4 :=
  ⟨h.cell 0, h.cell 1, h.cell 2, h.cell 3, h.cell 4⟩
theorem frozen5 {w : World} {g : Nat} {t : TypeId} {cs : Array Value} (h : Blk w g t cs) : w.frozen? ⟨g, 0, none⟩ = false ∧ w.frozen? ⟨g, 1, none⟩ = false ∧ w.frozen? ⟨g, 2, none⟩ = false ∧ w.frozen? ⟨g, 3, none⟩ = false ∧ w.frozen? ⟨g, 4, none⟩ = false :=
  ⟨h.frozen 0, h.frozen 1, h.frozen 2, h.frozen 3, h.frozen 4⟩
/-- a machine stays behind what writes new blocks alone -/
theorem Mem.below {w w' : World} {b : Nat} {l : ByteArray} {m : Mach} {p : Pc} (h : Mem w b l m p) (hb : Below w.heap.size w w') : Mem w' b l m p := by
  obtain ⟨⟨T, F, a, o, h1, h2, h3⟩, h4, h5, h6, h7⟩ := h
  exact ⟨⟨T, F, a, o, h1.below hb, own_below h2 hb, own_below h3 hb⟩, h4, h5, h6, h7⟩
theorem below_le {B C : Nat} {w w' : World} (h : Below B w w') (hc : C ≤ B) : Below C w w' := ⟨h.os, h.tape, h.output, h.size, fun k hk => h.block k (Nat.lt_of_lt_of_le hk hc)⟩
/-- what the loop over the places holds -/
structure BeS (w0 : World) (mb p1 p2 p3 : Nat) (c : Nat) (r : Nat × Bool) (W : World) : Prop where
  bel : Below w0.heap.size w0 W
  b1 : Blk W p1 52 #[.pointer (some ⟨mb, 0, none⟩)]
  b2 : Blk W p2 5 #[.int .u8 c]
  b3 : Blk W p3 63 (rsC r.1 r.2)
theorem BeS.below {w0 : World} {mb p1 p2 p3 c : Nat} {r : Nat × Bool} {W W' : World} (h : BeS w0 mb p1 p2 p3 c r W) (hb : Below W.heap.size W W') : BeS w0 mb p1 p2 p3 c r W' :=
  ⟨h.bel.trans (below_le hb h.bel.size), h.b1.below hb, h.b2.below hb, h.b3.below hb⟩
theorem rs_set {W : World} {g t u : Nat} {d : Bool} (h : Blk W g 63 (rsC t d)) : Blk ((((W.setCell ⟨g, 0, none⟩ (wv u 0)).setCell ⟨g, 1, none⟩ (wv u 1)).setCell ⟨g, 2, none⟩ (wv u 2)).setCell ⟨g, 3, none⟩ (wv u 3)) g 63 (rsC u d) := by
  have h0 := h.set_ 0 (wv u 0)
  simp only [List.setIfInBounds_toArray, List.set_cons_zero] at h0
  have h1 := h0.set_ 1 (wv u 1)
  simp only [List.setIfInBounds_toArray, List.set_cons_zero, List.set_cons_succ] at h1
  have h2 := h1.set_ 2 (wv u 2)
  simp only [List.setIfInBounds_toArray, List.set_cons_zero, List.set_cons_succ] at h2
  have h3 := h2.set_ 3 (wv u 3)
  simp only [List.setIfInBounds_toArray, List.set_cons_zero, List.set_cons_succ] at h3
  exact h3
theorem Blk.quad_other {w : World} {j k : Nat} {t : TypeId} {cs : Array Value} (h : Blk w k t cs) (hj : k ≠ j) (v0 v1 v2 v3 : Value) : Blk ((((w.setCell ⟨j, 0, none⟩ v0).setCell ⟨j, 1, none⟩ v1).setCell ⟨j, 2, none⟩ v2).setCell ⟨j, 3, none⟩ v3) k t cs := (((h.other hj 0 _).other hj 1 _).other hj 2 _).other hj 3 _
theorem below_quad {B : Nat} {w0 w : World} (h : Below B w0 w) {j : Nat} (hj : B ≤ j) (v0 v1 v2 v3 : Value) : Below B w0 ((((w.setCell ⟨j, 0, none⟩ v0).setCell ⟨j, 1, none⟩ v1).setCell ⟨j, 2, none⟩ v2).setCell ⟨j, 3, none⟩ v3) :=
  (((h.setCell (p := ⟨j, 0, none⟩) hj v0).setCell (p := ⟨j, 1, none⟩) hj v1).setCell (p := ⟨j, 2, none⟩) hj v2).setCell (p := ⟨j, 3, none⟩) hj v3
theorem BeS.next {w0 : World} {mb p1 p2 p3 c : Nat} {r : Nat × Bool} {W : World} (h : BeS w0 mb p1 p2 p3 c r W) (h3 : w0.heap.size ≤ p3) (h13 : p1 ≠ p3) (h23 : p2 ≠ p3) (u : Nat) :
    BeS w0 mb p1 p2 p3 c (u, r.2) ((((W.setCell ⟨p3, 0, none⟩ (wv u 0)).setCell ⟨p3, 1, none⟩ (wv u 1)).setCell ⟨p3, 2, none⟩ (wv u 2)).setCell ⟨p3, 3, none⟩ (wv u 3)) :=
  ⟨below_quad h.bel h3 _ _ _ _, h.b1.quad_other h13 _ _ _ _, h.b2.quad_other h23 _ _ _ _, rs_set h.b3⟩
theorem BeS.done {w0 : World} {mb p1 p2 p3 c : Nat} {r : Nat × Bool} {W : World} (h : BeS w0 mb p1 p2 p3 c r W) (h3 : w0.heap.size ≤ p3) (h13 : p1 ≠ p3) (h23 : p2 ≠ p3) (d : Bool) :
    BeS w0 mb p1 p2 p3 c (r.1, d) (W.setCell ⟨p3, 4, none⟩ (.bool d)) :=
  ⟨h.bel.setCell (p := ⟨p3, 4, none⟩) h3 _, h.b1.other h13 4 _, h.b2.other h23 4 _, by
    have h0 := h.b3.set_ 4 (.bool d)
    simp only [List.setIfInBounds_toArray, List.set_cons_zero, List.set_cons_succ] at h0
    exact h0⟩
set_option maxRecDepth 100000 in
set_option maxHeartbeats 8000000 in
theorem step38 (w0 : World) (mb p1 p2 p3 c k t : Nat) (dn : Bool) (l : ByteArray) (m : Mach) (p : Pc) (hm : Mem w0 mb l m p) (hk : k < m.takes.length) (hc : c < 256) (h3 : w0.heap.size ≤ p3) (h13 : p1 ≠ p3) (h23 : p2 ≠ p3) (W : World) (hS : BeS w0 mb p1 p2 p3 c (t, dn) W) (ht : t < 2 ^ 256) :
    Calls Tryd.prog 38 #[.int .i64 k, .pointer (some ⟨p1, 0, none⟩), .pointer (some ⟨p2, 0, none⟩), .pointer (some ⟨p3, 0, none⟩)] W fun e w' => e = .returned (.tuple #[]) ∧
      BeS w0 mb p1 p2 p3 c (if (m.takes.getD k 0).testBit c = true then (t ||| m.follow.getD k 0, dn || p.last.testBit k) else (t, dn)) w' := by
  have HMW := Lib.hid (fun X r (h : BeS w0 mb p1 p2 p3 c r X) => hm.below h.bel)
  have hMW := hm.below hS.bel
  obtain ⟨⟨T, F, aa, oo, hb, hT, hF⟩, _, hgd, hpi, hfew⟩ := hMW
  have hkf : k < m.follow.length := by rw [hgd.1]; exact hk
  obtain ⟨gT, cT, hTv, hT5, hTl, x0, x1, x2, x3, xf⟩ := row_cells hT hk
  obtain ⟨gF, cF, hFv, hF5, hFl, y0, y1, y2, y3, yf⟩ := row_cells hF hkf
  subst hTv
  subst hFv
  have m0 := hb.cell 0
  have m1 := hb.cell 1
  have m2 := hb.cell 2
  have m3 := hb.cell 3
  have m4 := hb.cell 4
  have m5 := hb.cell 5
  simp only [List.getElem?_toArray, List.getElem?_cons_zero, List.getElem?_cons_succ] at m0 m1 m2 m3 m4 m5
  have k1 := hS.b1.cell 0
  have k2 := hS.b2.cell 0
  simp only [List.getElem?_toArray, List.getElem?_cons_zero] at k1 k2
  have hk0 : (0 : Int) ≤ (k : Int) := by omega
  have hkT : (k : Int) < (m.takes.length : Int) := by omega
  have hkF : (k : Int) < (m.follow.length : Int) := by omega
  have hk2 : (k : Int) < 256 := by omega
  generalize hxx : m.takes.getD k 0 = x at *
  generalize hyy : m.follow.getD k 0 = y at *
  have HS := Lib.hid hS
  have HH := Lib.hid (fun X => has_any x c hc X)
  clear hS hm hb hT hF hgd hpi
  cases hbit : x.testBit c with
  | false =>
    rw [hbit] at HH
    clear hbit
    go_enter Tryd.func38, Tryd.ntmps38
    go_upto_region 0 with fail
    go_still_tail 9, (by kernel_rfl)
    change wpList _ _ _ _ _ W.drew
    have HSd : Hid (BeS w0 mb p1 p2 p3 c (t, dn) W.drew) := HS.out.below (below_drew _)
    generalize W.drew = W1 at *
    go_wp2_with fail
    refine (HH.out _).mono ?_
    rintro e W2 ⟨rfl, hb2⟩
    have HS2 := Lib.hid (HSd.out.below hb2)
    clear hb2
    go_wp2
    exact bodyPost_end (v := .tuple #[]) (by simp [results, Tryd.results38, go_sem]) rfl ⟨rfl, HS2.out⟩
  | true =>
    rw [hbit] at HH
    have HWI := Lib.hid (fun X => with_any t y X)
    have HLA := Lib.hid (fun X => has_any p.last k (by omega) X)
    clear hbit
    go_enter Tryd.func38, Tryd.ntmps38
    go_upto_region 0 with fail
    go_still_tail 9, (by kernel_rfl)
    change wpList _ _ _ _ _ W.drew
    have HSd : Hid (BeS w0 mb p1 p2 p3 c (t, dn) W.drew) := HS.out.below (below_drew _)
    have z0 : W.drew.cell? ⟨gT, k * 4, none⟩ = some (wv x 0) := x0
    have hDB : Hid (Below W.heap.size W W.drew) := below_drew _
    generalize W.drew = W1 at *
    go_wp2_with fail
    refine (HH.out _).mono ?_
    rintro e W2 ⟨rfl, hb2⟩
    have hB2 := hDB.out.trans (below_le hb2 hDB.out.size)
    have HS2 := Lib.hid (HSd.out.below hb2)
    have HB2 := Lib.hid hB2
    have a0 := below_cell hB2 m0
    have a1 := below_cell hB2 m1
    have a2 := below_cell hB2 m2
    have a3 := below_cell hB2 m3
    have a4 := below_cell hB2 m4
    have a5 := below_cell hB2 m5
    have e0 := below_cell hB2 y0
    have e1 := below_cell hB2 y1
    have e2 := below_cell hB2 y2
    have e3 := below_cell hB2 y3
    clear hb2 hB2 z0 m0 m1 m2 m3 m4 m5 y0 y1 y2 y3 x0 x1 x2 x3 k1 k2 HS HSd hDB
    have k1 := HS2.out.b1.cell 0
    simp only [List.getElem?_toArray, List.getElem?_cons_zero] at k1
    obtain ⟨t0, t1, t2, t3, t4⟩ := cells5 HS2.out.b3
    obtain ⟨f0, f1, f2, f3, f4⟩ := frozen5 HS2.out.b3
    go_wp2_with fail
    go_region_with (first
      | (go_at_call 40; refine (HWI.out _).mono ?_; rintro e W3 ⟨rfl, hb3⟩
         have HS3 : Hid (BeS w0 mb p1 p2 p3 c (t, dn) W3) := HS2.out.below ⟨hb3.os, hb3.tape, hb3.output, hb3.size, fun j hj => hb3.block j hj⟩
         have q0 := below_cell (w := W2) ⟨hb3.os, hb3.tape, hb3.output, hb3.size, fun j hj => hb3.block j hj⟩ a0
         have HB3 : Hid (Below W2.heap.size W2 W3) := ⟨hb3.os, hb3.tape, hb3.output, hb3.size, fun j hj => hb3.block j hj⟩
         obtain ⟨v0, v1, v2, v3, v4⟩ := cells5 HS3.out.b3
         obtain ⟨g0, g1, g2, g3, g4⟩ := frozen5 HS3.out.b3
         clear hb3))
    all_goals
      have HS4 := Lib.hid (HS3.out.next h3 h13 h23 (t ||| y))
      generalize ((((W3.setCell ⟨p3, 0, none⟩ (wv (t ||| y) 0)).setCell ⟨p3, 1, none⟩ (wv (t ||| y) 1)).setCell ⟨p3, 2, none⟩ (wv (t ||| y) 2)).setCell ⟨p3, 3, none⟩ (wv (t ||| y) 3)) = W4 at *
      obtain ⟨⟨T4, F4, aa4, oo4, hb4, _, _⟩, _, _, _, _⟩ := HMW.out W4 _ HS4.out
      have c2 := hb4.cell 2
      have c3 := hb4.cell 3
      have c4 := hb4.cell 4
      have c5 := hb4.cell 5
      simp only [List.getElem?_toArray, List.getElem?_cons_zero, List.getElem?_cons_succ] at c2 c3 c4 c5
      clear v0 v1 v2 v3 v4 g0 g1 g2 g3 g4 q0 HS3 HB3 t0 t1 t2 t3 t4 f0 f1 f2 f3 f4 a0 a1 a2 a3 a4 a5 e0 e1 e2 e3 k1 HS2 HB2 hb4
      have k1 := HS4.out.b1.cell 0
      simp only [List.getElem?_toArray, List.getElem?_cons_zero] at k1
      obtain ⟨t0, t1, t2, t3, t4⟩ := cells5 HS4.out.b3
      obtain ⟨f0, f1, f2, f3, f4⟩ := frozen5 HS4.out.b3
      cases dn with
      | true =>
        have HS5 := Lib.hid (HS4.out.done h3 h13 h23 true)
        go_wp2
        exact bodyPost_end (v := .tuple #[]) (by simp [results, Tryd.results38, go_sem]) rfl ⟨rfl, by first | exact HS5.out | exact HS5.out.below (below_drew _)⟩
      | false =>
        go_wp2_with fail
        refine (HLA.out _).mono ?_
        rintro e W5 ⟨rfl, hb5⟩
        have HS5 := Lib.hid (HS4.out.below hb5)
        obtain ⟨v0, v1, v2, v3, v4⟩ := cells5 HS5.out.b3
        obtain ⟨g0, g1, g2, g3, g4⟩ := frozen5 HS5.out.b3
        have HS6 := Lib.hid (HS5.out.done h3 h13 h23 (p.last.testBit k))
        clear hb5
        go_wp2
        exact bodyPost_end (v := .tuple #[]) (by simp [results, Tryd.results38, go_sem]) rfl ⟨rfl, by first | exact HS6.out | (rw [Bool.false_or]; exact HS6.out)⟩
end Go.Proofs.YtahphjaelpgjdaaDoor

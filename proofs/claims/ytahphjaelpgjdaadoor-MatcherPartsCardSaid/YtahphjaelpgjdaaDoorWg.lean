/- What is left behind a byte. Condition: a machine that the reader has made. -/
import Derived.Test.YtahphjaelpgjdaaDoorWf
import Derived.Test.YtahphjaelpgjdaaDoorXa
import Derived.Maps.OwnSet
import Derived.DeepKeys4
namespace Go.Proofs.YtahphjaelpgjdaaDoor
open Go.RowKit Rx
set_option linter.unusedVariables false

abbrev rsC (t : Nat) (d : Bool) : Array Value := #[wv t 0, wv t 1, wv t 2, wv t 3, .bool d]
abbrev rsV (t : Nat) (d : Bool) : Value := .agg (rsC t d)
abbrev zero5 : Array Value := #[.int .u64 0, .int .u64 0, .int .u64 0, .int .u64 0, .bool false]
theorem zero5_eq : zero5 = rsC 0 false := by unfold zero5 rsC; simp only [wv_zero]
theorem cells5 {w : World} {g : Nat} {t : TypeId} {v0 v1 v2 v3 v4 : Value} (h : Blk w g t #[v0, v1, v2, v3, v4]) : w.cell? ⟨g, 0, none⟩ = some v0 ∧ w.cell? ⟨g, 1, none⟩ = some v1 ∧ w.cell? ⟨g, 2, none⟩ = some v2 ∧ w.cell? ⟨g, 3, none⟩ = some v3 ∧ w.cell? ⟨g, 4, none⟩ = some v4 :=
  ⟨h.cell 0, h.cell 1, h.cell 2, h.cell 3, h.cell 4⟩
theorem frozen5 {w : World} {g : Nat} {t : TypeId} {cs : Array Value} (h : Blk w g t cs) : w.frozen? ⟨g, 0, none⟩ = false ∧ w.frozen? ⟨g, 1, none⟩ = false ∧ w.frozen? ⟨g, 2, none⟩ = false ∧ w.frozen? ⟨g, 3, none⟩ = false ∧ w.frozen? ⟨g, 4, none⟩ = false :=
  ⟨h.frozen 0, h.frozen 1, h.frozen 2, h.frozen 3, h.frozen 4⟩
/-- a machine stays behind what writes new blocks alone -/
theorem Mem.below {w w' : World} {b : Nat} {l : ByteArray} {m : Mach} {p : Pc} (h : Mem w b l m p) (hb : Below w.heap.size w w') : Mem w' b l m p := by
  obtain ⟨⟨T, F, a, o, h1, h2, h3⟩, h4, h5, h6, h7⟩ := h
  exact ⟨⟨T, F, a, o, h1.below hb, own_below h2 hb, own_below h3 hb⟩, h4, h5, h6, h7⟩
theorem below_le {B C : Nat} {w w' : World} (h : Below B w w') (hc : C ≤ B) : Below C w w' := ⟨h.os, h.tape, h.output, h.size, fun k hk => h.block k (Nat.lt_of_lt_of_le hk hc)⟩
/-- what the loop over the places holds -/
structure BeS (w0 : World) (mb p1 p2 p3 : Nat) (c : Nat) (r : Nat × Bool) (W : World) : Prop where
  bel : Below w0.heap.size w0 W
  b1 : Blk W p1 52 #[.pointer (some ⟨mb, 0, none⟩)]
  b2 : Blk W p2 5 #[.int .u8 c]
  b3 : Blk W p3 63 (rsC r.1 r.2)
theorem BeS.below {w0 : World} {mb p1 p2 p3 c : Nat} {r : Nat × Bool} {W W' : World} (h : BeS w0 mb p1 p2 p3 c r W) (hb : Below W.heap.size W W') : BeS w0 mb p1 p2 p3 c r W' :=
  ⟨h.bel.trans (below_le hb h.bel.size), h.b1.below hb, h.b2.below hb, h.b3.below hb⟩
theorem rs_set {W : World} {g t u : Nat} {d : Bool} (h : Blk W g 63 (rsC t d)) : Blk ((((W.setCell ⟨g, 0, none⟩ (wv u 0)).setCell ⟨g, 1, none⟩ (wv u 1)).setCell ⟨g, 2, none⟩ (wv u 2)).setCell ⟨g, 3, none⟩ (wv u 3)) g 63 (rsC u d) := by
  have h0 := h.set_ 0 (wv u 0)
  simp only [List.setIfInBounds_toArray, List.set_cons_zero] at h0
  have h1 := h0.set_ 1 (wv u 1)
  simp only [List.setIfInBounds_toArray, List.set_cons_zero, List.set_cons_succ] at h1
  have h2 := h1.set_ 2 (wv u 2)
  simp only [List.setIfInBounds_toArray, List.set_cons_zero, List.set_cons_succ] at h2
  have h3 := h2.set_ 3 (wv u 3)
  simp only [List.setIfInBounds_toArray, List.set_cons_zero, List.set_cons_succ] at h3
  exact h3
theorem Blk.quad_other {w : World} {j k : Nat} {t : TypeId} {cs : Array Value} (h : Blk w k t cs) (hj : k ≠ j) (v0 v1 v2 v3 : Value) : Blk ((((w.setCell ⟨j, 0, none⟩ v0).setCell ⟨j, 1, none⟩ v1).setCell ⟨j, 2, none⟩ v2).setCell ⟨j, 3, none⟩ v3) k t cs := (((h.other hj 0 _).other hj 1 _).other hj 2 _).other hj 3 _
theorem below_quad {B : Nat} {w0 w : World} (h : Below B w0 w) {j : Nat} (hj : B ≤ j) (v0 v1 v2 v3 : Value) : Below B w0 ((((w.setCell ⟨j, 0, none⟩ v0).setCell ⟨j, 1, none⟩ v1).setCell ⟨j, 2, none⟩ v2).setCell ⟨j, 3, none⟩ v3) :=
  (((h.setCell (p := ⟨j, 0, none⟩) hj v0).setCell (p := ⟨j, 1, none⟩) hj v1).setCell (p := ⟨j, 2, none⟩) hj v2).setCell (p := ⟨j, 3, none⟩) hj v3
theorem BeS.next {w0 : World} {mb p1 p2 p3 c : Nat} {r : Nat × Bool} {W : World} (h : BeS w0 mb p1 p2 p3 c r W) (h3 : w0.heap.size ≤ p3) (h13 : p1 ≠ p3) (h23 : p2 ≠ p3) (u : Nat) :
    BeS w0 mb p1 p2 p3 c (u, r.2) ((((W.setCell ⟨p3, 0, none⟩ (wv u 0)).setCell ⟨p3, 1, none⟩ (wv u 1)).setCell ⟨p3, 2, none⟩ (wv u 2)).setCell ⟨p3, 3, none⟩ (wv u 3)) :=
  ⟨below_quad h.bel h3 _ _ _ _, h.b1.quad_other h13 _ _ _ _, h.b2.quad_other h23 _ _ _ _, rs_set h.b3⟩
theorem BeS.done {w0 : World} {mb p1 p2 p3 c : Nat} {r : Nat × Bool} {W : World} (h : BeS w0 mb p1 p2 p3 c r W) (h3 : w0.heap.size ≤ p3) (h13 : p1 ≠ p3) (h23 : p2 ≠ p3) (d : Bool) :
    BeS w0 mb p1 p2 p3 c (r.1, d) (W.setCell ⟨p3, 4, none⟩ (.bool d)) :=
  ⟨h.bel.setCell (p := ⟨p3, 4, none⟩) h3 _, h.b1.other h13 4 _, h.b2.other h23 4 _, by
    have h0 := h.b3.set_ 4 (.bool d)
    simp only [List.setIfInBounds_toArray, List.set_cons_zero, List.set_cons_succ] at h0
    exact h0⟩
set_option maxRecDepth 100000 in
set_option maxHeartbeats 8000000 in
theorem step38 (w0 : World) (mb p1 p2 p3 c k t : Nat) (dn : Bool) (l : ByteArray) (m : Mach) (p : Pc) (hm : Mem w0 mb l m p) (hk : k < m.takes.length) (hc : c < 256) (h3 : w0.heap.size ≤ p3) (h13 : p1 ≠ p3) (h23 : p2 ≠ p3) (W : World) (hS : BeS w0 mb p1 p2 p3 c (t, dn) W) (ht : t < 2 ^ 256) :
    Calls Tryd.prog 38 #[.int .i64 k, .pointer (some ⟨p1, 0, none⟩), .pointer (some ⟨p2, 0, none⟩), .pointer (some ⟨p3, 0, none⟩)] W fun e w' => e = .returned (.tuple #[]) ∧
      BeS w0 mb p1 p2 p3 c (if (m.takes.getD k 0).testBit c = true then (t ||| m.follow.getD k 0, dn || p.last.testBit k) else (t, dn)) w' := by
  have HMW := Lib.hid (fun X r (h : BeS w0 mb p1 p2 p3 c r X) => hm.below h.bel)
  have hMW := hm.below hS.bel
  obtain ⟨⟨T, F, aa, oo, hb, hT, hF⟩, _, hgd, hpi, hfew⟩ := hMW
  have hkf : k < m.follow.length := by rw [hgd.1]; exact hk
  obtain ⟨gT, cT, hTv, hT5, hTl, x0, x1, x2, x3, xf⟩ := row_cells hT hk
  obtain ⟨gF, cF, hFv, hF5, hFl, y0, y1, y2, y3, yf⟩ := row_cells hF hkf
  subst hTv
  subst hFv
  have m0 := hb.cell 0
  have m1 := hb.cell 1
  have m2 := hb.cell 2
  have m3 := hb.cell 3
  have m4 := hb.cell 4
  have m5 := hb.cell 5
  simp only [List.getElem?_toArray, List.getElem?_cons_zero, List.getElem?_cons_succ] at m0 m1 m2 m3 m4 m5
  have k1 := hS.b1.cell 0
  have k2 := hS.b2.cell 0
  simp only [List.getElem?_toArray, List.getElem?_cons_zero] at k1 k2
  have hk0 : (0 : Int) ≤ (k : Int) := by omega
  have hkT : (k : Int) < (m.takes.length : Int) := by omega
  have hkF : (k : Int) < (m.follow.length : Int) := by omega
  have hk2 : (k : Int) < 256 := by omega
  generalize hxx : m.takes.getD k 0 = x at *
  generalize hyy : m.follow.getD k 0 = y at *
  have HS := Lib.hid hS
  have HH := Lib.hid (fun X => has_any x c hc X)
  clear hS hm hb hT hF hgd hpi
  cases hbit : x.testBit c with
  | false =>
    rw [hbit] at HH
    clear hbit
    go_enter Tryd.func38, Tryd.ntmps38
    go_upto_region 0 with fail
    go_still_tail 9, (by kernel_rfl)
    change wpList _ _ _ _ _ W.drew
    have HSd : Hid (BeS w0 mb p1 p2 p3 c (t, dn) W.drew) := HS.out.below (below_drew _)
    generalize W.drew = W1 at *
    go_wp2_with fail
    refine (HH.out _).mono ?_
    rintro e W2 ⟨rfl, hb2⟩
    have HS2 := Lib.hid (HSd.out.below hb2)
    clear hb2
    go_wp2
    exact bodyPost_end (v := .tuple #[]) (by simp [results, Tryd.results38, go_sem]) rfl ⟨rfl, HS2.out⟩
  | true =>
    rw [hbit] at HH
    have HWI := Lib.hid (fun X => with_any t y X)
    have HLA := Lib.hid (fun X => has_any p.last k (by omega) X)
    clear hbit
    go_enter Tryd.func38, Tryd.ntmps38
    go_upto_region 0 with fail
    go_still_tail 9, (by kernel_rfl)
    change wpList _ _ _ _ _ W.drew
    have HSd : Hid (BeS w0 mb p1 p2 p3 c (t, dn) W.drew) := HS.out.below (below_drew _)
    have z0 : W.drew.cell? ⟨gT, k * 4, none⟩ = some (wv x 0) := x0
    have hDB : Hid (Below W.heap.size W W.drew) := below_drew _
    generalize W.drew = W1 at *
    go_wp2_with fail
    refine (HH.out _).mono ?_
    rintro e W2 ⟨rfl, hb2⟩
    have hB2 := hDB.out.trans (below_le hb2 hDB.out.size)
    have HS2 := Lib.hid (HSd.out.below hb2)
    have HB2 := Lib.hid hB2
    have a0 := below_cell hB2 m0
    have a1 := below_cell hB2 m1
    have a2 := below_cell hB2 m2
    have a3 := below_cell hB2 m3
    have a4 := below_cell hB2 m4
    have a5 := below_cell hB2 m5
    have e0 := below_cell hB2 y0
    have e1 := below_cell hB2 y1
    have e2 := below_cell hB2 y2
    have e3 := below_cell hB2 y3
    clear hb2 hB2 z0 m0 m1 m2 m3 m4 m5 y0 y1 y2 y3 x0 x1 x2 x3 k1 k2 HS HSd hDB
    have k1 := HS2.out.b1.cell 0
    simp only [List.getElem?_toArray, List.getElem?_cons_zero] at k1
    obtain ⟨t0, t1, t2, t3, t4⟩ := cells5 HS2.out.b3
    obtain ⟨f0, f1, f2, f3, f4⟩ := frozen5 HS2.out.b3
    go_wp2_with fail
    go_region_with (first
      | (go_at_call 40; refine (HWI.out _).mono ?_; rintro e W3 ⟨rfl, hb3⟩
         have HS3 : Hid (BeS w0 mb p1 p2 p3 c (t, dn) W3) := HS2.out.below ⟨hb3.os, hb3.tape, hb3.output, hb3.size, fun j hj => hb3.block j hj⟩
         have q0 := below_cell (w := W2) ⟨hb3.os, hb3.tape, hb3.output, hb3.size, fun j hj => hb3.block j hj⟩ a0
         have HB3 : Hid (Below W2.heap.size W2 W3) := ⟨hb3.os, hb3.tape, hb3.output, hb3.size, fun j hj => hb3.block j hj⟩
         obtain ⟨v0, v1, v2, v3, v4⟩ := cells5 HS3.out.b3
         obtain ⟨g0, g1, g2, g3, g4⟩ := frozen5 HS3.out.b3
         clear hb3))
    all_goals
      have HS4 := Lib.hid (HS3.out.next h3 h13 h23 (t ||| y))
      generalize ((((W3.setCell ⟨p3, 0, none⟩ (wv (t ||| y) 0)).setCell ⟨p3, 1, none⟩ (wv (t ||| y) 1)).setCell ⟨p3, 2, none⟩ (wv (t ||| y) 2)).setCell ⟨p3, 3, none⟩ (wv (t ||| y) 3)) = W4 at *
      obtain ⟨⟨T4, F4, aa4, oo4, hb4, _, _⟩, _, _, _, _⟩ := HMW.out W4 _ HS4.out
      have c2 := hb4.cell 2
      have c3 := hb4.cell 3
      have c4 := hb4.cell 4
      have c5 := hb4.cell 5
      simp only [List.getElem?_toArray, List.getElem?_cons_zero, List.getElem?_cons_succ] at c2 c3 c4 c5
      clear v0 v1 v2 v3 v4 g0 g1 g2 g3 g4 q0 HS3 HB3 t0 t1 t2 t3 t4 f0 f1 f2 f3 f4 a0 a1 a2 a3 a4 a5 e0 e1 e2 e3 k1 HS2 HB2 hb4
      have k1 := HS4.out.b1.cell 0
      simp only [List.getElem?_toArray, List.getElem?_cons_zero] at k1
      obtain ⟨t0, t1, t2, t3, t4⟩ := cells5 HS4.out.b3
      obtain ⟨f0, f1, f2, f3, f4⟩ := frozen5 HS4.out.b3
      cases dn with
      | true =>
        have HS5 := Lib.hid (HS4.out.done h3 h13 h23 true)
        go_wp2
        exact bodyPost_end (v := .tuple #[]) (by simp [results, Tryd.results38, go_sem]) rfl ⟨rfl, by first | exact HS5.out | exact HS5.out.below (below_drew _)⟩
      | false =>
        go_wp2_with fail
        refine (HLA.out _).mono ?_
        rintro e W5 ⟨rfl, hb5⟩
        have HS5 := Lib.hid (HS4.out.below hb5)
        obtain ⟨v0, v1, v2, v3, v4⟩ := cells5 HS5.out.b3
        obtain ⟨g0, g1, g2, g3, g4⟩ := frozen5 HS5.out.b3
        have HS6 := Lib.hid (HS5.out.done h3 h13 h23 (p.last.testBit k))
        clear hb5
        go_wp2
        exact bodyPost_end (v := .tuple #[]) (by simp [results, Tryd.results38, go_sem]) rfl ⟨rfl, by first | exact HS6.out | (rw [Bool.false_or]; exact HS6.out)⟩
end Go.Proofs.YtahphjaelpgjdaaDoor

namespace Go.Proofs.YtahphjaelpgjdaaDoor
open Go.RowKit Rx
set_option linter.unusedVariables false

theorem TzT.bel {w w' : World} {B : Nat} (h : TzT w) (hb : Below B w w') (h5 : 2 ≤ B) : TzT w' := fun t ht => (hb.cell (p := ⟨1, idx t, none⟩) (show (1 : Nat) < B by omega)).trans (h t ht)
abbrev put5 (w : World) (j : Nat) (v0 v1 v2 v3 v4 : Value) : World := ((((w.setCell ⟨j, 0, none⟩ v0).setCell ⟨j, 1, none⟩ v1).setCell ⟨j, 2, none⟩ v2).setCell ⟨j, 3, none⟩ v3).setCell ⟨j, 4, none⟩ v4
theorem Blk.set5 {w : World} {j : Nat} {t : TypeId} {x0 x1 x2 x3 x4 : Value} (h : Blk w j t #[x0, x1, x2, x3, x4]) (v0 v1 v2 v3 v4 : Value) : Blk (put5 w j v0 v1 v2 v3 v4) j t #[v0, v1, v2, v3, v4] := by
  have h0 := h.set_ 0 v0
  simp only [List.setIfInBounds_toArray, List.set_cons_zero] at h0
  have h1 := h0.set_ 1 v1
  simp only [List.setIfInBounds_toArray, List.set_cons_zero, List.set_cons_succ] at h1
  have h2 := h1.set_ 2 v2
  simp only [List.setIfInBounds_toArray, List.set_cons_zero, List.set_cons_succ] at h2
  have h3 := h2.set_ 3 v3
  simp only [List.setIfInBounds_toArray, List.set_cons_zero, List.set_cons_succ] at h3
  have h4 := h3.set_ 4 v4
  simp only [List.setIfInBounds_toArray, List.set_cons_zero, List.set_cons_succ] at h4
  exact h4
theorem below5 {B : Nat} {w0 w : World} (h : Below B w0 w) {j : Nat} (hj : B ≤ j) (v0 v1 v2 v3 v4 : Value) : Below B w0 (put5 w j v0 v1 v2 v3 v4) :=
  ((((h.setCell (p := ⟨j, 0, none⟩) hj v0).setCell (p := ⟨j, 1, none⟩) hj v1).setCell (p := ⟨j, 2, none⟩) hj v2).setCell (p := ⟨j, 3, none⟩) hj v3).setCell (p := ⟨j, 4, none⟩) hj v4
theorem Blk.set5_other {w : World} {j k : Nat} {t : TypeId} {cs : Array Value} (h : Blk w k t cs) (hj : k ≠ j) (v0 v1 v2 v3 v4 : Value) : Blk (put5 w j v0 v1 v2 v3 v4) k t cs := ((((h.other hj 0 _).other hj 1 _).other hj 2 _).other hj 3 _).other hj 4 _
set_option maxRecDepth 100000 in
set_option maxHeartbeats 8000000 in
theorem behind_any (mb nx c : Nat) (dn : Bool) (l : ByteArray) (m : Mach) (p : Pc) (w : World) (hm : Mem w mb l m p) (hT : TzT w) (hnx : nx < 2 ^ m.takes.length) (hc : c < 256) :
    Calls Tryd.prog 21 #[.pointer (some ⟨mb, 0, none⟩), rsV nx dn, .int .u8 c] w fun e w' => e = .returned (rsV (behF m p.last nx c).1 (behF m p.last nx c).2) ∧ Below w.heap.size w w' := by
  obtain ⟨wB, hwB⟩ : ∃ wB, wB = (((w.alloc (.cells #[.pointer (some ⟨mb, 0, none⟩)] 52)).alloc (.cells (rsC nx dn) 63)).alloc (.cells #[.int .u8 c] 5)).alloc (.cells zero5 63) := ⟨_, rfl⟩
  have hsz : wB.heap.size = w.heap.size + 1 + 1 + 1 + 1 := by rw [hwB]; simp
  have hbel : Below w.heap.size w wB := by rw [hwB]; go_grown
  have hb1 : Blk wB w.heap.size 52 #[.pointer (some ⟨mb, 0, none⟩)] := by rw [hwB]; exact (((Blk.new w 52 _).alloc _).alloc _).alloc _
  have hb2 : Blk wB (w.heap.size + 1 + 1) 5 #[.int .u8 c] := by
    rw [hwB]
    have := (Blk.new ((w.alloc (.cells #[.pointer (some ⟨mb, 0, none⟩)] 52)).alloc (.cells (rsC nx dn) 63)) 5 #[.int .u8 c]).alloc (.cells zero5 63)
    rw [World.size_alloc, World.size_alloc] at this
    exact this
  have hbn : Blk wB (w.heap.size + 1) 63 (rsC nx dn) := by
    rw [hwB]
    have := ((Blk.new (w.alloc (.cells #[.pointer (some ⟨mb, 0, none⟩)] 52)) 63 (rsC nx dn)).alloc (.cells #[.int .u8 c] 5)).alloc (.cells zero5 63)
    rw [World.size_alloc] at this
    exact this
  have hbr : Blk wB (w.heap.size + 1 + 1 + 1) 63 zero5 := by
    rw [hwB]
    have := Blk.new (((w.alloc (.cells #[.pointer (some ⟨mb, 0, none⟩)] 52)).alloc (.cells (rsC nx dn) 63)).alloc (.cells #[.int .u8 c] 5)) 63 zero5
    rw [World.size_alloc, World.size_alloc, World.size_alloc] at this
    exact this
  have hmB : Mem wB mb l m p := hm.below hbel
  have hTB : TzT wB := hT.below hbel
  have hs0 : BeS wB mb w.heap.size (w.heap.size + 1 + 1) (w.heap.size + 1 + 1 + 1 + 1) c (0, false) (wB.alloc (.cells zero5 63)) := by
    refine ⟨(Below.refl _ _).alloc (Nat.le_refl _) _, hb1.alloc _, hb2.alloc _, ?_⟩
    have := Blk.new wB 63 zero5
    rw [hsz] at this
    rw [zero5_eq] at this ⊢
    exact this
  have h256 : m.takes.length ≤ 200 := hm.few
  have hlt2 : nx < 2 ^ 256 := Nat.lt_of_lt_of_le hnx (two_le (by omega))
  have H := Lib.hid (each_38 nx (.pointer (some ⟨w.heap.size, 0, none⟩)) (.pointer (some ⟨w.heap.size + 1 + 1, 0, none⟩)) (.pointer (some ⟨w.heap.size + 1 + 1 + 1 + 1, 0, none⟩))
    (fun j W => BeS wB mb w.heap.size (w.heap.size + 1 + 1) (w.heap.size + 1 + 1 + 1 + 1) c (behP m p.last nx c j) W) (wB.alloc (.cells zero5 63))
    (fun o => hs0.below ((Below.refl _ _).alloc (Nat.le_refl _) o))
    (fun j W h => hTB.below h.bel)
    (fun j W hj hbit h => by
      have hjl : j < m.takes.length := bit_lt hnx hbit
      have ht : (behP m p.last nx c j).1 < 2 ^ 256 := Nat.lt_of_lt_of_le (behP_lt hm.good p.last nx c j) (two_le (by omega))
      refine (step38 wB mb w.heap.size (w.heap.size + 1 + 1) (w.heap.size + 1 + 1 + 1 + 1) c j (behP m p.last nx c j).1 (behP m p.last nx c j).2 l m p hmB hjl hc (by omega) (by omega) (by omega) W h ht).mono ?_
      rintro e W' ⟨h1, h2⟩
      refine ⟨h1, ?_⟩
      cases hb : (m.takes.getD j 0).testBit c with
      | true => rw [behP_in hbit hb]; rw [hb, if_pos rfl] at h2; exact h2
      | false => rw [behP_out hb]; rw [hb, if_neg (by simp)] at h2; exact h2)
    (fun j W hbit h => by rw [behP_skip hbit]; exact h))
  obtain ⟨n0, n1, n2, n3, n4⟩ := cells5 (hbn.alloc (.cells zero5 63))
  have HBR := Lib.hid hbr
  have HBL := Lib.hid hbel
  clear hbn hb1 hb2 hmB hTB hs0 hbr hbel hm hT hnx
  generalize hr : behF m p.last nx c = r
  have HRR : Hid (behP m p.last nx c 256 = r) := hr
  clear hr
  go_enter Tryd.func21, Tryd.ntmps21
  go_upto_region 1 with fail
  rw [← hwB]
  clear hwB
  go_upto_region 2 with fail
  generalize wB.alloc (.cells _ 63) = W at *
  go_wp2_with fail
  refine (H.out).mono ?_
  rintro e W2 ⟨rfl, hs⟩
  rw [HRR.out] at hs
  have HS2 := Lib.hid hs
  have hsz2 : wB.heap.size ≤ W2.heap.size := hs.bel.size
  have BR2 := Lib.hid (HBR.out.below hs.bel)
  have BL2 := Lib.hid (HBL.out.trans (below_le hs.bel HBL.out.size))
  clear hs H n0 n1 n2 n3 n4
  obtain ⟨t0, t1, t2, t3, t4⟩ := cells5 HS2.out.b3
  obtain ⟨r0, r1, r2, r3, r4⟩ := cells5 BR2.out
  obtain ⟨g0, g1, g2, g3, g4⟩ := frozen5 BR2.out
  go_wp2
  exact bodyPost_ret (v := rsV r.1 r.2) (by simp [results, Tryd.results21, go_sem, r0, r1, r2, r3, r4]) rfl ⟨rfl, below5 BL2.out (by omega) _ _ _ _ _⟩
end Go.Proofs.YtahphjaelpgjdaaDoor

namespace Go.Proofs.YtahphjaelpgjdaaDoor
open Go.RowKit Rx
set_option linter.unusedVariables false

theorem laidOut : laidOutB Tryd.prog = true := by kernel_rfl
theorem row93 : (93 : TypeId) < Tryd.prog.types.size := of_decide_eq_true (by kernel_rfl)
theorem wide93 : (match Tryd.prog.underlying 93 with | some (.array _ _) | some (.struct _) => true | _ => false) = true := by kernel_rfl
set_option maxRecDepth 100000 in
theorem lawMv : WideMaps.KeyLaw Tryd.prog 93 := deep_law_laid laidOut (m := 6) (by omega) row93 (by kernel_rfl) wide93
theorem keyMv : Maps.Keyed Tryd.prog 93 := Maps.Keyed.of_law lawMv
abbrev mvC (t : Nat) (d : Bool) (c : Nat) : Array Value := #[wv t 0, wv t 1, wv t 2, wv t 3, .bool d, .int .u8 c]
abbrev mvV (t : Nat) (d : Bool) (c : Nat) : Value := .agg (mvC t d c)
theorem wf_u64 (n i : Nat) : (Lit.int .u64 (uw n i)).wf = true := by
  have := wd_lt n i
  unfold uw
  simp only [Lit.wf, show IntKind.u64.min = 0 from rfl, show IntKind.u64.max = 18446744073709551615 by decide, Bool.and_eq_true, decide_eq_true_eq]
  omega
theorem wf_u8 (c : Nat) (hc : c < 256) : (Lit.int .u8 (c : Int)).wf = true := by
  simp only [Lit.wf, show IntKind.u8.min = 0 from rfl, show IntKind.u8.max = 255 by decide, Bool.and_eq_true, decide_eq_true_eq]
  omega
theorem kt93 : Tryd.prog.keyType 93 = true := by kernel_rfl
theorem sz178 : Tryd.prog.types.size = 178 := by kernel_rfl
theorem ce93 : Tryd.prog.cellsOf 93 = 6 := by kernel_rfl
theorem ce63 : Tryd.prog.cellsOf 63 = 5 := by kernel_rfl
theorem ce61 : Tryd.prog.cellsOf 61 = 4 := by kernel_rfl
theorem ce59 : Tryd.prog.cellsOf 59 = 1 := by kernel_rfl
theorem kl59 (n : Nat) (x : Int) (h : (Lit.int .u64 x).wf = true) : Tryd.prog.keyLits (n + 1) 59 [.int .u64 x] = some [.int .u64 x] := by
  unfold Program.keyLits
  rw [Tryd.underlying59]
  exact if_pos ⟨rfl, h⟩
theorem kl4 (n : Nat) (x : Bool) : Tryd.prog.keyLits (n + 1) 4 [.bool x] = some [.bool x] := by
  unfold Program.keyLits
  rw [Tryd.underlying4]
theorem kl5 (n : Nat) (x : Int) (h : (Lit.int .u8 x).wf = true) : Tryd.prog.keyLits (n + 1) 5 [.int .u8 x] = some [.int .u8 x] := by
  unfold Program.keyLits
  rw [Tryd.underlying5]
  exact if_pos ⟨rfl, h⟩
theorem kl61 (n : Nat) (a b c d : Int) (ha : (Lit.int .u64 a).wf = true) (hb : (Lit.int .u64 b).wf = true) (hc : (Lit.int .u64 c).wf = true) (hd : (Lit.int .u64 d).wf = true) :
    Tryd.prog.keyLits (n + 1 + 1) 61 [.int .u64 a, .int .u64 b, .int .u64 c, .int .u64 d] = some [.int .u64 a, .int .u64 b, .int .u64 c, .int .u64 d] := by
  unfold Program.keyLits
  rw [Tryd.underlying61]
  simp [ce61, ce59, List.range, List.range.loop, kl59 n a ha, kl59 n b hb, kl59 n c hc, kl59 n d hd]
theorem kl63 (n : Nat) (a b c d : Int) (x : Bool) (ha : (Lit.int .u64 a).wf = true) (hb : (Lit.int .u64 b).wf = true) (hc : (Lit.int .u64 c).wf = true) (hd : (Lit.int .u64 d).wf = true) :
    Tryd.prog.keyLits (n + 1 + 1 + 1) 63 [.int .u64 a, .int .u64 b, .int .u64 c, .int .u64 d, .bool x] = some [.int .u64 a, .int .u64 b, .int .u64 c, .int .u64 d, .bool x] := by
  unfold Program.keyLits
  rw [Tryd.underlying63]
  have e4 : Tryd.prog.cellsOf 4 = 1 := by kernel_rfl
  simp [ce63, ce61, e4, kl61 n a b c d ha hb hc hd, kl4 (n + 1) x]
theorem kl93 (n : Nat) (a b c d : Int) (x : Bool) (y : Int) (ha : (Lit.int .u64 a).wf = true) (hb : (Lit.int .u64 b).wf = true) (hc : (Lit.int .u64 c).wf = true) (hd : (Lit.int .u64 d).wf = true) (hy : (Lit.int .u8 y).wf = true) :
    Tryd.prog.keyLits (n + 1 + 1 + 1 + 1) 93 [.int .u64 a, .int .u64 b, .int .u64 c, .int .u64 d, .bool x, .int .u8 y] = some [.int .u64 a, .int .u64 b, .int .u64 c, .int .u64 d, .bool x, .int .u8 y] := by
  unfold Program.keyLits
  rw [Tryd.underlying93]
  have e5 : Tryd.prog.cellsOf 5 = 1 := by kernel_rfl
  simp [ce93, ce63, e5, kl63 n a b c d x ha hb hc hd, kl5 (n + 1 + 1) y hy]
set_option maxRecDepth 100000 in
theorem key_of (t : Nat) (d : Bool) (c : Nat) (hc : c < 256) : ∃ kl, keyOf Tryd.prog 93 (mvV t d c) = some kl := by
  have hf : (mvV t d c).formed Tryd.prog 93 = true := by
    unfold mvV mvC wv
    generalize uw t 0 = x0
    generalize uw t 1 = x1
    generalize uw t 2 = x2
    generalize uw t 3 = x3
    kernel_rfl
  have hl := kl93 175 _ _ _ _ d _ (wf_u64 t 0) (wf_u64 t 1) (wf_u64 t 2) (wf_u64 t 3) (wf_u8 c hc)
  have hl2 : Tryd.prog.keyLits (Tryd.prog.types.size + 1) 93 (mvV t d c).cells.toList = some [.int .u64 (uw t 0), .int .u64 (uw t 1), .int .u64 (uw t 2), .int .u64 (uw t 3), .bool d, .int .u8 c] := by rw [sz178]; exact hl
  refine ⟨.string (keyBytes [.int .u64 (uw t 0), .int .u64 (uw t 1), .int .u64 (uw t 2), .int .u64 (uw t 3), .bool d, .int .u8 c]), ?_⟩
  unfold keyOf
  rw [Tryd.underlying93]
  dsimp only
  rw [kt93, hf, hl2]
  rfl

/-! the map: each move that it holds, with what is left behind it -/
def MapOk (w : World) (mp : Nat) (m : Mach) (lst : Nat) : Prop :=
  ∃ (es : Array MapEntry) (clock : Nat), w.heap[mp]? = some (.map es clock) ∧ ∀ x ∈ es.toList, ∃ (t : Nat) (d : Bool) (c : Nat), t < 2 ^ 256 ∧ c < 256 ∧ x.key = mvV t d c ∧ x.val = rsV (behF m lst t c).1 (behF m lst t c).2
theorem MapOk.kept {w w' : World} {mp lst : Nat} {m : Mach} (h : MapOk w mp m lst) (hk : w'.heap[mp]? = w.heap[mp]?) : MapOk w' mp m lst := by
  obtain ⟨es, clock, h1, h2⟩ := h
  exact ⟨es, clock, hk.trans h1, h2⟩
theorem MapOk.lt {w : World} {mp lst : Nat} {m : Mach} (h : MapOk w mp m lst) : mp < w.heap.size := by
  obtain ⟨es, clock, h1, h2⟩ := h
  exact (Array.getElem?_eq_some_iff.1 h1).1
theorem uw_inj {n m : Nat} (hn : n < 2 ^ 256) (hm : m < 2 ^ 256) (h0 : uw n 0 = uw m 0) (h1 : uw n 1 = uw m 1) (h2 : uw n 2 = uw m 2) (h3 : uw n 3 = uw m 3) : n = m := by
  refine words_eq hn hm fun i hi => ?_
  unfold uw at h0 h1 h2 h3
  have : i = 0 ∨ i = 1 ∨ i = 2 ∨ i = 3 := by omega
  rcases this with rfl | rfl | rfl | rfl <;> omega
theorem zero63 (w : World) : (zeroValue 63).run Tryd.prog w = .ok (.agg zero5) w := by kernel_rfl
/-- a look: the move is there, with what is left behind it; or it isn't -/
theorem look_any {w : World} {mp lst : Nat} {m : Mach} (h : MapOk w mp m lst) (t : Nat) (d : Bool) (c : Nat) (ht : t < 2 ^ 256) (hc : c < 256) :
    (Instr.lookup 90 (.map (some mp)) (mvV t d c) true).run Tryd.prog w = .ok (.tuple #[rsV (behF m lst t c).1 (behF m lst t c).2, .bool true]) w ∨
    ((Instr.lookup 90 (.map (some mp)) (mvV t d c) true).run Tryd.prog w = .ok (.tuple #[.agg zero5, .bool false]) w ∧
      ∀ (w2 : World) (v : Value), w2.heap[mp]? = w.heap[mp]? → v = rsV (behF m lst t c).1 (behF m lst t c).2 → ∃ w3, (Instr.mapUpdate 90 (.map (some mp)) (mvV t d c) v).run Tryd.prog w2 = .ok () w3 ∧ MapOk w3 mp m lst ∧ w2.grownBy w3 (some mp)) := by
  obtain ⟨es, clock, h1, h2⟩ := h
  obtain ⟨kl, hkl⟩ := key_of t d c hc
  have hkeys : ∀ e ∈ es.toList, ∃ l, keyOf Tryd.prog 93 e.key = some l := fun e he => by
    obtain ⟨t', d', c', _, hc', hk, _⟩ := h2 e he
    rw [hk]; exact key_of t' d' c' hc'
  have hf := fun w => keyMv.find w hkl es.toList hkeys
  rcases hf w with ⟨g1, g2⟩ | ⟨j, e0, g1, g2, g3⟩
  · refine .inr ⟨?_, fun w2 v hw2 hv => ?_⟩
    · simp [Instr.lookup, run_underlying Tryd.underlying90, MapKept.run_getObj_map h1, keyMv.check w _ hkl, g1, Result.andThen]
    · have h12 : w2.heap[mp]? = some (.map es clock) := hw2.trans h1
      rcases hf w2 with ⟨k1, k2⟩ | ⟨j, e0, k1, k2, k3⟩
      · refine ⟨{ w2 with heap := w2.heap.setIfInBounds mp (.map (es.push ⟨mvV t d c, v, clock⟩) (clock + 1)) }, ?_, ⟨es.push ⟨mvV t d c, v, clock⟩, clock + 1, ?_, ?_⟩, ⟨rfl, rfl, rfl, by simp, fun k hk hne => ?_⟩⟩
        · simp [Instr.mapUpdate, run_underlying Tryd.underlying90, MapKept.run_getObj_map h12, keyMv.check w2 false hkl, k1, MapKept.run_setObj_map _ h12, Result.andThen]
        · have hlt : mp < w2.heap.size := (Array.getElem?_eq_some_iff.1 h12).1
          simp [hlt]
        · intro x hx
          simp only [Array.toList_push, List.mem_append, List.mem_singleton] at hx
          rcases hx with hx | rfl
          · exact h2 x hx
          · exact ⟨t, d, c, ht, hc, rfl, hv⟩
        · have : mp ≠ k := fun e => hne (by rw [e])
          simp [this]
      · exact absurd k3 (g2 e0 (List.mem_of_getElem? k2))
  · refine .inl ?_
    obtain ⟨t', d', c', ht', hc', hk, hv⟩ := h2 e0 (List.mem_of_getElem? g2)
    rw [g3] at hk
    have hk' : c = c' ∧ t = t' := by
      simp only [mvV, mvC, wv, Value.agg.injEq] at hk
      simp at hk
      obtain ⟨a0, a1, a2, a3, _, a5⟩ := hk
      exact ⟨by omega, uw_inj ht ht' (by omega) (by omega) (by omega) (by omega)⟩
    obtain ⟨rfl, rfl⟩ := hk'
    simp [Instr.lookup, run_underlying Tryd.underlying90, MapKept.run_getObj_map h1, keyMv.check w _ hkl, g1, hv, Result.andThen]
end Go.Proofs.YtahphjaelpgjdaaDoor

import Derived.Test.YtahphjaelpgjdaaDoorW13
namespace Go.Proofs.YtahphjaelpgjdaaDoor
open Go.RowKit Rx
set_option linter.unusedVariables false

def ChainP (b : Nat) (T F : Value) (l : ByteArray) (a o : Nat) (w : World) (m' : Mach) (p' : Pc) (e : Ending) (w' : World) : Prop := e = .returned (pcV p') ∧ Rdr w' b T F l m' a o ∧ Moves b T F w T F w'
theorem Blk.part_a {w : World} {j u f l : Nat} {e : Bool} {t : TypeId} (h : Blk w j t (pcC ⟨e, f, l⟩)) : Blk ((((w.setCell ⟨j, 1, none⟩ (wv u 0)).setCell ⟨j, 2, none⟩ (wv u 1)).setCell ⟨j, 3, none⟩ (wv u 2)).setCell ⟨j, 4, none⟩ (wv u 3)) j t (pcC ⟨e, u, l⟩) := by
  have h0 := h.set_ 1 (wv u 0)
  simp only [List.setIfInBounds_toArray, List.set_cons_zero, List.set_cons_succ] at h0
  have h1 := h0.set_ 2 (wv u 1)
  simp only [List.setIfInBounds_toArray, List.set_cons_zero, List.set_cons_succ] at h1
  have h2 := h1.set_ 3 (wv u 2)
  simp only [List.setIfInBounds_toArray, List.set_cons_zero, List.set_cons_succ] at h2
  have h3 := h2.set_ 4 (wv u 3)
  simp only [List.setIfInBounds_toArray, List.set_cons_zero, List.set_cons_succ] at h3
  exact h3
theorem Blk.past_a {w : World} {j k : Nat} {t : TypeId} {cs : Array Value} (h : Blk w k t cs) (hj : k ≠ j) (v0 v1 v2 v3 : Value) : Blk ((((w.setCell ⟨j, 1, none⟩ v0).setCell ⟨j, 2, none⟩ v1).setCell ⟨j, 3, none⟩ v2).setCell ⟨j, 4, none⟩ v3) k t cs := ((((h.other hj 1 _).other hj 2 _).other hj 3 _).other hj 4 _)
theorem Rdr.past_a {w : World} {b : Nat} {T F : Value} {l : ByteArray} {m : Mach} {a o j : Nat} (h : Rdr w b T F l m a o) (hj : ¬ Foot b T F j) (v0 v1 v2 v3 : Value) : Rdr ((((w.setCell ⟨j, 1, none⟩ v0).setCell ⟨j, 2, none⟩ v1).setCell ⟨j, 3, none⟩ v2).setCell ⟨j, 4, none⟩ v3) b T F l m a o := ((((h.other hj 1 _).other hj 2 _).other hj 3 _).other hj 4 _)
theorem Moves.past_a {b : Nat} {T F T1 F1 : Value} {w0 w : World} (h : Moves b T F w0 T1 F1 w) {j : Nat} (hj : w0.heap.size ≤ j) (v0 v1 v2 v3 : Value) : Moves b T F w0 T1 F1 ((((w.setCell ⟨j, 1, none⟩ v0).setCell ⟨j, 2, none⟩ v1).setCell ⟨j, 3, none⟩ v2).setCell ⟨j, 4, none⟩ v3) := ((((h.set_new hj 1 _).set_new hj 2 _).set_new hj 3 _).set_new hj 4 _)
theorem Blk.part_b {w : World} {j u f l : Nat} {e : Bool} {t : TypeId} (h : Blk w j t (pcC ⟨e, f, l⟩)) : Blk ((((w.setCell ⟨j, 5, none⟩ (wv u 0)).setCell ⟨j, 6, none⟩ (wv u 1)).setCell ⟨j, 7, none⟩ (wv u 2)).setCell ⟨j, 8, none⟩ (wv u 3)) j t (pcC ⟨e, f, u⟩) := by
  have h0 := h.set_ 5 (wv u 0)
  simp only [List.setIfInBounds_toArray, List.set_cons_zero, List.set_cons_succ] at h0
  have h1 := h0.set_ 6 (wv u 1)
  simp only [List.setIfInBounds_toArray, List.set_cons_zero, List.set_cons_succ] at h1
  have h2 := h1.set_ 7 (wv u 2)
  simp only [List.setIfInBounds_toArray, List.set_cons_zero, List.set_cons_succ] at h2
  have h3 := h2.set_ 8 (wv u 3)
  simp only [List.setIfInBounds_toArray, List.set_cons_zero, List.set_cons_succ] at h3
  exact h3
theorem Blk.past_b {w : World} {j k : Nat} {t : TypeId} {cs : Array Value} (h : Blk w k t cs) (hj : k ≠ j) (v0 v1 v2 v3 : Value) : Blk ((((w.setCell ⟨j, 5, none⟩ v0).setCell ⟨j, 6, none⟩ v1).setCell ⟨j, 7, none⟩ v2).setCell ⟨j, 8, none⟩ v3) k t cs := ((((h.other hj 5 _).other hj 6 _).other hj 7 _).other hj 8 _)
theorem Rdr.past_b {w : World} {b : Nat} {T F : Value} {l : ByteArray} {m : Mach} {a o j : Nat} (h : Rdr w b T F l m a o) (hj : ¬ Foot b T F j) (v0 v1 v2 v3 : Value) : Rdr ((((w.setCell ⟨j, 5, none⟩ v0).setCell ⟨j, 6, none⟩ v1).setCell ⟨j, 7, none⟩ v2).setCell ⟨j, 8, none⟩ v3) b T F l m a o := ((((h.other hj 5 _).other hj 6 _).other hj 7 _).other hj 8 _)
theorem Moves.past_b {b : Nat} {T F T1 F1 : Value} {w0 w : World} (h : Moves b T F w0 T1 F1 w) {j : Nat} (hj : w0.heap.size ≤ j) (v0 v1 v2 v3 : Value) : Moves b T F w0 T1 F1 ((((w.setCell ⟨j, 5, none⟩ v0).setCell ⟨j, 6, none⟩ v1).setCell ⟨j, 7, none⟩ v2).setCell ⟨j, 8, none⟩ v3) := ((((h.set_new hj 5 _).set_new hj 6 _).set_new hj 7 _).set_new hj 8 _)

set_option maxRecDepth 100000 in
set_option maxHeartbeats 8000000 in
theorem chain_true_true (b a o pf pl qf ql : Nat) (T F : Value) (l : ByteArray) (m : Mach) (w : World) (hr : Rdr w b T F l m a o) (hT : TzT w) (hp : pl < 2 ^ m.follow.length) (hn : m.follow.length ≤ 256) :
    Calls Tryd.prog 64 #[.pointer (some ⟨b, 0, none⟩), pcV ⟨true, pf, pl⟩, pcV ⟨true, qf, ql⟩] w (ChainP b T F l a o w (chainM m ⟨true, pf, pl⟩ ⟨true, qf, ql⟩) (chainP ⟨true, pf, pl⟩ ⟨true, qf, ql⟩)) := by
  have b0 : Blk (((w.alloc (.cells (pcC ⟨true, pf, pl⟩) 85)).alloc (.cells (pcC ⟨true, qf, ql⟩) 85)).alloc (.cells zero9 85)) w.heap.size 85 (pcC ⟨true, pf, pl⟩) := ((Blk.new w 85 _).alloc _).alloc _
  have b1 : Blk (((w.alloc (.cells (pcC ⟨true, pf, pl⟩) 85)).alloc (.cells (pcC ⟨true, qf, ql⟩) 85)).alloc (.cells zero9 85)) (w.heap.size + 1) 85 (pcC ⟨true, qf, ql⟩) := by
    have := (Blk.new (w.alloc (.cells (pcC ⟨true, pf, pl⟩) 85)) 85 (pcC ⟨true, qf, ql⟩)).alloc (.cells zero9 85)
    rw [World.size_alloc] at this
    exact this
  have b2 : Blk (((w.alloc (.cells (pcC ⟨true, pf, pl⟩) 85)).alloc (.cells (pcC ⟨true, qf, ql⟩) 85)).alloc (.cells zero9 85)) (w.heap.size + 1 + 1) 85 zero9 := by
    have := Blk.new ((w.alloc (.cells (pcC ⟨true, pf, pl⟩) 85)).alloc (.cells (pcC ⟨true, qf, ql⟩) 85)) 85 zero9
    rw [World.size_alloc, World.size_alloc] at this
    exact this
  have HR := Lib.hid (((hr.alloc (.cells (pcC ⟨true, pf, pl⟩) 85)).alloc (.cells (pcC ⟨true, qf, ql⟩) 85)).alloc (.cells zero9 85))
  have HM := Lib.hid ((((Moves.refl b T F w).alloc (.cells (pcC ⟨true, pf, pl⟩) 85)).alloc (.cells (pcC ⟨true, qf, ql⟩) 85)).alloc (.cells zero9 85))
  have HL := Lib.hid (link_any b a o pl qf T F l m _ HR.out (HM.out.tz hr hT) hp hn)
  have B0 := Lib.hid b0
  have B1 := Lib.hid b1
  have B2 := Lib.hid b2
  have q := s18_of b0 b1
  have HS0 := Lib.hid q
  clear b0 b1 b2 hT hp hn hr q
  go_enter Tryd.func64, Tryd.ntmps64
  go_wp2_with fail
  refine (HL.out).mono ?_
  rintro e w1 ⟨rfl, hR1, hM1⟩
  have HR1 := Lib.hid hR1
  have HM1 := Lib.hid (HM.out.trans hM1)
  have hb0 := B0.out.moves hM1 (HR.out.off B0.out (by decide) (by decide))
  have hb1 := B1.out.moves hM1 (HR.out.off B1.out (by decide) (by decide))
  have hb2 := B2.out.moves hM1 (HR.out.off B2.out (by decide) (by decide))
  have B0' := Lib.hid hb0
  have B1' := Lib.hid hb1
  have B2' := Lib.hid hb2
  clear hR1 hM1 HR HM HS0 HL B0 B1 B2 hb0 hb1 hb2
  have hsz : w.heap.size + 1 + 1 < w1.heap.size := B2'.out.lt
  have B3 := Lib.hid (Blk.new w1 85 (pcC ⟨true, pf, ql⟩))
  have HRb := Lib.hid (HR1.out.alloc (.cells (pcC ⟨true, pf, ql⟩) 85))
  have HMb := Lib.hid (HM1.out.alloc (.cells (pcC ⟨true, pf, ql⟩) 85))
  have C0 := Lib.hid (B0'.out.alloc (.cells (pcC ⟨true, pf, ql⟩) 85))
  have C1 := Lib.hid (B1'.out.alloc (.cells (pcC ⟨true, pf, ql⟩) 85))
  have C2 := Lib.hid (B2'.out.alloc (.cells (pcC ⟨true, pf, ql⟩) 85))
  obtain ⟨x0, x1, x2, x3, x4, x5, x6, x7, x8⟩ := cells9 B0'.out
  obtain ⟨y0, y1, y2, y3, y4, y5, y6, y7, y8⟩ := cells9 B1'.out
  go_upto_region 3 with fail
  generalize hW : w1.alloc (.cells (pcC _) 85) = W at *
  generalize hj3 : w1.heap.size = j3 at *
  clear hW hj3 x0 x1 x2 x3 x4 x5 x6 x7 x8 y0 y1 y2 y3 y4 y5 y6 y7 y8
  obtain ⟨x0, x1, x2, x3, x4, x5, x6, x7, x8⟩ := cells9 C0.out
  obtain ⟨y0, y1, y2, y3, y4, y5, y6, y7, y8⟩ := cells9 C1.out
  obtain ⟨z0, z1, z2, z3, z4, z5, z6, z7, z8⟩ := cells9 B3.out
  go_wp2_with fail
  refine (with_any pf qf _).mono ?_
  rintro e wn ⟨rfl, hb⟩
  have D0 := Lib.hid (C0.out.below hb)
  have D1 := Lib.hid (C1.out.below hb)
  have D2 := Lib.hid (C2.out.below hb)
  have D3 := Lib.hid (B3.out.below hb)
  have HRd := Lib.hid (HRb.out.below hb)
  have HMd := Lib.hid (HMb.out.below hb)
  clear hb C0 C1 C2 B3 HRb HMb x0 x1 x2 x3 x4 x5 x6 x7 x8 y0 y1 y2 y3 y4 y5 y6 y7 y8 z0 z1 z2 z3 z4 z5 z6 z7 z8
  obtain ⟨x0, x1, x2, x3, x4, x5, x6, x7, x8⟩ := cells9 D0.out
  obtain ⟨y0, y1, y2, y3, y4, y5, y6, y7, y8⟩ := cells9 D1.out
  obtain ⟨z0, z1, z2, z3, z4, z5, z6, z7, z8⟩ := cells9 D3.out
  obtain ⟨f0, f1, f2, f3, f4, f5, f6, f7, f8⟩ := frozen9 D3.out
  go_upto_region 5 with fail
  have C0 := Lib.hid (D0.out.past_a (j := j3) (by omega) (wv (pf ||| qf) 0) (wv (pf ||| qf) 1) (wv (pf ||| qf) 2) (wv (pf ||| qf) 3))
  have C1 := Lib.hid (D1.out.past_a (j := j3) (by omega) (wv (pf ||| qf) 0) (wv (pf ||| qf) 1) (wv (pf ||| qf) 2) (wv (pf ||| qf) 3))
  have C2 := Lib.hid (D2.out.past_a (j := j3) (by omega) (wv (pf ||| qf) 0) (wv (pf ||| qf) 1) (wv (pf ||| qf) 2) (wv (pf ||| qf) 3))
  have B3 := Lib.hid (D3.out.part_a (u := (pf ||| qf)))
  have HRb := Lib.hid (HRd.out.past_a (HRd.out.off D3.out (by decide) (by decide)) (wv (pf ||| qf) 0) (wv (pf ||| qf) 1) (wv (pf ||| qf) 2) (wv (pf ||| qf) 3))
  have HMb := Lib.hid (HMd.out.past_a (j := j3) (by omega) (wv (pf ||| qf) 0) (wv (pf ||| qf) 1) (wv (pf ||| qf) 2) (wv (pf ||| qf) 3))
  generalize hW : ((((wn.setCell ⟨j3, 1, none⟩ (wv (pf ||| qf) 0)).setCell ⟨j3, 2, none⟩ (wv (pf ||| qf) 1)).setCell ⟨j3, 3, none⟩ (wv (pf ||| qf) 2)).setCell ⟨j3, 4, none⟩ (wv (pf ||| qf) 3)) = W at *
  clear hW D0 D1 D2 D3 HRd HMd x0 x1 x2 x3 x4 x5 x6 x7 x8 y0 y1 y2 y3 y4 y5 y6 y7 y8 z0 z1 z2 z3 z4 z5 z6 z7 z8 f0 f1 f2 f3 f4 f5 f6 f7 f8
  obtain ⟨x0, x1, x2, x3, x4, x5, x6, x7, x8⟩ := cells9 C0.out
  obtain ⟨y0, y1, y2, y3, y4, y5, y6, y7, y8⟩ := cells9 C1.out
  obtain ⟨z0, z1, z2, z3, z4, z5, z6, z7, z8⟩ := cells9 B3.out
  go_wp2_with fail
  refine (with_any ql pl _).mono ?_
  rintro e wn ⟨rfl, hb⟩
  have D0 := Lib.hid (C0.out.below hb)
  have D1 := Lib.hid (C1.out.below hb)
  have D2 := Lib.hid (C2.out.below hb)
  have D3 := Lib.hid (B3.out.below hb)
  have HRd := Lib.hid (HRb.out.below hb)
  have HMd := Lib.hid (HMb.out.below hb)
  clear hb C0 C1 C2 B3 HRb HMb x0 x1 x2 x3 x4 x5 x6 x7 x8 y0 y1 y2 y3 y4 y5 y6 y7 y8 z0 z1 z2 z3 z4 z5 z6 z7 z8
  obtain ⟨x0, x1, x2, x3, x4, x5, x6, x7, x8⟩ := cells9 D0.out
  obtain ⟨y0, y1, y2, y3, y4, y5, y6, y7, y8⟩ := cells9 D1.out
  obtain ⟨z0, z1, z2, z3, z4, z5, z6, z7, z8⟩ := cells9 D3.out
  obtain ⟨f0, f1, f2, f3, f4, f5, f6, f7, f8⟩ := frozen9 D3.out
  go_upto_region 7 with fail
  have C0 := Lib.hid (D0.out.past_b (j := j3) (by omega) (wv (ql ||| pl) 0) (wv (ql ||| pl) 1) (wv (ql ||| pl) 2) (wv (ql ||| pl) 3))
  have C1 := Lib.hid (D1.out.past_b (j := j3) (by omega) (wv (ql ||| pl) 0) (wv (ql ||| pl) 1) (wv (ql ||| pl) 2) (wv (ql ||| pl) 3))
  have C2 := Lib.hid (D2.out.past_b (j := j3) (by omega) (wv (ql ||| pl) 0) (wv (ql ||| pl) 1) (wv (ql ||| pl) 2) (wv (ql ||| pl) 3))
  have B3 := Lib.hid (D3.out.part_b (u := (ql ||| pl)))
  have HRb := Lib.hid (HRd.out.past_b (HRd.out.off D3.out (by decide) (by decide)) (wv (ql ||| pl) 0) (wv (ql ||| pl) 1) (wv (ql ||| pl) 2) (wv (ql ||| pl) 3))
  have HMb := Lib.hid (HMd.out.past_b (j := j3) (by omega) (wv (ql ||| pl) 0) (wv (ql ||| pl) 1) (wv (ql ||| pl) 2) (wv (ql ||| pl) 3))
  generalize hW : ((((wn.setCell ⟨j3, 5, none⟩ (wv (ql ||| pl) 0)).setCell ⟨j3, 6, none⟩ (wv (ql ||| pl) 1)).setCell ⟨j3, 7, none⟩ (wv (ql ||| pl) 2)).setCell ⟨j3, 8, none⟩ (wv (ql ||| pl) 3)) = W at *
  clear hW D0 D1 D2 D3 HRd HMd x0 x1 x2 x3 x4 x5 x6 x7 x8 y0 y1 y2 y3 y4 y5 y6 y7 y8 z0 z1 z2 z3 z4 z5 z6 z7 z8 f0 f1 f2 f3 f4 f5 f6 f7 f8
  obtain ⟨x0, x1, x2, x3, x4, x5, x6, x7, x8⟩ := cells9 C0.out
  obtain ⟨y0, y1, y2, y3, y4, y5, y6, y7, y8⟩ := cells9 C1.out
  obtain ⟨z0, z1, z2, z3, z4, z5, z6, z7, z8⟩ := cells9 B3.out
  obtain ⟨r0, r1, r2, r3, r4, r5, r6, r7, r8⟩ := cells9 C2.out
  obtain ⟨g0, g1, g2, g3, g4, g5, g6, g7, g8⟩ := frozen9 C2.out
  go_wp2
  exact bodyPost_ret (v := pcV ⟨true, (pf ||| qf), (ql ||| pl)⟩) (by simp [results, Tryd.results64, go_sem, r0, r1, r2, r3, r4, r5, r6, r7, r8]) rfl ⟨rfl, HRb.out.set9 (HRb.out.off C2.out (by decide) (by decide)) _ _ _ _ _ _ _ _ _, HMb.out.set9 (by omega) _ _ _ _ _ _ _ _ _⟩

set_option maxRecDepth 100000 in
set_option maxHeartbeats 8000000 in
theorem chain_true_false (b a o pf pl qf ql : Nat) (T F : Value) (l : ByteArray) (m : Mach) (w : World) (hr : Rdr w b T F l m a o) (hT : TzT w) (hp : pl < 2 ^ m.follow.length) (hn : m.follow.length ≤ 256) :
    Calls Tryd.prog 64 #[.pointer (some ⟨b, 0, none⟩), pcV ⟨true, pf, pl⟩, pcV ⟨false, qf, ql⟩] w (ChainP b T F l a o w (chainM m ⟨true, pf, pl⟩ ⟨false, qf, ql⟩) (chainP ⟨true, pf, pl⟩ ⟨false, qf, ql⟩)) := by
  have b0 : Blk (((w.alloc (.cells (pcC ⟨true, pf, pl⟩) 85)).alloc (.cells (pcC ⟨false, qf, ql⟩) 85)).alloc (.cells zero9 85)) w.heap.size 85 (pcC ⟨true, pf, pl⟩) := ((Blk.new w 85 _).alloc _).alloc _
  have b1 : Blk (((w.alloc (.cells (pcC ⟨true, pf, pl⟩) 85)).alloc (.cells (pcC ⟨false, qf, ql⟩) 85)).alloc (.cells zero9 85)) (w.heap.size + 1) 85 (pcC ⟨false, qf, ql⟩) := by
    have := (Blk.new (w.alloc (.cells (pcC ⟨true, pf, pl⟩) 85)) 85 (pcC ⟨false, qf, ql⟩)).alloc (.cells zero9 85)
    rw [World.size_alloc] at this
    exact this
  have b2 : Blk (((w.alloc (.cells (pcC ⟨true, pf, pl⟩) 85)).alloc (.cells (pcC ⟨false, qf, ql⟩) 85)).alloc (.cells zero9 85)) (w.heap.size + 1 + 1) 85 zero9 := by
    have := Blk.new ((w.alloc (.cells (pcC ⟨true, pf, pl⟩) 85)).alloc (.cells (pcC ⟨false, qf, ql⟩) 85)) 85 zero9
    rw [World.size_alloc, World.size_alloc] at this
    exact this
  have HR := Lib.hid (((hr.alloc (.cells (pcC ⟨true, pf, pl⟩) 85)).alloc (.cells (pcC ⟨false, qf, ql⟩) 85)).alloc (.cells zero9 85))
  have HM := Lib.hid ((((Moves.refl b T F w).alloc (.cells (pcC ⟨true, pf, pl⟩) 85)).alloc (.cells (pcC ⟨false, qf, ql⟩) 85)).alloc (.cells zero9 85))
  have HL := Lib.hid (link_any b a o pl qf T F l m _ HR.out (HM.out.tz hr hT) hp hn)
  have B0 := Lib.hid b0
  have B1 := Lib.hid b1
  have B2 := Lib.hid b2
  have q := s18_of b0 b1
  have HS0 := Lib.hid q
  clear b0 b1 b2 hT hp hn hr q
  go_enter Tryd.func64, Tryd.ntmps64
  go_wp2_with fail
  refine (HL.out).mono ?_
  rintro e w1 ⟨rfl, hR1, hM1⟩
  have HR1 := Lib.hid hR1
  have HM1 := Lib.hid (HM.out.trans hM1)
  have hb0 := B0.out.moves hM1 (HR.out.off B0.out (by decide) (by decide))
  have hb1 := B1.out.moves hM1 (HR.out.off B1.out (by decide) (by decide))
  have hb2 := B2.out.moves hM1 (HR.out.off B2.out (by decide) (by decide))
  have B0' := Lib.hid hb0
  have B1' := Lib.hid hb1
  have B2' := Lib.hid hb2
  clear hR1 hM1 HR HM HS0 HL B0 B1 B2 hb0 hb1 hb2
  have hsz : w.heap.size + 1 + 1 < w1.heap.size := B2'.out.lt
  have B3 := Lib.hid (Blk.new w1 85 (pcC ⟨false, pf, ql⟩))
  have HRb := Lib.hid (HR1.out.alloc (.cells (pcC ⟨false, pf, ql⟩) 85))
  have HMb := Lib.hid (HM1.out.alloc (.cells (pcC ⟨false, pf, ql⟩) 85))
  have C0 := Lib.hid (B0'.out.alloc (.cells (pcC ⟨false, pf, ql⟩) 85))
  have C1 := Lib.hid (B1'.out.alloc (.cells (pcC ⟨false, pf, ql⟩) 85))
  have C2 := Lib.hid (B2'.out.alloc (.cells (pcC ⟨false, pf, ql⟩) 85))
  obtain ⟨x0, x1, x2, x3, x4, x5, x6, x7, x8⟩ := cells9 B0'.out
  obtain ⟨y0, y1, y2, y3, y4, y5, y6, y7, y8⟩ := cells9 B1'.out
  go_upto_region 3 with fail
  generalize hW : w1.alloc (.cells (pcC _) 85) = W at *
  generalize hj3 : w1.heap.size = j3 at *
  clear hW hj3 x0 x1 x2 x3 x4 x5 x6 x7 x8 y0 y1 y2 y3 y4 y5 y6 y7 y8
  obtain ⟨x0, x1, x2, x3, x4, x5, x6, x7, x8⟩ := cells9 C0.out
  obtain ⟨y0, y1, y2, y3, y4, y5, y6, y7, y8⟩ := cells9 C1.out
  obtain ⟨z0, z1, z2, z3, z4, z5, z6, z7, z8⟩ := cells9 B3.out
  go_wp2_with fail
  refine (with_any pf qf _).mono ?_
  rintro e wn ⟨rfl, hb⟩
  have D0 := Lib.hid (C0.out.below hb)
  have D1 := Lib.hid (C1.out.below hb)
  have D2 := Lib.hid (C2.out.below hb)
  have D3 := Lib.hid (B3.out.below hb)
  have HRd := Lib.hid (HRb.out.below hb)
  have HMd := Lib.hid (HMb.out.below hb)
  clear hb C0 C1 C2 B3 HRb HMb x0 x1 x2 x3 x4 x5 x6 x7 x8 y0 y1 y2 y3 y4 y5 y6 y7 y8 z0 z1 z2 z3 z4 z5 z6 z7 z8
  obtain ⟨x0, x1, x2, x3, x4, x5, x6, x7, x8⟩ := cells9 D0.out
  obtain ⟨y0, y1, y2, y3, y4, y5, y6, y7, y8⟩ := cells9 D1.out
  obtain ⟨z0, z1, z2, z3, z4, z5, z6, z7, z8⟩ := cells9 D3.out
  obtain ⟨f0, f1, f2, f3, f4, f5, f6, f7, f8⟩ := frozen9 D3.out
  go_upto_region 5 with fail
  have C0 := Lib.hid (D0.out.past_a (j := j3) (by omega) (wv (pf ||| qf) 0) (wv (pf ||| qf) 1) (wv (pf ||| qf) 2) (wv (pf ||| qf) 3))
  have C1 := Lib.hid (D1.out.past_a (j := j3) (by omega) (wv (pf ||| qf) 0) (wv (pf ||| qf) 1) (wv (pf ||| qf) 2) (wv (pf ||| qf) 3))
  have C2 := Lib.hid (D2.out.past_a (j := j3) (by omega) (wv (pf ||| qf) 0) (wv (pf ||| qf) 1) (wv (pf ||| qf) 2) (wv (pf ||| qf) 3))
  have B3 := Lib.hid (D3.out.part_a (u := (pf ||| qf)))
  have HRb := Lib.hid (HRd.out.past_a (HRd.out.off D3.out (by decide) (by decide)) (wv (pf ||| qf) 0) (wv (pf ||| qf) 1) (wv (pf ||| qf) 2) (wv (pf ||| qf) 3))
  have HMb := Lib.hid (HMd.out.past_a (j := j3) (by omega) (wv (pf ||| qf) 0) (wv (pf ||| qf) 1) (wv (pf ||| qf) 2) (wv (pf ||| qf) 3))
  generalize hW : ((((wn.setCell ⟨j3, 1, none⟩ (wv (pf ||| qf) 0)).setCell ⟨j3, 2, none⟩ (wv (pf ||| qf) 1)).setCell ⟨j3, 3, none⟩ (wv (pf ||| qf) 2)).setCell ⟨j3, 4, none⟩ (wv (pf ||| qf) 3)) = W at *
  clear hW D0 D1 D2 D3 HRd HMd x0 x1 x2 x3 x4 x5 x6 x7 x8 y0 y1 y2 y3 y4 y5 y6 y7 y8 z0 z1 z2 z3 z4 z5 z6 z7 z8 f0 f1 f2 f3 f4 f5 f6 f7 f8
  obtain ⟨x0, x1, x2, x3, x4, x5, x6, x7, x8⟩ := cells9 C0.out
  obtain ⟨y0, y1, y2, y3, y4, y5, y6, y7, y8⟩ := cells9 C1.out
  obtain ⟨z0, z1, z2, z3, z4, z5, z6, z7, z8⟩ := cells9 B3.out
  obtain ⟨r0, r1, r2, r3, r4, r5, r6, r7, r8⟩ := cells9 C2.out
  obtain ⟨g0, g1, g2, g3, g4, g5, g6, g7, g8⟩ := frozen9 C2.out
  go_wp2
  exact bodyPost_ret (v := pcV ⟨false, (pf ||| qf), ql⟩) (by simp [results, Tryd.results64, go_sem, r0, r1, r2, r3, r4, r5, r6, r7, r8]) rfl ⟨rfl, HRb.out.set9 (HRb.out.off C2.out (by decide) (by decide)) _ _ _ _ _ _ _ _ _, HMb.out.set9 (by omega) _ _ _ _ _ _ _ _ _⟩

set_option maxRecDepth 100000 in
set_option maxHeartbeats 8000000 in
theorem chain_false_true (b a o pf pl qf ql : Nat) (T F : Value) (l : ByteArray) (m : Mach) (w : World) (hr : Rdr w b T F l m a o) (hT : TzT w) (hp : pl < 2 ^ m.follow.length) (hn : m.follow.length ≤ 256) :
    Calls Tryd.prog 64 #[.pointer (some ⟨b, 0, none⟩), pcV ⟨false, pf, pl⟩, pcV ⟨true, qf, ql⟩] w (ChainP b T F l a o w (chainM m ⟨false, pf, pl⟩ ⟨true, qf, ql⟩) (chainP ⟨false, pf, pl⟩ ⟨true, qf, ql⟩)) := by
  have b0 : Blk (((w.alloc (.cells (pcC ⟨false, pf, pl⟩) 85)).alloc (.cells (pcC ⟨true, qf, ql⟩) 85)).alloc (.cells zero9 85)) w.heap.size 85 (pcC ⟨false, pf, pl⟩) := ((Blk.new w 85 _).alloc _).alloc _
  have b1 : Blk (((w.alloc (.cells (pcC ⟨false, pf, pl⟩) 85)).alloc (.cells (pcC ⟨true, qf, ql⟩) 85)).alloc (.cells zero9 85)) (w.heap.size + 1) 85 (pcC ⟨true, qf, ql⟩) := by
    have := (Blk.new (w.alloc (.cells (pcC ⟨false, pf, pl⟩) 85)) 85 (pcC ⟨true, qf, ql⟩)).alloc (.cells zero9 85)
    rw [World.size_alloc] at this
    exact this
  have b2 : Blk (((w.alloc (.cells (pcC ⟨false, pf, pl⟩) 85)).alloc (.cells (pcC ⟨true, qf, ql⟩) 85)).alloc (.cells zero9 85)) (w.heap.size + 1 + 1) 85 zero9 := by
    have := Blk.new ((w.alloc (.cells (pcC ⟨false, pf, pl⟩) 85)).alloc (.cells (pcC ⟨true, qf, ql⟩) 85)) 85 zero9
    rw [World.size_alloc, World.size_alloc] at this
    exact this
  have HR := Lib.hid (((hr.alloc (.cells (pcC ⟨false, pf, pl⟩) 85)).alloc (.cells (pcC ⟨true, qf, ql⟩) 85)).alloc (.cells zero9 85))
  have HM := Lib.hid ((((Moves.refl b T F w).alloc (.cells (pcC ⟨false, pf, pl⟩) 85)).alloc (.cells (pcC ⟨true, qf, ql⟩) 85)).alloc (.cells zero9 85))
  have HL := Lib.hid (link_any b a o pl qf T F l m _ HR.out (HM.out.tz hr hT) hp hn)
  have B0 := Lib.hid b0
  have B1 := Lib.hid b1
  have B2 := Lib.hid b2
  have q := s18_of b0 b1
  have HS0 := Lib.hid q
  clear b0 b1 b2 hT hp hn hr q
  go_enter Tryd.func64, Tryd.ntmps64
  go_wp2_with fail
  refine (HL.out).mono ?_
  rintro e w1 ⟨rfl, hR1, hM1⟩
  have HR1 := Lib.hid hR1
  have HM1 := Lib.hid (HM.out.trans hM1)
  have hb0 := B0.out.moves hM1 (HR.out.off B0.out (by decide) (by decide))
  have hb1 := B1.out.moves hM1 (HR.out.off B1.out (by decide) (by decide))
  have hb2 := B2.out.moves hM1 (HR.out.off B2.out (by decide) (by decide))
  have B0' := Lib.hid hb0
  have B1' := Lib.hid hb1
  have B2' := Lib.hid hb2
  clear hR1 hM1 HR HM HS0 HL B0 B1 B2 hb0 hb1 hb2
  have hsz : w.heap.size + 1 + 1 < w1.heap.size := B2'.out.lt
  have B3 := Lib.hid (Blk.new w1 85 (pcC ⟨false, pf, ql⟩))
  have HRb := Lib.hid (HR1.out.alloc (.cells (pcC ⟨false, pf, ql⟩) 85))
  have HMb := Lib.hid (HM1.out.alloc (.cells (pcC ⟨false, pf, ql⟩) 85))
  have C0 := Lib.hid (B0'.out.alloc (.cells (pcC ⟨false, pf, ql⟩) 85))
  have C1 := Lib.hid (B1'.out.alloc (.cells (pcC ⟨false, pf, ql⟩) 85))
  have C2 := Lib.hid (B2'.out.alloc (.cells (pcC ⟨false, pf, ql⟩) 85))
  obtain ⟨x0, x1, x2, x3, x4, x5, x6, x7, x8⟩ := cells9 B0'.out
  obtain ⟨y0, y1, y2, y3, y4, y5, y6, y7, y8⟩ := cells9 B1'.out
  go_upto_region 3 with fail
  generalize hW : w1.alloc (.cells (pcC _) 85) = W at *
  generalize hj3 : w1.heap.size = j3 at *
  clear hW hj3 x0 x1 x2 x3 x4 x5 x6 x7 x8 y0 y1 y2 y3 y4 y5 y6 y7 y8
  obtain ⟨x0, x1, x2, x3, x4, x5, x6, x7, x8⟩ := cells9 C0.out
  obtain ⟨y0, y1, y2, y3, y4, y5, y6, y7, y8⟩ := cells9 C1.out
  obtain ⟨z0, z1, z2, z3, z4, z5, z6, z7, z8⟩ := cells9 B3.out
  go_wp2_with fail
  refine (with_any ql pl _).mono ?_
  rintro e wn ⟨rfl, hb⟩
  have D0 := Lib.hid (C0.out.below hb)
  have D1 := Lib.hid (C1.out.below hb)
  have D2 := Lib.hid (C2.out.below hb)
  have D3 := Lib.hid (B3.out.below hb)
  have HRd := Lib.hid (HRb.out.below hb)
  have HMd := Lib.hid (HMb.out.below hb)
  clear hb C0 C1 C2 B3 HRb HMb x0 x1 x2 x3 x4 x5 x6 x7 x8 y0 y1 y2 y3 y4 y5 y6 y7 y8 z0 z1 z2 z3 z4 z5 z6 z7 z8
  obtain ⟨x0, x1, x2, x3, x4, x5, x6, x7, x8⟩ := cells9 D0.out
  obtain ⟨y0, y1, y2, y3, y4, y5, y6, y7, y8⟩ := cells9 D1.out
  obtain ⟨z0, z1, z2, z3, z4, z5, z6, z7, z8⟩ := cells9 D3.out
  obtain ⟨f0, f1, f2, f3, f4, f5, f6, f7, f8⟩ := frozen9 D3.out
  go_upto_region 7 with fail
  have C0 := Lib.hid (D0.out.past_b (j := j3) (by omega) (wv (ql ||| pl) 0) (wv (ql ||| pl) 1) (wv (ql ||| pl) 2) (wv (ql ||| pl) 3))
  have C1 := Lib.hid (D1.out.past_b (j := j3) (by omega) (wv (ql ||| pl) 0) (wv (ql ||| pl) 1) (wv (ql ||| pl) 2) (wv (ql ||| pl) 3))
  have C2 := Lib.hid (D2.out.past_b (j := j3) (by omega) (wv (ql ||| pl) 0) (wv (ql ||| pl) 1) (wv (ql ||| pl) 2) (wv (ql ||| pl) 3))
  have B3 := Lib.hid (D3.out.part_b (u := (ql ||| pl)))
  have HRb := Lib.hid (HRd.out.past_b (HRd.out.off D3.out (by decide) (by decide)) (wv (ql ||| pl) 0) (wv (ql ||| pl) 1) (wv (ql ||| pl) 2) (wv (ql ||| pl) 3))
  have HMb := Lib.hid (HMd.out.past_b (j := j3) (by omega) (wv (ql ||| pl) 0) (wv (ql ||| pl) 1) (wv (ql ||| pl) 2) (wv (ql ||| pl) 3))
  generalize hW : ((((wn.setCell ⟨j3, 5, none⟩ (wv (ql ||| pl) 0)).setCell ⟨j3, 6, none⟩ (wv (ql ||| pl) 1)).setCell ⟨j3, 7, none⟩ (wv (ql ||| pl) 2)).setCell ⟨j3, 8, none⟩ (wv (ql ||| pl) 3)) = W at *
  clear hW D0 D1 D2 D3 HRd HMd x0 x1 x2 x3 x4 x5 x6 x7 x8 y0 y1 y2 y3 y4 y5 y6 y7 y8 z0 z1 z2 z3 z4 z5 z6 z7 z8 f0 f1 f2 f3 f4 f5 f6 f7 f8
  obtain ⟨x0, x1, x2, x3, x4, x5, x6, x7, x8⟩ := cells9 C0.out
  obtain ⟨y0, y1, y2, y3, y4, y5, y6, y7, y8⟩ := cells9 C1.out
  obtain ⟨z0, z1, z2, z3, z4, z5, z6, z7, z8⟩ := cells9 B3.out
  obtain ⟨r0, r1, r2, r3, r4, r5, r6, r7, r8⟩ := cells9 C2.out
  obtain ⟨g0, g1, g2, g3, g4, g5, g6, g7, g8⟩ := frozen9 C2.out
  go_wp2
  exact bodyPost_ret (v := pcV ⟨false, pf, (ql ||| pl)⟩) (by simp [results, Tryd.results64, go_sem, r0, r1, r2, r3, r4, r5, r6, r7, r8]) rfl ⟨rfl, HRb.out.set9 (HRb.out.off C2.out (by decide) (by decide)) _ _ _ _ _ _ _ _ _, HMb.out.set9 (by omega) _ _ _ _ _ _ _ _ _⟩

set_option maxRecDepth 100000 in
set_option maxHeartbeats 8000000 in
theorem chain_false_false (b a o pf pl qf ql : Nat) (T F : Value) (l : ByteArray) (m : Mach) (w : World) (hr : Rdr w b T F l m a o) (hT : TzT w) (hp : pl < 2 ^ m.follow.length) (hn : m.follow.length ≤ 256) :
    Calls Tryd.prog 64 #[.pointer (some ⟨b, 0, none⟩), pcV ⟨false, pf, pl⟩, pcV ⟨false, qf, ql⟩] w (ChainP b T F l a o w (chainM m ⟨false, pf, pl⟩ ⟨false, qf, ql⟩) (chainP ⟨false, pf, pl⟩ ⟨false, qf, ql⟩)) := by
  have b0 : Blk (((w.alloc (.cells (pcC ⟨false, pf, pl⟩) 85)).alloc (.cells (pcC ⟨false, qf, ql⟩) 85)).alloc (.cells zero9 85)) w.heap.size 85 (pcC ⟨false, pf, pl⟩) := ((Blk.new w 85 _).alloc _).alloc _
  have b1 : Blk (((w.alloc (.cells (pcC ⟨false, pf, pl⟩) 85)).alloc (.cells (pcC ⟨false, qf, ql⟩) 85)).alloc (.cells zero9 85)) (w.heap.size + 1) 85 (pcC ⟨false, qf, ql⟩) := by
    have := (Blk.new (w.alloc (.cells (pcC ⟨false, pf, pl⟩) 85)) 85 (pcC ⟨false, qf, ql⟩)).alloc (.cells zero9 85)
    rw [World.size_alloc] at this
    exact this
  have b2 : Blk (((w.alloc (.cells (pcC ⟨false, pf, pl⟩) 85)).alloc (.cells (pcC ⟨false, qf, ql⟩) 85)).alloc (.cells zero9 85)) (w.heap.size + 1 + 1) 85 zero9 := by
    have := Blk.new ((w.alloc (.cells (pcC ⟨false, pf, pl⟩) 85)).alloc (.cells (pcC ⟨false, qf, ql⟩) 85)) 85 zero9
    rw [World.size_alloc, World.size_alloc] at this
    exact this
  have HR := Lib.hid (((hr.alloc (.cells (pcC ⟨false, pf, pl⟩) 85)).alloc (.cells (pcC ⟨false, qf, ql⟩) 85)).alloc (.cells zero9 85))
  have HM := Lib.hid ((((Moves.refl b T F w).alloc (.cells (pcC ⟨false, pf, pl⟩) 85)).alloc (.cells (pcC ⟨false, qf, ql⟩) 85)).alloc (.cells zero9 85))
  have HL := Lib.hid (link_any b a o pl qf T F l m _ HR.out (HM.out.tz hr hT) hp hn)
  have B0 := Lib.hid b0
  have B1 := Lib.hid b1
  have B2 := Lib.hid b2
  have q := s18_of b0 b1
  have HS0 := Lib.hid q
  clear b0 b1 b2 hT hp hn hr q
  go_enter Tryd.func64, Tryd.ntmps64
  go_wp2_with fail
  refine (HL.out).mono ?_
  rintro e w1 ⟨rfl, hR1, hM1⟩
  have HR1 := Lib.hid hR1
  have HM1 := Lib.hid (HM.out.trans hM1)
  have hb0 := B0.out.moves hM1 (HR.out.off B0.out (by decide) (by decide))
  have hb1 := B1.out.moves hM1 (HR.out.off B1.out (by decide) (by decide))
  have hb2 := B2.out.moves hM1 (HR.out.off B2.out (by decide) (by decide))
  have B0' := Lib.hid hb0
  have B1' := Lib.hid hb1
  have B2' := Lib.hid hb2
  clear hR1 hM1 HR HM HS0 HL B0 B1 B2 hb0 hb1 hb2
  have hsz : w.heap.size + 1 + 1 < w1.heap.size := B2'.out.lt
  have B3 := Lib.hid (Blk.new w1 85 (pcC ⟨false, pf, ql⟩))
  have HRb := Lib.hid (HR1.out.alloc (.cells (pcC ⟨false, pf, ql⟩) 85))
  have HMb := Lib.hid (HM1.out.alloc (.cells (pcC ⟨false, pf, ql⟩) 85))
  have C0 := Lib.hid (B0'.out.alloc (.cells (pcC ⟨false, pf, ql⟩) 85))
  have C1 := Lib.hid (B1'.out.alloc (.cells (pcC ⟨false, pf, ql⟩) 85))
  have C2 := Lib.hid (B2'.out.alloc (.cells (pcC ⟨false, pf, ql⟩) 85))
  obtain ⟨x0, x1, x2, x3, x4, x5, x6, x7, x8⟩ := cells9 B0'.out
  obtain ⟨y0, y1, y2, y3, y4, y5, y6, y7, y8⟩ := cells9 B1'.out
  go_upto_region 3 with fail
  generalize hW : w1.alloc (.cells (pcC _) 85) = W at *
  generalize hj3 : w1.heap.size = j3 at *
  clear hW hj3 x0 x1 x2 x3 x4 x5 x6 x7 x8 y0 y1 y2 y3 y4 y5 y6 y7 y8
  obtain ⟨x0, x1, x2, x3, x4, x5, x6, x7, x8⟩ := cells9 C0.out
  obtain ⟨y0, y1, y2, y3, y4, y5, y6, y7, y8⟩ := cells9 C1.out
  obtain ⟨z0, z1, z2, z3, z4, z5, z6, z7, z8⟩ := cells9 B3.out
  obtain ⟨r0, r1, r2, r3, r4, r5, r6, r7, r8⟩ := cells9 C2.out
  obtain ⟨g0, g1, g2, g3, g4, g5, g6, g7, g8⟩ := frozen9 C2.out
  go_wp2
  exact bodyPost_ret (v := pcV ⟨false, pf, ql⟩) (by simp [results, Tryd.results64, go_sem, r0, r1, r2, r3, r4, r5, r6, r7, r8]) rfl ⟨rfl, HRb.out.set9 (HRb.out.off C2.out (by decide) (by decide)) _ _ _ _ _ _ _ _ _, HMb.out.set9 (by omega) _ _ _ _ _ _ _ _ _⟩

theorem chain_any (b a o : Nat) (p q : Pc) (T F : Value) (l : ByteArray) (m : Mach) (w : World) (hr : Rdr w b T F l m a o) (hT : TzT w) (hp : p.last < 2 ^ m.follow.length) (hn : m.follow.length ≤ 256) :
    Calls Tryd.prog 64 #[.pointer (some ⟨b, 0, none⟩), pcV p, pcV q] w (ChainP b T F l a o w (chainM m p q) (chainP p q)) := by
  obtain ⟨pe, pf, pl⟩ := p
  obtain ⟨qe, qf, ql⟩ := q
  cases pe <;> cases qe
  · exact chain_false_false b a o pf pl qf ql T F l m w hr hT hp hn
  · exact chain_false_true b a o pf pl qf ql T F l m w hr hT hp hn
  · exact chain_true_false b a o pf pl qf ql T F l m w hr hT hp hn
  · exact chain_true_true b a o pf pl qf ql T F l m w hr hT hp hn
end Go.Proofs.YtahphjaelpgjdaaDoor

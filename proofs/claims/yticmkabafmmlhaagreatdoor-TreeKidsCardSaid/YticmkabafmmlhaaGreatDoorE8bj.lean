/- The document's Same, of heads that differ. Condition: the trees lie in memory. -/
import Derived.Test.YticmkabafmmlhaaGreatDoorE8j
set_option linter.unusedVariables false
set_option linter.unusedSimpArgs false
set_option maxRecDepth 100000
set_option maxHeartbeats 40000000
namespace Go.Proofs.YticmkabafmmlhaaGreatDoor.Ck
open Go.RowKit
open Lib (hid)
theorem same_neg0 (g h : Hd) (gs ks : List Tr) (e0 : ¬ g.k = h.k) (w : World) (hG : Lies w (.mk g gs)) (hL : Lies w (.mk h ks)) :
 Calls Tryz.prog 28 #[valT (.mk g gs), valT (.mk h ks)] w fun e w' => e = .returned (.bool false) ∧ Below w.heap.size w w' := by
 rw [valT_arr, valT_arr]
 have f0 : (g.k != h.k) = true := by rw [bne_iff_ne]; exact e0
 clear e0
 have hb0 : Below w.heap.size w ((w.alloc (.cells (arr g gs.length) 27)).alloc (.cells (arr h ks.length) 27)) := ((Below.refl _ _).alloc (Nat.le_refl _) _).alloc (by simp) _
 have hka : Blk ((w.alloc (.cells (arr g gs.length) 27)).alloc (.cells (arr h ks.length) 27)) w.heap.size 27 (arr g gs.length) := (Blk.new w 27 _).alloc _
 have hkb : Blk ((w.alloc (.cells (arr g gs.length) 27)).alloc (.cells (arr h ks.length) 27)) (w.heap.size + 1) 27 (arr h ks.length) := by
  have := Blk.new (w.alloc (.cells (arr g gs.length) 27)) 27 (arr h ks.length)
  rw [World.size_alloc] at this
  exact this
 have hG2 := hG.below hb0
 have hL2 := hL.below hb0
 rw [Lies] at hG2 hL2
 obtain ⟨og, lg, mg, ng, tg, _⟩ := hG2
 obtain ⟨oh, lh, mh, nh, th, kh⟩ := hL2
 have lm := oh.ms
 have ln := oh.ns
 have HB0 := hid hb0
 have HKA := hid hka
 have HKB := hid hkb
 have HMG := hid mg
 have HMH := hid mh
 have HNG := hid ng
 have HNH := hid nh
 have HTG := hid tg
 have HTH := hid th
 have HKH := hid kh
 have hwl : w.heap.size + 1 < ((w.alloc (.cells (arr g gs.length) 27)).alloc (.cells (arr h ks.length) 27)).heap.size := by simp
 have HWL := hid hwl
 clear hb0 hka hkb hG hL og mg ng tg oh mh nh th kh hwl lg
 obtain ⟨p0, p1, p2, p3, p4, p5, p6, p7, p8, p9, p10, p11, p12⟩ := blk13 (h := g) (n := gs.length) HKA.out
 obtain ⟨q0, q1, q2, q3, q4, q5, q6, q7, q8, q9, q10, q11, q12⟩ := blk13 (h := h) (n := ks.length) HKB.out
 obtain ⟨W2, hW2⟩ : ∃ W2, ((w.alloc (.cells (arr g gs.length) 27)).alloc (.cells (arr h ks.length) 27)) = W2 := ⟨_, rfl⟩
 rw [hW2] at HB0 HKA HKB HMG HMH HNG HNH HTG HTH HKH HWL p0 p1 p2 p3 p4 p5 p6 p7 p8 p9 p10 p11 p12 q0 q1 q2 q3 q4 q5 q6 q7 q8 q9 q10 q11 q12
 unfold arr at *
 go_enter Tryz.func28, Tryz.ntmps28
 go_upto_region 0 with fail
 go_wp2_with fail
 all_goals (go_ret; exact ⟨rfl, HB0.out⟩)
theorem same_neg1 (g h : Hd) (gs ks : List Tr) (e0 : g.k = h.k) (e1 : ¬ g.o = h.o) (w : World) (hG : Lies w (.mk g gs)) (hL : Lies w (.mk h ks)) :
 Calls Tryz.prog 28 #[valT (.mk g gs), valT (.mk h ks)] w fun e w' => e = .returned (.bool false) ∧ Below w.heap.size w w' := by
 rw [valT_arr, valT_arr]
 have f0 : (g.k != h.k) = false := by rw [bne_eq_false_iff_eq]; exact e0
 have f1 : (g.o != h.o) = true := by rw [bne_iff_ne]; exact e1
 clear e0 e1
 have hb0 : Below w.heap.size w ((w.alloc (.cells (arr g gs.length) 27)).alloc (.cells (arr h ks.length) 27)) := ((Below.refl _ _).alloc (Nat.le_refl _) _).alloc (by simp) _
 have hka : Blk ((w.alloc (.cells (arr g gs.length) 27)).alloc (.cells (arr h ks.length) 27)) w.heap.size 27 (arr g gs.length) := (Blk.new w 27 _).alloc _
 have hkb : Blk ((w.alloc (.cells (arr g gs.length) 27)).alloc (.cells (arr h ks.length) 27)) (w.heap.size + 1) 27 (arr h ks.length) := by
  have := Blk.new (w.alloc (.cells (arr g gs.length) 27)) 27 (arr h ks.length)
  rw [World.size_alloc] at this
  exact this
 have hG2 := hG.below hb0
 have hL2 := hL.below hb0
 rw [Lies] at hG2 hL2
 obtain ⟨og, lg, mg, ng, tg, _⟩ := hG2
 obtain ⟨oh, lh, mh, nh, th, kh⟩ := hL2
 have lm := oh.ms
 have ln := oh.ns
 have HB0 := hid hb0
 have HKA := hid hka
 have HKB := hid hkb
 have HMG := hid mg
 have HMH := hid mh
 have HNG := hid ng
 have HNH := hid nh
 have HTG := hid tg
 have HTH := hid th
 have HKH := hid kh
 have hwl : w.heap.size + 1 < ((w.alloc (.cells (arr g gs.length) 27)).alloc (.cells (arr h ks.length) 27)).heap.size := by simp
 have HWL := hid hwl
 clear hb0 hka hkb hG hL og mg ng tg oh mh nh th kh hwl lg
 obtain ⟨p0, p1, p2, p3, p4, p5, p6, p7, p8, p9, p10, p11, p12⟩ := blk13 (h := g) (n := gs.length) HKA.out
 obtain ⟨q0, q1, q2, q3, q4, q5, q6, q7, q8, q9, q10, q11, q12⟩ := blk13 (h := h) (n := ks.length) HKB.out
 obtain ⟨W2, hW2⟩ : ∃ W2, ((w.alloc (.cells (arr g gs.length) 27)).alloc (.cells (arr h ks.length) 27)) = W2 := ⟨_, rfl⟩
 rw [hW2] at HB0 HKA HKB HMG HMH HNG HNH HTG HTH HKH HWL p0 p1 p2 p3 p4 p5 p6 p7 p8 p9 p10 p11 p12 q0 q1 q2 q3 q4 q5 q6 q7 q8 q9 q10 q11 q12
 unfold arr at *
 go_enter Tryz.func28, Tryz.ntmps28
 go_upto_region 0 with fail
 go_wp2_with fail
 all_goals (go_ret; exact ⟨rfl, HB0.out⟩)
theorem same_neg2 (g h : Hd) (gs ks : List Tr) (e0 : g.k = h.k) (e1 : g.o = h.o) (e2 : ¬ g.v = h.v) (w : World) (hG : Lies w (.mk g gs)) (hL : Lies w (.mk h ks)) :
 Calls Tryz.prog 28 #[valT (.mk g gs), valT (.mk h ks)] w fun e w' => e = .returned (.bool false) ∧ Below w.heap.size w w' := by
 rw [valT_arr, valT_arr]
 have f0 : (g.k != h.k) = false := by rw [bne_eq_false_iff_eq]; exact e0
 have f1 : (g.o != h.o) = false := by rw [bne_eq_false_iff_eq]; exact e1
 have f2 : ((g.v : Int) != (h.v : Int)) = true := by rw [bne_iff_ne]; omega
 clear e0 e1 e2
 have hb0 : Below w.heap.size w ((w.alloc (.cells (arr g gs.length) 27)).alloc (.cells (arr h ks.length) 27)) := ((Below.refl _ _).alloc (Nat.le_refl _) _).alloc (by simp) _
 have hka : Blk ((w.alloc (.cells (arr g gs.length) 27)).alloc (.cells (arr h ks.length) 27)) w.heap.size 27 (arr g gs.length) := (Blk.new w 27 _).alloc _
 have hkb : Blk ((w.alloc (.cells (arr g gs.length) 27)).alloc (.cells (arr h ks.length) 27)) (w.heap.size + 1) 27 (arr h ks.length) := by
  have := Blk.new (w.alloc (.cells (arr g gs.length) 27)) 27 (arr h ks.length)
  rw [World.size_alloc] at this
  exact this
 have hG2 := hG.below hb0
 have hL2 := hL.below hb0
 rw [Lies] at hG2 hL2
 obtain ⟨og, lg, mg, ng, tg, _⟩ := hG2
 obtain ⟨oh, lh, mh, nh, th, kh⟩ := hL2
 have lm := oh.ms
 have ln := oh.ns
 have HB0 := hid hb0
 have HKA := hid hka
 have HKB := hid hkb
 have HMG := hid mg
 have HMH := hid mh
 have HNG := hid ng
 have HNH := hid nh
 have HTG := hid tg
 have HTH := hid th
 have HKH := hid kh
 have hwl : w.heap.size + 1 < ((w.alloc (.cells (arr g gs.length) 27)).alloc (.cells (arr h ks.length) 27)).heap.size := by simp
 have HWL := hid hwl
 clear hb0 hka hkb hG hL og mg ng tg oh mh nh th kh hwl lg
 obtain ⟨p0, p1, p2, p3, p4, p5, p6, p7, p8, p9, p10, p11, p12⟩ := blk13 (h := g) (n := gs.length) HKA.out
 obtain ⟨q0, q1, q2, q3, q4, q5, q6, q7, q8, q9, q10, q11, q12⟩ := blk13 (h := h) (n := ks.length) HKB.out
 obtain ⟨W2, hW2⟩ : ∃ W2, ((w.alloc (.cells (arr g gs.length) 27)).alloc (.cells (arr h ks.length) 27)) = W2 := ⟨_, rfl⟩
 rw [hW2] at HB0 HKA HKB HMG HMH HNG HNH HTG HTH HKH HWL p0 p1 p2 p3 p4 p5 p6 p7 p8 p9 p10 p11 p12 q0 q1 q2 q3 q4 q5 q6 q7 q8 q9 q10 q11 q12
 unfold arr at *
 go_enter Tryz.func28, Tryz.ntmps28
 go_upto_region 0 with fail
 go_wp2_with fail
 all_goals (go_ret; exact ⟨rfl, HB0.out⟩)
theorem same_neg3 (g h : Hd) (gs ks : List Tr) (e0 : g.k = h.k) (e1 : g.o = h.o) (e2 : g.v = h.v) (e3 : ¬ g.s.toList = h.s.toList) (w : World) (hG : Lies w (.mk g gs)) (hL : Lies w (.mk h ks)) :
 Calls Tryz.prog 28 #[valT (.mk g gs), valT (.mk h ks)] w fun e w' => e = .returned (.bool false) ∧ Below w.heap.size w w' := by
 rw [valT_arr, valT_arr]
 have f0 : (g.k != h.k) = false := by rw [bne_eq_false_iff_eq]; exact e0
 have f1 : (g.o != h.o) = false := by rw [bne_eq_false_iff_eq]; exact e1
 have f2 : ((g.v : Int) != (h.v : Int)) = false := by rw [bne_eq_false_iff_eq]; omega
 have f3 : (g.s.toList == h.s.toList) = false := by rw [beq_eq_false_iff_ne]; exact e3
 have f3b : (g.s.toList != h.s.toList) = true := by rw [bne_iff_ne]; exact e3
 clear e0 e1 e2 e3
 have hb0 : Below w.heap.size w ((w.alloc (.cells (arr g gs.length) 27)).alloc (.cells (arr h ks.length) 27)) := ((Below.refl _ _).alloc (Nat.le_refl _) _).alloc (by simp) _
 have hka : Blk ((w.alloc (.cells (arr g gs.length) 27)).alloc (.cells (arr h ks.length) 27)) w.heap.size 27 (arr g gs.length) := (Blk.new w 27 _).alloc _
 have hkb : Blk ((w.alloc (.cells (arr g gs.length) 27)).alloc (.cells (arr h ks.length) 27)) (w.heap.size + 1) 27 (arr h ks.length) := by
  have := Blk.new (w.alloc (.cells (arr g gs.length) 27)) 27 (arr h ks.length)
  rw [World.size_alloc] at this
  exact this
 have hG2 := hG.below hb0
 have hL2 := hL.below hb0
 rw [Lies] at hG2 hL2
 obtain ⟨og, lg, mg, ng, tg, _⟩ := hG2
 obtain ⟨oh, lh, mh, nh, th, kh⟩ := hL2
 have lm := oh.ms
 have ln := oh.ns
 have HB0 := hid hb0
 have HKA := hid hka
 have HKB := hid hkb
 have HMG := hid mg
 have HMH := hid mh
 have HNG := hid ng
 have HNH := hid nh
 have HTG := hid tg
 have HTH := hid th
 have HKH := hid kh
 have hwl : w.heap.size + 1 < ((w.alloc (.cells (arr g gs.length) 27)).alloc (.cells (arr h ks.length) 27)).heap.size := by simp
 have HWL := hid hwl
 clear hb0 hka hkb hG hL og mg ng tg oh mh nh th kh hwl lg
 obtain ⟨p0, p1, p2, p3, p4, p5, p6, p7, p8, p9, p10, p11, p12⟩ := blk13 (h := g) (n := gs.length) HKA.out
 obtain ⟨q0, q1, q2, q3, q4, q5, q6, q7, q8, q9, q10, q11, q12⟩ := blk13 (h := h) (n := ks.length) HKB.out
 obtain ⟨W2, hW2⟩ : ∃ W2, ((w.alloc (.cells (arr g gs.length) 27)).alloc (.cells (arr h ks.length) 27)) = W2 := ⟨_, rfl⟩
 rw [hW2] at HB0 HKA HKB HMG HMH HNG HNH HTG HTH HKH HWL p0 p1 p2 p3 p4 p5 p6 p7 p8 p9 p10 p11 p12 q0 q1 q2 q3 q4 q5 q6 q7 q8 q9 q10 q11 q12
 unfold arr at *
 go_enter Tryz.func28, Tryz.ntmps28
 go_upto_region 0 with fail
 go_wp2_with fail
 all_goals (go_ret; exact ⟨rfl, HB0.out⟩)
end Go.Proofs.YticmkabafmmlhaaGreatDoor.Ck

set_option linter.unusedVariables false
set_option linter.unusedSimpArgs false
set_option maxRecDepth 100000
set_option maxHeartbeats 40000000
namespace Go.Proofs.YticmkabafmmlhaaGreatDoor.Ck
open Go.RowKit
open Lib (hid)
theorem same_neg4 (g h : Hd) (gs ks : List Tr) (e0 : g.k = h.k) (e1 : g.o = h.o) (e2 : g.v = h.v) (e3 : g.s.toList = h.s.toList) (e4 : ¬ g.ms.length = h.ms.length) (w : World) (hG : Lies w (.mk g gs)) (hL : Lies w (.mk h ks)) :
 Calls Tryz.prog 28 #[valT (.mk g gs), valT (.mk h ks)] w fun e w' => e = .returned (.bool false) ∧ Below w.heap.size w w' := by
 rw [valT_arr, valT_arr]
 have f0 : (g.k != h.k) = false := by rw [bne_eq_false_iff_eq]; exact e0
 have f1 : (g.o != h.o) = false := by rw [bne_eq_false_iff_eq]; exact e1
 have f2 : ((g.v : Int) != (h.v : Int)) = false := by rw [bne_eq_false_iff_eq]; omega
 have f3 : (g.s.toList == h.s.toList) = true := by rw [beq_iff_eq]; exact e3
 have f3b : (g.s.toList != h.s.toList) = false := by rw [bne_eq_false_iff_eq]; exact e3
 have f4 : ((g.ms.length : Int) != (h.ms.length : Int)) = true := by rw [bne_iff_ne]; omega
 clear e0 e1 e2 e3 e4
 have hb0 : Below w.heap.size w ((w.alloc (.cells (arr g gs.length) 27)).alloc (.cells (arr h ks.length) 27)) := ((Below.refl _ _).alloc (Nat.le_refl _) _).alloc (by simp) _
 have hka : Blk ((w.alloc (.cells (arr g gs.length) 27)).alloc (.cells (arr h ks.length) 27)) w.heap.size 27 (arr g gs.length) := (Blk.new w 27 _).alloc _
 have hkb : Blk ((w.alloc (.cells (arr g gs.length) 27)).alloc (.cells (arr h ks.length) 27)) (w.heap.size + 1) 27 (arr h ks.length) := by
  have := Blk.new (w.alloc (.cells (arr g gs.length) 27)) 27 (arr h ks.length)
  rw [World.size_alloc] at this
  exact this
 have hG2 := hG.below hb0
 have hL2 := hL.below hb0
 rw [Lies] at hG2 hL2
 obtain ⟨og, lg, mg, ng, tg, _⟩ := hG2
 obtain ⟨oh, lh, mh, nh, th, kh⟩ := hL2
 have lm := oh.ms
 have ln := oh.ns
 have HB0 := hid hb0
 have HKA := hid hka
 have HKB := hid hkb
 have HMG := hid mg
 have HMH := hid mh
 have HNG := hid ng
 have HNH := hid nh
 have HTG := hid tg
 have HTH := hid th
 have HKH := hid kh
 have hwl : w.heap.size + 1 < ((w.alloc (.cells (arr g gs.length) 27)).alloc (.cells (arr h ks.length) 27)).heap.size := by simp
 have HWL := hid hwl
 clear hb0 hka hkb hG hL og mg ng tg oh mh nh th kh hwl lg
 obtain ⟨p0, p1, p2, p3, p4, p5, p6, p7, p8, p9, p10, p11, p12⟩ := blk13 (h := g) (n := gs.length) HKA.out
 obtain ⟨q0, q1, q2, q3, q4, q5, q6, q7, q8, q9, q10, q11, q12⟩ := blk13 (h := h) (n := ks.length) HKB.out
 obtain ⟨W2, hW2⟩ : ∃ W2, ((w.alloc (.cells (arr g gs.length) 27)).alloc (.cells (arr h ks.length) 27)) = W2 := ⟨_, rfl⟩
 rw [hW2] at HB0 HKA HKB HMG HMH HNG HNH HTG HTH HKH HWL p0 p1 p2 p3 p4 p5 p6 p7 p8 p9 p10 p11 p12 q0 q1 q2 q3 q4 q5 q6 q7 q8 q9 q10 q11 q12
 unfold arr at *
 go_enter Tryz.func28, Tryz.ntmps28
 go_upto_region 0 with fail
 go_wp2_with fail
 all_goals (go_ret; exact ⟨rfl, HB0.out⟩)
theorem same_neg5 (g h : Hd) (gs ks : List Tr) (e0 : g.k = h.k) (e1 : g.o = h.o) (e2 : g.v = h.v) (e3 : g.s.toList = h.s.toList) (e4 : g.ms.length = h.ms.length) (e5 : ¬ g.wd = h.wd) (w : World) (hG : Lies w (.mk g gs)) (hL : Lies w (.mk h ks)) :
 Calls Tryz.prog 28 #[valT (.mk g gs), valT (.mk h ks)] w fun e w' => e = .returned (.bool false) ∧ Below w.heap.size w w' := by
 rw [valT_arr, valT_arr]
 have f0 : (g.k != h.k) = false := by rw [bne_eq_false_iff_eq]; exact e0
 have f1 : (g.o != h.o) = false := by rw [bne_eq_false_iff_eq]; exact e1
 have f2 : ((g.v : Int) != (h.v : Int)) = false := by rw [bne_eq_false_iff_eq]; omega
 have f3 : (g.s.toList == h.s.toList) = true := by rw [beq_iff_eq]; exact e3
 have f3b : (g.s.toList != h.s.toList) = false := by rw [bne_eq_false_iff_eq]; exact e3
 have f4 : ((g.ms.length : Int) != (h.ms.length : Int)) = false := by rw [bne_eq_false_iff_eq]; omega
 have f5 : (g.wd != h.wd) = true := by rw [bne_iff_ne]; exact e5
 clear e0 e1 e2 e3 e4 e5
 have hb0 : Below w.heap.size w ((w.alloc (.cells (arr g gs.length) 27)).alloc (.cells (arr h ks.length) 27)) := ((Below.refl _ _).alloc (Nat.le_refl _) _).alloc (by simp) _
 have hka : Blk ((w.alloc (.cells (arr g gs.length) 27)).alloc (.cells (arr h ks.length) 27)) w.heap.size 27 (arr g gs.length) := (Blk.new w 27 _).alloc _
 have hkb : Blk ((w.alloc (.cells (arr g gs.length) 27)).alloc (.cells (arr h ks.length) 27)) (w.heap.size + 1) 27 (arr h ks.length) := by
  have := Blk.new (w.alloc (.cells (arr g gs.length) 27)) 27 (arr h ks.length)
  rw [World.size_alloc] at this
  exact this
 have hG2 := hG.below hb0
 have hL2 := hL.below hb0
 rw [Lies] at hG2 hL2
 obtain ⟨og, lg, mg, ng, tg, _⟩ := hG2
 obtain ⟨oh, lh, mh, nh, th, kh⟩ := hL2
 have lm := oh.ms
 have ln := oh.ns
 have HB0 := hid hb0
 have HKA := hid hka
 have HKB := hid hkb
 have HMG := hid mg
 have HMH := hid mh
 have HNG := hid ng
 have HNH := hid nh
 have HTG := hid tg
 have HTH := hid th
 have HKH := hid kh
 have hwl : w.heap.size + 1 < ((w.alloc (.cells (arr g gs.length) 27)).alloc (.cells (arr h ks.length) 27)).heap.size := by simp
 have HWL := hid hwl
 clear hb0 hka hkb hG hL og mg ng tg oh mh nh th kh hwl lg
 obtain ⟨p0, p1, p2, p3, p4, p5, p6, p7, p8, p9, p10, p11, p12⟩ := blk13 (h := g) (n := gs.length) HKA.out
 obtain ⟨q0, q1, q2, q3, q4, q5, q6, q7, q8, q9, q10, q11, q12⟩ := blk13 (h := h) (n := ks.length) HKB.out
 obtain ⟨W2, hW2⟩ : ∃ W2, ((w.alloc (.cells (arr g gs.length) 27)).alloc (.cells (arr h ks.length) 27)) = W2 := ⟨_, rfl⟩
 rw [hW2] at HB0 HKA HKB HMG HMH HNG HNH HTG HTH HKH HWL p0 p1 p2 p3 p4 p5 p6 p7 p8 p9 p10 p11 p12 q0 q1 q2 q3 q4 q5 q6 q7 q8 q9 q10 q11 q12
 unfold arr at *
 go_enter Tryz.func28, Tryz.ntmps28
 go_upto_region 0 with fail
 go_wp2_with fail
 all_goals (go_ret; exact ⟨rfl, HB0.out⟩)
theorem same_neg6 (g h : Hd) (gs ks : List Tr) (e0 : g.k = h.k) (e1 : g.o = h.o) (e2 : g.v = h.v) (e3 : g.s.toList = h.s.toList) (e4 : g.ms.length = h.ms.length) (e5 : g.wd = h.wd) (e6 : ¬ g.off = h.off) (w : World) (hG : Lies w (.mk g gs)) (hL : Lies w (.mk h ks)) :
 Calls Tryz.prog 28 #[valT (.mk g gs), valT (.mk h ks)] w fun e w' => e = .returned (.bool false) ∧ Below w.heap.size w w' := by
 rw [valT_arr, valT_arr]
 have f0 : (g.k != h.k) = false := by rw [bne_eq_false_iff_eq]; exact e0
 have f1 : (g.o != h.o) = false := by rw [bne_eq_false_iff_eq]; exact e1
 have f2 : ((g.v : Int) != (h.v : Int)) = false := by rw [bne_eq_false_iff_eq]; omega
 have f3 : (g.s.toList == h.s.toList) = true := by rw [beq_iff_eq]; exact e3
 have f3b : (g.s.toList != h.s.toList) = false := by rw [bne_eq_false_iff_eq]; exact e3
 have f4 : ((g.ms.length : Int) != (h.ms.length : Int)) = false := by rw [bne_eq_false_iff_eq]; omega
 have f5 : (g.wd != h.wd) = false := by rw [bne_eq_false_iff_eq]; exact e5
 have f6 : (g.off != h.off) = true := by rw [bne_iff_ne]; exact e6
 clear e0 e1 e2 e3 e4 e5 e6
 have hb0 : Below w.heap.size w ((w.alloc (.cells (arr g gs.length) 27)).alloc (.cells (arr h ks.length) 27)) := ((Below.refl _ _).alloc (Nat.le_refl _) _).alloc (by simp) _
 have hka : Blk ((w.alloc (.cells (arr g gs.length) 27)).alloc (.cells (arr h ks.length) 27)) w.heap.size 27 (arr g gs.length) := (Blk.new w 27 _).alloc _
 have hkb : Blk ((w.alloc (.cells (arr g gs.length) 27)).alloc (.cells (arr h ks.length) 27)) (w.heap.size + 1) 27 (arr h ks.length) := by
  have := Blk.new (w.alloc (.cells (arr g gs.length) 27)) 27 (arr h ks.length)
  rw [World.size_alloc] at this
  exact this
 have hG2 := hG.below hb0
 have hL2 := hL.below hb0
 rw [Lies] at hG2 hL2
 obtain ⟨og, lg, mg, ng, tg, _⟩ := hG2
 obtain ⟨oh, lh, mh, nh, th, kh⟩ := hL2
 have lm := oh.ms
 have ln := oh.ns
 have HB0 := hid hb0
 have HKA := hid hka
 have HKB := hid hkb
 have HMG := hid mg
 have HMH := hid mh
 have HNG := hid ng
 have HNH := hid nh
 have HTG := hid tg
 have HTH := hid th
 have HKH := hid kh
 have hwl : w.heap.size + 1 < ((w.alloc (.cells (arr g gs.length) 27)).alloc (.cells (arr h ks.length) 27)).heap.size := by simp
 have HWL := hid hwl
 clear hb0 hka hkb hG hL og mg ng tg oh mh nh th kh hwl lg
 obtain ⟨p0, p1, p2, p3, p4, p5, p6, p7, p8, p9, p10, p11, p12⟩ := blk13 (h := g) (n := gs.length) HKA.out
 obtain ⟨q0, q1, q2, q3, q4, q5, q6, q7, q8, q9, q10, q11, q12⟩ := blk13 (h := h) (n := ks.length) HKB.out
 obtain ⟨W2, hW2⟩ : ∃ W2, ((w.alloc (.cells (arr g gs.length) 27)).alloc (.cells (arr h ks.length) 27)) = W2 := ⟨_, rfl⟩
 rw [hW2] at HB0 HKA HKB HMG HMH HNG HNH HTG HTH HKH HWL p0 p1 p2 p3 p4 p5 p6 p7 p8 p9 p10 p11 p12 q0 q1 q2 q3 q4 q5 q6 q7 q8 q9 q10 q11 q12
 unfold arr at *
 go_enter Tryz.func28, Tryz.ntmps28
 go_upto_region 0 with fail
 go_wp2_with fail
 all_goals (go_ret; exact ⟨rfl, HB0.out⟩)
end Go.Proofs.YticmkabafmmlhaaGreatDoor.Ck

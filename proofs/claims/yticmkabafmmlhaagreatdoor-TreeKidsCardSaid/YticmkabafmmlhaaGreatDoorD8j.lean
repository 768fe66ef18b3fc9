/- The document's Same, of heads that are alike. Condition: the trees lie in memory. -/
import Derived.Test.YticmkabafmmlhaaGreatDoorE8j
import Derived.Test.YticmkabafmmlhaaGreatDoorE8bj
import Derived.Test.YticmkabafmmlhaaGreatDoorE8dj
set_option linter.unusedVariables false
set_option linter.unusedSimpArgs false
set_option maxRecDepth 100000
set_option maxHeartbeats 40000000
namespace Go.Proofs.YticmkabafmmlhaaGreatDoor.Ck
open Go.RowKit
open Lib (hid)
theorem same_pos (g h : Hd) (gs ks : List Tr) (hk : ∀ x, x ∈ ks → SameSelf x) (hcut : Cut g h gs ks) (e0 : g.k = h.k) (e1 : g.o = h.o) (e2 : g.v = h.v) (e3 : g.s.toList = h.s.toList) (e4 : g.ms.length = h.ms.length) (e5 : g.wd = h.wd) (e6 : g.off = h.off) (e7 : g.ha = h.ha) (e8 : g.tm = h.tm) (e9 : g.how = h.how) (e10 : g.ns.length = h.ns.length) (e11 : g.bo = h.bo) (e12 : gs.length = ks.length) (w : World) (hG : Lies w (.mk g gs)) (hL : Lies w (.mk h ks)) :
 Calls Tryz.prog 28 #[valT (.mk g gs), valT (.mk h ks)] w fun e w' => e = .returned (.bool true) ∧ Below w.heap.size w w' := by
 rw [valT_arr, valT_arr]
 have f0 : (g.k != h.k) = false := by rw [bne_eq_false_iff_eq]; exact e0
 have f1 : (g.o != h.o) = false := by rw [bne_eq_false_iff_eq]; exact e1
 have f2 : ((g.v : Int) != (h.v : Int)) = false := by rw [bne_eq_false_iff_eq]; omega
 have f3 : (g.s.toList == h.s.toList) = true := by rw [beq_iff_eq]; exact e3
 have f3b : (g.s.toList != h.s.toList) = false := by rw [bne_eq_false_iff_eq]; exact e3
 have f4 : ((g.ms.length : Int) != (h.ms.length : Int)) = false := by rw [bne_eq_false_iff_eq]; omega
 have f5 : (g.wd != h.wd) = false := by rw [bne_eq_false_iff_eq]; exact e5
 have f6 : (g.off != h.off) = false := by rw [bne_eq_false_iff_eq]; exact e6
 have f7 := hid e7
 have f8 : (g.tm != h.tm) = false := by rw [bne_eq_false_iff_eq]; exact e8
 have f9 : (g.how != h.how) = false := by rw [bne_eq_false_iff_eq]; exact e9
 have f10 : ((g.ns.length : Int) != (h.ns.length : Int)) = false := by rw [bne_eq_false_iff_eq]; omega
 have f11 := hid e11
 have f12 : ((gs.length : Int) != (ks.length : Int)) = false := by rw [bne_eq_false_iff_eq]; omega
 have hb0 : Below w.heap.size w ((w.alloc (.cells (arr g gs.length) 27)).alloc (.cells (arr h ks.length) 27)) := ((Below.refl _ _).alloc (Nat.le_refl _) _).alloc (by simp) _
 have hka : Blk ((w.alloc (.cells (arr g gs.length) 27)).alloc (.cells (arr h ks.length) 27)) w.heap.size 27 (arr g gs.length) := (Blk.new w 27 _).alloc _
 have hkb : Blk ((w.alloc (.cells (arr g gs.length) 27)).alloc (.cells (arr h ks.length) 27)) (w.heap.size + 1) 27 (arr h ks.length) := by
  have := Blk.new (w.alloc (.cells (arr g gs.length) 27)) 27 (arr h ks.length)
  rw [World.size_alloc] at this
  exact this
 have hG2 := hG.below hb0
 have hL2 := hL.below hb0
 rw [Lies] at hG2 hL2
 obtain ⟨og, lg, mg, ng, tg, _⟩ := hG2
 obtain ⟨oh, lh, mh, nh, th, kh⟩ := hL2
 have lm := oh.ms
 have ln := oh.ns
 have HB0 := hid hb0
 have HKA := hid hka
 have HKB := hid hkb
 have HMG := hid mg
 have HMH := hid mh
 have HNG := hid ng
 have HNH := hid nh
 have HTG := hid tg
 have HTH := hid th
 have HKH := hid kh
 have HKS := hid hk
 have HCU := hid hcut
 have hwl : w.heap.size + 1 < ((w.alloc (.cells (arr g gs.length) 27)).alloc (.cells (arr h ks.length) 27)).heap.size := by simp
 have HWL := hid hwl
 clear hb0 hka hkb hG hL og mg ng tg oh mh nh th kh hk hcut hwl lg
 obtain ⟨p0, p1, p2, p3, p4, p5, p6, p7, p8, p9, p10, p11, p12⟩ := blk13 (h := g) (n := gs.length) HKA.out
 obtain ⟨q0, q1, q2, q3, q4, q5, q6, q7, q8, q9, q10, q11, q12⟩ := blk13 (h := h) (n := ks.length) HKB.out
 obtain ⟨W2, hW2⟩ : ∃ W2, ((w.alloc (.cells (arr g gs.length) 27)).alloc (.cells (arr h ks.length) 27)) = W2 := ⟨_, rfl⟩
 rw [hW2] at HB0 HKA HKB HMG HMH HNG HNH HTG HTH HKH HWL p0 p1 p2 p3 p4 p5 p6 p7 p8 p9 p10 p11 p12 q0 q1 q2 q3 q4 q5 q6 q7 q8 q9 q10 q11 q12
 rw [f7.out] at p7
 rw [f11.out] at p11
 unfold arr at *
 go_enter Tryz.func28, Tryz.ntmps28
 go_upto_region 0 with fail
 have hmm := HCU.out.m e4
 have hnn := HCU.out.n e10
 have hcc := HCU.out.c e12
 have HMM := hid hmm
 have HNN := hid hnn
 have HCC := hid hcc
 have HE4 := hid e4
 have HE10 := hid e10
 have HE12 := hid e12
 clear hmm hnn hcc e0 e1 e2 e3 e4 e5 e6 e7 e8 e9 e10 e11 e12
 go_wp2_with fail
 clear f0 f1 f2 f3 f4 f5 f6 f7 f8 f9 f10 f11 f12 f3b
 clear hW2 p0 p1 p2 p3 p4 p5 p6 p7 p8 p9 p10 p11 p12 q0 q1 q2 q3 q4 q5 q6 q7 q8 q9 q10 q11 q12
 go_loopg [5] g.ms.length (fun gq s5 wx => ∃ k : Nat, k ≤ g.ms.length ∧ g.ms.length ≤ gq + k ∧ s5 = .int .i64 (k : Int) ∧ Hid (Below W2.heap.size W2 wx))
 case atStart => exact ⟨0, Nat.zero_le _, Nat.le_refl _, rfl, Below.refl _ _⟩
 case round =>
  obtain ⟨k, hkn, hg, rfl, HBX⟩ := hrel
  have hc4 := (HKA.out.below HBX.out).cell 4
  have hd4 := (HKB.out.below HBX.out).cell 4
  simp at hc4 hd4
  have hglm : g.ms.length ≤ 140737488355328 := by have := HE4.out; omega
  by_cases hlt : k < g.ms.length
  · have hki : (k : Int) < (g.ms.length : Int) := by omega
    have hlt2 : k < h.ms.length := by have := HE4.out; omega
    have hki2 : (k : Int) < (h.ms.length : Int) := by omega
    obtain ⟨b1, o1, hA1, hb1, q1⟩ := HMG.out (by omega)
    obtain ⟨b2, o2, hA2, hb2, q2⟩ := HMH.out (by omega)
    have hix1 := fun W => index_mt g.ma g.ms.length g.mc k b1 o1 hA1 hlt W
    have hix2 := fun W => index_mt h.ma h.ms.length h.mc k b2 o2 hA2 hlt2 W
    have q1 := q1 k hlt
    have q2 := q2 k hlt2
    rw [HMM.out] at q1
    obtain ⟨⟨op, nm, v⟩, hm⟩ : ∃ m, h.ms.getD k m0 = m := ⟨_, rfl⟩
    rw [hm] at q1 q2
    dsimp only at q1 q2
    obtain ⟨x0, x1, x2⟩ := q1
    obtain ⟨y0, y1, y2⟩ := q2
    have x0 := (HBX.out.cell (p := ⟨b1, o1 + k * 3, none⟩) hb1).trans x0
    have x1 := (HBX.out.cell (p := ⟨b1, o1 + k * 3 + 1, none⟩) hb1).trans x1
    have x2 := (HBX.out.cell (p := ⟨b1, o1 + k * 3 + 2, none⟩) hb1).trans x2
    have y0 := (HBX.out.cell (p := ⟨b2, o2 + k * 3, none⟩) hb2).trans y0
    have y1 := (HBX.out.cell (p := ⟨b2, o2 + k * 3 + 1, none⟩) hb2).trans y1
    have y2 := (HBX.out.cell (p := ⟨b2, o2 + k * 3 + 2, none⟩) hb2).trans y2
    have heq := fun W => eq40 op nm v W
    have HY : Hid (((wr.cell? ⟨w.heap.size, 4, none⟩ = some (.slice g.ma g.ms.length g.mc) ∧ wr.cell? ⟨w.heap.size + 1, 4, none⟩ = some (.slice h.ma h.ms.length h.mc)) ∧ (wr.cell? ⟨b1, o1 + k * 3, none⟩ = some (.int .i64 op) ∧ wr.cell? ⟨b1, o1 + k * 3 + 1, none⟩ = some (.string nm) ∧ wr.cell? ⟨b1, o1 + k * 3 + 2, none⟩ = some (.string v)) ∧ (wr.cell? ⟨b2, o2 + k * 3, none⟩ = some (.int .i64 op) ∧ wr.cell? ⟨b2, o2 + k * 3 + 1, none⟩ = some (.string nm) ∧ wr.cell? ⟨b2, o2 + k * 3 + 2, none⟩ = some (.string v))) ∧ Below wr.heap.size wr wr.drew) :=
     ⟨⟨⟨hc4, hd4⟩, ⟨x0, x1, x2⟩, ⟨y0, y1, y2⟩⟩, ⟨rfl, rfl, rfl, Nat.le_refl _, fun _ _ => rfl⟩⟩
    obtain ⟨g', rfl⟩ : ∃ g', gk = g' + 1 := ⟨gk - 1, by omega⟩
    clear hA1 hA2 hm
    go_upto_region 6 with fail
    clear hc4 hd4 x0 x1 x2 y0 y1 y2
    go_region_held3 (fun W => ((W.cell? ⟨w.heap.size, 4, none⟩ = some (.slice g.ma g.ms.length g.mc) ∧ W.cell? ⟨w.heap.size + 1, 4, none⟩ = some (.slice h.ma h.ms.length h.mc)) ∧ (W.cell? ⟨b1, o1 + k * 3, none⟩ = some (.int .i64 op) ∧ W.cell? ⟨b1, o1 + k * 3 + 1, none⟩ = some (.string nm) ∧ W.cell? ⟨b1, o1 + k * 3 + 2, none⟩ = some (.string v)) ∧ (W.cell? ⟨b2, o2 + k * 3, none⟩ = some (.int .i64 op) ∧ W.cell? ⟨b2, o2 + k * 3 + 1, none⟩ = some (.string nm) ∧ W.cell? ⟨b2, o2 + k * 3 + 2, none⟩ = some (.string v))) ∧ Below wr.heap.size wr W)
     (exact HY.out) (fail)
    all_goals (
     have HB6 := hid (HBX.out.trans (HY.out.2.mono HBX.out.size))
     clear HY
     go_wp2_with fail
     go_roundg g'
     case measure => omega
     case rel => exact ⟨k + 1, by omega, by omega, by go_num, HB6⟩)
  · have hki : ¬ (k : Int) < (g.ms.length : Int) := by omega
    clear hd4
    go_wp2_with fail
    clear hc4
    have HBA := HBX
    clear HBX
    generalize wr = wa at *
    go_loopg [6] g.ns.length (fun gq s6 wx => ∃ k : Nat, k ≤ g.ns.length ∧ g.ns.length ≤ gq + k ∧ s6 = .int .i64 (k : Int) ∧ Hid (Below wa.heap.size wa wx))
    case atStart => exact ⟨0, Nat.zero_le _, Nat.le_refl _, rfl, Below.refl _ _⟩
    case round =>
     obtain ⟨j, hjn, hg2, rfl, HBY⟩ := hrel
     have HBY2 := hid (HBA.out.trans (HBY.out.mono HBA.out.size))
     have hc4 := (HKA.out.below HBY2.out).cell 10
     have hd4 := (HKB.out.below HBY2.out).cell 10
     simp at hc4 hd4
     have hglm : g.ns.length ≤ 140737488355328 := by have := HE10.out; omega
     by_cases hlt : j < g.ns.length
     · have hki : (j : Int) < (g.ns.length : Int) := by omega
       have hlt2 : j < h.ns.length := by have := HE10.out; omega
       have hki2 : (j : Int) < (h.ns.length : Int) := by omega
       obtain ⟨b1, o1, hA1, hb1, q1⟩ := HNG.out (by omega)
       obtain ⟨b2, o2, hA2, hb2, q2⟩ := HNH.out (by omega)
       have hix1 := fun W => index_nm g.na g.ns.length g.nc j b1 o1 hA1 hlt W
       have hix2 := fun W => index_nm h.na h.ns.length h.nc j b2 o2 hA2 hlt2 W
       have q1 := q1 j hlt
       have q2 := q2 j hlt2
       rw [HNN.out] at q1
       obtain ⟨v, hm⟩ : ∃ m, h.ns.getD j n0 = m := ⟨_, rfl⟩
       rw [hm] at q1 q2
       have x0 := (HBY2.out.cell (p := ⟨b1, o1 + j, none⟩) hb1).trans q1
       have y0 := (HBY2.out.cell (p := ⟨b2, o2 + j, none⟩) hb2).trans q2
       have HY : Hid (((wr.cell? ⟨w.heap.size, 10, none⟩ = some (.slice g.na g.ns.length g.nc) ∧ wr.cell? ⟨w.heap.size + 1, 10, none⟩ = some (.slice h.na h.ns.length h.nc)) ∧ (wr.cell? ⟨b1, o1 + j, none⟩ = some (.string v) ∧ wr.cell? ⟨b2, o2 + j, none⟩ = some (.string v))) ∧ Below wr.heap.size wr wr.drew) :=
        ⟨⟨⟨hc4, hd4⟩, ⟨x0, y0⟩⟩, ⟨rfl, rfl, rfl, Nat.le_refl _, fun _ _ => rfl⟩⟩
       obtain ⟨g', rfl⟩ : ∃ g', gk = g' + 1 := ⟨gk - 1, by omega⟩
       clear hA1 hA2 hm q1 q2
       go_upto_region 11 with fail
       clear hc4 hd4 x0 y0
       go_region_held3 (fun W => ((W.cell? ⟨w.heap.size, 10, none⟩ = some (.slice g.na g.ns.length g.nc) ∧ W.cell? ⟨w.heap.size + 1, 10, none⟩ = some (.slice h.na h.ns.length h.nc)) ∧ (W.cell? ⟨b1, o1 + j, none⟩ = some (.string v) ∧ W.cell? ⟨b2, o2 + j, none⟩ = some (.string v))) ∧ Below wr.heap.size wr W)
        (exact HY.out) (fail)
       all_goals (
        have HB6 := hid (HBY.out.trans (HY.out.2.mono HBY.out.size))
        clear HY
        go_wp2_with fail
        go_roundg g'
        case measure => omega
        case rel => exact ⟨j + 1, by omega, by omega, by go_num, HB6⟩)
     · have hki : ¬ (j : Int) < (g.ns.length : Int) := by omega
       clear hd4
       go_wp2_with fail
       clear hc4
       generalize wr = wb at *
       go_loopg [7] gs.length (fun gq s7 wx => ∃ k : Nat, k ≤ gs.length ∧ gs.length ≤ gq + k ∧ s7 = .int .i64 (k : Int) ∧ Hid (Below wb.heap.size wb wx))
       case atStart => exact ⟨0, Nat.zero_le _, Nat.le_refl _, rfl, Below.refl _ _⟩
       case round =>
        obtain ⟨i, hin, hg3, rfl, HBZ⟩ := hrel
        have HBZ2 := hid (HBY2.out.trans (HBZ.out.mono HBY2.out.size))
        have HBF := hid (HB0.out.trans (HBZ2.out.mono HB0.out.size))
        have hc4 := (HKA.out.below HBZ2.out).cell 12
        have hd4 := (HKB.out.below HBZ2.out).cell 12
        simp at hc4 hd4
        have hglm : gs.length ≤ 140737488355328 := by have := HE12.out; omega
        by_cases hlt : i < gs.length
        · have hki : (i : Int) < (gs.length : Int) := by omega
          have hlt2 : i < ks.length := by have := HE12.out; omega
          have hki2 : (i : Int) < (ks.length : Int) := by omega
          obtain ⟨b1, o1, hA1, hb1, q1⟩ := HTG.out (by omega)
          obtain ⟨b2, o2, hA2, hb2, q2⟩ := HTH.out (by omega)
          have hix1 := fun W => index_kid g.ka gs.length g.kc i b1 o1 hA1 hlt W
          have hix2 := fun W => index_kid h.ka ks.length h.kc i b2 o2 hA2 hlt2 W
          cases ht : ks.getD i t0 with
          | mk x xs =>
            have k1 := KC.below (Trs.kc q1 hlt (by rw [HCC.out]; exact ht)) HBZ2.out hb1
            have k2 := KC.below (Trs.kc q2 hlt2 ht) HBZ2.out hb2
            obtain ⟨p1, hp1⟩ : ∃ p, o1 + i * 13 = p := ⟨_, rfl⟩
            obtain ⟨p2, hp2⟩ : ∃ p, o2 + i * 13 = p := ⟨_, rfl⟩
            rw [hp1] at k1 hix1
            rw [hp2] at k2 hix2
            have hmem : Tr.mk x xs ∈ ks := by rw [← ht]; exact kid_mem2 hlt2
            have hlb : ∀ W, Below wr.heap.size wr W → Lies W (.mk x xs) := fun W hW => (LiesL.mem HKH.out hmem).below (HBZ2.out.trans (hW.mono HBZ2.out.size))
            have hcl := fun W (hW : Below wr.heap.size wr W) => HKS.out _ hmem W (hlb W hW)
            rw [valT_arr] at hcl
            have HCL := hid hcl
            have hwb1 : b1 < wr.heap.size := Nat.lt_of_lt_of_le hb1 HBZ2.out.size
            have hwb2 : b2 < wr.heap.size := Nat.lt_of_lt_of_le hb2 HBZ2.out.size
            have hww : w.heap.size + 1 < wr.heap.size := Nat.lt_of_lt_of_le HWL.out HBZ2.out.size
            have HY : Hid (((wr.cell? ⟨w.heap.size, 12, none⟩ = some (.slice g.ka gs.length g.kc) ∧ wr.cell? ⟨w.heap.size + 1, 12, none⟩ = some (.slice h.ka ks.length h.kc)) ∧ (KC wr b1 p1 x xs.length ∧ KC wr b2 p2 x xs.length)) ∧ Below wr.heap.size wr wr.drew) :=
             ⟨⟨⟨hc4, hd4⟩, ⟨k1, k2⟩⟩, ⟨rfl, rfl, rfl, Nat.le_refl _, fun _ _ => rfl⟩⟩
            obtain ⟨g', rfl⟩ : ∃ g', gk = g' + 1 := ⟨gk - 1, by omega⟩
            clear hA1 hA2 ht q1 q2 k1 k2 hp1 hp2 hcl hlb
            unfold arr at HCL
            go_upto_region 16 with fail
            clear hc4 hd4
            go_region_held3 (fun W => ((W.cell? ⟨w.heap.size, 12, none⟩ = some (.slice g.ka gs.length g.kc) ∧ W.cell? ⟨w.heap.size + 1, 12, none⟩ = some (.slice h.ka ks.length h.kc)) ∧ (KC W b1 p1 x xs.length ∧ KC W b2 p2 x xs.length)) ∧ Below wr.heap.size wr W)
             (first | (exact HY.out) | (exact ⟨⟨⟨(hb5.cell (p := ⟨w.heap.size, 12, none⟩) (by show w.heap.size < _; have := hS0.2.size; omega)).trans hS0.1.1.1, (hb5.cell (p := ⟨w.heap.size + 1, 12, none⟩) (by show w.heap.size + 1 < _; have := hS0.2.size; omega)).trans hS0.1.1.2⟩, ⟨hS0.1.2.1.below hb5 (by have := hS0.2.size; omega), hS0.1.2.2.below hb5 (by have := hS0.2.size; omega)⟩⟩, hS0.2.trans (hb5.mono hS0.2.size)⟩) | assumption)
             (first
               | (go_at_call 28
                  have hS0 := ‹((World.cell? _ ⟨w.heap.size, 12, none⟩ = some (.slice g.ka gs.length g.kc) ∧ World.cell? _ ⟨w.heap.size + 1, 12, none⟩ = some (.slice h.ka ks.length h.kc)) ∧ (KC _ b1 p1 x xs.length ∧ KC _ b2 p2 x xs.length)) ∧ Below wr.heap.size wr _›
                  (with_reducible refine (HCL.out _ hS0.2).mono ?_)
                  rintro e w' ⟨rfl, hb5⟩))
            all_goals (
             have hSE := ‹((World.cell? _ ⟨w.heap.size, 12, none⟩ = some (.slice g.ka gs.length g.kc) ∧ World.cell? _ ⟨w.heap.size + 1, 12, none⟩ = some (.slice h.ka ks.length h.kc)) ∧ (KC _ b1 p1 x xs.length ∧ KC _ b2 p2 x xs.length)) ∧ Below wr.heap.size wr _›
             have HB6 := hid (HBZ.out.trans (hSE.2.mono HBZ.out.size))
             clear hSE HY HCL
             go_wp2_with fail
             go_roundg g'
             case measure => omega
             case rel => exact ⟨i + 1, by omega, by omega, by go_num, HB6⟩)
        · have hki : ¬ (i : Int) < (gs.length : Int) := by omega
          clear hd4
          go_wp2_with fail
          go_ret
          exact ⟨rfl, HBF.out⟩
end Go.Proofs.YticmkabafmmlhaaGreatDoor.Ck

set_option linter.unusedVariables false
set_option linter.unusedSimpArgs false
namespace Go.Proofs.YticmkabafmmlhaaGreatDoor.Ck
open Go.RowKit
theorem same_gen (g h : Hd) (gs ks : List Tr) (hk : ∀ x, x ∈ ks → SameSelf x) (hcut : Cut g h gs ks) (w : World) (hG : Lies w (.mk g gs)) (hL : Lies w (.mk h ks)) :
 Calls Tryz.prog 28 #[valT (.mk g gs), valT (.mk h ks)] w fun e w' => e = .returned (.bool (headF g h gs ks)) ∧ Below w.heap.size w w' := by
 unfold headF
 by_cases e0 : ¬ g.k = h.k
 · rw [decide_eq_false (fun x => e0 x.1)]; exact same_neg0 g h gs ks e0 w hG hL
 have e0 := Classical.not_not.1 e0
 by_cases e1 : ¬ g.o = h.o
 · rw [decide_eq_false (fun x => e1 x.2.1)]; exact same_neg1 g h gs ks e0 e1 w hG hL
 have e1 := Classical.not_not.1 e1
 by_cases e2 : ¬ g.v = h.v
 · rw [decide_eq_false (fun x => e2 x.2.2.1)]; exact same_neg2 g h gs ks e0 e1 e2 w hG hL
 have e2 := Classical.not_not.1 e2
 by_cases e3 : ¬ g.s.toList = h.s.toList
 · rw [decide_eq_false (fun x => e3 x.2.2.2.1)]; exact same_neg3 g h gs ks e0 e1 e2 e3 w hG hL
 have e3 := Classical.not_not.1 e3
 by_cases e4 : ¬ g.ms.length = h.ms.length
 · rw [decide_eq_false (fun x => e4 x.2.2.2.2.1)]; exact same_neg4 g h gs ks e0 e1 e2 e3 e4 w hG hL
 have e4 := Classical.not_not.1 e4
 by_cases e5 : ¬ g.wd = h.wd
 · rw [decide_eq_false (fun x => e5 x.2.2.2.2.2.1)]; exact same_neg5 g h gs ks e0 e1 e2 e3 e4 e5 w hG hL
 have e5 := Classical.not_not.1 e5
 by_cases e6 : ¬ g.off = h.off
 · rw [decide_eq_false (fun x => e6 x.2.2.2.2.2.2.1)]; exact same_neg6 g h gs ks e0 e1 e2 e3 e4 e5 e6 w hG hL
 have e6 := Classical.not_not.1 e6
 by_cases e7 : ¬ g.ha = h.ha
 · rw [decide_eq_false (fun x => e7 x.2.2.2.2.2.2.2.1)]; exact same_neg7 g h gs ks e0 e1 e2 e3 e4 e5 e6 e7 w hG hL
 have e7 := Classical.not_not.1 e7
 by_cases e8 : ¬ g.tm = h.tm
 · rw [decide_eq_false (fun x => e8 x.2.2.2.2.2.2.2.2.1)]; exact same_neg8 g h gs ks e0 e1 e2 e3 e4 e5 e6 e7 e8 w hG hL
 have e8 := Classical.not_not.1 e8
 by_cases e9 : ¬ g.how = h.how
 · rw [decide_eq_false (fun x => e9 x.2.2.2.2.2.2.2.2.2.1)]; exact same_neg9 g h gs ks e0 e1 e2 e3 e4 e5 e6 e7 e8 e9 w hG hL
 have e9 := Classical.not_not.1 e9
 by_cases e10 : ¬ g.ns.length = h.ns.length
 · rw [decide_eq_false (fun x => e10 x.2.2.2.2.2.2.2.2.2.2.1)]; exact same_neg10 g h gs ks e0 e1 e2 e3 e4 e5 e6 e7 e8 e9 e10 w hG hL
 have e10 := Classical.not_not.1 e10
 by_cases e11 : ¬ g.bo = h.bo
 · rw [decide_eq_false (fun x => e11 x.2.2.2.2.2.2.2.2.2.2.2.1)]; exact same_neg11 g h gs ks e0 e1 e2 e3 e4 e5 e6 e7 e8 e9 e10 e11 w hG hL
 have e11 := Classical.not_not.1 e11
 by_cases e12 : ¬ gs.length = ks.length
 · rw [decide_eq_false (fun x => e12 x.2.2.2.2.2.2.2.2.2.2.2.2)]; exact same_neg12 g h gs ks e0 e1 e2 e3 e4 e5 e6 e7 e8 e9 e10 e11 e12 w hG hL
 have e12 := Classical.not_not.1 e12
 rw [decide_eq_true ⟨e0, e1, e2, e3, e4, e5, e6, e7, e8, e9, e10, e11, e12⟩]
 exact same_pos g h gs ks hk hcut e0 e1 e2 e3 e4 e5 e6 e7 e8 e9 e10 e11 e12 w hG hL
theorem same_self (n : Nat) : ∀ x : Tr, szF x ≤ n → SameSelf x := by
 induction n with
 | zero => intro x hx; have := szF_pos x; omega
 | succ n ih =>
   intro x hx W hL
   obtain ⟨h, ks⟩ := x
   have := same_gen h h ks ks (fun y hy => ih y (by have := szL_mem hy; rw [szF] at hx; omega)) ⟨fun _ => rfl, fun _ => rfl, fun _ => rfl⟩ W hL hL
   have e : headF h h ks ks = true := decide_eq_true ⟨rfl, rfl, rfl, rfl, rfl, rfl, rfl, rfl, rfl, rfl, rfl, rfl, rfl⟩
   rw [e] at this
   exact this
end Go.Proofs.YticmkabafmmlhaaGreatDoor.Ck

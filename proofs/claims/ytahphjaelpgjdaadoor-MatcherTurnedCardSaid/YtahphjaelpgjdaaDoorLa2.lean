/- MatcherTurned as a walk. Condition: the variables as they are laid. -/
import Derived.Test.YtahphjaelpgjdaaDoorLf
import Derived.Test.YtahphjaelpgjdaaDoorLe
import Derived.Deep.RegionHeld3
namespace Go.Proofs.YtahphjaelpgjdaaDoor
open Go.RowKit Rx
set_option linter.unusedVariables false

theorem get_size {l : List Lb.Lab} (nm : ByteArray) (h : tameAt l l.length) : ∀ n k, n + k ≤ l.length → (getFrom l nm n k).size ≤ 60
  | 0, _, _ => by unfold getFrom; decide
  | n + 1, k, hk => by
    unfold getFrom
    split
    · exact h k (by omega)
    · exact get_size nm h n (k + 1) (by omega)
theorem tame_size {l : List Lb.Lab} (nm : ByteArray) (h : tameB l = true) : (getF l nm).size ≤ 60 := by
  unfold tameB at h
  rw [Bool.and_eq_true] at h
  exact get_size nm (of_decide_eq_true h.1) _ _ (by omega)
theorem like_ok {v s : ByteArray} (h : okR v = true) (hs : s.size ≤ 4000) : (likeF v s).2 = true := by
  unfold okR at h
  unfold likeF
  cases hr : readF v with
  | bad pl c => rw [hr] at h; cases h
  | ok a m p => simp only [if_neg (show ¬ 4000 < s.size by omega)]
theorem ref_parts {op : Int} {nm v : ByteArray} (h : refRightB op nm v = true) : namedB nm v = true ∧ opR op v = true := by
  unfold refRightB at h
  rw [Bool.and_eq_true] at h
  exact h
theorem turn_12 {nm v : ByteArray} {l : List Lb.Lab} (h : refRightB 1 nm v = true) : holdsF 2 nm v l = !holdsF 1 nm v l := by
  unfold holdsF; rw [(ref_parts h).1]; rfl
theorem turn_21 {nm v : ByteArray} {l : List Lb.Lab} (h : refRightB 2 nm v = true) : holdsF 1 nm v l = !holdsF 2 nm v l := by
  unfold holdsF; rw [(ref_parts h).1]; show (v.toList == _) = !(!(v.toList == _)); rw [Bool.not_not]
theorem turn_34 {nm v : ByteArray} {l : List Lb.Lab} (h : refRightB 3 nm v = true) (ht : tameB l = true) : holdsF 4 nm v l = !holdsF 3 nm v l := by
  have h2 := like_ok (v := v) (s := getF l nm) (ref_parts h).2 (by have := tame_size nm ht; omega)
  unfold holdsF; rw [(ref_parts h).1]
  show ((likeF v (getF l nm)).2 && !(likeF v (getF l nm)).1) = !((likeF v (getF l nm)).2 && (likeF v (getF l nm)).1)
  rw [h2]; rfl
theorem turn_43 {nm v : ByteArray} {l : List Lb.Lab} (h : refRightB 4 nm v = true) (ht : tameB l = true) : holdsF 3 nm v l = !holdsF 4 nm v l := by
  have h2 := like_ok (v := v) (s := getF l nm) (ref_parts h).2 (by have := tame_size nm ht; omega)
  unfold holdsF; rw [(ref_parts h).1]
  show ((likeF v (getF l nm)).2 && (likeF v (getF l nm)).1) = !((likeF v (getF l nm)).2 && !(likeF v (getF l nm)).1)
  rw [h2]; simp
theorem six_start {W4 : World} {a j : Nat} {c0 c1 c2 d0 d1 d2 : Value} (h : W4.cell? ⟨a, 0, none⟩ = some c0 ∧ W4.cell? ⟨a, 1, none⟩ = some c1 ∧ W4.cell? ⟨a, 2, none⟩ = some c2 ∧ W4.cell? ⟨j, 0, none⟩ = some d0 ∧ W4.cell? ⟨j, 1, none⟩ = some d1 ∧ W4.cell? ⟨j, 2, none⟩ = some d2) :
    W4.drew.cell? ⟨a, 0, none⟩ = some c0 ∧ W4.drew.cell? ⟨a, 1, none⟩ = some c1 ∧ W4.drew.cell? ⟨a, 2, none⟩ = some c2 ∧ W4.drew.cell? ⟨j, 0, none⟩ = some d0 ∧ W4.drew.cell? ⟨j, 1, none⟩ = some d1 ∧ W4.drew.cell? ⟨j, 2, none⟩ = some d2 ∧ Below W4.heap.size W4 W4.drew :=
  ⟨h.1, h.2.1, h.2.2.1, h.2.2.2.1, h.2.2.2.2.1, h.2.2.2.2.2, (Below.refl _ _).drew⟩
theorem six_step {W4 W w' : World} {a j : Nat} {c0 c1 c2 d0 d1 d2 : Value} (h : W.cell? ⟨a, 0, none⟩ = some c0 ∧ W.cell? ⟨a, 1, none⟩ = some c1 ∧ W.cell? ⟨a, 2, none⟩ = some c2 ∧ W.cell? ⟨j, 0, none⟩ = some d0 ∧ W.cell? ⟨j, 1, none⟩ = some d1 ∧ W.cell? ⟨j, 2, none⟩ = some d2 ∧ Below W4.heap.size W4 W)
    (hb : Below W.heap.size W w') (ha : a < W4.heap.size) (hj : j < W4.heap.size) :
    w'.cell? ⟨a, 0, none⟩ = some c0 ∧ w'.cell? ⟨a, 1, none⟩ = some c1 ∧ w'.cell? ⟨a, 2, none⟩ = some c2 ∧ w'.cell? ⟨j, 0, none⟩ = some d0 ∧ w'.cell? ⟨j, 1, none⟩ = some d1 ∧ w'.cell? ⟨j, 2, none⟩ = some d2 ∧ Below W4.heap.size W4 w' := by
  have hs := h.2.2.2.2.2.2.size
  have ha' : a < W.heap.size := by omega
  have hj' : j < W.heap.size := by omega
  exact ⟨(hb.cell (p := ⟨a, 0, none⟩) ha').trans h.1, (hb.cell (p := ⟨a, 1, none⟩) ha').trans h.2.1, (hb.cell (p := ⟨a, 2, none⟩) ha').trans h.2.2.1, (hb.cell (p := ⟨j, 0, none⟩) hj').trans h.2.2.2.1, (hb.cell (p := ⟨j, 1, none⟩) hj').trans h.2.2.2.2.1, (hb.cell (p := ⟨j, 2, none⟩) hj').trans h.2.2.2.2.2.1, h.2.2.2.2.2.2.trans (hb.mono hs)⟩
set_option maxRecDepth 100000 in
set_option maxHeartbeats 4000000 in
theorem turned_out (op : Int) (nm v : ByteArray) (A : Option Addr) (cap : Nat) (l : List Lb.Lab) (w : World) (h5 : 5 ≤ w.heap.size) (hT : TzT w) (hU : Tabs w) (hL : Lbs w A l) (hl : l.length ≤ 9223372036854775807)
    (h : 250 < v.size ∨ 400 < nm.size ∨ tameB l = false ∨ (nm.size ≤ 400 ∧ refRightB op nm v = false)) :
    Calls Tryd.prog 4 #[.agg #[.int .i64 op, .string nm, .string v], .slice A l.length cap] w fun e w' => e = .returned (.bool true) ∧ Below w.heap.size w w' := by
  have hb0 : Below w.heap.size w (w.alloc (.cells #[.int .i64 op, .string nm, .string v] 37)) := (Below.refl _ _).alloc (Nat.le_refl _) _
  have HA := Lib.hid (mawake_any (w.alloc (.cells #[.int .i64 op, .string nm, .string v] 37)) (by simp; omega) (hT.below hb0) (hU.below (by omega) hb0))
  have HX := Lib.hid (Blk.new w 37 #[.int .i64 op, .string nm, .string v])
  have HB := Lib.hid hb0
  have HL := Lib.hid hL
  have HH := Lib.hid h
  clear hT hU hL hb0 h
  by_cases c1 : 250 < v.size
  · have k1 : decide ((250 : Int) < (v.size : Int)) = true := by simp; omega
    clear c1 HH
    go_enter Tryd.func4, Tryd.ntmps4
    go_wp2_with fail
    refine (HA.out).mono ?_
    rintro e w1 ⟨rfl, hb1⟩
    have HB1 : Hid (Below w.heap.size w w1) := HB.out.trans (hb1.mono (by simp))
    obtain ⟨y0, y1, y2⟩ := cellsT3 (HX.out.below hb1)
    clear hb1 HA HX HB
    go_wp2
    go_ret
    exact ⟨rfl, HB1.out⟩
  have k1 : decide ((250 : Int) < (v.size : Int)) = false := by simp; omega
  by_cases c2 : 400 < nm.size
  · have k2 : decide ((400 : Int) < (nm.size : Int)) = true := by simp; omega
    clear c1 c2 HH
    go_enter Tryd.func4, Tryd.ntmps4
    go_wp2_with fail
    refine (HA.out).mono ?_
    rintro e w1 ⟨rfl, hb1⟩
    have HB1 : Hid (Below w.heap.size w w1) := HB.out.trans (hb1.mono (by simp))
    obtain ⟨y0, y1, y2⟩ := cellsT3 (HX.out.below hb1)
    clear hb1 HA HX HB
    go_wp2
    go_ret
    exact ⟨rfl, HB1.out⟩
  have k2 : decide ((400 : Int) < (nm.size : Int)) = false := by simp; omega
  cases ht : tameB l with
  | false =>
    clear c1 c2 HH
    go_enter Tryd.func4, Tryd.ntmps4
    go_wp2_with fail
    refine (HA.out).mono ?_
    rintro e w1 ⟨rfl, hb1⟩
    have HB1 : Hid (Below w.heap.size w w1) := HB.out.trans (hb1.mono (by simp))
    obtain ⟨y0, y1, y2⟩ := cellsT3 (HX.out.below hb1)
    have HTA := Lib.hid (tame_any A cap l w1 (HL.out.below HB1.out) hl)
    rw [ht] at HTA
    clear hb1 HA HX HB ht
    go_wp2_with fail
    refine (HTA.out).mono ?_
    rintro e w2 ⟨rfl, rfl⟩
    go_wp2
    go_ret
    exact ⟨rfl, HB1.out⟩
  | true =>
    have hrr : refRightB op nm v = false := by rcases HH.out with h | h | h | h; exact absurd h c1; exact absurd h c2; (rw [ht] at h; cases h); exact h.2
    have HRR := Lib.hid hrr
    have hnm : nm.size ≤ 65536 := by omega
    clear c1 c2 HH hrr
    go_enter Tryd.func4, Tryd.ntmps4
    go_wp2_with fail
    refine (HA.out).mono ?_
    rintro e w1 ⟨rfl, hb1⟩
    have HB1 : Hid (Below w.heap.size w w1) := HB.out.trans (hb1.mono (by simp))
    obtain ⟨y0, y1, y2⟩ := cellsT3 (HX.out.below hb1)
    have HTA := Lib.hid (tame_any A cap l w1 (HL.out.below HB1.out) hl)
    rw [ht] at HTA
    have HRA := Lib.hid (refright_any op nm v w1 hnm)
    rw [HRR.out] at HRA
    clear hb1 HA HX HB ht
    go_wp2_with fail
    refine (HTA.out).mono ?_
    rintro e w2 ⟨rfl, rfl⟩
    go_wp2_with fail
    refine (HRA.out).mono ?_
    rintro e w3 ⟨rfl, hb3⟩
    have HB3 := Lib.hid (HB1.out.trans (below_le hb3 HB1.out.size))
    clear hb3 HRA HTA
    go_wp2
    go_ret
    exact ⟨rfl, HB3.out⟩
set_option maxRecDepth 100000 in
set_option maxHeartbeats 8000000 in
theorem turned_1 (nm v : ByteArray) (A : Option Addr) (cap : Nat) (l : List Lb.Lab) (w : World) (h5 : 5 ≤ w.heap.size) (hT : TzT w) (hU : Tabs w) (hL : Lbs w A l) (hl : l.length ≤ 65536)
    (h1 : ¬ 250 < v.size) (h2 : ¬ 400 < nm.size) (ht : tameB l = true) (hr : refRightB 1 nm v = true) (q : Bool) (hq : holdsF 1 nm v l = q) (hq2 : holdsF 2 nm v l = !q) :
    Calls Tryd.prog 4 #[.agg #[.int .i64 1, .string nm, .string v], .slice A l.length cap] w fun e w' => e = .returned (.bool true) ∧ Below w.heap.size w w' := by
  have hb0 : Below w.heap.size w (w.alloc (.cells #[.int .i64 1, .string nm, .string v] 37)) := (Below.refl _ _).alloc (Nat.le_refl _) _
  have HA := Lib.hid (mawake_any (w.alloc (.cells #[.int .i64 1, .string nm, .string v] 37)) (by simp; omega) (hT.below hb0) (hU.below (by omega) hb0))
  have HX := Lib.hid (Blk.new w 37 #[.int .i64 1, .string nm, .string v])
  have HB := Lib.hid hb0
  have HL := Lib.hid hL
  have G1 : Hid (∀ W, Below w.heap.size w W → Calls Tryd.prog 14 #[.agg #[.int .i64 1, .string nm, .string v], .slice A l.length cap] W fun e w' => e = .returned (.bool q) ∧ Below W.heap.size W w') := fun W hW => by
    have h := holds_1 nm v A cap l W (by have := hW.size; omega) (hT.below hW) (hU.below (by omega) hW) (hL.below hW) hl
    rw [hq] at h; exact h
  have G2 : Hid (∀ W, Below w.heap.size w W → Calls Tryd.prog 14 #[.agg #[.int .i64 2, .string nm, .string v], .slice A l.length cap] W fun e w' => e = .returned (.bool (!q)) ∧ Below W.heap.size W w') := fun W hW => by
    have h := holds_2 nm v A cap l W (by have := hW.size; omega) (hT.below hW) (hU.below (by omega) hW) (hL.below hW) hl
    rw [hq2] at h; exact h
  have k1 : decide ((250 : Int) < (v.size : Int)) = false := by simp; omega
  have k2 : decide ((400 : Int) < (nm.size : Int)) = false := by simp; omega
  have hnm : nm.size ≤ 65536 := by omega
  have HTT := Lib.hid ht
  have HRR := Lib.hid hr
  clear hT hU hL hb0 hq hq2 h1 h2 ht hr
  go_enter Tryd.func4, Tryd.ntmps4
  go_wp2_with fail
  refine (HA.out).mono ?_
  rintro e w1 ⟨rfl, hb1⟩
  have HB1 : Hid (Below w.heap.size w w1) := HB.out.trans (hb1.mono (by simp))
  have HX1 := Lib.hid (HX.out.below hb1)
  obtain ⟨y0, y1, y2⟩ := cellsT3 HX1.out
  have HTA := Lib.hid (tame_any A cap l w1 (HL.out.below HB1.out) (by omega))
  rw [HTT.out] at HTA
  have HRA := Lib.hid (refright_any 1 nm v w1 hnm)
  rw [HRR.out] at HRA
  clear hb1 HA HX HB
  go_wp2_with fail
  refine (HTA.out).mono ?_
  rintro e w2 ⟨rfl, rfl⟩
  go_wp2_with fail
  refine (HRA.out).mono ?_
  rintro e w3 ⟨rfl, hb3⟩
  have HB3 := Lib.hid (HB1.out.trans (below_le hb3 HB1.out.size))
  have HX3 := Lib.hid (HX1.out.below hb3)
  have hlt := HX3.out.lt
  have hsz3 := HB3.out.size
  clear hb3 HRA HTA y0 y1 y2 HX1 HB1 HTT HRR HL
  obtain ⟨y0, y1, y2⟩ := cellsT3 HX3.out
  have HO : Hid (Blk ((w3.alloc (.cells #[.int .i64 2, .string nm, .string v] 37)).alloc (.cells #[.int .i64 0, .int .i64 2, .int .i64 1, .int .i64 4, .int .i64 3] 3)) w3.heap.size 37 #[.int .i64 2, .string nm, .string v]) := (Blk.new w3 37 #[.int .i64 2, .string nm, .string v]).alloc _
  have HX4 : Hid (Blk ((w3.alloc (.cells #[.int .i64 2, .string nm, .string v] 37)).alloc (.cells #[.int .i64 0, .int .i64 2, .int .i64 1, .int .i64 4, .int .i64 3] 3)) w.heap.size 37 #[.int .i64 1, .string nm, .string v]) := (HX3.out.alloc _).alloc _
  have HB4 : Hid (Below w.heap.size w ((w3.alloc (.cells #[.int .i64 2, .string nm, .string v] 37)).alloc (.cells #[.int .i64 0, .int .i64 2, .int .i64 1, .int .i64 4, .int .i64 3] 3))) := (HB3.out.alloc (by omega) _).alloc (by simp; omega) _
  go_upto_region 7 with fail
  generalize hj : w3.heap.size = j at *
  generalize (w3.alloc (.cells _ 37)).alloc (.cells _ 3) = W4 at *
  clear y0 y1 y2 HB3 HX3
  have hs4 := HB4.out.size
  have hj4 := HO.out.lt
  have hx4 := HX4.out.lt
  obtain ⟨y0, y1, y2⟩ := cellsT3 HX4.out
  obtain ⟨z0, z1, z2⟩ := cellsT3 HO.out
  have Y := Lib.hid (And.intro y0 (And.intro y1 (And.intro y2 (And.intro z0 (And.intro z1 z2)))))
  clear HO HX4 y0 y1 y2 z0 z1 z2 hj hsz3 hlt hl h5 k1 k2 hnm
  go_region_held3 (fun W => W.cell? ⟨w.heap.size, 0, none⟩ = some (.int .i64 1) ∧ W.cell? ⟨w.heap.size, 1, none⟩ = some (.string nm) ∧ W.cell? ⟨w.heap.size, 2, none⟩ = some (.string v) ∧ W.cell? ⟨j, 0, none⟩ = some (.int .i64 2) ∧ W.cell? ⟨j, 1, none⟩ = some (.string nm) ∧ W.cell? ⟨j, 2, none⟩ = some (.string v) ∧ Below W4.heap.size W4 W)
    (first | (exact six_start Y.out) | (exact six_step hS0 hb5 hx4 hj4) | assumption)
    (first
      | (have hS0 := ‹World.cell? _ ⟨w.heap.size, 0, none⟩ = some (.int .i64 1) ∧ World.cell? _ ⟨w.heap.size, 1, none⟩ = some (.string nm) ∧ World.cell? _ ⟨w.heap.size, 2, none⟩ = some (.string v) ∧ World.cell? _ ⟨j, 0, none⟩ = some (.int .i64 2) ∧ World.cell? _ ⟨j, 1, none⟩ = some (.string nm) ∧ World.cell? _ ⟨j, 2, none⟩ = some (.string v) ∧ Below W4.heap.size W4 _›
         (with_reducible refine (G1.out _ (HB4.out.trans (hS0.2.2.2.2.2.2.mono hs4))).mono ?_)
         rintro e w' ⟨rfl, hb5⟩)
      | (have hS0 := ‹World.cell? _ ⟨w.heap.size, 0, none⟩ = some (.int .i64 1) ∧ World.cell? _ ⟨w.heap.size, 1, none⟩ = some (.string nm) ∧ World.cell? _ ⟨w.heap.size, 2, none⟩ = some (.string v) ∧ World.cell? _ ⟨j, 0, none⟩ = some (.int .i64 2) ∧ World.cell? _ ⟨j, 1, none⟩ = some (.string nm) ∧ World.cell? _ ⟨j, 2, none⟩ = some (.string v) ∧ Below W4.heap.size W4 _›
         (with_reducible refine (G2.out _ (HB4.out.trans (hS0.2.2.2.2.2.2.mono hs4))).mono ?_)
         rintro e w' ⟨rfl, hb5⟩))
  all_goals (
    have hSE := ‹World.cell? _ ⟨w.heap.size, 0, none⟩ = some (.int .i64 1) ∧ World.cell? _ ⟨w.heap.size, 1, none⟩ = some (.string nm) ∧ World.cell? _ ⟨w.heap.size, 2, none⟩ = some (.string v) ∧ World.cell? _ ⟨j, 0, none⟩ = some (.int .i64 2) ∧ World.cell? _ ⟨j, 1, none⟩ = some (.string nm) ∧ World.cell? _ ⟨j, 2, none⟩ = some (.string v) ∧ Below W4.heap.size W4 _›
    have HBE := Lib.hid (HB4.out.trans (hSE.2.2.2.2.2.2.mono hs4))
    clear hSE G1 G2 Y
    cases q with
    | false =>
      go_wp2
      go_ret
      exact ⟨rfl, HBE.out⟩
    | true =>
      go_wp2
      go_ret
      exact ⟨rfl, HBE.out⟩)
set_option maxRecDepth 100000 in
set_option maxHeartbeats 8000000 in
theorem turned_2 (nm v : ByteArray) (A : Option Addr) (cap : Nat) (l : List Lb.Lab) (w : World) (h5 : 5 ≤ w.heap.size) (hT : TzT w) (hU : Tabs w) (hL : Lbs w A l) (hl : l.length ≤ 65536)
    (h1 : ¬ 250 < v.size) (h2 : ¬ 400 < nm.size) (ht : tameB l = true) (hr : refRightB 2 nm v = true) (q : Bool) (hq : holdsF 2 nm v l = q) (hq2 : holdsF 1 nm v l = !q) :
    Calls Tryd.prog 4 #[.agg #[.int .i64 2, .string nm, .string v], .slice A l.length cap] w fun e w' => e = .returned (.bool true) ∧ Below w.heap.size w w' := by
  have hb0 : Below w.heap.size w (w.alloc (.cells #[.int .i64 2, .string nm, .string v] 37)) := (Below.refl _ _).alloc (Nat.le_refl _) _
  have HA := Lib.hid (mawake_any (w.alloc (.cells #[.int .i64 2, .string nm, .string v] 37)) (by simp; omega) (hT.below hb0) (hU.below (by omega) hb0))
  have HX := Lib.hid (Blk.new w 37 #[.int .i64 2, .string nm, .string v])
  have HB := Lib.hid hb0
  have HL := Lib.hid hL
  have G1 : Hid (∀ W, Below w.heap.size w W → Calls Tryd.prog 14 #[.agg #[.int .i64 2, .string nm, .string v], .slice A l.length cap] W fun e w' => e = .returned (.bool q) ∧ Below W.heap.size W w') := fun W hW => by
    have h := holds_2 nm v A cap l W (by have := hW.size; omega) (hT.below hW) (hU.below (by omega) hW) (hL.below hW) hl
    rw [hq] at h; exact h
  have G2 : Hid (∀ W, Below w.heap.size w W → Calls Tryd.prog 14 #[.agg #[.int .i64 1, .string nm, .string v], .slice A l.length cap] W fun e w' => e = .returned (.bool (!q)) ∧ Below W.heap.size W w') := fun W hW => by
    have h := holds_1 nm v A cap l W (by have := hW.size; omega) (hT.below hW) (hU.below (by omega) hW) (hL.below hW) hl
    rw [hq2] at h; exact h
  have k1 : decide ((250 : Int) < (v.size : Int)) = false := by simp; omega
  have k2 : decide ((400 : Int) < (nm.size : Int)) = false := by simp; omega
  have hnm : nm.size ≤ 65536 := by omega
  have HTT := Lib.hid ht
  have HRR := Lib.hid hr
  clear hT hU hL hb0 hq hq2 h1 h2 ht hr
  go_enter Tryd.func4, Tryd.ntmps4
  go_wp2_with fail
  refine (HA.out).mono ?_
  rintro e w1 ⟨rfl, hb1⟩
  have HB1 : Hid (Below w.heap.size w w1) := HB.out.trans (hb1.mono (by simp))
  have HX1 := Lib.hid (HX.out.below hb1)
  obtain ⟨y0, y1, y2⟩ := cellsT3 HX1.out
  have HTA := Lib.hid (tame_any A cap l w1 (HL.out.below HB1.out) (by omega))
  rw [HTT.out] at HTA
  have HRA := Lib.hid (refright_any 2 nm v w1 hnm)
  rw [HRR.out] at HRA
  clear hb1 HA HX HB
  go_wp2_with fail
  refine (HTA.out).mono ?_
  rintro e w2 ⟨rfl, rfl⟩
  go_wp2_with fail
  refine (HRA.out).mono ?_
  rintro e w3 ⟨rfl, hb3⟩
  have HB3 := Lib.hid (HB1.out.trans (below_le hb3 HB1.out.size))
  have HX3 := Lib.hid (HX1.out.below hb3)
  have hlt := HX3.out.lt
  have hsz3 := HB3.out.size
  clear hb3 HRA HTA y0 y1 y2 HX1 HB1 HTT HRR HL
  obtain ⟨y0, y1, y2⟩ := cellsT3 HX3.out
  have HO : Hid (Blk ((w3.alloc (.cells #[.int .i64 1, .string nm, .string v] 37)).alloc (.cells #[.int .i64 0, .int .i64 2, .int .i64 1, .int .i64 4, .int .i64 3] 3)) w3.heap.size 37 #[.int .i64 1, .string nm, .string v]) := (Blk.new w3 37 #[.int .i64 1, .string nm, .string v]).alloc _
  have HX4 : Hid (Blk ((w3.alloc (.cells #[.int .i64 1, .string nm, .string v] 37)).alloc (.cells #[.int .i64 0, .int .i64 2, .int .i64 1, .int .i64 4, .int .i64 3] 3)) w.heap.size 37 #[.int .i64 2, .string nm, .string v]) := (HX3.out.alloc _).alloc _
  have HB4 : Hid (Below w.heap.size w ((w3.alloc (.cells #[.int .i64 1, .string nm, .string v] 37)).alloc (.cells #[.int .i64 0, .int .i64 2, .int .i64 1, .int .i64 4, .int .i64 3] 3))) := (HB3.out.alloc (by omega) _).alloc (by simp; omega) _
  go_upto_region 7 with fail
  generalize hj : w3.heap.size = j at *
  generalize (w3.alloc (.cells _ 37)).alloc (.cells _ 3) = W4 at *
  clear y0 y1 y2 HB3 HX3
  have hs4 := HB4.out.size
  have hj4 := HO.out.lt
  have hx4 := HX4.out.lt
  obtain ⟨y0, y1, y2⟩ := cellsT3 HX4.out
  obtain ⟨z0, z1, z2⟩ := cellsT3 HO.out
  have Y := Lib.hid (And.intro y0 (And.intro y1 (And.intro y2 (And.intro z0 (And.intro z1 z2)))))
  clear HO HX4 y0 y1 y2 z0 z1 z2 hj hsz3 hlt hl h5 k1 k2 hnm
  go_region_held3 (fun W => W.cell? ⟨w.heap.size, 0, none⟩ = some (.int .i64 2) ∧ W.cell? ⟨w.heap.size, 1, none⟩ = some (.string nm) ∧ W.cell? ⟨w.heap.size, 2, none⟩ = some (.string v) ∧ W.cell? ⟨j, 0, none⟩ = some (.int .i64 1) ∧ W.cell? ⟨j, 1, none⟩ = some (.string nm) ∧ W.cell? ⟨j, 2, none⟩ = some (.string v) ∧ Below W4.heap.size W4 W)
    (first | (exact six_start Y.out) | (exact six_step hS0 hb5 hx4 hj4) | assumption)
    (first
      | (have hS0 := ‹World.cell? _ ⟨w.heap.size, 0, none⟩ = some (.int .i64 2) ∧ World.cell? _ ⟨w.heap.size, 1, none⟩ = some (.string nm) ∧ World.cell? _ ⟨w.heap.size, 2, none⟩ = some (.string v) ∧ World.cell? _ ⟨j, 0, none⟩ = some (.int .i64 1) ∧ World.cell? _ ⟨j, 1, none⟩ = some (.string nm) ∧ World.cell? _ ⟨j, 2, none⟩ = some (.string v) ∧ Below W4.heap.size W4 _›
         (with_reducible refine (G1.out _ (HB4.out.trans (hS0.2.2.2.2.2.2.mono hs4))).mono ?_)
         rintro e w' ⟨rfl, hb5⟩)
      | (have hS0 := ‹World.cell? _ ⟨w.heap.size, 0, none⟩ = some (.int .i64 2) ∧ World.cell? _ ⟨w.heap.size, 1, none⟩ = some (.string nm) ∧ World.cell? _ ⟨w.heap.size, 2, none⟩ = some (.string v) ∧ World.cell? _ ⟨j, 0, none⟩ = some (.int .i64 1) ∧ World.cell? _ ⟨j, 1, none⟩ = some (.string nm) ∧ World.cell? _ ⟨j, 2, none⟩ = some (.string v) ∧ Below W4.heap.size W4 _›
         (with_reducible refine (G2.out _ (HB4.out.trans (hS0.2.2.2.2.2.2.mono hs4))).mono ?_)
         rintro e w' ⟨rfl, hb5⟩))
  all_goals (
    have hSE := ‹World.cell? _ ⟨w.heap.size, 0, none⟩ = some (.int .i64 2) ∧ World.cell? _ ⟨w.heap.size, 1, none⟩ = some (.string nm) ∧ World.cell? _ ⟨w.heap.size, 2, none⟩ = some (.string v) ∧ World.cell? _ ⟨j, 0, none⟩ = some (.int .i64 1) ∧ World.cell? _ ⟨j, 1, none⟩ = some (.string nm) ∧ World.cell? _ ⟨j, 2, none⟩ = some (.string v) ∧ Below W4.heap.size W4 _›
    have HBE := Lib.hid (HB4.out.trans (hSE.2.2.2.2.2.2.mono hs4))
    clear hSE G1 G2 Y
    cases q with
    | false =>
      go_wp2
      go_ret
      exact ⟨rfl, HBE.out⟩
    | true =>
      go_wp2
      go_ret
      exact ⟨rfl, HBE.out⟩)
set_option maxRecDepth 100000 in
set_option maxHeartbeats 8000000 in
theorem turned_3 (nm v : ByteArray) (A : Option Addr) (cap : Nat) (l : List Lb.Lab) (w : World) (h5 : 5 ≤ w.heap.size) (hT : TzT w) (hU : Tabs w) (hL : Lbs w A l) (hl : l.length ≤ 65536)
    (h1 : ¬ 250 < v.size) (h2 : ¬ 400 < nm.size) (ht : tameB l = true) (hr : refRightB 3 nm v = true) (q : Bool) (hq : holdsF 3 nm v l = q) (hq2 : holdsF 4 nm v l = !q) :
    Calls Tryd.prog 4 #[.agg #[.int .i64 3, .string nm, .string v], .slice A l.length cap] w fun e w' => e = .returned (.bool true) ∧ Below w.heap.size w w' := by
  have hb0 : Below w.heap.size w (w.alloc (.cells #[.int .i64 3, .string nm, .string v] 37)) := (Below.refl _ _).alloc (Nat.le_refl _) _
  have HA := Lib.hid (mawake_any (w.alloc (.cells #[.int .i64 3, .string nm, .string v] 37)) (by simp; omega) (hT.below hb0) (hU.below (by omega) hb0))
  have HX := Lib.hid (Blk.new w 37 #[.int .i64 3, .string nm, .string v])
  have HB := Lib.hid hb0
  have HL := Lib.hid hL
  have G1 : Hid (∀ W, Below w.heap.size w W → Calls Tryd.prog 14 #[.agg #[.int .i64 3, .string nm, .string v], .slice A l.length cap] W fun e w' => e = .returned (.bool q) ∧ Below W.heap.size W w') := fun W hW => by
    have h := holds_3 nm v A cap l W (by have := hW.size; omega) (hT.below hW) (hU.below (by omega) hW) (hL.below hW) hl
    rw [hq] at h; exact h
  have G2 : Hid (∀ W, Below w.heap.size w W → Calls Tryd.prog 14 #[.agg #[.int .i64 4, .string nm, .string v], .slice A l.length cap] W fun e w' => e = .returned (.bool (!q)) ∧ Below W.heap.size W w') := fun W hW => by
    have h := holds_4 nm v A cap l W (by have := hW.size; omega) (hT.below hW) (hU.below (by omega) hW) (hL.below hW) hl
    rw [hq2] at h; exact h
  have k1 : decide ((250 : Int) < (v.size : Int)) = false := by simp; omega
  have k2 : decide ((400 : Int) < (nm.size : Int)) = false := by simp; omega
  have hnm : nm.size ≤ 65536 := by omega
  have HTT := Lib.hid ht
  have HRR := Lib.hid hr
  clear hT hU hL hb0 hq hq2 h1 h2 ht hr
  go_enter Tryd.func4, Tryd.ntmps4
  go_wp2_with fail
  refine (HA.out).mono ?_
  rintro e w1 ⟨rfl, hb1⟩
  have HB1 : Hid (Below w.heap.size w w1) := HB.out.trans (hb1.mono (by simp))
  have HX1 := Lib.hid (HX.out.below hb1)
  obtain ⟨y0, y1, y2⟩ := cellsT3 HX1.out
  have HTA := Lib.hid (tame_any A cap l w1 (HL.out.below HB1.out) (by omega))
  rw [HTT.out] at HTA
  have HRA := Lib.hid (refright_any 3 nm v w1 hnm)
  rw [HRR.out] at HRA
  clear hb1 HA HX HB
  go_wp2_with fail
  refine (HTA.out).mono ?_
  rintro e w2 ⟨rfl, rfl⟩
  go_wp2_with fail
  refine (HRA.out).mono ?_
  rintro e w3 ⟨rfl, hb3⟩
  have HB3 := Lib.hid (HB1.out.trans (below_le hb3 HB1.out.size))
  have HX3 := Lib.hid (HX1.out.below hb3)
  have hlt := HX3.out.lt
  have hsz3 := HB3.out.size
  clear hb3 HRA HTA y0 y1 y2 HX1 HB1 HTT HRR HL
  obtain ⟨y0, y1, y2⟩ := cellsT3 HX3.out
  have HO : Hid (Blk ((w3.alloc (.cells #[.int .i64 4, .string nm, .string v] 37)).alloc (.cells #[.int .i64 0, .int .i64 2, .int .i64 1, .int .i64 4, .int .i64 3] 3)) w3.heap.size 37 #[.int .i64 4, .string nm, .string v]) := (Blk.new w3 37 #[.int .i64 4, .string nm, .string v]).alloc _
  have HX4 : Hid (Blk ((w3.alloc (.cells #[.int .i64 4, .string nm, .string v] 37)).alloc (.cells #[.int .i64 0, .int .i64 2, .int .i64 1, .int .i64 4, .int .i64 3] 3)) w.heap.size 37 #[.int .i64 3, .string nm, .string v]) := (HX3.out.alloc _).alloc _
  have HB4 : Hid (Below w.heap.size w ((w3.alloc (.cells #[.int .i64 4, .string nm, .string v] 37)).alloc (.cells #[.int .i64 0, .int .i64 2, .int .i64 1, .int .i64 4, .int .i64 3] 3))) := (HB3.out.alloc (by omega) _).alloc (by simp; omega) _
  go_upto_region 7 with fail
  generalize hj : w3.heap.size = j at *
  generalize (w3.alloc (.cells _ 37)).alloc (.cells _ 3) = W4 at *
  clear y0 y1 y2 HB3 HX3
  have hs4 := HB4.out.size
  have hj4 := HO.out.lt
  have hx4 := HX4.out.lt
  obtain ⟨y0, y1, y2⟩ := cellsT3 HX4.out
  obtain ⟨z0, z1, z2⟩ := cellsT3 HO.out
  have Y := Lib.hid (And.intro y0 (And.intro y1 (And.intro y2 (And.intro z0 (And.intro z1 z2)))))
  clear HO HX4 y0 y1 y2 z0 z1 z2 hj hsz3 hlt hl h5 k1 k2 hnm
  go_region_held3 (fun W => W.cell? ⟨w.heap.size, 0, none⟩ = some (.int .i64 3) ∧ W.cell? ⟨w.heap.size, 1, none⟩ = some (.string nm) ∧ W.cell? ⟨w.heap.size, 2, none⟩ = some (.string v) ∧ W.cell? ⟨j, 0, none⟩ = some (.int .i64 4) ∧ W.cell? ⟨j, 1, none⟩ = some (.string nm) ∧ W.cell? ⟨j, 2, none⟩ = some (.string v) ∧ Below W4.heap.size W4 W)
    (first | (exact six_start Y.out) | (exact six_step hS0 hb5 hx4 hj4) | assumption)
    (first
      | (have hS0 := ‹World.cell? _ ⟨w.heap.size, 0, none⟩ = some (.int .i64 3) ∧ World.cell? _ ⟨w.heap.size, 1, none⟩ = some (.string nm) ∧ World.cell? _ ⟨w.heap.size, 2, none⟩ = some (.string v) ∧ World.cell? _ ⟨j, 0, none⟩ = some (.int .i64 4) ∧ World.cell? _ ⟨j, 1, none⟩ = some (.string nm) ∧ World.cell? _ ⟨j, 2, none⟩ = some (.string v) ∧ Below W4.heap.size W4 _›
         (with_reducible refine (G1.out _ (HB4.out.trans (hS0.2.2.2.2.2.2.mono hs4))).mono ?_)
         rintro e w' ⟨rfl, hb5⟩)
      | (have hS0 := ‹World.cell? _ ⟨w.heap.size, 0, none⟩ = some (.int .i64 3) ∧ World.cell? _ ⟨w.heap.size, 1, none⟩ = some (.string nm) ∧ World.cell? _ ⟨w.heap.size, 2, none⟩ = some (.string v) ∧ World.cell? _ ⟨j, 0, none⟩ = some (.int .i64 4) ∧ World.cell? _ ⟨j, 1, none⟩ = some (.string nm) ∧ World.cell? _ ⟨j, 2, none⟩ = some (.string v) ∧ Below W4.heap.size W4 _›
         (with_reducible refine (G2.out _ (HB4.out.trans (hS0.2.2.2.2.2.2.mono hs4))).mono ?_)
         rintro e w' ⟨rfl, hb5⟩))
  all_goals (
    have hSE := ‹World.cell? _ ⟨w.heap.size, 0, none⟩ = some (.int .i64 3) ∧ World.cell? _ ⟨w.heap.size, 1, none⟩ = some (.string nm) ∧ World.cell? _ ⟨w.heap.size, 2, none⟩ = some (.string v) ∧ World.cell? _ ⟨j, 0, none⟩ = some (.int .i64 4) ∧ World.cell? _ ⟨j, 1, none⟩ = some (.string nm) ∧ World.cell? _ ⟨j, 2, none⟩ = some (.string v) ∧ Below W4.heap.size W4 _›
    have HBE := Lib.hid (HB4.out.trans (hSE.2.2.2.2.2.2.mono hs4))
    clear hSE G1 G2 Y
    cases q with
    | false =>
      go_wp2
      go_ret
      exact ⟨rfl, HBE.out⟩
    | true =>
      go_wp2
      go_ret
      exact ⟨rfl, HBE.out⟩)
set_option maxRecDepth 100000 in
set_option maxHeartbeats 8000000 in
theorem turned_4 (nm v : ByteArray) (A : Option Addr) (cap : Nat) (l : List Lb.Lab) (w : World) (h5 : 5 ≤ w.heap.size) (hT : TzT w) (hU : Tabs w) (hL : Lbs w A l) (hl : l.length ≤ 65536)
    (h1 : ¬ 250 < v.size) (h2 : ¬ 400 < nm.size) (ht : tameB l = true) (hr : refRightB 4 nm v = true) (q : Bool) (hq : holdsF 4 nm v l = q) (hq2 : holdsF 3 nm v l = !q) :
    Calls Tryd.prog 4 #[.agg #[.int .i64 4, .string nm, .string v], .slice A l.length cap] w fun e w' => e = .returned (.bool true) ∧ Below w.heap.size w w' := by
  have hb0 : Below w.heap.size w (w.alloc (.cells #[.int .i64 4, .string nm, .string v] 37)) := (Below.refl _ _).alloc (Nat.le_refl _) _
  have HA := Lib.hid (mawake_any (w.alloc (.cells #[.int .i64 4, .string nm, .string v] 37)) (by simp; omega) (hT.below hb0) (hU.below (by omega) hb0))
  have HX := Lib.hid (Blk.new w 37 #[.int .i64 4, .string nm, .string v])
  have HB := Lib.hid hb0
  have HL := Lib.hid hL
  have G1 : Hid (∀ W, Below w.heap.size w W → Calls Tryd.prog 14 #[.agg #[.int .i64 4, .string nm, .string v], .slice A l.length cap] W fun e w' => e = .returned (.bool q) ∧ Below W.heap.size W w') := fun W hW => by
    have h := holds_4 nm v A cap l W (by have := hW.size; omega) (hT.below hW) (hU.below (by omega) hW) (hL.below hW) hl
    rw [hq] at h; exact h
  have G2 : Hid (∀ W, Below w.heap.size w W → Calls Tryd.prog 14 #[.agg #[.int .i64 3, .string nm, .string v], .slice A l.length cap] W fun e w' => e = .returned (.bool (!q)) ∧ Below W.heap.size W w') := fun W hW => by
    have h := holds_3 nm v A cap l W (by have := hW.size; omega) (hT.below hW) (hU.below (by omega) hW) (hL.below hW) hl
    rw [hq2] at h; exact h
  have k1 : decide ((250 : Int) < (v.size : Int)) = false := by simp; omega
  have k2 : decide ((400 : Int) < (nm.size : Int)) = false := by simp; omega
  have hnm : nm.size ≤ 65536 := by omega
  have HTT := Lib.hid ht
  have HRR := Lib.hid hr
  clear hT hU hL hb0 hq hq2 h1 h2 ht hr
  go_enter Tryd.func4, Tryd.ntmps4
  go_wp2_with fail
  refine (HA.out).mono ?_
  rintro e w1 ⟨rfl, hb1⟩
  have HB1 : Hid (Below w.heap.size w w1) := HB.out.trans (hb1.mono (by simp))
  have HX1 := Lib.hid (HX.out.below hb1)
  obtain ⟨y0, y1, y2⟩ := cellsT3 HX1.out
  have HTA := Lib.hid (tame_any A cap l w1 (HL.out.below HB1.out) (by omega))
  rw [HTT.out] at HTA
  have HRA := Lib.hid (refright_any 4 nm v w1 hnm)
  rw [HRR.out] at HRA
  clear hb1 HA HX HB
  go_wp2_with fail
  refine (HTA.out).mono ?_
  rintro e w2 ⟨rfl, rfl⟩
  go_wp2_with fail
  refine (HRA.out).mono ?_
  rintro e w3 ⟨rfl, hb3⟩
  have HB3 := Lib.hid (HB1.out.trans (below_le hb3 HB1.out.size))
  have HX3 := Lib.hid (HX1.out.below hb3)
  have hlt := HX3.out.lt
  have hsz3 := HB3.out.size
  clear hb3 HRA HTA y0 y1 y2 HX1 HB1 HTT HRR HL
  obtain ⟨y0, y1, y2⟩ := cellsT3 HX3.out
  have HO : Hid (Blk ((w3.alloc (.cells #[.int .i64 3, .string nm, .string v] 37)).alloc (.cells #[.int .i64 0, .int .i64 2, .int .i64 1, .int .i64 4, .int .i64 3] 3)) w3.heap.size 37 #[.int .i64 3, .string nm, .string v]) := (Blk.new w3 37 #[.int .i64 3, .string nm, .string v]).alloc _
  have HX4 : Hid (Blk ((w3.alloc (.cells #[.int .i64 3, .string nm, .string v] 37)).alloc (.cells #[.int .i64 0, .int .i64 2, .int .i64 1, .int .i64 4, .int .i64 3] 3)) w.heap.size 37 #[.int .i64 4, .string nm, .string v]) := (HX3.out.alloc _).alloc _
  have HB4 : Hid (Below w.heap.size w ((w3.alloc (.cells #[.int .i64 3, .string nm, .string v] 37)).alloc (.cells #[.int .i64 0, .int .i64 2, .int .i64 1, .int .i64 4, .int .i64 3] 3))) := (HB3.out.alloc (by omega) _).alloc (by simp; omega) _
  go_upto_region 7 with fail
  generalize hj : w3.heap.size = j at *
  generalize (w3.alloc (.cells _ 37)).alloc (.cells _ 3) = W4 at *
  clear y0 y1 y2 HB3 HX3
  have hs4 := HB4.out.size
  have hj4 := HO.out.lt
  have hx4 := HX4.out.lt
  obtain ⟨y0, y1, y2⟩ := cellsT3 HX4.out
  obtain ⟨z0, z1, z2⟩ := cellsT3 HO.out
  have Y := Lib.hid (And.intro y0 (And.intro y1 (And.intro y2 (And.intro z0 (And.intro z1 z2)))))
  clear HO HX4 y0 y1 y2 z0 z1 z2 hj hsz3 hlt hl h5 k1 k2 hnm
  go_region_held3 (fun W => W.cell? ⟨w.heap.size, 0, none⟩ = some (.int .i64 4) ∧ W.cell? ⟨w.heap.size, 1, none⟩ = some (.string nm) ∧ W.cell? ⟨w.heap.size, 2, none⟩ = some (.string v) ∧ W.cell? ⟨j, 0, none⟩ = some (.int .i64 3) ∧ W.cell? ⟨j, 1, none⟩ = some (.string nm) ∧ W.cell? ⟨j, 2, none⟩ = some (.string v) ∧ Below W4.heap.size W4 W)
    (first | (exact six_start Y.out) | (exact six_step hS0 hb5 hx4 hj4) | assumption)
    (first
      | (have hS0 := ‹World.cell? _ ⟨w.heap.size, 0, none⟩ = some (.int .i64 4) ∧ World.cell? _ ⟨w.heap.size, 1, none⟩ = some (.string nm) ∧ World.cell? _ ⟨w.heap.size, 2, none⟩ = some (.string v) ∧ World.cell? _ ⟨j, 0, none⟩ = some (.int .i64 3) ∧ World.cell? _ ⟨j, 1, none⟩ = some (.string nm) ∧ World.cell? _ ⟨j, 2, none⟩ = some (.string v) ∧ Below W4.heap.size W4 _›
         (with_reducible refine (G1.out _ (HB4.out.trans (hS0.2.2.2.2.2.2.mono hs4))).mono ?_)
         rintro e w' ⟨rfl, hb5⟩)
      | (have hS0 := ‹World.cell? _ ⟨w.heap.size, 0, none⟩ = some (.int .i64 4) ∧ World.cell? _ ⟨w.heap.size, 1, none⟩ = some (.string nm) ∧ World.cell? _ ⟨w.heap.size, 2, none⟩ = some (.string v) ∧ World.cell? _ ⟨j, 0, none⟩ = some (.int .i64 3) ∧ World.cell? _ ⟨j, 1, none⟩ = some (.string nm) ∧ World.cell? _ ⟨j, 2, none⟩ = some (.string v) ∧ Below W4.heap.size W4 _›
         (with_reducible refine (G2.out _ (HB4.out.trans (hS0.2.2.2.2.2.2.mono hs4))).mono ?_)
         rintro e w' ⟨rfl, hb5⟩))
  all_goals (
    have hSE := ‹World.cell? _ ⟨w.heap.size, 0, none⟩ = some (.int .i64 4) ∧ World.cell? _ ⟨w.heap.size, 1, none⟩ = some (.string nm) ∧ World.cell? _ ⟨w.heap.size, 2, none⟩ = some (.string v) ∧ World.cell? _ ⟨j, 0, none⟩ = some (.int .i64 3) ∧ World.cell? _ ⟨j, 1, none⟩ = some (.string nm) ∧ World.cell? _ ⟨j, 2, none⟩ = some (.string v) ∧ Below W4.heap.size W4 _›
    have HBE := Lib.hid (HB4.out.trans (hSE.2.2.2.2.2.2.mono hs4))
    clear hSE G1 G2 Y
    cases q with
    | false =>
      go_wp2
      go_ret
      exact ⟨rfl, HBE.out⟩
    | true =>
      go_wp2
      go_ret
      exact ⟨rfl, HBE.out⟩)
theorem turned_any (op : Int) (nm v : ByteArray) (A : Option Addr) (cap : Nat) (l : List Lb.Lab) (w : World) (h5 : 5 ≤ w.heap.size) (hT : TzT w) (hU : Tabs w) (hL : Lbs w A l) (hl : l.length ≤ 9223372036854775807) :
    Calls Tryd.prog 4 #[.agg #[.int .i64 op, .string nm, .string v], .slice A l.length cap] w fun e w' => e = .returned (.bool true) ∧ Below w.heap.size w w' := by
  by_cases c1 : 250 < v.size
  · exact turned_out op nm v A cap l w h5 hT hU hL hl (.inl c1)
  by_cases c2 : 400 < nm.size
  · exact turned_out op nm v A cap l w h5 hT hU hL hl (.inr (.inl c2))
  cases ht : tameB l with
  | false => exact turned_out op nm v A cap l w h5 hT hU hL hl (.inr (.inr (.inl ht)))
  | true =>
    have hl40 : l.length ≤ 65536 := by
      have h := ht
      unfold tameB shortB at h
      rw [Bool.and_eq_true, Bool.and_eq_true] at h
      have := of_decide_eq_true h.2.2
      omega
    cases hr : refRightB op nm v with
    | false => exact turned_out op nm v A cap l w h5 hT hU hL hl (.inr (.inr (.inr ⟨by omega, hr⟩)))
    | true =>
      by_cases o1 : op = 1
      · subst o1; exact turned_1 nm v A cap l w h5 hT hU hL hl40 c1 c2 ht hr _ rfl (turn_12 hr)
      by_cases o2 : op = 2
      · subst o2; exact turned_2 nm v A cap l w h5 hT hU hL hl40 c1 c2 ht hr _ rfl (turn_21 hr)
      by_cases o3 : op = 3
      · subst o3; exact turned_3 nm v A cap l w h5 hT hU hL hl40 c1 c2 ht hr _ rfl (turn_34 hr ht)
      by_cases o4 : op = 4
      · subst o4; exact turned_4 nm v A cap l w h5 hT hU hL hl40 c1 c2 ht hr _ rfl (turn_43 hr ht)
      have h := (ref_parts hr).2
      unfold opR at h
      rw [decide_eq_false o1, decide_eq_false o2, decide_eq_false o3, decide_eq_false o4] at h
      cases h
end Go.Proofs.YtahphjaelpgjdaaDoor

/- The matchers are awake; whichever way a matcher goes. Condition: the variables as they are laid. -/
import Derived.Test.YtahphjaelpgjdaaDoorLd
namespace Go.Proofs.YtahphjaelpgjdaaDoor
open Go.RowKit Rx
set_option linter.unusedVariables false

set_option maxRecDepth 100000 in
theorem aw1 : holdsF 3 ⟨#[106, 111, 98]⟩ ⟨#[97, 124, 98]⟩ [(⟨#[106, 111, 98]⟩, ⟨#[97]⟩)] = true := by decide +kernel
set_option maxRecDepth 100000 in
theorem aw2 : holdsF 2 ⟨#[106, 111, 98]⟩ ⟨#[97]⟩ [(⟨#[106, 111, 98]⟩, ⟨#[97]⟩)] = false := by decide +kernel
set_option maxRecDepth 100000 in
theorem aw3 : readF ⟨#[40]⟩ = .bad 1 2 := rfl
set_option maxRecDepth 100000 in
theorem aw4 : namedB ⟨#[106, 111, 98]⟩ ⟨#[40]⟩ = true := by decide +kernel
theorem check_no (l : ByteArray) (pl c : Nat) (w : World) (h5 : 5 ≤ w.heap.size) (hT : TzT w) (hr : readF l = .bad pl c) :
    Calls Tryd.prog 18 #[.string l] w fun e w' => ∃ f : Nat, e = .returned (.iface 70 (.pointer (some ⟨f, 0, none⟩))) ∧ Below w.heap.size w w' := by
  have HR := Lib.hid (read_any l w h5 hT)
  rw [hr] at HR
  clear hT hr
  go_enter Tryd.func18, Tryd.ntmps18
  go_wp2_with fail
  refine (HR.out).mono ?_
  rintro e W1 ⟨hb, err, rfl, f, rfl, _⟩
  have HB := Lib.hid hb
  clear hb HR
  go_wp2
  go_ret
  exact ⟨_, rfl, HB.out⟩
set_option maxRecDepth 100000 in
set_option maxHeartbeats 4000000 in
theorem right_no (nm v : ByteArray) (pl c : Nat) (w : World) (h5 : 5 ≤ w.heap.size) (hT : TzT w) (hU : Tabs w) (hn : namedB nm v = true) (hr : readF v = .bad pl c) :
    Calls Tryd.prog 24 #[.agg #[.int .i64 3, .string nm, .string v]] w fun e w' => e = .returned (.bool false) ∧ Below w.heap.size w w' := by
  have hb0 : Below w.heap.size w (w.alloc (.cells #[.int .i64 3, .string nm, .string v] 37)) := (Below.refl _ _).alloc (Nat.le_refl _) _
  have HN := Lib.hid (named_any 3 nm v (w.alloc (.cells #[.int .i64 3, .string nm, .string v] 37)) (hU.below (by omega) hb0))
  rw [hn] at HN
  have HX := Lib.hid (Blk.new w 37 #[.int .i64 3, .string nm, .string v])
  have HB := Lib.hid hb0
  have HT := Lib.hid hT
  have HR := Lib.hid hr
  clear hT hU hn hr hb0
  go_enter Tryd.func24, Tryd.ntmps24
  go_wp2_with fail
  refine (HN.out).mono ?_
  rintro e w1 ⟨rfl, hb⟩
  have HB1 : Hid (Below w.heap.size w w1) := HB.out.trans (hb.mono (by simp))
  have HX1 := Lib.hid (HX.out.below hb)
  obtain ⟨y0, y1, y2⟩ := cellsT3 HX1.out
  have HC := Lib.hid (check_no v pl c w1 (by have := HB1.out.size; omega) (HT.out.below HB1.out) HR.out)
  clear hb HN HX HB HX1
  go_wp2_with fail
  refine (HC.out).mono ?_
  rintro e w2 ⟨f, rfl, hb2⟩
  have HB2 := Lib.hid (HB1.out.trans (below_le hb2 HB1.out.size))
  clear hb2 HC HB1
  go_wp2
  go_ret
  exact ⟨rfl, HB2.out⟩
set_option maxRecDepth 100000 in
set_option maxHeartbeats 4000000 in
theorem mawake_any (w : World) (h5 : 5 ≤ w.heap.size) (hT : TzT w) (hU : Tabs w) : Calls Tryd.prog 11 #[] w fun e w' => e = .returned (.bool true) ∧ Below w.heap.size w w' := by
  have hb0 : Below w.heap.size w (w.alloc (.cells #[.string ⟨#[106, 111, 98]⟩, .string ⟨#[97]⟩] 48)) := (Below.refl _ _).alloc (Nat.le_refl _) _
  have HL := Lib.hid (lbs_one w ⟨#[106, 111, 98]⟩ ⟨#[97]⟩ 48)
  have HB := Lib.hid hb0
  have HT := Lib.hid hT
  have HU := Lib.hid hU
  have H1 := Lib.hid (holds_3 ⟨#[106, 111, 98]⟩ ⟨#[97, 124, 98]⟩ (some ⟨w.heap.size, 0, none⟩) 1 [(⟨#[106, 111, 98]⟩, ⟨#[97]⟩)] (w.alloc (.cells #[.string ⟨#[106, 111, 98]⟩, .string ⟨#[97]⟩] 48)) (by simp; omega) (hT.below hb0) (hU.below (by omega) hb0) (lbs_one w _ _ 48) (by simp))
  rw [aw1] at H1
  clear hT hU hb0
  go_enter Tryd.func11, Tryd.ntmps11
  go_wp2_with fail
  refine (H1.out).mono ?_
  rintro e w1 ⟨rfl, hb1⟩
  have HB1 : Hid (Below w.heap.size w w1) := HB.out.trans (hb1.mono (by simp))
  have hs1 := HB1.out.size
  have HL1 := Lib.hid (HL.out.below hb1)
  have H2 := Lib.hid (holds_2 ⟨#[106, 111, 98]⟩ ⟨#[97]⟩ (some ⟨w.heap.size, 0, none⟩) 1 [(⟨#[106, 111, 98]⟩, ⟨#[97]⟩)] w1 (by omega) (HT.out.below HB1.out) (HU.out.below (by omega) HB1.out) HL1.out (by simp))
  rw [aw2] at H2
  clear hb1 H1 HB HL
  go_wp2_with fail
  refine (H2.out).mono ?_
  rintro e w2 ⟨rfl, hb2⟩
  have HB2 := Lib.hid (HB1.out.trans (below_le hb2 hs1))
  have hs2 := HB2.out.size
  have H3 := Lib.hid (right_no ⟨#[106, 111, 98]⟩ ⟨#[40]⟩ 1 2 w2 (by omega) (HT.out.below HB2.out) (HU.out.below (by omega) HB2.out) aw4 aw3)
  clear hb2 H2 HB1
  go_wp2_with fail
  refine (H3.out).mono ?_
  rintro e w3 ⟨rfl, hb3⟩
  have HB3 := Lib.hid (HB2.out.trans (below_le hb3 hs2))
  clear hb3 H3 HB2
  go_wp2
  go_ret
  exact ⟨rfl, HB3.out⟩
end Go.Proofs.YtahphjaelpgjdaaDoor

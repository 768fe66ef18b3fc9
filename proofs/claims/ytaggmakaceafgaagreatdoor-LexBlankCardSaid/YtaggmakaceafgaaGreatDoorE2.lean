import Derived.Test.YtaggmakaceafgaaGreatDoorE1
import Derived.Test.YtaggmakaceafgaaGreatDoorB7
namespace Go.Proofs.YtaggmakaceafgaaGreatDoor.Er
open Go.RowKit
set_option linter.unusedVariables false

theorem cell_set_self {W : World} {j : Nat} {v x : Value} (h : W.cell? ⟨j, 0, none⟩ = some x) : (W.setCell ⟨j, 0, none⟩ v).cell? ⟨j, 0, none⟩ = some v := by
  exact World.cell?_setCell_same' _ _ _ (by rw [h]; rfl)
theorem errT_below {w w' : World} (h : ErrT w) (hb : Below w.heap.size w w') : ErrT w' := below_cell hb h
set_option maxRecDepth 100000 in
set_option maxHeartbeats 4000000 in
theorem fault_any (pl c : Nat) (f : Nat) (w : World) (hc : 0 < c) (hF : Blk w f 45 #[.int .i64 pl, .iface 38 (.int .i64 c)]) (he : ErrT w) :
    Calls Tryz.prog 17 #[.iface 43 (.pointer (some ⟨f, 0, none⟩)), .int .i64 pl, .int .i64 c] w fun e w' => e = .returned (.bool true) ∧ Below w.heap.size w w' := by
  have hfl : f < w.heap.size := hF.lt
  have H := Lib.hid (as_any_f ⟨f, 0, none⟩ w.heap.size (w.alloc (.cells #[.pointer none] 43)) (cell_kept _ he) (cell_made w _ 43) (World.frozen?_alloc_at _ _ _ _ rfl))
  have hz : decide ((c : Int) = 0) = false := by simp; omega
  have HF := Lib.hid hF
  have HEE := Lib.hid he
  clear he hF
  go_enter Tryz.func17, Tryz.ntmps17
  go_wp2_with fail
  refine (H.out).mono ?_
  rintro e w1 ⟨rfl, o1, o2, o3, o4, hw1⟩
  have hb1 : Below w.heap.size w w1 := by rw [hw1]; go_grown
  have hg : w1.cell? ⟨w.heap.size, 0, none⟩ = some (.pointer (some ⟨f, 0, none⟩)) := by
    rw [hw1]
    exact cell_set_self (cell_kept _ (cell_kept _ (cell_kept _ (cell_kept _ (cell_made w _ 43)))))
  have hF1 := HF.out.below hb1
  have hf0 := hF1.cell 0
  simp only [List.getElem?_toArray, List.getElem?_cons_zero] at hf0
  have HC := Lib.hid (code_fault f pl c hc w1 (errT_below HEE.out hb1) hF1)
  have HB := Lib.hid hb1
  clear hw1 hb1 hF1 H
  go_wp2_with fail
  refine (HC.out).mono ?_
  rintro e w2 ⟨rfl, hb2⟩
  have HB2 := Lib.hid (HB.out.trans (hb2.mono HB.out.size))
  clear hb2 HC
  go_wp2
  go_ret
  exact ⟨rfl, HB2.out⟩


set_option maxRecDepth 100000 in
theorem Fault_any (pl c : Nat) (f : Nat) (w : World) (hc : 0 < c) (hF : Blk w f 45 #[.int .i64 pl, .iface 38 (.int .i64 c)]) (he : ErrT w) :
    Calls Tryz.prog 10 #[.iface 43 (.pointer (some ⟨f, 0, none⟩)), .int .i64 pl, .int .i64 c] w fun e w' => e = .returned (.bool true) ∧ Below w.heap.size w w' := by
  have H := Lib.hid (fault_any pl c f w hc hF he)
  clear hF he
  go_enter Tryz.func10, Tryz.ntmps10
  go_wp2_with fail
  refine (H.out).mono ?_
  rintro e w1 ⟨rfl, hb⟩
  go_wp2_with fail
  go_ret
  exact ⟨rfl, hb⟩
theorem Fault_nil (pl : Nat) (w : World) : Calls Tryz.prog 10 #[.nilIface, .int .i64 pl, .int .i64 0] w fun e w' => e = .returned (.bool true) ∧ w = w' := by
  have H : ∀ W : World, Calls Tryz.prog 17 #[.nilIface, .int .i64 pl, .int .i64 0] W fun e w' => e = .returned (.bool true) ∧ W = w' := fun W => by
    go_enter Tryz.func17, Tryz.ntmps17
    go_wp2_with fail
    go_ret
    exact ⟨rfl, rfl⟩
  have HH := Lib.hid H
  clear H
  go_enter Tryz.func10, Tryz.ntmps10
  go_wp2_with fail
  refine (HH.out _).mono ?_
  rintro e w1 ⟨rfl, rfl⟩
  go_wp2_with fail
  go_ret
  exact ⟨rfl, rfl⟩
end Go.Proofs.YtaggmakaceafgaaGreatDoor.Er

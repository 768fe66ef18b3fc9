/- errors.As at a fault: to its code, and to the fault itself. Condition: errors.errorType as it is laid. -/
import Derived.Test.YtahphjaelpgjdaaDoorE3
import Derived.Stop.Asserts
namespace Go.Proofs.YtahphjaelpgjdaaDoor
open Go.RowKit Rx
set_option linter.unusedVariables false

theorem typeOf_fault (f : Addr) (w : World) : (callFunc 56 #[.iface 70 (.pointer (some f))]).run Tryd.prog w = .ok (.value (.iface 116 (.agg #[hdl 70]))) w := by kernel_rfl
theorem assign_not (w : World) : (callFunc 112 #[.agg #[.pointer (some ⟨5, 70, none⟩)], .iface 116 (.agg #[.pointer (some ⟨5, 55, none⟩)])]).run Tryd.prog w = .ok (.value (.bool false)) w := by kernel_rfl
theorem assert_as (f : Addr) (w : World) : (Instr.typeAssert (.iface 70 (.pointer (some f))) 24 121 true).run Tryd.prog w = .ok (.tuple #[.nilIface, .bool false]) w :=
  run_typeAssert_lacksB (want := #[("As", 123)]) (by kernel_rfl) (by kernel_rfl) (by kernel_rfl) _ _ w
theorem assert_un (f : Addr) (w : World) : (Instr.typeAssert (.iface 70 (.pointer (some f))) 24 124 true).run Tryd.prog w = .ok (.tuple #[.iface 70 (.pointer (some f)), .bool true]) w := by kernel_rfl
theorem unwrap_any (f : Nat) (pl c : Nat) (w : World) (hf : Blk w f 74 #[.int .i64 pl, .iface 55 (.int .i64 c)]) : Calls Tryd.prog 107 #[.pointer (some ⟨f, 0, none⟩)] w fun e w' => e = .returned (.iface 55 (.int .i64 c)) ∧ w' = w := by
  have h1 := hf.cell 1
  simp only [List.getElem?_toArray, List.getElem?_cons_zero, List.getElem?_cons_succ] at h1
  clear hf
  go_enter Tryd.func107, Tryd.ntmps107
  go_wp2
  go_ret
  exact ⟨rfl, rfl⟩
set_option maxRecDepth 100000 in
set_option maxHeartbeats 2000000 in
theorem as_inner_fault (f pl c : Nat) (a p : Nat) (w : World) (ha : w.cell? ⟨a, 0, none⟩ = some (.int .i64 0)) (hf : w.frozen? ⟨a, 0, none⟩ = false) (hp : w.cell? ⟨p, 0, none⟩ = some (.pointer (some ⟨a, 0, none⟩))) (hF : Blk w f 74 #[.int .i64 pl, .iface 55 (.int .i64 c)]) :
    Calls Tryd.prog 46 #[.iface 70 (.pointer (some ⟨f, 0, none⟩)), .iface 75 (.pointer (some ⟨a, 0, none⟩)), .agg #[.pointer (some ⟨5, 75, none⟩), .pointer (some ⟨p, 0, none⟩), .int .u64 150], .iface 116 (.agg #[.pointer (some ⟨5, 55, none⟩)])] w
      fun e w' => e = .returned (.bool true) ∧ ∃ o o', w' = (((w.alloc o).alloc o').setCell ⟨a, 0, none⟩ (.int .i64 c)) := by
  have v0 := fun w => typeOf_fault ⟨f, 0, none⟩ w
  have v00 := fun w => assign_not w
  have v01 := fun w => assert_as ⟨f, 0, none⟩ w
  have v02 := fun w => assert_un ⟨f, 0, none⟩ w
  have v1 := fun w => typeOf_code (c : Int) w
  have v2 := fun w => assign_code w
  have v3 := fun w => valueOf_code (c : Int) w
  have v4 := fun o => elem_at ⟨p, 0, none⟩ ⟨a, 0, none⟩ (w.alloc o) (cell_kept o hp)
  have v5 := fun o => set_at ⟨a, 0, none⟩ ⟨w.heap.size + 1, 0, none⟩ (c : Int) 0 ((w.alloc o).alloc (.cells #[.int .i64 c] 55)) (by have := cell_made (w.alloc o) (.int .i64 c) 55; rw [World.size_alloc] at this; exact this) (cell_kept _ (cell_kept _ ha)) (by
    have hb := World.block_lt_of_cell? _ _ ha
    have hb' : a < w.heap.size := hb
    rw [World.frozen?_alloc_past _ _ _ (by rw [World.size_alloc]; omega), World.frozen?_alloc_past _ _ _ hb']; exact hf)
  have HU := Lib.hid (fun W (hW : Blk W f 74 #[.int .i64 pl, .iface 55 (.int .i64 c)]) => unwrap_any f pl c W hW)
  have HUF := Lib.hid (fun o => HU.out _ (hF.alloc o))
  clear hF HU
  go_enter Tryd.func46, Tryd.ntmps46
  go_wp2_with fail
  refine wp_loop_rounds 2 ?_
  rw [rounds_succ]
  go_wp2_with fail
  all_goals (refine (HUF.out _).mono ?_; rintro e w1 ⟨rfl, rfl⟩)
  go_wp2_with fail
  rw [rounds_succ]
  go_wp2_with fail
  go_ret
  exact ⟨rfl, _, _, rfl⟩

set_option maxRecDepth 100000 in
set_option maxHeartbeats 2000000 in
theorem as_any_fault (f pl c : Nat) (a : Nat) (w : World) (he : w.cell? ⟨0, 0, none⟩ = some (.iface 116 (.agg #[.pointer (some ⟨5, 24, none⟩)]))) (ha : w.cell? ⟨a, 0, none⟩ = some (.int .i64 0)) (hf : w.frozen? ⟨a, 0, none⟩ = false) (hF : Blk w f 74 #[.int .i64 pl, .iface 55 (.int .i64 c)]) :
    Calls Tryd.prog 23 #[.iface 70 (.pointer (some ⟨f, 0, none⟩)), .iface 75 (.pointer (some ⟨a, 0, none⟩))] w fun e w' => e = .returned (.bool true) ∧ ∃ o1 o2 o3 o4, w' = (((((w.alloc o1).alloc o2).alloc o3).alloc o4).setCell ⟨a, 0, none⟩ (.int .i64 c)) := by
  have hb : a < w.heap.size := World.block_lt_of_cell? _ _ ha
  have h0 : 0 < w.heap.size := World.block_lt_of_cell? _ _ he
  have v1 := fun w => valueOf_ptr ⟨a, 0, none⟩ w
  have v2 := fun p w => type_ptr p w
  have v3 := fun w => kind_ptr w
  have v4 := fun w => kind_code w
  have v5 := fun w => elem_ptr w
  have v6 := fun w => impl_code w
  have v7 := fun o => isNil_at ⟨w.heap.size, 0, none⟩ ⟨a, 0, none⟩ ((w.alloc (.cells #[.pointer (some ⟨a, 0, none⟩)] 75)).alloc o) (cell_kept o (cell_made w _ 75))
  have he2 := fun o o' => cell_kept (W := w.alloc o) o' (cell_kept o he)
  have ha2 := fun o o' => cell_kept (W := w.alloc o) o' (cell_kept o ha)
  have hf2 : ∀ o o', ((w.alloc o).alloc o').frozen? ⟨a, 0, none⟩ = false := fun o o' => by
    rw [World.frozen?_alloc_past _ _ _ (by rw [World.size_alloc]; omega), World.frozen?_alloc_past _ _ _ hb]; exact hf
  have hp2 := fun o => cell_kept o (cell_made w (.pointer (some ⟨a, 0, none⟩)) 75)
  have H := Lib.hid (fun o => as_inner_fault f pl c a w.heap.size ((w.alloc (.cells #[.pointer (some ⟨a, 0, none⟩)] 75)).alloc o) (ha2 _ _) (hf2 _ _) (hp2 _) ((hF.alloc _).alloc _))
  clear ha2 hf2 hp2 ha hf hF
  go_enter Tryd.func23, Tryd.ntmps23
  go_wp2_with fail
  refine (H.out _).mono ?_
  rintro e w1 ⟨rfl, o3, o4, rfl⟩
  go_wp2
  go_ret
  exact ⟨rfl, _, _, _, _, rfl⟩
set_option maxRecDepth 100000 in
set_option maxHeartbeats 1000000 in
theorem code_fault (f pl c : Nat) (hc : 0 < c) (w : World) (he : ErrT w) (hF : Blk w f 74 #[.int .i64 pl, .iface 55 (.int .i64 c)]) : Calls Tryd.prog 10 #[.iface 70 (.pointer (some ⟨f, 0, none⟩))] w fun e w' => e = .returned (.int .i64 c) ∧ Below w.heap.size w w' := by
  have H := Lib.hid (as_any_fault f pl c w.heap.size (w.alloc (.cells #[.int .i64 0] 55)) (cell_kept _ he) (cell_made w _ 55) (World.frozen?_alloc_at _ _ _ _ rfl) (hF.alloc _))
  have hc2 : (0 : Int) < (c : Int) := by omega
  clear he hF
  go_enter Tryd.func10, Tryd.ntmps10
  go_wp2_with fail
  refine (H.out).mono ?_
  rintro e w1 ⟨rfl, o1, o2, o3, o4, rfl⟩
  go_wp2
  go_ret
  exact ⟨rfl, by go_grown⟩

theorem valueOf_ptr_f (a : Addr) (w : World) : (callFunc 43 #[.iface 72 (.pointer (some a))]).run Tryd.prog w = .ok (.value (.agg #[hdl 72, .pointer (some ⟨w.heap.size, 0, none⟩), .int .u64 150])) (w.alloc (.cells #[.pointer (some a)] 72)) := by kernel_rfl
theorem valueOf_code_f (g : Addr) (w : World) : (callFunc 43 #[.iface 70 (.pointer (some g))]).run Tryd.prog w = .ok (.value (.agg #[hdl 70, .pointer (some ⟨w.heap.size, 0, none⟩), .int .u64 150])) (w.alloc (.cells #[.pointer (some g)] 70)) := by kernel_rfl
theorem type_ptr_f (p : Addr) (w : World) : (callFunc 44 #[.agg #[hdl 72, .pointer (some p), .int .u64 150]]).run Tryd.prog w = .ok (.value (.iface 116 (.agg #[hdl 72]))) w := by kernel_rfl
theorem typeOf_code_f (g : Addr) (w : World) : (callFunc 56 #[.iface 70 (.pointer (some g))]).run Tryd.prog w = .ok (.value (.iface 116 (.agg #[hdl 70]))) w := by kernel_rfl


theorem isNil_eq_f (p : Addr) (w : World) : (callFunc 45 #[.agg #[hdl 72, .pointer (some p), .int .u64 150]]).run Tryd.prog w = (do let x ← Extern.ReflectliteValue.isNil 72 p 150 22; pure (Next.value x) : Sem Next).run Tryd.prog w := by kernel_rfl
theorem agg51_f (w : World) : (isAgg 72).run Tryd.prog w = .ok false w := by kernel_rfl
theorem agg44_f (w : World) : (isAgg 70).run Tryd.prog w = .ok false w := by kernel_rfl
theorem size44_f (w : World) : (sizeOf 70).run Tryd.prog w = .ok 1 w := by kernel_rfl
theorem loadVar51_f (p : Addr) (v : Value) (w : World) (h : w.cell? p = some v) : (loadVar 72 p).run Tryd.prog w = .ok v w := by
  simp [loadVar, h]
theorem loadVar44_f (p : Addr) (v : Value) (w : World) (h : w.cell? p = some v) : (loadVar 70 p).run Tryd.prog w = .ok v w := by
  simp [loadVar, h]
theorem isNil_at_f (p a : Addr) (w : World) (h : w.cell? p = some (.pointer (some a))) : (callFunc 45 #[.agg #[hdl 72, .pointer (some p), .int .u64 150]]).run Tryd.prog w = .ok (.value (.bool false)) w := by
  rw [isNil_eq_f]
  simp [Extern.ReflectliteValue.isNil, loadVar51_f p _ w h]
theorem elem_eq_f (p : Addr) (w : World) : (callFunc 57 #[.agg #[hdl 72, .pointer (some p), .int .u64 150]]).run Tryd.prog w = (do let x ← Extern.ReflectliteValue.elem 72 p 150 22; pure (Next.value x) : Sem Next).run Tryd.prog w := by kernel_rfl
theorem elem51_f (w : World) : (Extern.Rtype.elem? 72).run Tryd.prog w = .ok (some 70) w := by kernel_rfl
theorem mk44_f (p : Addr) (w : World) : (Extern.ReflectliteValue.mk 70 p Extern.ReflectliteValue.flagAddr).run Tryd.prog w = .ok (.agg #[hdl 70, .pointer (some p), .int .u64 406]) w := by kernel_rfl
theorem elem_at_f (p a : Addr) (w : World) (h : w.cell? p = some (.pointer (some a))) : (callFunc 57 #[.agg #[hdl 72, .pointer (some p), .int .u64 150]]).run Tryd.prog w = .ok (.value (.agg #[hdl 70, .pointer (some a), .int .u64 406])) w := by
  rw [elem_eq_f]
  simp [Extern.ReflectliteValue.elem, loadVar51_f p _ w h, elem51_f, mk44_f]
theorem set_eq_f (q b : Addr) (w : World) : (callFunc 58 #[.agg #[hdl 70, .pointer (some q), .int .u64 406], .agg #[hdl 70, .pointer (some b), .int .u64 150]]).run Tryd.prog w = (do let x ← (do let val ← loadVar 70 b; storeVar 70 q val; pure (Value.tuple #[]) : Sem Value); pure (Next.value x) : Sem Next).run Tryd.prog w := by kernel_rfl
theorem store_at_f (q : Addr) (g : Addr) (w : World) (hq : w.cell? q = some (.pointer none)) (hf : w.frozen? q = false) : (store q (.pointer (some g))).run Tryd.prog w = .ok () (w.setCell q (.pointer (some g))) := by
  rw [run_store Tryd.prog w q _ .plain rfl, hq]
  simp [hf]
theorem storeVar_at_f (q : Addr) (g : Addr) (w : World) (hq : w.cell? q = some (.pointer none)) (hf : w.frozen? q = false) : (storeVar 70 q (.pointer (some g))).run Tryd.prog w = .ok () (w.setCell q (.pointer (some g))) := by
  have h0 : q.add 0 = q := by simp [Addr.add]
  have := store_at_f q g w hq hf
  simp [storeVar, storeCells, Value.cells, h0, this]
theorem set_at_f (q b : Addr) (g : Addr) (w : World) (hb : w.cell? b = some (.pointer (some g))) (hq : w.cell? q = some (.pointer none)) (hf : w.frozen? q = false) :
    (callFunc 58 #[.agg #[hdl 70, .pointer (some q), .int .u64 406], .agg #[hdl 70, .pointer (some b), .int .u64 150]]).run Tryd.prog w = .ok (.value (.tuple #[])) (w.setCell q (.pointer (some g))) := by
  rw [set_eq_f]
  simp [loadVar44_f b _ w hb, storeVar_at_f q g w hq hf]
theorem kind_ptr_f (w : World) : (callFunc 102 #[.pointer (some ⟨5, 72, none⟩)]).run Tryd.prog w = .ok (.value (.int .u8 22)) w := by kernel_rfl
theorem kind_code_f (w : World) : (callFunc 102 #[.pointer (some ⟨5, 70, none⟩)]).run Tryd.prog w = .ok (.value (.int .u8 22)) w := by kernel_rfl
theorem elem_ptr_f (w : World) : (callFunc 114 #[.agg #[.pointer (some ⟨5, 72, none⟩)]]).run Tryd.prog w = .ok (.value (.iface 116 (.agg #[.pointer (some ⟨5, 70, none⟩)]))) w := by kernel_rfl
theorem impl_code_f (w : World) : (callFunc 115 #[.agg #[.pointer (some ⟨5, 70, none⟩)], .iface 116 (.agg #[.pointer (some ⟨5, 24, none⟩)])]).run Tryd.prog w = .ok (.value (.bool true)) w := by kernel_rfl
theorem assign_code_f (w : World) : (callFunc 112 #[.agg #[.pointer (some ⟨5, 70, none⟩)], .iface 116 (.agg #[.pointer (some ⟨5, 70, none⟩)])]).run Tryd.prog w = .ok (.value (.bool true)) w := by kernel_rfl

set_option maxRecDepth 100000 in
set_option maxHeartbeats 2000000 in
theorem as_inner_f (g : Addr) (a p : Nat) (w : World) (ha : w.cell? ⟨a, 0, none⟩ = some (.pointer none)) (hf : w.frozen? ⟨a, 0, none⟩ = false) (hp : w.cell? ⟨p, 0, none⟩ = some (.pointer (some ⟨a, 0, none⟩))) :
    Calls Tryd.prog 46 #[.iface 70 (.pointer (some g)), .iface 72 (.pointer (some ⟨a, 0, none⟩)), .agg #[.pointer (some ⟨5, 72, none⟩), .pointer (some ⟨p, 0, none⟩), .int .u64 150], .iface 116 (.agg #[.pointer (some ⟨5, 70, none⟩)])] w
      fun e w' => e = .returned (.bool true) ∧ ∃ o o', w' = (((w.alloc o).alloc o').setCell ⟨a, 0, none⟩ (.pointer (some g))) := by
  have v1 := fun w => typeOf_code_f g w
  have v2 := fun w => assign_code_f w
  have v3 := fun w => valueOf_code_f g w
  have v4 := fun o => elem_at_f ⟨p, 0, none⟩ ⟨a, 0, none⟩ (w.alloc o) (cell_kept o hp)
  have v5 := fun o => set_at_f ⟨a, 0, none⟩ ⟨w.heap.size + 1, 0, none⟩ g ((w.alloc o).alloc (.cells #[.pointer (some g)] 70)) (by have := cell_made (w.alloc o) (.pointer (some g)) 70; rw [World.size_alloc] at this; exact this) (cell_kept _ (cell_kept _ ha)) (by
    have hb := World.block_lt_of_cell? _ _ ha
    have hb' : a < w.heap.size := hb
    rw [World.frozen?_alloc_past _ _ _ (by rw [World.size_alloc]; omega), World.frozen?_alloc_past _ _ _ hb']; exact hf)
  go_enter Tryd.func46, Tryd.ntmps46
  go_wp2_with fail
  refine wp_loop_rounds 1 ?_
  rw [rounds_succ]
  go_wp2_with fail
  go_ret
  exact ⟨rfl, _, _, rfl⟩

set_option maxRecDepth 100000 in
set_option maxHeartbeats 2000000 in
theorem as_any_f (g : Addr) (a : Nat) (w : World) (he : w.cell? ⟨0, 0, none⟩ = some (.iface 116 (.agg #[.pointer (some ⟨5, 24, none⟩)]))) (ha : w.cell? ⟨a, 0, none⟩ = some (.pointer none)) (hf : w.frozen? ⟨a, 0, none⟩ = false) :
    Calls Tryd.prog 23 #[.iface 70 (.pointer (some g)), .iface 72 (.pointer (some ⟨a, 0, none⟩))] w fun e w' => e = .returned (.bool true) ∧ ∃ o1 o2 o3 o4, w' = (((((w.alloc o1).alloc o2).alloc o3).alloc o4).setCell ⟨a, 0, none⟩ (.pointer (some g))) := by
  have hb : a < w.heap.size := World.block_lt_of_cell? _ _ ha
  have h0 : 0 < w.heap.size := World.block_lt_of_cell? _ _ he
  have v1 := fun w => valueOf_ptr_f ⟨a, 0, none⟩ w
  have v2 := fun p w => type_ptr_f p w
  have v3 := fun w => kind_ptr_f w
  have v4 := fun w => kind_code_f w
  have v5 := fun w => elem_ptr_f w
  have v6 := fun w => impl_code_f w
  have v7 := fun o => isNil_at_f ⟨w.heap.size, 0, none⟩ ⟨a, 0, none⟩ ((w.alloc (.cells #[.pointer (some ⟨a, 0, none⟩)] 72)).alloc o) (cell_kept o (cell_made w _ 72))
  have he2 := fun o o' => cell_kept (W := w.alloc o) o' (cell_kept o he)
  have ha2 := fun o o' => cell_kept (W := w.alloc o) o' (cell_kept o ha)
  have hf2 : ∀ o o', ((w.alloc o).alloc o').frozen? ⟨a, 0, none⟩ = false := fun o o' => by
    rw [World.frozen?_alloc_past _ _ _ (by rw [World.size_alloc]; omega), World.frozen?_alloc_past _ _ _ hb]; exact hf
  have hp2 := fun o => cell_kept o (cell_made w (.pointer (some ⟨a, 0, none⟩)) 72)
  have H := Lib.hid (fun o => as_inner_f g a w.heap.size ((w.alloc (.cells #[.pointer (some ⟨a, 0, none⟩)] 72)).alloc o) (ha2 _ _) (hf2 _ _) (hp2 _))
  clear ha2 hf2 hp2 ha hf
  go_enter Tryd.func23, Tryd.ntmps23
  go_wp2_with fail
  refine (H.out _).mono ?_
  rintro e w1 ⟨rfl, o3, o4, rfl⟩
  go_wp2
  go_ret
  exact ⟨rfl, _, _, _, _, rfl⟩
end Go.Proofs.YtahphjaelpgjdaaDoor

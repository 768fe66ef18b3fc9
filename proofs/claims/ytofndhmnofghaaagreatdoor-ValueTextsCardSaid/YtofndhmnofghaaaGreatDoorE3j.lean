/- Lemmas. No condition. -/
import Derived.Test.YtofndhmnofghaaaGreatDoorRows
import Derived.WalkKit
import Derived.WalkLawsBesides
import Derived.WalkSpells
import Derived.RegionTactic
import Derived.Deep.QuietTactic
import Derived.BigQuiet
import Derived.Deep.LoopGhost
import Derived.Lib.Hide
import Derived.Handy
namespace Go.Proofs.YtofndhmnofghaaaGreatDoor
open Go.RowKit
set_option linter.unusedVariables false

abbrev hdl (t : Nat) : Value := .pointer (some ⟨16, t, none⟩)

theorem valueOf_ptr (a : Addr) (w : World) : (callFunc 36 #[.iface 49 (.pointer (some a))]).run Tryz.prog w = .ok (.value (.agg #[hdl 49, .pointer (some ⟨w.heap.size, 0, none⟩), .int .u64 150])) (w.alloc (.cells #[.pointer (some a)] 49)) := by kernel_rfl
theorem valueOf_code (c : Int) (w : World) : (callFunc 36 #[.iface 45 (.int .i64 c)]).run Tryz.prog w = .ok (.value (.agg #[hdl 45, .pointer (some ⟨w.heap.size, 0, none⟩), .int .u64 130])) (w.alloc (.cells #[.int .i64 c] 45)) := by kernel_rfl
theorem type_ptr (p : Addr) (w : World) : (callFunc 37 #[.agg #[hdl 49, .pointer (some p), .int .u64 150]]).run Tryz.prog w = .ok (.value (.iface 78 (.agg #[hdl 49]))) w := by kernel_rfl
theorem typeOf_code (c : Int) (w : World) : (callFunc 49 #[.iface 45 (.int .i64 c)]).run Tryz.prog w = .ok (.value (.iface 78 (.agg #[hdl 45]))) w := by kernel_rfl


theorem isNil_eq (p : Addr) (w : World) : (callFunc 38 #[.agg #[hdl 49, .pointer (some p), .int .u64 150]]).run Tryz.prog w = (do let x ← Extern.ReflectliteValue.isNil 49 p 150 22; pure (Next.value x) : Sem Next).run Tryz.prog w := by kernel_rfl
theorem agg51 (w : World) : (isAgg 49).run Tryz.prog w = .ok false w := by kernel_rfl
theorem agg44 (w : World) : (isAgg 45).run Tryz.prog w = .ok false w := by kernel_rfl
theorem size44 (w : World) : (sizeOf 45).run Tryz.prog w = .ok 1 w := by kernel_rfl
theorem loadVar51 (p : Addr) (v : Value) (w : World) (h : w.cell? p = some v) : (loadVar 49 p).run Tryz.prog w = .ok v w := by
  simp [loadVar, h]
theorem loadVar44 (p : Addr) (v : Value) (w : World) (h : w.cell? p = some v) : (loadVar 45 p).run Tryz.prog w = .ok v w := by
  simp [loadVar, h]
theorem isNil_at (p a : Addr) (w : World) (h : w.cell? p = some (.pointer (some a))) : (callFunc 38 #[.agg #[hdl 49, .pointer (some p), .int .u64 150]]).run Tryz.prog w = .ok (.value (.bool false)) w := by
  rw [isNil_eq]
  simp [Extern.ReflectliteValue.isNil, loadVar51 p _ w h]
theorem elem_eq (p : Addr) (w : World) : (callFunc 50 #[.agg #[hdl 49, .pointer (some p), .int .u64 150]]).run Tryz.prog w = (do let x ← Extern.ReflectliteValue.elem 49 p 150 22; pure (Next.value x) : Sem Next).run Tryz.prog w := by kernel_rfl
theorem elem51 (w : World) : (Extern.Rtype.elem? 49).run Tryz.prog w = .ok (some 45) w := by kernel_rfl
theorem mk44 (p : Addr) (w : World) : (Extern.ReflectliteValue.mk 45 p Extern.ReflectliteValue.flagAddr).run Tryz.prog w = .ok (.agg #[hdl 45, .pointer (some p), .int .u64 386]) w := by kernel_rfl
theorem elem_at (p a : Addr) (w : World) (h : w.cell? p = some (.pointer (some a))) : (callFunc 50 #[.agg #[hdl 49, .pointer (some p), .int .u64 150]]).run Tryz.prog w = .ok (.value (.agg #[hdl 45, .pointer (some a), .int .u64 386])) w := by
  rw [elem_eq]
  simp [Extern.ReflectliteValue.elem, loadVar51 p _ w h, elem51, mk44]
theorem set_eq (q b : Addr) (w : World) : (callFunc 51 #[.agg #[hdl 45, .pointer (some q), .int .u64 386], .agg #[hdl 45, .pointer (some b), .int .u64 130]]).run Tryz.prog w = (do let x ← (do let val ← loadVar 45 b; storeVar 45 q val; pure (Value.tuple #[]) : Sem Value); pure (Next.value x) : Sem Next).run Tryz.prog w := by kernel_rfl
theorem store_at (q : Addr) (c old : Int) (w : World) (hq : w.cell? q = some (.int .i64 old)) (hf : w.frozen? q = false) : (store q (.int .i64 c)).run Tryz.prog w = .ok () (w.setCell q (.int .i64 c)) := by
  rw [run_store Tryz.prog w q _ .plain rfl, hq]
  simp [hf]
theorem storeVar_at (q : Addr) (c old : Int) (w : World) (hq : w.cell? q = some (.int .i64 old)) (hf : w.frozen? q = false) : (storeVar 45 q (.int .i64 c)).run Tryz.prog w = .ok () (w.setCell q (.int .i64 c)) := by
  have h0 : q.add 0 = q := by simp [Addr.add]
  have := store_at q c old w hq hf
  simp [storeVar, storeCells, Value.cells, h0, this]
theorem set_at (q b : Addr) (c old : Int) (w : World) (hb : w.cell? b = some (.int .i64 c)) (hq : w.cell? q = some (.int .i64 old)) (hf : w.frozen? q = false) :
    (callFunc 51 #[.agg #[hdl 45, .pointer (some q), .int .u64 386], .agg #[hdl 45, .pointer (some b), .int .u64 130]]).run Tryz.prog w = .ok (.value (.tuple #[])) (w.setCell q (.int .i64 c)) := by
  rw [set_eq]
  simp [loadVar44 b _ w hb, storeVar_at q c old w hq hf]
end Go.Proofs.YtofndhmnofghaaaGreatDoor

namespace Go.Proofs.YtofndhmnofghaaaGreatDoor
open Go.RowKit
set_option linter.unusedVariables false

theorem kind_ptr (w : World) : (callFunc 139 #[.pointer (some ⟨16, 49, none⟩)]).run Tryz.prog w = .ok (.value (.int .u8 22)) w := by kernel_rfl
theorem kind_code (w : World) : (callFunc 139 #[.pointer (some ⟨16, 45, none⟩)]).run Tryz.prog w = .ok (.value (.int .u8 2)) w := by kernel_rfl
theorem elem_ptr (w : World) : (callFunc 152 #[.agg #[.pointer (some ⟨16, 49, none⟩)]]).run Tryz.prog w = .ok (.value (.iface 78 (.agg #[.pointer (some ⟨16, 45, none⟩)]))) w := by kernel_rfl
theorem impl_code (w : World) : (callFunc 153 #[.agg #[.pointer (some ⟨16, 45, none⟩)], .iface 78 (.agg #[.pointer (some ⟨16, 29, none⟩)])]).run Tryz.prog w = .ok (.value (.bool true)) w := by kernel_rfl
theorem assign_code (w : World) : (callFunc 150 #[.agg #[.pointer (some ⟨16, 45, none⟩)], .iface 78 (.agg #[.pointer (some ⟨16, 45, none⟩)])]).run Tryz.prog w = .ok (.value (.bool true)) w := by kernel_rfl

theorem cell_kept {W : World} {a : Addr} {v : Value} (o : Obj) (h : W.cell? a = some v) : (W.alloc o).cell? a = some v :=
  (World.cell?_alloc_lt W o a (World.block_lt_of_cell? _ _ h)).trans h
theorem cell_made (W : World) (v : Value) (t : TypeId) : (W.alloc (.cells #[v] t)).cell? ⟨W.heap.size, 0, none⟩ = some v := by
  rw [World.cell?_alloc_at _ _ _ _ (by simp)]; rfl

set_option maxRecDepth 100000 in
set_option maxHeartbeats 2000000 in
theorem as_inner (c : Int) (a p : Nat) (w : World) (ha : w.cell? ⟨a, 0, none⟩ = some (.int .i64 0)) (hf : w.frozen? ⟨a, 0, none⟩ = false) (hp : w.cell? ⟨p, 0, none⟩ = some (.pointer (some ⟨a, 0, none⟩))) :
    Calls Tryz.prog 39 #[.iface 45 (.int .i64 c), .iface 49 (.pointer (some ⟨a, 0, none⟩)), .agg #[.pointer (some ⟨16, 49, none⟩), .pointer (some ⟨p, 0, none⟩), .int .u64 150], .iface 78 (.agg #[.pointer (some ⟨16, 45, none⟩)])] w
      fun e w' => e = .returned (.bool true) ∧ ∃ o o', w' = (((w.alloc o).alloc o').setCell ⟨a, 0, none⟩ (.int .i64 c)) := by
  have v1 := fun w => typeOf_code c w
  have v2 := fun w => assign_code w
  have v3 := fun w => valueOf_code c w
  have v4 := fun o => elem_at ⟨p, 0, none⟩ ⟨a, 0, none⟩ (w.alloc o) (cell_kept o hp)
  have v5 := fun o => set_at ⟨a, 0, none⟩ ⟨w.heap.size + 1, 0, none⟩ c 0 ((w.alloc o).alloc (.cells #[.int .i64 c] 45)) (by have := cell_made (w.alloc o) (.int .i64 c) 45; rw [World.size_alloc] at this; exact this) (cell_kept _ (cell_kept _ ha)) (by
    have hb := World.block_lt_of_cell? _ _ ha
    have hb' : a < w.heap.size := hb
    rw [World.frozen?_alloc_past _ _ _ (by rw [World.size_alloc]; omega), World.frozen?_alloc_past _ _ _ hb']; exact hf)
  go_enter Tryz.func39, Tryz.ntmps39
  go_wp2_with fail
  refine wp_loop_rounds 1 ?_
  rw [rounds_succ]
  go_wp2_with fail
  go_ret
  exact ⟨rfl, _, _, rfl⟩

set_option maxRecDepth 100000 in
set_option maxHeartbeats 2000000 in
theorem as_any (c : Int) (a : Nat) (w : World) (he : w.cell? ⟨1, 0, none⟩ = some (.iface 78 (.agg #[.pointer (some ⟨16, 29, none⟩)]))) (ha : w.cell? ⟨a, 0, none⟩ = some (.int .i64 0)) (hf : w.frozen? ⟨a, 0, none⟩ = false) :
    Calls Tryz.prog 28 #[.iface 45 (.int .i64 c), .iface 49 (.pointer (some ⟨a, 0, none⟩))] w fun e w' => e = .returned (.bool true) ∧ ∃ o1 o2 o3 o4, w' = (((((w.alloc o1).alloc o2).alloc o3).alloc o4).setCell ⟨a, 0, none⟩ (.int .i64 c)) := by
  have hb : a < w.heap.size := World.block_lt_of_cell? _ _ ha
  have h0 : 1 < w.heap.size := World.block_lt_of_cell? _ _ he
  have v1 := fun w => valueOf_ptr ⟨a, 0, none⟩ w
  have v2 := fun p w => type_ptr p w
  have v3 := fun w => kind_ptr w
  have v4 := fun w => kind_code w
  have v5 := fun w => elem_ptr w
  have v6 := fun w => impl_code w
  have v7 := fun o => isNil_at ⟨w.heap.size, 0, none⟩ ⟨a, 0, none⟩ ((w.alloc (.cells #[.pointer (some ⟨a, 0, none⟩)] 49)).alloc o) (cell_kept o (cell_made w _ 49))
  have he2 := fun o o' => cell_kept (W := w.alloc o) o' (cell_kept o he)
  have ha2 := fun o o' => cell_kept (W := w.alloc o) o' (cell_kept o ha)
  have hf2 : ∀ o o', ((w.alloc o).alloc o').frozen? ⟨a, 0, none⟩ = false := fun o o' => by
    rw [World.frozen?_alloc_past _ _ _ (by rw [World.size_alloc]; omega), World.frozen?_alloc_past _ _ _ hb]; exact hf
  have hp2 := fun o => cell_kept o (cell_made w (.pointer (some ⟨a, 0, none⟩)) 49)
  have H := Lib.hid (fun o => as_inner c a w.heap.size ((w.alloc (.cells #[.pointer (some ⟨a, 0, none⟩)] 49)).alloc o) (ha2 _ _) (hf2 _ _) (hp2 _))
  clear ha2 hf2 hp2 ha hf
  go_enter Tryz.func28, Tryz.ntmps28
  go_wp2_with fail
  refine (H.out _).mono ?_
  rintro e w1 ⟨rfl, o3, o4, rfl⟩
  go_wp2
  go_ret
  exact ⟨rfl, _, _, _, _, rfl⟩
end Go.Proofs.YtofndhmnofghaaaGreatDoor

namespace Go.Proofs.YtofndhmnofghaaaGreatDoor
open Go.RowKit
set_option linter.unusedVariables false

/-- the variable errors.errorType, as it is laid -/
def ErrT (w : World) : Prop := w.cell? ⟨1, 0, none⟩ = some (.iface 78 (.agg #[.pointer (some ⟨16, 29, none⟩)]))

theorem code_nil (w : World) : Calls Tryz.prog 16 #[.nilIface] w fun e w' => e = .returned (.int .i64 0) ∧ w = w' := by
  go_enter Tryz.func16, Tryz.ntmps16
  go_wp2
  go_ret
  exact ⟨rfl, rfl⟩

set_option maxRecDepth 100000 in
set_option maxHeartbeats 1000000 in
theorem code_is (c : Int) (hc : 0 < c) (w : World) (he : ErrT w) : Calls Tryz.prog 16 #[.iface 45 (.int .i64 c)] w fun e w' => e = .returned (.int .i64 c) ∧ Below w.heap.size w w' := by
  have H := Lib.hid (as_any c w.heap.size (w.alloc (.cells #[.int .i64 0] 45)) (cell_kept _ he) (cell_made w _ 45) (World.frozen?_alloc_at _ _ _ _ rfl))
  clear he
  go_enter Tryz.func16, Tryz.ntmps16
  go_wp2_with fail
  refine (H.out).mono ?_
  rintro e w1 ⟨rfl, o1, o2, o3, o4, rfl⟩
  go_wp2
  go_ret
  exact ⟨rfl, by go_grown⟩
end Go.Proofs.YtofndhmnofghaaaGreatDoor

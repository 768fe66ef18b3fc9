import Derived.Test.YtofndhmnofghaaaGreatDoorRows
import Derived.WalkKit
import Derived.WalkLawsBesides
import Derived.WalkSpells
import Derived.RegionTactic
import Derived.Deep.QuietTactic
import Derived.BigQuiet
import Derived.Deep.LoopGhost
import Derived.Lib.Hide
import Derived.Handy
namespace Go.Proofs.YtofndhmnofghaaaGreatDoor
open Go.RowKit
set_option linter.unusedVariables false

abbrev hdl (t : Nat) : Value := .pointer (some ⟨16, t, none⟩)

theorem valueOf_ptr (a : Addr) (w : World) : (callFunc 36 #[.iface 49 (.pointer (some a))]).run Tryz.prog w = .ok (.value (.agg #[hdl 49, .pointer (some ⟨w.heap.size, 0, none⟩), .int .u64 150])) (w.alloc (.cells #[.pointer (some a)] 49)) := by kernel_rfl
theorem valueOf_code (c : Int) (w : World) : (callFunc 36 #[.iface 45 (.int .i64 c)]).run Tryz.prog w = .ok (.value (.agg #[hdl 45, .pointer (some ⟨w.heap.size, 0, none⟩), .int .u64 130])) (w.alloc (.cells #[.int .i64 c] 45)) := by kernel_rfl
theorem type_ptr (p : Addr) (w : World) : (callFunc 37 #[.agg #[hdl 49, .pointer (some p), .int .u64 150]]).run Tryz.prog w = .ok (.value (.iface 78 (.agg #[hdl 49]))) w := by kernel_rfl
theorem typeOf_code (c : Int) (w : World) : (callFunc 49 #[.iface 45 (.int .i64 c)]).run Tryz.prog w = .ok (.value (.iface 78 (.agg #[hdl 45]))) w := by kernel_rfl


theorem isNil_eq (p : Addr) (w : World) : (callFunc 38 #[.agg #[hdl 49, .pointer (some p), .int .u64 150]]).run Tryz.prog w = (do let x ← Extern.ReflectliteValue.isNil 49 p 150 22; pure (Next.value x) : Sem Next).run Tryz.prog w := by kernel_rfl
theorem agg51 (w : World) : (isAgg 49).run Tryz.prog w = .ok false w := by kernel_rfl
theorem agg44 (w : World) : (isAgg 45).run Tryz.prog w = .ok false w := by kernel_rfl
theorem size44 (w : World) : (sizeOf 45).run Tryz.prog w = .ok 1 w := by kernel_rfl
theorem loadVar51 (p : Addr) (v : Value) (w : World) (h : w.cell? p = some v) : (loadVar 49 p).run Tryz.prog w = .ok v w := by
  simp [loadVar, h]
theorem loadVar44 (p : Addr) (v : Value) (w : World) (h : w.cell? p = some v) : (loadVar 45 p).run Tryz.prog w = .ok v w := by
  simp [loadVar, h]
theorem isNil_at (p a : Addr) (w : World) (h : w.cell? p = some (.pointer (some a))) : (callFunc 38 #[.agg #[hdl 49, .pointer (some p), .int .u64 150]]).run Tryz.prog w = .ok (.value (.bool false)) w := by
  rw [isNil_eq]
  simp [Extern.ReflectliteValue.isNil, loadVar51 p _ w h]
theorem elem_eq (p : Addr) (w : World) : (callFunc 50 #[.agg #[hdl 49, .pointer (some p), .int .u64 150]]).run Tryz.prog w = (do let x ← Extern.ReflectliteValue.elem 49 p 150 22; pure (Next.value x) : Sem Next).run Tryz.prog w := by kernel_rfl
theorem elem51 (w : World) : (Extern.Rtype.elem? 49).run Tryz.prog w = .ok (some 45) w := by kernel_rfl
theorem mk44 (p : Addr) (w : World) : (Extern.ReflectliteValue.mk 45 p Extern.ReflectliteValue.flagAddr).run Tryz.prog w = .ok (.agg #[hdl 45, .pointer (some p), .int .u64 386]) w := by kernel_rfl
theorem elem_at (p a : Addr) (w : World) (h : w.cell? p = some (.pointer (some a))) : (callFunc 50 #[.agg #[hdl 49, .pointer (some p), .int .u64 150]]).run Tryz.prog w = .ok (.value (.agg #[hdl 45, .pointer (some a), .int .u64 386])) w := by
  rw [elem_eq]
  simp [Extern.ReflectliteValue.elem, loadVar51 p _ w h, elem51, mk44]
theorem set_eq (q b : Addr) (w : World) : (callFunc 51 #[.agg #[hdl 45, .pointer (some q), .int .u64 386], .agg #[hdl 45, .pointer (some b), .int .u64 130]]).run Tryz.prog w = (do let x ← (do let val ← loadVar 45 b; storeVar 45 q val; pure (Value.tuple #[]) : Sem Value); pure (Next.value x) : Sem Next).run Tryz.prog w := by kernel_rfl
theorem store_at (q : Addr) (c old : Int) (w : World) (hq : w.cell? q = some (.int .i64 old)) (hf : w.frozen? q = false) : (store q (.int .i64 c)).run Tryz.prog w = .ok () (w.setCell q (.int .i64 c)) := by
  rw [run_store Tryz.prog w q _ .plain rfl, hq]
  simp [hf]
theorem storeVar_at (q : Addr) (c old : Int) (w : World) (hq : w.cell? q = some (.int .i64 old)) (hf : w.frozen? q = false) : (storeVar 45 q (.int .i64 c)).run Tryz.prog w = .ok () (w.setCell q (.int .i64 c)) := by
  have h0 : q.add 0 = q := by simp [Addr.add]
  have := store_at q c old w hq hf
  simp [storeVar, storeCells, Value.cells, h0, this]
theorem set_at (q b : Addr) (c old : Int) (w : World) (hb : w.cell? b = some (.int .i64 c)) (hq : w.cell? q = some (.int .i64 old)) (hf : w.frozen? q = false) :
    (callFunc 51 #[.agg #[hdl 45, .pointer (some q), .int .u64 386], .agg #[hdl 45, .pointer (some b), .int .u64 130]]).run Tryz.prog w = .ok (.value (.tuple #[])) (w.setCell q (.int .i64 c)) := by
  rw [set_eq]
  simp [loadVar44 b _ w hb, storeVar_at q c old w hq hf]
end Go.Proofs.YtofndhmnofghaaaGreatDoor

import Derived.Test.YtaggmakaceafgaaGreatDoorT1
import Derived.Test.YtaggmakaceafgaaGreatDoorA1
import Derived.Stop.Asserts
namespace Go.Proofs.YtaggmakaceafgaaGreatDoor.Er
open Go.RowKit
set_option linter.unusedVariables false


abbrev hdl (t : Nat) : Value := .pointer (some ⟨19, t, none⟩)

theorem valueOf_ptr (a : Addr) (w : World) : (callFunc 30 #[.iface 49 (.pointer (some a))]).run Tryz.prog w = .ok (.value (.agg #[hdl 49, .pointer (some ⟨w.heap.size, 0, none⟩), .int .u64 150])) (w.alloc (.cells #[.pointer (some a)] 49)) := by kernel_rfl
theorem valueOf_code (c : Int) (w : World) : (callFunc 30 #[.iface 38 (.int .i64 c)]).run Tryz.prog w = .ok (.value (.agg #[hdl 38, .pointer (some ⟨w.heap.size, 0, none⟩), .int .u64 130])) (w.alloc (.cells #[.int .i64 c] 38)) := by kernel_rfl
theorem type_ptr (p : Addr) (w : World) : (callFunc 31 #[.agg #[hdl 49, .pointer (some p), .int .u64 150]]).run Tryz.prog w = .ok (.value (.iface 97 (.agg #[hdl 49]))) w := by kernel_rfl
theorem typeOf_code (c : Int) (w : World) : (callFunc 53 #[.iface 38 (.int .i64 c)]).run Tryz.prog w = .ok (.value (.iface 97 (.agg #[hdl 38]))) w := by kernel_rfl


theorem isNil_eq (p : Addr) (w : World) : (callFunc 32 #[.agg #[hdl 49, .pointer (some p), .int .u64 150]]).run Tryz.prog w = (do let x ← Extern.ReflectliteValue.isNil 49 p 150 22; pure (Next.value x) : Sem Next).run Tryz.prog w := by kernel_rfl
theorem agg51 (w : World) : (isAgg 49).run Tryz.prog w = .ok false w := by kernel_rfl
theorem agg44 (w : World) : (isAgg 38).run Tryz.prog w = .ok false w := by kernel_rfl
theorem size44 (w : World) : (sizeOf 38).run Tryz.prog w = .ok 1 w := by kernel_rfl
theorem loadVar51 (p : Addr) (v : Value) (w : World) (h : w.cell? p = some v) : (loadVar 49 p).run Tryz.prog w = .ok v w := by
  simp [loadVar, h]
theorem loadVar44 (p : Addr) (v : Value) (w : World) (h : w.cell? p = some v) : (loadVar 38 p).run Tryz.prog w = .ok v w := by
  simp [loadVar, h]
theorem isNil_at (p a : Addr) (w : World) (h : w.cell? p = some (.pointer (some a))) : (callFunc 32 #[.agg #[hdl 49, .pointer (some p), .int .u64 150]]).run Tryz.prog w = .ok (.value (.bool false)) w := by
  rw [isNil_eq]
  simp [Extern.ReflectliteValue.isNil, loadVar51 p _ w h]
theorem elem_eq (p : Addr) (w : World) : (callFunc 54 #[.agg #[hdl 49, .pointer (some p), .int .u64 150]]).run Tryz.prog w = (do let x ← Extern.ReflectliteValue.elem 49 p 150 22; pure (Next.value x) : Sem Next).run Tryz.prog w := by kernel_rfl
theorem elem51 (w : World) : (Extern.Rtype.elem? 49).run Tryz.prog w = .ok (some 38) w := by kernel_rfl
theorem mk44 (p : Addr) (w : World) : (Extern.ReflectliteValue.mk 38 p Extern.ReflectliteValue.flagAddr).run Tryz.prog w = .ok (.agg #[hdl 38, .pointer (some p), .int .u64 386]) w := by kernel_rfl
theorem elem_at (p a : Addr) (w : World) (h : w.cell? p = some (.pointer (some a))) : (callFunc 54 #[.agg #[hdl 49, .pointer (some p), .int .u64 150]]).run Tryz.prog w = .ok (.value (.agg #[hdl 38, .pointer (some a), .int .u64 386])) w := by
  rw [elem_eq]
  simp [Extern.ReflectliteValue.elem, loadVar51 p _ w h, elem51, mk44]
theorem set_eq (q b : Addr) (w : World) : (callFunc 55 #[.agg #[hdl 38, .pointer (some q), .int .u64 386], .agg #[hdl 38, .pointer (some b), .int .u64 130]]).run Tryz.prog w = (do let x ← (do let val ← loadVar 38 b; storeVar 38 q val; pure (Value.tuple #[]) : Sem Value); pure (Next.value x) : Sem Next).run Tryz.prog w := by kernel_rfl
theorem store_at (q : Addr) (c old : Int) (w : World) (hq : w.cell? q = some (.int .i64 old)) (hf : w.frozen? q = false) : (store q (.int .i64 c)).run Tryz.prog w = .ok () (w.setCell q (.int .i64 c)) := by
  rw [run_store Tryz.prog w q _ .plain rfl, hq]
  simp [hf]
theorem storeVar_at (q : Addr) (c old : Int) (w : World) (hq : w.cell? q = some (.int .i64 old)) (hf : w.frozen? q = false) : (storeVar 38 q (.int .i64 c)).run Tryz.prog w = .ok () (w.setCell q (.int .i64 c)) := by
  have h0 : q.add 0 = q := by simp [Addr.add]
  have := store_at q c old w hq hf
  simp [storeVar, storeCells, Value.cells, h0, this]
theorem set_at (q b : Addr) (c old : Int) (w : World) (hb : w.cell? b = some (.int .i64 c)) (hq : w.cell? q = some (.int .i64 old)) (hf : w.frozen? q = false) :
    (callFunc 55 #[.agg #[hdl 38, .pointer (some q), .int .u64 386], .agg #[hdl 38, .pointer (some b), .int .u64 130]]).run Tryz.prog w = .ok (.value (.tuple #[])) (w.setCell q (.int .i64 c)) := by
  rw [set_eq]
  simp [loadVar44 b _ w hb, storeVar_at q c old w hq hf]

theorem kind_ptr (w : World) : (callFunc 155 #[.pointer (some ⟨19, 49, none⟩)]).run Tryz.prog w = .ok (.value (.int .u8 22)) w := by kernel_rfl
theorem kind_code (w : World) : (callFunc 155 #[.pointer (some ⟨19, 38, none⟩)]).run Tryz.prog w = .ok (.value (.int .u8 2)) w := by kernel_rfl
theorem elem_ptr (w : World) : (callFunc 168 #[.agg #[.pointer (some ⟨19, 49, none⟩)]]).run Tryz.prog w = .ok (.value (.iface 97 (.agg #[.pointer (some ⟨19, 38, none⟩)]))) w := by kernel_rfl
theorem impl_code (w : World) : (callFunc 169 #[.agg #[.pointer (some ⟨19, 38, none⟩)], .iface 97 (.agg #[.pointer (some ⟨19, 25, none⟩)])]).run Tryz.prog w = .ok (.value (.bool true)) w := by kernel_rfl
theorem assign_code (w : World) : (callFunc 166 #[.agg #[.pointer (some ⟨19, 38, none⟩)], .iface 97 (.agg #[.pointer (some ⟨19, 38, none⟩)])]).run Tryz.prog w = .ok (.value (.bool true)) w := by kernel_rfl

theorem cell_kept {W : World} {a : Addr} {v : Value} (o : Obj) (h : W.cell? a = some v) : (W.alloc o).cell? a = some v :=
  (World.cell?_alloc_lt W o a (World.block_lt_of_cell? _ _ h)).trans h
theorem cell_made (W : World) (v : Value) (t : TypeId) : (W.alloc (.cells #[v] t)).cell? ⟨W.heap.size, 0, none⟩ = some v := by
  rw [World.cell?_alloc_at _ _ _ _ (by simp)]; rfl

set_option maxRecDepth 100000 in
set_option maxHeartbeats 2000000 in
theorem as_inner (c : Int) (a p : Nat) (w : World) (ha : w.cell? ⟨a, 0, none⟩ = some (.int .i64 0)) (hf : w.frozen? ⟨a, 0, none⟩ = false) (hp : w.cell? ⟨p, 0, none⟩ = some (.pointer (some ⟨a, 0, none⟩))) :
    Calls Tryz.prog 33 #[.iface 38 (.int .i64 c), .iface 49 (.pointer (some ⟨a, 0, none⟩)), .agg #[.pointer (some ⟨19, 49, none⟩), .pointer (some ⟨p, 0, none⟩), .int .u64 150], .iface 97 (.agg #[.pointer (some ⟨19, 38, none⟩)])] w
      fun e w' => e = .returned (.bool true) ∧ ∃ o o', w' = (((w.alloc o).alloc o').setCell ⟨a, 0, none⟩ (.int .i64 c)) := by
  have v1 := fun w => typeOf_code c w
  have v2 := fun w => assign_code w
  have v3 := fun w => valueOf_code c w
  have v4 := fun o => elem_at ⟨p, 0, none⟩ ⟨a, 0, none⟩ (w.alloc o) (cell_kept o hp)
  have v5 := fun o => set_at ⟨a, 0, none⟩ ⟨w.heap.size + 1, 0, none⟩ c 0 ((w.alloc o).alloc (.cells #[.int .i64 c] 38)) (by have := cell_made (w.alloc o) (.int .i64 c) 38; rw [World.size_alloc] at this; exact this) (cell_kept _ (cell_kept _ ha)) (by
    have hb := World.block_lt_of_cell? _ _ ha
    have hb' : a < w.heap.size := hb
    rw [World.frozen?_alloc_past _ _ _ (by rw [World.size_alloc]; omega), World.frozen?_alloc_past _ _ _ hb']; exact hf)
  go_enter Tryz.func33, Tryz.ntmps33
  go_wp2_with fail
  refine wp_loop_rounds 1 ?_
  rw [rounds_succ]
  go_wp2_with fail
  go_ret
  exact ⟨rfl, _, _, rfl⟩

set_option maxRecDepth 100000 in
set_option maxHeartbeats 2000000 in
theorem as_any (c : Int) (a : Nat) (w : World) (he : w.cell? ⟨0, 0, none⟩ = some (.iface 97 (.agg #[.pointer (some ⟨19, 25, none⟩)]))) (ha : w.cell? ⟨a, 0, none⟩ = some (.int .i64 0)) (hf : w.frozen? ⟨a, 0, none⟩ = false) :
    Calls Tryz.prog 16 #[.iface 38 (.int .i64 c), .iface 49 (.pointer (some ⟨a, 0, none⟩))] w fun e w' => e = .returned (.bool true) ∧ ∃ o1 o2 o3 o4, w' = (((((w.alloc o1).alloc o2).alloc o3).alloc o4).setCell ⟨a, 0, none⟩ (.int .i64 c)) := by
  have hb : a < w.heap.size := World.block_lt_of_cell? _ _ ha
  have h0 : 0 < w.heap.size := World.block_lt_of_cell? _ _ he
  have v1 := fun w => valueOf_ptr ⟨a, 0, none⟩ w
  have v2 := fun p w => type_ptr p w
  have v3 := fun w => kind_ptr w
  have v4 := fun w => kind_code w
  have v5 := fun w => elem_ptr w
  have v6 := fun w => impl_code w
  have v7 := fun o => isNil_at ⟨w.heap.size, 0, none⟩ ⟨a, 0, none⟩ ((w.alloc (.cells #[.pointer (some ⟨a, 0, none⟩)] 49)).alloc o) (cell_kept o (cell_made w _ 49))
  have he2 := fun o o' => cell_kept (W := w.alloc o) o' (cell_kept o he)
  have ha2 := fun o o' => cell_kept (W := w.alloc o) o' (cell_kept o ha)
  have hf2 : ∀ o o', ((w.alloc o).alloc o').frozen? ⟨a, 0, none⟩ = false := fun o o' => by
    rw [World.frozen?_alloc_past _ _ _ (by rw [World.size_alloc]; omega), World.frozen?_alloc_past _ _ _ hb]; exact hf
  have hp2 := fun o => cell_kept o (cell_made w (.pointer (some ⟨a, 0, none⟩)) 49)
  have H := Lib.hid (fun o => as_inner c a w.heap.size ((w.alloc (.cells #[.pointer (some ⟨a, 0, none⟩)] 49)).alloc o) (ha2 _ _) (hf2 _ _) (hp2 _))
  clear ha2 hf2 hp2 ha hf
  go_enter Tryz.func16, Tryz.ntmps16
  go_wp2_with fail
  refine (H.out _).mono ?_
  rintro e w1 ⟨rfl, o3, o4, rfl⟩
  go_wp2
  go_ret
  exact ⟨rfl, _, _, _, _, rfl⟩

/-- the variable errors.errorType, as it is laid -/
def ErrT (w : World) : Prop := w.cell? ⟨0, 0, none⟩ = some (.iface 97 (.agg #[.pointer (some ⟨19, 25, none⟩)]))

theorem code_nil (w : World) : Calls Tryz.prog 9 #[.nilIface] w fun e w' => e = .returned (.int .i64 0) ∧ w = w' := by
  go_enter Tryz.func9, Tryz.ntmps9
  go_wp2
  go_ret
  exact ⟨rfl, rfl⟩

set_option maxRecDepth 100000 in
set_option maxHeartbeats 1000000 in
theorem code_is (c : Int) (hc : 0 < c) (w : World) (he : ErrT w) : Calls Tryz.prog 9 #[.iface 38 (.int .i64 c)] w fun e w' => e = .returned (.int .i64 c) ∧ Below w.heap.size w w' := by
  have H := Lib.hid (as_any c w.heap.size (w.alloc (.cells #[.int .i64 0] 38)) (cell_kept _ he) (cell_made w _ 38) (World.frozen?_alloc_at _ _ _ _ rfl))
  clear he
  go_enter Tryz.func9, Tryz.ntmps9
  go_wp2_with fail
  refine (H.out).mono ?_
  rintro e w1 ⟨rfl, o1, o2, o3, o4, rfl⟩
  go_wp2
  go_ret
  exact ⟨rfl, by go_grown⟩

theorem typeOf_fault (f : Addr) (w : World) : (callFunc 53 #[.iface 43 (.pointer (some f))]).run Tryz.prog w = .ok (.value (.iface 97 (.agg #[hdl 43]))) w := by kernel_rfl
theorem assign_not (w : World) : (callFunc 166 #[.agg #[.pointer (some ⟨19, 43, none⟩)], .iface 97 (.agg #[.pointer (some ⟨19, 38, none⟩)])]).run Tryz.prog w = .ok (.value (.bool false)) w := by kernel_rfl
theorem assert_as (f : Addr) (w : World) : (Instr.typeAssert (.iface 43 (.pointer (some f))) 25 102 true).run Tryz.prog w = .ok (.tuple #[.nilIface, .bool false]) w :=
  run_typeAssert_lacksB (want := #[("As", 104)]) (by kernel_rfl) (by kernel_rfl) (by kernel_rfl) _ _ w
theorem assert_un (f : Addr) (w : World) : (Instr.typeAssert (.iface 43 (.pointer (some f))) 25 105 true).run Tryz.prog w = .ok (.tuple #[.iface 43 (.pointer (some f)), .bool true]) w := by kernel_rfl
theorem unwrap_any (f : Nat) (pl c : Nat) (w : World) (hf : Blk w f 45 #[.int .i64 pl, .iface 38 (.int .i64 c)]) : Calls Tryz.prog 160 #[.pointer (some ⟨f, 0, none⟩)] w fun e w' => e = .returned (.iface 38 (.int .i64 c)) ∧ w' = w := by
  have h1 := hf.cell 1
  simp only [List.getElem?_toArray, List.getElem?_cons_zero, List.getElem?_cons_succ] at h1
  clear hf
  go_enter Tryz.func160, Tryz.ntmps160
  go_wp2
  go_ret
  exact ⟨rfl, rfl⟩
set_option maxRecDepth 100000 in
set_option maxHeartbeats 2000000 in
theorem as_inner_fault (f pl c : Nat) (a p : Nat) (w : World) (ha : w.cell? ⟨a, 0, none⟩ = some (.int .i64 0)) (hf : w.frozen? ⟨a, 0, none⟩ = false) (hp : w.cell? ⟨p, 0, none⟩ = some (.pointer (some ⟨a, 0, none⟩))) (hF : Blk w f 45 #[.int .i64 pl, .iface 38 (.int .i64 c)]) :
    Calls Tryz.prog 33 #[.iface 43 (.pointer (some ⟨f, 0, none⟩)), .iface 49 (.pointer (some ⟨a, 0, none⟩)), .agg #[.pointer (some ⟨19, 49, none⟩), .pointer (some ⟨p, 0, none⟩), .int .u64 150], .iface 97 (.agg #[.pointer (some ⟨19, 38, none⟩)])] w
      fun e w' => e = .returned (.bool true) ∧ ∃ o o', w' = (((w.alloc o).alloc o').setCell ⟨a, 0, none⟩ (.int .i64 c)) := by
  have v0 := fun w => typeOf_fault ⟨f, 0, none⟩ w
  have v00 := fun w => assign_not w
  have v01 := fun w => assert_as ⟨f, 0, none⟩ w
  have v02 := fun w => assert_un ⟨f, 0, none⟩ w
  have v1 := fun w => typeOf_code (c : Int) w
  have v2 := fun w => assign_code w
  have v3 := fun w => valueOf_code (c : Int) w
  have v4 := fun o => elem_at ⟨p, 0, none⟩ ⟨a, 0, none⟩ (w.alloc o) (cell_kept o hp)
  have v5 := fun o => set_at ⟨a, 0, none⟩ ⟨w.heap.size + 1, 0, none⟩ (c : Int) 0 ((w.alloc o).alloc (.cells #[.int .i64 c] 38)) (by have := cell_made (w.alloc o) (.int .i64 c) 38; rw [World.size_alloc] at this; exact this) (cell_kept _ (cell_kept _ ha)) (by
    have hb := World.block_lt_of_cell? _ _ ha
    have hb' : a < w.heap.size := hb
    rw [World.frozen?_alloc_past _ _ _ (by rw [World.size_alloc]; omega), World.frozen?_alloc_past _ _ _ hb']; exact hf)
  have HU := Lib.hid (fun W (hW : Blk W f 45 #[.int .i64 pl, .iface 38 (.int .i64 c)]) => unwrap_any f pl c W hW)
  have HUF := Lib.hid (fun o => HU.out _ (hF.alloc o))
  clear hF HU
  go_enter Tryz.func33, Tryz.ntmps33
  go_wp2_with fail
  refine wp_loop_rounds 2 ?_
  rw [rounds_succ]
  go_wp2_with fail
  all_goals (refine (HUF.out _).mono ?_; rintro e w1 ⟨rfl, rfl⟩)
  go_wp2_with fail
  rw [rounds_succ]
  go_wp2_with fail
  go_ret
  exact ⟨rfl, _, _, rfl⟩

set_option maxRecDepth 100000 in
set_option maxHeartbeats 2000000 in
theorem as_any_fault (f pl c : Nat) (a : Nat) (w : World) (he : w.cell? ⟨0, 0, none⟩ = some (.iface 97 (.agg #[.pointer (some ⟨19, 25, none⟩)]))) (ha : w.cell? ⟨a, 0, none⟩ = some (.int .i64 0)) (hf : w.frozen? ⟨a, 0, none⟩ = false) (hF : Blk w f 45 #[.int .i64 pl, .iface 38 (.int .i64 c)]) :
    Calls Tryz.prog 16 #[.iface 43 (.pointer (some ⟨f, 0, none⟩)), .iface 49 (.pointer (some ⟨a, 0, none⟩))] w fun e w' => e = .returned (.bool true) ∧ ∃ o1 o2 o3 o4, w' = (((((w.alloc o1).alloc o2).alloc o3).alloc o4).setCell ⟨a, 0, none⟩ (.int .i64 c)) := by
  have hb : a < w.heap.size := World.block_lt_of_cell? _ _ ha
  have h0 : 0 < w.heap.size := World.block_lt_of_cell? _ _ he
  have v1 := fun w => valueOf_ptr ⟨a, 0, none⟩ w
  have v2 := fun p w => type_ptr p w
  have v3 := fun w => kind_ptr w
  have v4 := fun w => kind_code w
  have v5 := fun w => elem_ptr w
  have v6 := fun w => impl_code w
  have v7 := fun o => isNil_at ⟨w.heap.size, 0, none⟩ ⟨a, 0, none⟩ ((w.alloc (.cells #[.pointer (some ⟨a, 0, none⟩)] 49)).alloc o) (cell_kept o (cell_made w _ 49))
  have he2 := fun o o' => cell_kept (W := w.alloc o) o' (cell_kept o he)
  have ha2 := fun o o' => cell_kept (W := w.alloc o) o' (cell_kept o ha)
  have hf2 : ∀ o o', ((w.alloc o).alloc o').frozen? ⟨a, 0, none⟩ = false := fun o o' => by
    rw [World.frozen?_alloc_past _ _ _ (by rw [World.size_alloc]; omega), World.frozen?_alloc_past _ _ _ hb]; exact hf
  have hp2 := fun o => cell_kept o (cell_made w (.pointer (some ⟨a, 0, none⟩)) 49)
  have H := Lib.hid (fun o => as_inner_fault f pl c a w.heap.size ((w.alloc (.cells #[.pointer (some ⟨a, 0, none⟩)] 49)).alloc o) (ha2 _ _) (hf2 _ _) (hp2 _) ((hF.alloc _).alloc _))
  clear ha2 hf2 hp2 ha hf hF
  go_enter Tryz.func16, Tryz.ntmps16
  go_wp2_with fail
  refine (H.out _).mono ?_
  rintro e w1 ⟨rfl, o3, o4, rfl⟩
  go_wp2
  go_ret
  exact ⟨rfl, _, _, _, _, rfl⟩
set_option maxRecDepth 100000 in
set_option maxHeartbeats 1000000 in
theorem code_fault (f pl c : Nat) (hc : 0 < c) (w : World) (he : ErrT w) (hF : Blk w f 45 #[.int .i64 pl, .iface 38 (.int .i64 c)]) : Calls Tryz.prog 9 #[.iface 43 (.pointer (some ⟨f, 0, none⟩))] w fun e w' => e = .returned (.int .i64 c) ∧ Below w.heap.size w w' := by
  have H := Lib.hid (as_any_fault f pl c w.heap.size (w.alloc (.cells #[.int .i64 0] 38)) (cell_kept _ he) (cell_made w _ 38) (World.frozen?_alloc_at _ _ _ _ rfl) (hF.alloc _))
  have hc2 : (0 : Int) < (c : Int) := by omega
  clear he hF
  go_enter Tryz.func9, Tryz.ntmps9
  go_wp2_with fail
  refine (H.out).mono ?_
  rintro e w1 ⟨rfl, o1, o2, o3, o4, rfl⟩
  go_wp2
  go_ret
  exact ⟨rfl, by go_grown⟩

theorem valueOf_ptr_f (a : Addr) (w : World) : (callFunc 30 #[.iface 75 (.pointer (some a))]).run Tryz.prog w = .ok (.value (.agg #[hdl 75, .pointer (some ⟨w.heap.size, 0, none⟩), .int .u64 150])) (w.alloc (.cells #[.pointer (some a)] 75)) := by kernel_rfl
theorem valueOf_code_f (g : Addr) (w : World) : (callFunc 30 #[.iface 43 (.pointer (some g))]).run Tryz.prog w = .ok (.value (.agg #[hdl 43, .pointer (some ⟨w.heap.size, 0, none⟩), .int .u64 150])) (w.alloc (.cells #[.pointer (some g)] 43)) := by kernel_rfl
theorem type_ptr_f (p : Addr) (w : World) : (callFunc 31 #[.agg #[hdl 75, .pointer (some p), .int .u64 150]]).run Tryz.prog w = .ok (.value (.iface 97 (.agg #[hdl 75]))) w := by kernel_rfl
theorem typeOf_code_f (g : Addr) (w : World) : (callFunc 53 #[.iface 43 (.pointer (some g))]).run Tryz.prog w = .ok (.value (.iface 97 (.agg #[hdl 43]))) w := by kernel_rfl


theorem isNil_eq_f (p : Addr) (w : World) : (callFunc 32 #[.agg #[hdl 75, .pointer (some p), .int .u64 150]]).run Tryz.prog w = (do let x ← Extern.ReflectliteValue.isNil 75 p 150 22; pure (Next.value x) : Sem Next).run Tryz.prog w := by kernel_rfl
theorem agg51_f (w : World) : (isAgg 75).run Tryz.prog w = .ok false w := by kernel_rfl
theorem agg44_f (w : World) : (isAgg 43).run Tryz.prog w = .ok false w := by kernel_rfl
theorem size44_f (w : World) : (sizeOf 43).run Tryz.prog w = .ok 1 w := by kernel_rfl
theorem loadVar51_f (p : Addr) (v : Value) (w : World) (h : w.cell? p = some v) : (loadVar 75 p).run Tryz.prog w = .ok v w := by
  simp [loadVar, h]
theorem loadVar44_f (p : Addr) (v : Value) (w : World) (h : w.cell? p = some v) : (loadVar 43 p).run Tryz.prog w = .ok v w := by
  simp [loadVar, h]
theorem isNil_at_f (p a : Addr) (w : World) (h : w.cell? p = some (.pointer (some a))) : (callFunc 32 #[.agg #[hdl 75, .pointer (some p), .int .u64 150]]).run Tryz.prog w = .ok (.value (.bool false)) w := by
  rw [isNil_eq_f]
  simp [Extern.ReflectliteValue.isNil, loadVar51_f p _ w h]
theorem elem_eq_f (p : Addr) (w : World) : (callFunc 54 #[.agg #[hdl 75, .pointer (some p), .int .u64 150]]).run Tryz.prog w = (do let x ← Extern.ReflectliteValue.elem 75 p 150 22; pure (Next.value x) : Sem Next).run Tryz.prog w := by kernel_rfl
theorem elem51_f (w : World) : (Extern.Rtype.elem? 75).run Tryz.prog w = .ok (some 43) w := by kernel_rfl
theorem mk44_f (p : Addr) (w : World) : (Extern.ReflectliteValue.mk 43 p Extern.ReflectliteValue.flagAddr).run Tryz.prog w = .ok (.agg #[hdl 43, .pointer (some p), .int .u64 406]) w := by kernel_rfl
theorem elem_at_f (p a : Addr) (w : World) (h : w.cell? p = some (.pointer (some a))) : (callFunc 54 #[.agg #[hdl 75, .pointer (some p), .int .u64 150]]).run Tryz.prog w = .ok (.value (.agg #[hdl 43, .pointer (some a), .int .u64 406])) w := by
  rw [elem_eq_f]
  simp [Extern.ReflectliteValue.elem, loadVar51_f p _ w h, elem51_f, mk44_f]
theorem set_eq_f (q b : Addr) (w : World) : (callFunc 55 #[.agg #[hdl 43, .pointer (some q), .int .u64 406], .agg #[hdl 43, .pointer (some b), .int .u64 150]]).run Tryz.prog w = (do let x ← (do let val ← loadVar 43 b; storeVar 43 q val; pure (Value.tuple #[]) : Sem Value); pure (Next.value x) : Sem Next).run Tryz.prog w := by kernel_rfl
theorem store_at_f (q : Addr) (g : Addr) (w : World) (hq : w.cell? q = some (.pointer none)) (hf : w.frozen? q = false) : (store q (.pointer (some g))).run Tryz.prog w = .ok () (w.setCell q (.pointer (some g))) := by
  rw [run_store Tryz.prog w q _ .plain rfl, hq]
  simp [hf]
theorem storeVar_at_f (q : Addr) (g : Addr) (w : World) (hq : w.cell? q = some (.pointer none)) (hf : w.frozen? q = false) : (storeVar 43 q (.pointer (some g))).run Tryz.prog w = .ok () (w.setCell q (.pointer (some g))) := by
  have h0 : q.add 0 = q := by simp [Addr.add]
  have := store_at_f q g w hq hf
  simp [storeVar, storeCells, Value.cells, h0, this]
theorem set_at_f (q b : Addr) (g : Addr) (w : World) (hb : w.cell? b = some (.pointer (some g))) (hq : w.cell? q = some (.pointer none)) (hf : w.frozen? q = false) :
    (callFunc 55 #[.agg #[hdl 43, .pointer (some q), .int .u64 406], .agg #[hdl 43, .pointer (some b), .int .u64 150]]).run Tryz.prog w = .ok (.value (.tuple #[])) (w.setCell q (.pointer (some g))) := by
  rw [set_eq_f]
  simp [loadVar44_f b _ w hb, storeVar_at_f q g w hq hf]
theorem kind_ptr_f (w : World) : (callFunc 155 #[.pointer (some ⟨19, 75, none⟩)]).run Tryz.prog w = .ok (.value (.int .u8 22)) w := by kernel_rfl
theorem kind_code_f (w : World) : (callFunc 155 #[.pointer (some ⟨19, 43, none⟩)]).run Tryz.prog w = .ok (.value (.int .u8 22)) w := by kernel_rfl
theorem elem_ptr_f (w : World) : (callFunc 168 #[.agg #[.pointer (some ⟨19, 75, none⟩)]]).run Tryz.prog w = .ok (.value (.iface 97 (.agg #[.pointer (some ⟨19, 43, none⟩)]))) w := by kernel_rfl
theorem impl_code_f (w : World) : (callFunc 169 #[.agg #[.pointer (some ⟨19, 43, none⟩)], .iface 97 (.agg #[.pointer (some ⟨19, 25, none⟩)])]).run Tryz.prog w = .ok (.value (.bool true)) w := by kernel_rfl
theorem assign_code_f (w : World) : (callFunc 166 #[.agg #[.pointer (some ⟨19, 43, none⟩)], .iface 97 (.agg #[.pointer (some ⟨19, 43, none⟩)])]).run Tryz.prog w = .ok (.value (.bool true)) w := by kernel_rfl

set_option maxRecDepth 100000 in
set_option maxHeartbeats 2000000 in
theorem as_inner_f (g : Addr) (a p : Nat) (w : World) (ha : w.cell? ⟨a, 0, none⟩ = some (.pointer none)) (hf : w.frozen? ⟨a, 0, none⟩ = false) (hp : w.cell? ⟨p, 0, none⟩ = some (.pointer (some ⟨a, 0, none⟩))) :
    Calls Tryz.prog 33 #[.iface 43 (.pointer (some g)), .iface 75 (.pointer (some ⟨a, 0, none⟩)), .agg #[.pointer (some ⟨19, 75, none⟩), .pointer (some ⟨p, 0, none⟩), .int .u64 150], .iface 97 (.agg #[.pointer (some ⟨19, 43, none⟩)])] w
      fun e w' => e = .returned (.bool true) ∧ ∃ o o', w' = (((w.alloc o).alloc o').setCell ⟨a, 0, none⟩ (.pointer (some g))) := by
  have v1 := fun w => typeOf_code_f g w
  have v2 := fun w => assign_code_f w
  have v3 := fun w => valueOf_code_f g w
  have v4 := fun o => elem_at_f ⟨p, 0, none⟩ ⟨a, 0, none⟩ (w.alloc o) (cell_kept o hp)
  have v5 := fun o => set_at_f ⟨a, 0, none⟩ ⟨w.heap.size + 1, 0, none⟩ g ((w.alloc o).alloc (.cells #[.pointer (some g)] 43)) (by have := cell_made (w.alloc o) (.pointer (some g)) 43; rw [World.size_alloc] at this; exact this) (cell_kept _ (cell_kept _ ha)) (by
    have hb := World.block_lt_of_cell? _ _ ha
    have hb' : a < w.heap.size := hb
    rw [World.frozen?_alloc_past _ _ _ (by rw [World.size_alloc]; omega), World.frozen?_alloc_past _ _ _ hb']; exact hf)
  go_enter Tryz.func33, Tryz.ntmps33
  go_wp2_with fail
  refine wp_loop_rounds 1 ?_
  rw [rounds_succ]
  go_wp2_with fail
  go_ret
  exact ⟨rfl, _, _, rfl⟩

set_option maxRecDepth 100000 in
set_option maxHeartbeats 2000000 in
theorem as_any_f (g : Addr) (a : Nat) (w : World) (he : w.cell? ⟨0, 0, none⟩ = some (.iface 97 (.agg #[.pointer (some ⟨19, 25, none⟩)]))) (ha : w.cell? ⟨a, 0, none⟩ = some (.pointer none)) (hf : w.frozen? ⟨a, 0, none⟩ = false) :
    Calls Tryz.prog 16 #[.iface 43 (.pointer (some g)), .iface 75 (.pointer (some ⟨a, 0, none⟩))] w fun e w' => e = .returned (.bool true) ∧ ∃ o1 o2 o3 o4, w' = (((((w.alloc o1).alloc o2).alloc o3).alloc o4).setCell ⟨a, 0, none⟩ (.pointer (some g))) := by
  have hb : a < w.heap.size := World.block_lt_of_cell? _ _ ha
  have h0 : 0 < w.heap.size := World.block_lt_of_cell? _ _ he
  have v1 := fun w => valueOf_ptr_f ⟨a, 0, none⟩ w
  have v2 := fun p w => type_ptr_f p w
  have v3 := fun w => kind_ptr_f w
  have v4 := fun w => kind_code_f w
  have v5 := fun w => elem_ptr_f w
  have v6 := fun w => impl_code_f w
  have v7 := fun o => isNil_at_f ⟨w.heap.size, 0, none⟩ ⟨a, 0, none⟩ ((w.alloc (.cells #[.pointer (some ⟨a, 0, none⟩)] 75)).alloc o) (cell_kept o (cell_made w _ 75))
  have he2 := fun o o' => cell_kept (W := w.alloc o) o' (cell_kept o he)
  have ha2 := fun o o' => cell_kept (W := w.alloc o) o' (cell_kept o ha)
  have hf2 : ∀ o o', ((w.alloc o).alloc o').frozen? ⟨a, 0, none⟩ = false := fun o o' => by
    rw [World.frozen?_alloc_past _ _ _ (by rw [World.size_alloc]; omega), World.frozen?_alloc_past _ _ _ hb]; exact hf
  have hp2 := fun o => cell_kept o (cell_made w (.pointer (some ⟨a, 0, none⟩)) 75)
  have H := Lib.hid (fun o => as_inner_f g a w.heap.size ((w.alloc (.cells #[.pointer (some ⟨a, 0, none⟩)] 75)).alloc o) (ha2 _ _) (hf2 _ _) (hp2 _))
  clear ha2 hf2 hp2 ha hf
  go_enter Tryz.func16, Tryz.ntmps16
  go_wp2_with fail
  refine (H.out _).mono ?_
  rintro e w1 ⟨rfl, o3, o4, rfl⟩
  go_wp2
  go_ret
  exact ⟨rfl, _, _, _, _, rfl⟩
end Go.Proofs.YtaggmakaceafgaaGreatDoor.Er

import Derived.Test.YtofndhmnofghaaaGreatDoorA1
import Derived.Laws.Rows
import Derived.Below
namespace Go.Proofs.YtofndhmnofghaaaGreatDoor
open Go.RowKit Ieee
set_option linter.unusedVariables false

/-- a block that is known whole -/
def Blk (w : World) (g : Nat) (t : TypeId) (cs : Array Value) : Prop := w.heap[g]? = some (.cells cs t (0, 0))
theorem Blk.lt {w : World} {g : Nat} {t : TypeId} {cs : Array Value} (h : Blk w g t cs) : g < w.heap.size := by
  rcases Nat.lt_or_ge g w.heap.size with hlt | hge
  · exact hlt
  · unfold Blk at h; rw [Array.getElem?_eq_none hge] at h; cases h
theorem Blk.cell {w : World} {g : Nat} {t : TypeId} {cs : Array Value} (h : Blk w g t cs) (i : Nat) : w.cell? ⟨g, i, none⟩ = cs[i]? := cell_of_row w g i cs t (0, 0) h
theorem Blk.frozen {w : World} {g : Nat} {t : TypeId} {cs : Array Value} (h : Blk w g t cs) (i : Nat) : w.frozen? ⟨g, i, none⟩ = false := by
  unfold Blk at h
  simp [World.frozen?, h]
theorem Blk.new (w : World) (t : TypeId) (cs : Array Value) : Blk (w.alloc (.cells cs t)) w.heap.size t cs := heap_alloc_new w _
theorem Blk.drewN {w : World} {g : Nat} {t : TypeId} {cs : Array Value} (h : Blk w g t cs) (n : Nat) : Blk (w.drewN n) g t cs := h
theorem Blk.set_ {w : World} {g : Nat} {t : TypeId} {cs : Array Value} (h : Blk w g t cs) (i : Nat) (u : Value) : Blk (w.setCell ⟨g, i, none⟩ u) g t (cs.setIfInBounds i u) := by
  unfold Blk at h ⊢
  simp [World.setCell, Array.getElem?_modify, h]
theorem Blk.alloc {w : World} {g : Nat} {t : TypeId} {cs : Array Value} (h : Blk w g t cs) (o : Obj) : Blk (w.alloc o) g t cs := (Below.heap_alloc w o g h.lt).trans h
theorem Blk.below {w w' : World} {g : Nat} {t : TypeId} {cs : Array Value} (h : Blk w g t cs) (hb : Below w.heap.size w w') : Blk w' g t cs := (hb.block g h.lt).trans h
theorem below_cell {w w' : World} (h : Below w.heap.size w w') {a : Addr} {v : Value} (hc : w.cell? a = some v) : w'.cell? a = some v := (h.cell (World.block_lt_of_cell? _ _ hc)).trans hc
theorem bel_drawn {B : Nat} {w w' : World} (h : Below B w w') (n : Nat) : Below B w (w'.drewN n) := ⟨h.os, h.tape, h.output, h.size, h.block⟩

theorem scale_any (x : Nat) (p : Pre) (B : Nat) (w : World) (hx : x < 18446744073709551616) (hp : p.Fits) (hc : PreAt w B p) :
    Calls Tryz.prog 79 #[.int .u64 (x : Int), .pointer (some ⟨B, 0, none⟩)] w fun e w' => e = .returned (.int .u64 (scale x p)) ∧ ∃ n, w' = w.drewN n := by
  have hb : ∀ a b : Nat, a < 18446744073709551616 → b < 18446744073709551616 → a * b / 18446744073709551616 < 18446744073709551616 := fun a b ha hb => Nat.div_lt_of_lt_mul (Nat.mul_lt_mul'' ha hb)
  have h1 := hb x p.hi hx hp.1
  have h2 := hb x p.lo hx hp.2.1
  have h3 : x * p.hi % 18446744073709551616 < 18446744073709551616 := Nat.mod_lt _ (by decide)
  have M1 := Lib.hid (fun W => (Tryz.bits_Mul64 x p.hi hx hp.1 W).mono (R' := fun e w' => (∃ y, e = .returned (.tuple #[.int .u64 ((x * p.hi / 18446744073709551616 : Nat) : Int), .int .u64 ((x * p.hi % 18446744073709551616 : Nat) : Int)]) ∧ y = (0 : Int)) ∧ W = w') fun e w' h => ⟨⟨0, h.1, rfl⟩, h.2.symm⟩)
  have M2 := Lib.hid (fun W => (Tryz.bits_Mul64 x p.lo hx hp.2.1 W).mono (R' := fun e w' => (∃ y, e = .returned (.tuple #[.int .u64 ((x * p.lo / 18446744073709551616 : Nat) : Int), .int .u64 y]) ∧ (0 : Int) ≤ y) ∧ W = w') fun e w' h => ⟨⟨_, h.1, Int.natCast_nonneg _⟩, h.2.symm⟩)
  exact scl_walk x p.hi p.lo p.s B _ _ _ w hx hp.2.2 (Int.natCast_nonneg _) (by omega) (Int.natCast_nonneg _) (by omega) (Int.natCast_nonneg _) (by omega) hc.1 hc.2.1 hc.2.2 M1 M2

theorem log10_any (x : Int) (h1 : -2000 ≤ x) (h2 : x ≤ 2000) (w : World) : Calls Tryz.prog 61 #[.int .i64 x] w fun e w' => e = .returned (.int .i64 (x * 78913 / 262144)) ∧ w = w' := by
  go_enter Tryz.func61, Tryz.ntmps61
  go_wp2
  go_ret
  exact ⟨rfl, rfl⟩
theorem log2_any (x : Int) (h1 : -2000 ≤ x) (h2 : x ≤ 2000) (w : World) : Calls Tryz.prog 78 #[.int .i64 x] w fun e w' => e = .returned (.int .i64 (x * 108853 / 32768)) ∧ w = w' := by
  go_enter Tryz.func78, Tryz.ntmps78
  go_wp2
  go_ret
  exact ⟨rfl, rfl⟩
theorem skewed_any (x : Int) (h1 : -2000 ≤ x) (h2 : x ≤ 2000) (w : World) : Calls Tryz.prog 76 #[.int .i64 x] w fun e w' => e = .returned (.int .i64 ((x * 631305 - 261663) / 2097152)) ∧ w = w' := by
  go_enter Tryz.func76, Tryz.ntmps76
  go_wp2
  go_ret
  exact ⟨rfl, rfl⟩
def nud (u y : Int) : Int := IntKind.u64.wrap (u + IntKind.u64.wrap y)
def ceilF (u : Int) : Int := IntKind.u64.wrap (u + 3) / 4
def roundF (u : Int) : Int := IntKind.u64.wrap (IntKind.u64.wrap (u + 1) + bits BinOp.and IntKind.u64 (u / 4) 1) / 4
theorem nudge_any (u y : Int) (w : World) : Calls Tryz.prog 80 #[.int .u64 u, .int .i64 y] w fun e w' => e = .returned (.int .u64 (nud u y)) ∧ w = w' := by
  go_enter Tryz.func80, Tryz.ntmps80
  go_wp2
  go_ret
  exact ⟨rfl, rfl⟩
theorem u64_in (n : Int) : 0 ≤ IntKind.u64.wrap n ∧ IntKind.u64.wrap n ≤ 18446744073709551615 := wrap_within .u64 n
theorem nud_in (u y : Int) : 0 ≤ nud u y ∧ nud u y ≤ 18446744073709551615 := u64_in _
theorem ceil_any (u : Int) (h0 : 0 ≤ u) (w : World) : Calls Tryz.prog 81 #[.int .u64 u] w fun e w' => e = .returned (.int .u64 (ceilF u)) ∧ w = w' := by
  have h := u64_in (u + 3)
  unfold ceilF
  obtain ⟨z, hz⟩ : ∃ z, IntKind.u64.wrap (u + 3) = z := ⟨_, rfl⟩
  rw [hz] at h ⊢
  have a := h.1
  clear h
  go_enter Tryz.func81, Tryz.ntmps81
  go_wp2
  go_ret
  exact ⟨rfl, rfl⟩
theorem floor_any (u : Int) (h0 : 0 ≤ u) (h1 : u ≤ 18446744073709551615) (w : World) : Calls Tryz.prog 82 #[.int .u64 u] w fun e w' => e = .returned (.int .u64 (u / 4)) ∧ w = w' := by
  go_enter Tryz.func82, Tryz.ntmps82
  go_wp2
  go_ret
  exact ⟨rfl, rfl⟩
theorem round_any (u : Int) (h0 : 0 ≤ u) (h1 : u ≤ 18446744073709551615) (w : World) : Calls Tryz.prog 83 #[.int .u64 u] w fun e w' => e = .returned (.int .u64 (roundF u)) ∧ w = w' := by
  have h := u64_in (IntKind.u64.wrap (u + 1) + bits BinOp.and IntKind.u64 (u / 4) 1)
  unfold roundF
  obtain ⟨z, hz⟩ : ∃ z, IntKind.u64.wrap (IntKind.u64.wrap (u + 1) + bits BinOp.and IntKind.u64 (u / 4) 1) = z := ⟨_, rfl⟩
  rw [hz] at h ⊢
  have a := h.1
  clear h
  go_enter Tryz.func83, Tryz.ntmps83
  go_wp2
  go_ret
  exact ⟨rfl, rfl⟩
/-- the table of powers -/
def rowOf (i : Nat) : Nat × Nat := Go.Pinned.pow10Rows.getD i (0, 0)
def P10 (w : World) : Prop := ∀ i, i < 696 → w.cell? ⟨9, i * 2, none⟩ = some (.int .u64 ((rowOf i).1 : Int)) ∧ w.cell? ⟨9, i * 2 + 1, none⟩ = some (.int .u64 ((rowOf i).2 : Int))
theorem row_in (i : Nat) : (rowOf i).1 < 18446744073709551616 ∧ (rowOf i).2 < 18446744073709551616 := by
  unfold rowOf
  have h : ∀ x ∈ Go.Pinned.pow10Rows, x.1 < 18446744073709551616 ∧ x.2 < 18446744073709551616 := by
    have : (Go.Pinned.pow10Rows.all fun x => decide (x.1 < 18446744073709551616) && decide (x.2 < 18446744073709551616)) = true := by decide +kernel
    intro x hx
    have := List.all_eq_true.1 this x hx
    simpa using this
  rw [List.getD_eq_getElem?_getD]
  rcases Nat.lt_or_ge i Go.Pinned.pow10Rows.length with hl | hl
  · rw [List.getElem?_eq_getElem hl]; exact h _ (List.getElem_mem hl)
  · rw [List.getElem?_eq_none hl]; decide
set_option maxRecDepth 100000 in
theorem prescale_any (e p lp : Int) (i B s : Nat) (v0 v1 v2 : Value) (t : TypeId) (w : World) (hi1 : p - -348 = (i : Int)) (hi2 : i < 696) (he : -2000 ≤ e) (he2 : e ≤ 2000) (hl : -2000 ≤ lp) (hl2 : lp ≤ 2000)
    (hT : P10 w) (hs : -(e + lp + 3) = (s : Int)) (hB : 9 < B) (hb : Blk w B t #[v0, v1, v2]) :
    Calls Tryz.prog 77 #[.pointer (some ⟨B, 0, none⟩), .int .i64 e, .int .i64 p, .int .i64 lp] w fun en w' => en = .returned (.tuple #[]) ∧ w' = ((w.setCell ⟨B, 0, none⟩ (.int .u64 (rowOf i).1)).setCell ⟨B, 1, none⟩ (.int .u64 (rowOf i).2)).setCell ⟨B, 2, none⟩ (.int .i64 s) := by
  have hBB : (9 == B) = false := by simp; omega
  have hBn : (B == 9) = false := by simp; omega
  obtain ⟨c0, c1⟩ := hT i hi2
  have d0 := hb.cell 0
  have d1 := hb.cell 1
  have d2 := hb.cell 2
  have f := hb.frozen
  simp at d0 d1 d2
  clear hb hT
  go_enter Tryz.func77, Tryz.ntmps77
  go_wp2_with fail
  go_end0
  exact ⟨rfl, rfl⟩
end Go.Proofs.YtofndhmnofghaaaGreatDoor

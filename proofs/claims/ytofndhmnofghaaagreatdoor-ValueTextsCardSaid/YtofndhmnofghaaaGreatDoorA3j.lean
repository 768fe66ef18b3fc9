/- Lemmas. No condition. -/
import Derived.Test.YtofndhmnofghaaaGreatDoorC1j
import Derived.Test.YtofndhmnofghaaaGreatDoorShelf
import Derived.OpenShut
import Derived.Laws.Closers25b
import Derived.Laws.Rows
import Derived.Below
import Derived.Deep.DeepCutAuto
import Derived.Laws.BitsLemmas
namespace Go.Proofs.YtofndhmnofghaaaGreatDoor
open Go.RowKit Ieee
set_option linter.unusedVariables false

/-! the scaling of floats, as strconv does it: each function by its value -/
theorem bool2_q (b : Bool) (w : World) : Calls Tryz.prog 103 #[.bool b] w fun e w' => e = .returned (.int .u64 (if b = true then 1 else 0)) ∧ w' = w := by
  cases b <;>
  · go_enter Tryz.func103, Tryz.ntmps103
    go_wp2
    go_ret
    exact ⟨rfl, rfl⟩
theorem bool2_any (b : Bool) (w : World) : Calls Tryz.prog 103 #[.bool b] w fun e w' => e = .returned (.int .u64 (if b = true then 1 else 0)) ∧ w = w' :=
  (bool2_q b w).mono fun _ _ h => ⟨h.1, h.2.symm⟩
/-- a row of the table, and how far to shift -/
structure Pre where
  hi : Nat
  lo : Nat
  s : Nat
def Pre.Fits (p : Pre) : Prop := p.hi < 18446744073709551616 ∧ p.lo < 18446744073709551616 ∧ p.s ≤ 63
def PreAt (w : World) (b : Nat) (p : Pre) : Prop := w.cell? ⟨b, 0, none⟩ = some (.int .u64 (p.hi : Int)) ∧ w.cell? ⟨b, 1, none⟩ = some (.int .u64 (p.lo : Int)) ∧ w.cell? ⟨b, 2, none⟩ = some (.int .i64 (p.s : Int))
def scl (h m k : Int) (s : Nat) : Int :=
  if (IntKind.u64.wrap (h / 2 ^ s * 2 ^ s) != h) = true then bits BinOp.or IntKind.u64 (h / 2 ^ s) 1
  else bits BinOp.or IntKind.u64 (IntKind.u64.wrap (h - if decide (m < k) = true then 1 else 0) / 2 ^ s) (if decide (1 < IntKind.u64.wrap (m - k)) = true then 1 else 0)
def scale (x : Nat) (p : Pre) : Int := scl ((x * p.hi / 18446744073709551616 : Nat) : Int) ((x * p.hi % 18446744073709551616 : Nat) : Int) ((x * p.lo / 18446744073709551616 : Nat) : Int) p.s
theorem scl_in (h m k : Int) (s : Nat) : 0 ≤ scl h m k s ∧ scl h m k s ≤ 18446744073709551615 := by
  unfold scl
  split
  · exact ⟨bits_lo_u64 _ _ _, bits_hi_u64 _ _ _⟩
  · exact ⟨bits_lo_u64 _ _ _, bits_hi_u64 _ _ _⟩
theorem mask63 (s : Nat) (h : s ≤ 63) : bits BinOp.and IntKind.i64 (s : Int) 63 = (s : Int) := by
  have : ∀ s : Fin 64, bits BinOp.and IntKind.i64 (s.val : Int) 63 = (s.val : Int) := by decide
  exact this ⟨s, by omega⟩
set_option maxRecDepth 100000 in
set_option maxHeartbeats 2000000 in
theorem scl_walk (x hi lo s B : Nat) (h m k : Int) (w : World) (hx : x < 18446744073709551616) (hs : s ≤ 63) (h0 : 0 ≤ h) (h1 : h < 18446744073709551616) (m0 : 0 ≤ m) (m1 : m < 18446744073709551616) (k0 : 0 ≤ k) (k1 : k < 18446744073709551616)
    (c0 : w.cell? ⟨B, 0, none⟩ = some (.int .u64 (hi : Int))) (c1 : w.cell? ⟨B, 1, none⟩ = some (.int .u64 (lo : Int))) (c2 : w.cell? ⟨B, 2, none⟩ = some (.int .i64 (s : Int)))
    (M1 : Hid (∀ W, Calls Tryz.prog 110 #[.int .u64 (x : Int), .int .u64 (hi : Int)] W fun e w' => (∃ y, e = .returned (.tuple #[.int .u64 h, .int .u64 m]) ∧ y = (0 : Int)) ∧ W = w'))
    (M2 : Hid (∀ W, Calls Tryz.prog 110 #[.int .u64 (x : Int), .int .u64 (lo : Int)] W fun e w' => (∃ y, e = .returned (.tuple #[.int .u64 k, .int .u64 y]) ∧ 0 ≤ y) ∧ W = w')) :
    Calls Tryz.prog 79 #[.int .u64 (x : Int), .pointer (some ⟨B, 0, none⟩)] w fun e w' => e = .returned (.int .u64 (scl h m k s)) ∧ ∃ n, w' = w.drewN n := by
  have ea := mask63 s hs
  obtain ⟨r, hr⟩ : ∃ r, scl h m k s = r := ⟨_, rfl⟩
  rw [hr]
  have HR := Lib.hid hr
  clear hr
  by_cases hc : (IntKind.u64.wrap (h / 2 ^ s * 2 ^ s) != h) = true
  · have er : r = bits BinOp.or IntKind.u64 (h / 2 ^ s) 1 := by rw [← HR.out]; unfold scl; rw [if_pos hc]
    subst er
    go_enter Tryz.func79, Tryz.ntmps79
    go_wp2_with fail
    refine (M1.out _).mono ?_
    rintro e w1 ⟨⟨y, rfl, hy⟩, rfl⟩
    clear hy
    go_wp2
    go_ret
    exact ⟨rfl, 0, rfl⟩
  · have hcf : (IntKind.u64.wrap (h / 2 ^ s * 2 ^ s) != h) = false := by simpa using hc
    clear hc
    have er : r = bits BinOp.or IntKind.u64 (IntKind.u64.wrap (h - if decide (m < k) = true then 1 else 0) / 2 ^ s) (if decide (1 < IntKind.u64.wrap (m - k)) = true then 1 else 0) := by rw [← HR.out]; unfold scl; rw [hcf]; rfl
    subst er
    obtain ⟨z1, hz1⟩ : ∃ z : Int, (if decide (m < k) = true then (1 : Int) else 0) = z := ⟨_, rfl⟩
    obtain ⟨z2, hz2⟩ : ∃ z : Int, (if decide (1 < IntKind.u64.wrap (m - k)) = true then (1 : Int) else 0) = z := ⟨_, rfl⟩
    have B1 := Lib.hid (fun W => bool2_any (decide (m < k)) W)
    have B2 := Lib.hid (fun W => bool2_q (decide (1 < IntKind.u64.wrap (m - k))) W)
    rw [hz1] at B1
    rw [hz2] at B2
    rw [hz1, hz2]
    clear hz1 hz2 HR
    obtain ⟨u, hu⟩ : ∃ u, IntKind.u64.wrap (h - z1) = u := ⟨_, rfl⟩
    have hu0 : 0 ≤ u := by rw [← hu]; exact (wrap_within .u64 _).1
    have hu1 : u < 18446744073709551616 := by have := (wrap_within .u64 (h - z1)).2; rw [hu] at this; exact Int.lt_of_le_of_lt this (by decide)
    rw [hu]
    go_enter Tryz.func79, Tryz.ntmps79
    go_wp2_with fail
    refine (M1.out _).mono ?_
    rintro e w1 ⟨⟨y, rfl, hy⟩, rfl⟩
    clear hy
    go_wp2_with fail
    refine (M2.out _).mono ?_
    rintro e w1 ⟨⟨y, rfl, hy⟩, rfl⟩
    clear hy
    go_wp2_with fail
    refine (B1.out _).mono ?_
    rintro e w1 ⟨rfl, rfl⟩
    go_wp2_with fail
    clear hu
    go_quiet ((go_at_call 103; exact Calls.quiet_of_same (B2.out _)))
    go_wp2
    go_ret
    exact ⟨rfl, _, rfl⟩
end Go.Proofs.YtofndhmnofghaaaGreatDoor

namespace Go.Proofs.YtofndhmnofghaaaGreatDoor
open Go.RowKit Ieee
set_option linter.unusedVariables false

/-- a block that is known whole -/
def Blk (w : World) (g : Nat) (t : TypeId) (cs : Array Value) : Prop := w.heap[g]? = some (.cells cs t (0, 0))
theorem Blk.lt {w : World} {g : Nat} {t : TypeId} {cs : Array Value} (h : Blk w g t cs) : g < w.heap.size := by
  rcases Nat.lt_or_ge g w.heap.size with hlt | hge
  · exact hlt
  · unfold Blk at h; rw [Array.getElem?_eq_none hge] at h; cases h
theorem Blk.cell {w : World} {g : Nat} {t : TypeId} {cs : Array Value} (h : Blk w g t cs) (i : Nat) : w.cell? ⟨g, i, none⟩ = cs[i]? := cell_of_row w g i cs t (0, 0) h
theorem Blk.frozen {w : World} {g : Nat} {t : TypeId} {cs : Array Value} (h : Blk w g t cs) (i : Nat) : w.frozen? ⟨g, i, none⟩ = false := by
  unfold Blk at h
  simp [World.frozen?, h]
theorem Blk.new (w : World) (t : TypeId) (cs : Array Value) : Blk (w.alloc (.cells cs t)) w.heap.size t cs := heap_alloc_new w _
theorem Blk.drewN {w : World} {g : Nat} {t : TypeId} {cs : Array Value} (h : Blk w g t cs) (n : Nat) : Blk (w.drewN n) g t cs := h
theorem Blk.set_ {w : World} {g : Nat} {t : TypeId} {cs : Array Value} (h : Blk w g t cs) (i : Nat) (u : Value) : Blk (w.setCell ⟨g, i, none⟩ u) g t (cs.setIfInBounds i u) := by
  unfold Blk at h ⊢
  simp [World.setCell, Array.getElem?_modify, h]
theorem Blk.alloc {w : World} {g : Nat} {t : TypeId} {cs : Array Value} (h : Blk w g t cs) (o : Obj) : Blk (w.alloc o) g t cs := (Below.heap_alloc w o g h.lt).trans h
theorem Blk.below {w w' : World} {g : Nat} {t : TypeId} {cs : Array Value} (h : Blk w g t cs) (hb : Below w.heap.size w w') : Blk w' g t cs := (hb.block g h.lt).trans h
theorem below_cell {w w' : World} (h : Below w.heap.size w w') {a : Addr} {v : Value} (hc : w.cell? a = some v) : w'.cell? a = some v := (h.cell (World.block_lt_of_cell? _ _ hc)).trans hc
theorem bel_drawn {B : Nat} {w w' : World} (h : Below B w w') (n : Nat) : Below B w (w'.drewN n) := ⟨h.os, h.tape, h.output, h.size, h.block⟩

theorem scale_any (x : Nat) (p : Pre) (B : Nat) (w : World) (hx : x < 18446744073709551616) (hp : p.Fits) (hc : PreAt w B p) :
    Calls Tryz.prog 79 #[.int .u64 (x : Int), .pointer (some ⟨B, 0, none⟩)] w fun e w' => e = .returned (.int .u64 (scale x p)) ∧ ∃ n, w' = w.drewN n := by
  have hb : ∀ a b : Nat, a < 18446744073709551616 → b < 18446744073709551616 → a * b / 18446744073709551616 < 18446744073709551616 := fun a b ha hb => Nat.div_lt_of_lt_mul (Nat.mul_lt_mul'' ha hb)
  have h1 := hb x p.hi hx hp.1
  have h2 := hb x p.lo hx hp.2.1
  have h3 : x * p.hi % 18446744073709551616 < 18446744073709551616 := Nat.mod_lt _ (by decide)
  have M1 := Lib.hid (fun W => (Tryz.bits_Mul64 x p.hi hx hp.1 W).mono (R' := fun e w' => (∃ y, e = .returned (.tuple #[.int .u64 ((x * p.hi / 18446744073709551616 : Nat) : Int), .int .u64 ((x * p.hi % 18446744073709551616 : Nat) : Int)]) ∧ y = (0 : Int)) ∧ W = w') fun e w' h => ⟨⟨0, h.1, rfl⟩, h.2.symm⟩)
  have M2 := Lib.hid (fun W => (Tryz.bits_Mul64 x p.lo hx hp.2.1 W).mono (R' := fun e w' => (∃ y, e = .returned (.tuple #[.int .u64 ((x * p.lo / 18446744073709551616 : Nat) : Int), .int .u64 y]) ∧ (0 : Int) ≤ y) ∧ W = w') fun e w' h => ⟨⟨_, h.1, Int.natCast_nonneg _⟩, h.2.symm⟩)
  exact scl_walk x p.hi p.lo p.s B _ _ _ w hx hp.2.2 (Int.natCast_nonneg _) (by omega) (Int.natCast_nonneg _) (by omega) (Int.natCast_nonneg _) (by omega) hc.1 hc.2.1 hc.2.2 M1 M2

theorem log10_any (x : Int) (h1 : -2000 ≤ x) (h2 : x ≤ 2000) (w : World) : Calls Tryz.prog 61 #[.int .i64 x] w fun e w' => e = .returned (.int .i64 (x * 78913 / 262144)) ∧ w = w' := by
  go_enter Tryz.func61, Tryz.ntmps61
  go_wp2
  go_ret
  exact ⟨rfl, rfl⟩
theorem log2_any (x : Int) (h1 : -2000 ≤ x) (h2 : x ≤ 2000) (w : World) : Calls Tryz.prog 78 #[.int .i64 x] w fun e w' => e = .returned (.int .i64 (x * 108853 / 32768)) ∧ w = w' := by
  go_enter Tryz.func78, Tryz.ntmps78
  go_wp2
  go_ret
  exact ⟨rfl, rfl⟩
theorem skewed_any (x : Int) (h1 : -2000 ≤ x) (h2 : x ≤ 2000) (w : World) : Calls Tryz.prog 76 #[.int .i64 x] w fun e w' => e = .returned (.int .i64 ((x * 631305 - 261663) / 2097152)) ∧ w = w' := by
  go_enter Tryz.func76, Tryz.ntmps76
  go_wp2
  go_ret
  exact ⟨rfl, rfl⟩
def nud (u y : Int) : Int := IntKind.u64.wrap (u + IntKind.u64.wrap y)
def ceilF (u : Int) : Int := IntKind.u64.wrap (u + 3) / 4
def roundF (u : Int) : Int := IntKind.u64.wrap (IntKind.u64.wrap (u + 1) + bits BinOp.and IntKind.u64 (u / 4) 1) / 4
theorem nudge_any (u y : Int) (w : World) : Calls Tryz.prog 80 #[.int .u64 u, .int .i64 y] w fun e w' => e = .returned (.int .u64 (nud u y)) ∧ w = w' := by
  go_enter Tryz.func80, Tryz.ntmps80
  go_wp2
  go_ret
  exact ⟨rfl, rfl⟩
theorem u64_in (n : Int) : 0 ≤ IntKind.u64.wrap n ∧ IntKind.u64.wrap n ≤ 18446744073709551615 := wrap_within .u64 n
theorem nud_in (u y : Int) : 0 ≤ nud u y ∧ nud u y ≤ 18446744073709551615 := u64_in _
theorem ceil_any (u : Int) (h0 : 0 ≤ u) (w : World) : Calls Tryz.prog 81 #[.int .u64 u] w fun e w' => e = .returned (.int .u64 (ceilF u)) ∧ w = w' := by
  have h := u64_in (u + 3)
  unfold ceilF
  obtain ⟨z, hz⟩ : ∃ z, IntKind.u64.wrap (u + 3) = z := ⟨_, rfl⟩
  rw [hz] at h ⊢
  have a := h.1
  clear h
  go_enter Tryz.func81, Tryz.ntmps81
  go_wp2
  go_ret
  exact ⟨rfl, rfl⟩
theorem floor_any (u : Int) (h0 : 0 ≤ u) (h1 : u ≤ 18446744073709551615) (w : World) : Calls Tryz.prog 82 #[.int .u64 u] w fun e w' => e = .returned (.int .u64 (u / 4)) ∧ w = w' := by
  go_enter Tryz.func82, Tryz.ntmps82
  go_wp2
  go_ret
  exact ⟨rfl, rfl⟩
theorem round_any (u : Int) (h0 : 0 ≤ u) (h1 : u ≤ 18446744073709551615) (w : World) : Calls Tryz.prog 83 #[.int .u64 u] w fun e w' => e = .returned (.int .u64 (roundF u)) ∧ w = w' := by
  have h := u64_in (IntKind.u64.wrap (u + 1) + bits BinOp.and IntKind.u64 (u / 4) 1)
  unfold roundF
  obtain ⟨z, hz⟩ : ∃ z, IntKind.u64.wrap (IntKind.u64.wrap (u + 1) + bits BinOp.and IntKind.u64 (u / 4) 1) = z := ⟨_, rfl⟩
  rw [hz] at h ⊢
  have a := h.1
  clear h
  go_enter Tryz.func83, Tryz.ntmps83
  go_wp2
  go_ret
  exact ⟨rfl, rfl⟩
/-- the table of powers -/
def rowOf (i : Nat) : Nat × Nat := Go.Pinned.pow10Rows.getD i (0, 0)
def P10 (w : World) : Prop := ∀ i, i < 696 → w.cell? ⟨9, i * 2, none⟩ = some (.int .u64 ((rowOf i).1 : Int)) ∧ w.cell? ⟨9, i * 2 + 1, none⟩ = some (.int .u64 ((rowOf i).2 : Int))
theorem row_in (i : Nat) : (rowOf i).1 < 18446744073709551616 ∧ (rowOf i).2 < 18446744073709551616 := by
  unfold rowOf
  have h : ∀ x ∈ Go.Pinned.pow10Rows, x.1 < 18446744073709551616 ∧ x.2 < 18446744073709551616 := by
    have : (Go.Pinned.pow10Rows.all fun x => decide (x.1 < 18446744073709551616) && decide (x.2 < 18446744073709551616)) = true := by decide +kernel
    intro x hx
    have := List.all_eq_true.1 this x hx
    simpa using this
  rw [List.getD_eq_getElem?_getD]
  rcases Nat.lt_or_ge i Go.Pinned.pow10Rows.length with hl | hl
  · rw [List.getElem?_eq_getElem hl]; exact h _ (List.getElem_mem hl)
  · rw [List.getElem?_eq_none hl]; decide
set_option maxRecDepth 100000 in
theorem prescale_any (e p lp : Int) (i B s : Nat) (v0 v1 v2 : Value) (t : TypeId) (w : World) (hi1 : p - -348 = (i : Int)) (hi2 : i < 696) (he : -2000 ≤ e) (he2 : e ≤ 2000) (hl : -2000 ≤ lp) (hl2 : lp ≤ 2000)
    (hT : P10 w) (hs : -(e + lp + 3) = (s : Int)) (hB : 9 < B) (hb : Blk w B t #[v0, v1, v2]) :
    Calls Tryz.prog 77 #[.pointer (some ⟨B, 0, none⟩), .int .i64 e, .int .i64 p, .int .i64 lp] w fun en w' => en = .returned (.tuple #[]) ∧ w' = ((w.setCell ⟨B, 0, none⟩ (.int .u64 (rowOf i).1)).setCell ⟨B, 1, none⟩ (.int .u64 (rowOf i).2)).setCell ⟨B, 2, none⟩ (.int .i64 s) := by
  have hBB : (9 == B) = false := by simp; omega
  have hBn : (B == 9) = false := by simp; omega
  obtain ⟨c0, c1⟩ := hT i hi2
  have d0 := hb.cell 0
  have d1 := hb.cell 1
  have d2 := hb.cell 2
  have f := hb.frozen
  simp at d0 d1 d2
  clear hb hT
  go_enter Tryz.func77, Tryz.ntmps77
  go_wp2_with fail
  go_end0
  exact ⟨rfl, rfl⟩
end Go.Proofs.YtofndhmnofghaaaGreatDoor

namespace Go.Proofs.YtofndhmnofghaaaGreatDoor
open Go.RowKit Ieee
set_option linter.unusedVariables false

theorem mask1 (q : Int) (h0 : 0 ≤ q) (h1 : q < 9223372036854775808) : bits BinOp.and IntKind.i64 q 1 = q % 2 := by
  have := bits_mask .i64 63 (by decide) (fun n a b => by rw [IntKind.wrap_i64]; omega) 1 (by omega) q h0 (by omega)
  simpa using this
/-- the shortest text of a float: where the table is asked, and between what numbers -/
def sfA (m : Nat) (e : Int) : Bool := decide (m = 9223372036854775808) && decide (-1085 < e)
def sfZ (e : Int) : Nat := if -1085 ≤ e then 11 else (-1074 - e).toNat
def sfP (m : Nat) (e : Int) : Int := if sfA m e = true then -(((e + 11) * 631305 - 261663) / 2097152) else if -1085 ≤ e then -((e + 11) * 78913 / 262144) else 324
def sfMin (m : Nat) (e : Int) : Nat := if sfA m e = true then 9223372036854775296 else m - 2 ^ (sfZ e - 1)
def sfMax (m : Nat) (e : Int) : Nat := (m + 2 ^ (sfZ e - 1)) % 18446744073709551616
def sfOdd (m : Nat) (e : Int) : Nat := m / 2 ^ sfZ e % 2
theorem u64_eq {a b : Int} (h : a = b) : Value.int .u64 a = Value.int .u64 b := by rw [h]
theorem i64_eq {a b : Int} (h : a = b) : Value.int .i64 a = Value.int .i64 b := by rw [h]
theorem wrap_u64_nat (n : Nat) : IntKind.u64.wrap (n : Int) = ((n % 18446744073709551616 : Nat) : Int) := by
  simp [IntKind.wrap, IntKind.bits, IntKind.signed]
def SfHead (m : Nat) (e : Int) (s5 s8 s9 s10 : Value) : Prop := s5 = .int .i64 (sfP m e) ∧ s8 = .int .u64 (sfMin m e : Int) ∧ s9 = .int .u64 (sfMax m e : Int) ∧ s10 = .int .i64 (sfOdd m e : Int)
def sfPre (m : Nat) (e : Int) : Pre := { hi := (rowOf (sfP m e + 348).toNat).1, lo := (rowOf (sfP m e + 348).toNat).2, s := (-(e + sfP m e * 108853 / 32768 + 3)).toNat }
def sfLo (m : Nat) (e : Int) : Int := ceilF (nud (scale (sfMin m e) (sfPre m e)) (sfOdd m e))
def sfHi (m : Nat) (e : Int) : Int := nud (scale (sfMax m e) (sfPre m e)) (-(sfOdd m e : Int)) / 4
def sfD (m : Nat) (e : Int) : Int := if sfLo m e ≤ sfHi m e / 10 * 10 then sfHi m e / 10 else if sfLo m e < sfHi m e then roundF (scale m (sfPre m e)) else sfLo m e
def sfE (m : Nat) (e : Int) : Int := if sfLo m e ≤ sfHi m e / 10 * 10 then -(sfP m e - 1) else -sfP m e
theorem P10.below {w w' : World} {B : Nat} (h : P10 w) (hB : 10 ≤ B) (hb : Below B w w') : P10 w' := fun i hi =>
  ⟨(hb.cell (p := ⟨9, i * 2, none⟩) (by show 9 < B; omega)).trans (h i hi).1, (hb.cell (p := ⟨9, i * 2 + 1, none⟩) (by show 9 < B; omega)).trans (h i hi).2⟩
abbrev preZ : Obj := .cells #[.int .u64 0, .int .u64 0, .int .i64 0] 124
abbrev preO (ix s : Nat) : Obj := .cells #[.int .u64 (rowOf ix).1, .int .u64 (rowOf ix).2, .int .i64 s] 124
theorem prescale_new (e p lp : Int) (ix s : Nat) (w : World) (hi1 : p - -348 = (ix : Int)) (hi2 : ix < 696) (he : -2000 ≤ e) (he2 : e ≤ 2000) (hl : -2000 ≤ lp) (hl2 : lp ≤ 2000)
    (hT : P10 w) (h16 : 16 ≤ w.heap.size) (hs : -(e + lp + 3) = (s : Int)) :
    Calls Tryz.prog 77 #[.pointer (some ⟨w.heap.size, 0, none⟩), .int .i64 e, .int .i64 p, .int .i64 lp] (w.alloc preZ) fun en w' => en = .returned (.tuple #[]) ∧ w' = w.alloc (preO ix s) := by
  refine (prescale_any e p lp ix w.heap.size s _ _ _ 124 (w.alloc preZ) hi1 hi2 he he2 hl hl2 (hT.below (B := 16) (by omega) ((Below.refl 16 w).alloc h16 _)) hs (by omega) (Blk.new w 124 _)).mono ?_
  rintro en w' ⟨rfl, rfl⟩
  refine ⟨rfl, ?_⟩
  rw [World.setCell_alloc_at _ _ _ _ _ rfl, World.setCell_alloc_at _ _ _ _ _ rfl, World.setCell_alloc_at _ _ _ _ _ rfl]
  rfl
theorem pre_new (w : World) (ix s : Nat) (n : Nat) : PreAt ((w.alloc (preO ix s)).drewN n) w.heap.size ⟨(rowOf ix).1, (rowOf ix).2, s⟩ :=
  ⟨(Blk.new w 124 _).cell 0, (Blk.new w 124 _).cell 1, (Blk.new w 124 _).cell 2⟩
set_option maxRecDepth 100000 in
set_option maxHeartbeats 2000000 in
theorem short_a (m : Nat) (e p lp : Int) (mn mx od ix s : Nat) (a1 b1 L a2 b2 H a3 R D E : Int) (w : World) (h0 : 9223372036854775808 ≤ m) (h1 : m < 18446744073709551616) (he : -1137 ≤ e) (he2 : e ≤ 960)
    (hm : ((m : Int) == 9223372036854775808) = true) (he3 : -1085 < e) (r1 : -(((e + 11) * 631305 - 261663) / 2097152) = p) (r2 : (m : Int) - 512 = (mn : Int)) (r3 : IntKind.u64.wrap ((m : Int) + 1024) = (mx : Int)) (r4 : bits BinOp.and IntKind.i64 ((m : Int) / 2048) 1 = (od : Int))
    (hp1 : -400 ≤ p) (hp2 : p ≤ 400) (hl1 : -1400 ≤ lp) (hl2 : lp ≤ 1400) (ho : od ≤ 1) (hb2 : 0 ≤ b2) (hH0 : 0 ≤ H) (hH1 : H ≤ 4611686018427387904) (hL0 : 0 ≤ L) (hL1 : L ≤ 4611686018427387904)
    (HLG : Hid (∀ W, Calls Tryz.prog 78 #[.int .i64 p] W fun en w' => en = .returned (.int .i64 lp) ∧ W = w'))
    (HPS : Hid (Calls Tryz.prog 77 #[.pointer (some ⟨w.heap.size, 0, none⟩), .int .i64 e, .int .i64 p, .int .i64 lp] (w.alloc preZ) fun en w' => en = .returned (.tuple #[]) ∧ w' = w.alloc (preO ix s)))
    (HS1 : Hid (∀ W, PreAt W w.heap.size ⟨(rowOf ix).1, (rowOf ix).2, s⟩ → Calls Tryz.prog 79 #[.int .u64 (mn : Int), .pointer (some ⟨w.heap.size, 0, none⟩)] W fun en w' => en = .returned (.int .u64 a1) ∧ ∃ n, w' = W.drewN n))
    (HN1 : Hid (∀ W, Calls Tryz.prog 80 #[.int .u64 a1, .int .i64 (od : Int)] W fun en w' => en = .returned (.int .u64 b1) ∧ W = w'))
    (HC1 : Hid (∀ W, Calls Tryz.prog 81 #[.int .u64 b1] W fun en w' => en = .returned (.int .u64 L) ∧ W = w'))
    (HS2 : Hid (∀ W, PreAt W w.heap.size ⟨(rowOf ix).1, (rowOf ix).2, s⟩ → Calls Tryz.prog 79 #[.int .u64 (mx : Int), .pointer (some ⟨w.heap.size, 0, none⟩)] W fun en w' => en = .returned (.int .u64 a2) ∧ ∃ n, w' = W.drewN n))
    (HN2 : Hid (∀ W, Calls Tryz.prog 80 #[.int .u64 a2, .int .i64 (-(od : Int))] W fun en w' => en = .returned (.int .u64 b2) ∧ W = w'))
    (HF2 : Hid (∀ W, Calls Tryz.prog 82 #[.int .u64 b2] W fun en w' => en = .returned (.int .u64 H) ∧ W = w'))
    (HS3 : Hid (∀ W, PreAt W w.heap.size ⟨(rowOf ix).1, (rowOf ix).2, s⟩ → Calls Tryz.prog 79 #[.int .u64 (m : Int), .pointer (some ⟨w.heap.size, 0, none⟩)] W fun en w' => en = .returned (.int .u64 a3) ∧ ∃ n, w' = W.drewN n))
    (HR3 : Hid (∀ W, Calls Tryz.prog 83 #[.int .u64 a3] W fun en w' => en = .returned (.int .u64 R) ∧ W = w'))
    (HZ : Hid ((L ≤ H / 10 * 10 ∧ D = H / 10 ∧ E = -(p - 1)) ∨ (H / 10 * 10 < L ∧ L < H ∧ D = R ∧ E = -p) ∨ (H / 10 * 10 < L ∧ H ≤ L ∧ D = L ∧ E = -p))) :
    Calls Tryz.prog 66 #[.int .u64 (m : Int), .int .i64 e] w fun en w' => en = .returned (.tuple #[.int .u64 D, .int .i64 E]) ∧ Below w.heap.size w w' := by
  go_enter Tryz.func66, Tryz.ntmps66
  go_wp2_with fail
  refine (skewed_any _ (by omega) (by omega) _).mono ?_
  rintro en w1 ⟨rfl, rfl⟩
  go_wp2_with fail
  refine (HLG.out _).mono ?_
  rintro en w1 ⟨rfl, rfl⟩
  go_wp2_with fail
  refine (HPS.out).mono ?_
  rintro en w1 ⟨rfl, rfl⟩
  go_wp2_with fail
  refine (HS1.out _ (pre_new _ _ _ 0)).mono ?_
  rintro en w1 ⟨rfl, n1, rfl⟩
  go_wp2_with fail
  refine (HN1.out _).mono ?_
  rintro en w1 ⟨rfl, rfl⟩
  go_wp2_with fail
  refine (HC1.out _).mono ?_
  rintro en w1 ⟨rfl, rfl⟩
  go_wp2_with fail
  refine (HS2.out _ (pre_new _ _ _ _)).mono ?_
  rintro en w1 ⟨rfl, n2, rfl⟩
  go_wp2_with fail
  refine (HN2.out _).mono ?_
  rintro en w1 ⟨rfl, rfl⟩
  go_wp2_with fail
  refine (HF2.out _).mono ?_
  rintro en w1 ⟨rfl, rfl⟩
  rcases HZ.out with ⟨c1, hD, hE⟩ | ⟨c1, c2, hD, hE⟩ | ⟨c1, c2, hD, hE⟩
  · have HD := Lib.hid hD
    have HE := Lib.hid hE
    clear hD hE
    go_wp2_with fail
    go_ret2
    exact ⟨by rw [HD.out, HE.out]; rfl, bel_drawn ((Below.refl _ _).alloc (Nat.le_refl _) _) _⟩
  · have HD := Lib.hid hD
    have HE := Lib.hid hE
    clear hD hE
    go_wp2_with fail
    refine (HS3.out _ (pre_new _ _ _ _)).mono ?_
    rintro en w1 ⟨rfl, n3, rfl⟩
    go_wp2_with fail
    refine (HR3.out _).mono ?_
    rintro en w1 ⟨rfl, rfl⟩
    go_wp2_with fail
    go_ret2
    exact ⟨by rw [HD.out, HE.out]; rfl, bel_drawn ((Below.refl _ _).alloc (Nat.le_refl _) _) _⟩
  · have HD := Lib.hid hD
    have HE := Lib.hid hE
    clear hD hE
    go_wp2_with fail
    go_ret2
    exact ⟨by rw [HD.out, HE.out]; rfl, bel_drawn ((Below.refl _ _).alloc (Nat.le_refl _) _) _⟩
set_option maxRecDepth 100000 in
set_option maxHeartbeats 2000000 in
theorem short_b (m : Nat) (e p lp : Int) (mn mx od ix s : Nat) (a1 b1 L a2 b2 H a3 R D E : Int) (w : World) (h0 : 9223372036854775808 ≤ m) (h1 : m < 18446744073709551616) (he : -1137 ≤ e) (he2 : e ≤ 960)
    (hm : ((m : Int) == 9223372036854775808) = false ∨ e = -1085) (he3 : -1085 ≤ e) (r1 : -((e + 11) * 78913 / 262144) = p) (r2 : (m : Int) - 1024 = (mn : Int)) (r3 : IntKind.u64.wrap ((m : Int) + 1024) = (mx : Int)) (r4 : bits BinOp.and IntKind.i64 ((m : Int) / 2048) 1 = (od : Int))
    (hp1 : -400 ≤ p) (hp2 : p ≤ 400) (hl1 : -1400 ≤ lp) (hl2 : lp ≤ 1400) (ho : od ≤ 1) (hb2 : 0 ≤ b2) (hH0 : 0 ≤ H) (hH1 : H ≤ 4611686018427387904) (hL0 : 0 ≤ L) (hL1 : L ≤ 4611686018427387904)
    (HLG : Hid (∀ W, Calls Tryz.prog 78 #[.int .i64 p] W fun en w' => en = .returned (.int .i64 lp) ∧ W = w'))
    (HPS : Hid (Calls Tryz.prog 77 #[.pointer (some ⟨w.heap.size, 0, none⟩), .int .i64 e, .int .i64 p, .int .i64 lp] (w.alloc preZ) fun en w' => en = .returned (.tuple #[]) ∧ w' = w.alloc (preO ix s)))
    (HS1 : Hid (∀ W, PreAt W w.heap.size ⟨(rowOf ix).1, (rowOf ix).2, s⟩ → Calls Tryz.prog 79 #[.int .u64 (mn : Int), .pointer (some ⟨w.heap.size, 0, none⟩)] W fun en w' => en = .returned (.int .u64 a1) ∧ ∃ n, w' = W.drewN n))
    (HN1 : Hid (∀ W, Calls Tryz.prog 80 #[.int .u64 a1, .int .i64 (od : Int)] W fun en w' => en = .returned (.int .u64 b1) ∧ W = w'))
    (HC1 : Hid (∀ W, Calls Tryz.prog 81 #[.int .u64 b1] W fun en w' => en = .returned (.int .u64 L) ∧ W = w'))
    (HS2 : Hid (∀ W, PreAt W w.heap.size ⟨(rowOf ix).1, (rowOf ix).2, s⟩ → Calls Tryz.prog 79 #[.int .u64 (mx : Int), .pointer (some ⟨w.heap.size, 0, none⟩)] W fun en w' => en = .returned (.int .u64 a2) ∧ ∃ n, w' = W.drewN n))
    (HN2 : Hid (∀ W, Calls Tryz.prog 80 #[.int .u64 a2, .int .i64 (-(od : Int))] W fun en w' => en = .returned (.int .u64 b2) ∧ W = w'))
    (HF2 : Hid (∀ W, Calls Tryz.prog 82 #[.int .u64 b2] W fun en w' => en = .returned (.int .u64 H) ∧ W = w'))
    (HS3 : Hid (∀ W, PreAt W w.heap.size ⟨(rowOf ix).1, (rowOf ix).2, s⟩ → Calls Tryz.prog 79 #[.int .u64 (m : Int), .pointer (some ⟨w.heap.size, 0, none⟩)] W fun en w' => en = .returned (.int .u64 a3) ∧ ∃ n, w' = W.drewN n))
    (HR3 : Hid (∀ W, Calls Tryz.prog 83 #[.int .u64 a3] W fun en w' => en = .returned (.int .u64 R) ∧ W = w'))
    (HZ : Hid ((L ≤ H / 10 * 10 ∧ D = H / 10 ∧ E = -(p - 1)) ∨ (H / 10 * 10 < L ∧ L < H ∧ D = R ∧ E = -p) ∨ (H / 10 * 10 < L ∧ H ≤ L ∧ D = L ∧ E = -p))) :
    Calls Tryz.prog 66 #[.int .u64 (m : Int), .int .i64 e] w fun en w' => en = .returned (.tuple #[.int .u64 D, .int .i64 E]) ∧ Below w.heap.size w w' := by
  have hg : ((m : Int) == 9223372036854775808) = false ∨ (((m : Int) == 9223372036854775808) = true ∧ decide (-1085 < e) = false ∧ e ≤ -1085) := by
    rcases hm with h | h
    · exact .inl h
    · cases hq : ((m : Int) == 9223372036854775808) with
      | false => exact .inl rfl
      | true => exact .inr ⟨rfl, decide_eq_false (by omega), by omega⟩
  clear hm
  rcases hg with hg | ⟨hg, hg2, hg3⟩
  all_goals
    go_enter Tryz.func66, Tryz.ntmps66
    go_wp2_with fail
    refine (log10_any _ (by omega) (by omega) _).mono ?_
    rintro en w1 ⟨rfl, rfl⟩
    go_wp2_with fail
    refine (HLG.out _).mono ?_
    rintro en w1 ⟨rfl, rfl⟩
    go_wp2_with fail
    refine (HPS.out).mono ?_
    rintro en w1 ⟨rfl, rfl⟩
    go_wp2_with fail
    refine (HS1.out _ (pre_new _ _ _ 0)).mono ?_
    rintro en w1 ⟨rfl, n1, rfl⟩
    go_wp2_with fail
    refine (HN1.out _).mono ?_
    rintro en w1 ⟨rfl, rfl⟩
    go_wp2_with fail
    refine (HC1.out _).mono ?_
    rintro en w1 ⟨rfl, rfl⟩
    go_wp2_with fail
    refine (HS2.out _ (pre_new _ _ _ _)).mono ?_
    rintro en w1 ⟨rfl, n2, rfl⟩
    go_wp2_with fail
    refine (HN2.out _).mono ?_
    rintro en w1 ⟨rfl, rfl⟩
    go_wp2_with fail
    refine (HF2.out _).mono ?_
    rintro en w1 ⟨rfl, rfl⟩
    rcases HZ.out with ⟨c1, hD, hE⟩ | ⟨c1, c2, hD, hE⟩ | ⟨c1, c2, hD, hE⟩
    · have HD := Lib.hid hD
      have HE := Lib.hid hE
      clear hD hE
      go_wp2_with fail
      go_ret2
      exact ⟨by rw [HD.out, HE.out]; rfl, bel_drawn ((Below.refl _ _).alloc (Nat.le_refl _) _) _⟩
    · have HD := Lib.hid hD
      have HE := Lib.hid hE
      clear hD hE
      go_wp2_with fail
      refine (HS3.out _ (pre_new _ _ _ _)).mono ?_
      rintro en w1 ⟨rfl, n3, rfl⟩
      go_wp2_with fail
      refine (HR3.out _).mono ?_
      rintro en w1 ⟨rfl, rfl⟩
      go_wp2_with fail
      go_ret2
      exact ⟨by rw [HD.out, HE.out]; rfl, bel_drawn ((Below.refl _ _).alloc (Nat.le_refl _) _) _⟩
    · have HD := Lib.hid hD
      have HE := Lib.hid hE
      clear hD hE
      go_wp2_with fail
      go_ret2
      exact ⟨by rw [HD.out, HE.out]; rfl, bel_drawn ((Below.refl _ _).alloc (Nat.le_refl _) _) _⟩
set_option maxRecDepth 100000 in
set_option maxHeartbeats 2000000 in
theorem short_c (z y : Nat) (x : Int) (k q : Nat) (m : Nat) (e p lp : Int) (mn mx od ix s : Nat) (a1 b1 L a2 b2 H a3 R D E : Int) (w : World) (h0 : 9223372036854775808 ≤ m) (h1 : m < 18446744073709551616) (he : -1137 ≤ e) (he2 : e ≤ 960)
    (he3 : e < -1085) (hx1 : -1100 ≤ x) (hx2 : x ≤ 1000) (hy : y ≤ 62) (hz : y + 1 = z) (hk : k ≤ 4611686018427387904) (hq : q < 9223372036854775808) (r0 : 11 + (-1085 - e) = (z : Int)) (rx : e + (z : Int) = x) (ry : (z : Int) - 1 = (y : Int)) (rk : (2 : Int) ^ y = (k : Int)) (rq : (m : Int) / 2 ^ z = (q : Int))
    (r1 : -(x * 78913 / 262144) = p) (r2 : (m : Int) - (k : Int) = (mn : Int)) (r3 : IntKind.u64.wrap ((m : Int) + (k : Int)) = (mx : Int)) (r4 : bits BinOp.and IntKind.i64 (q : Int) 1 = (od : Int))
    (hp1 : -400 ≤ p) (hp2 : p ≤ 400) (hl1 : -1400 ≤ lp) (hl2 : lp ≤ 1400) (ho : od ≤ 1) (hb2 : 0 ≤ b2) (hH0 : 0 ≤ H) (hH1 : H ≤ 4611686018427387904) (hL0 : 0 ≤ L) (hL1 : L ≤ 4611686018427387904)
    (HLG : Hid (∀ W, Calls Tryz.prog 78 #[.int .i64 p] W fun en w' => en = .returned (.int .i64 lp) ∧ W = w'))
    (HPS : Hid (Calls Tryz.prog 77 #[.pointer (some ⟨w.heap.size, 0, none⟩), .int .i64 e, .int .i64 p, .int .i64 lp] (w.alloc preZ) fun en w' => en = .returned (.tuple #[]) ∧ w' = w.alloc (preO ix s)))
    (HS1 : Hid (∀ W, PreAt W w.heap.size ⟨(rowOf ix).1, (rowOf ix).2, s⟩ → Calls Tryz.prog 79 #[.int .u64 (mn : Int), .pointer (some ⟨w.heap.size, 0, none⟩)] W fun en w' => en = .returned (.int .u64 a1) ∧ ∃ n, w' = W.drewN n))
    (HN1 : Hid (∀ W, Calls Tryz.prog 80 #[.int .u64 a1, .int .i64 (od : Int)] W fun en w' => en = .returned (.int .u64 b1) ∧ W = w'))
    (HC1 : Hid (∀ W, Calls Tryz.prog 81 #[.int .u64 b1] W fun en w' => en = .returned (.int .u64 L) ∧ W = w'))
    (HS2 : Hid (∀ W, PreAt W w.heap.size ⟨(rowOf ix).1, (rowOf ix).2, s⟩ → Calls Tryz.prog 79 #[.int .u64 (mx : Int), .pointer (some ⟨w.heap.size, 0, none⟩)] W fun en w' => en = .returned (.int .u64 a2) ∧ ∃ n, w' = W.drewN n))
    (HN2 : Hid (∀ W, Calls Tryz.prog 80 #[.int .u64 a2, .int .i64 (-(od : Int))] W fun en w' => en = .returned (.int .u64 b2) ∧ W = w'))
    (HF2 : Hid (∀ W, Calls Tryz.prog 82 #[.int .u64 b2] W fun en w' => en = .returned (.int .u64 H) ∧ W = w'))
    (HS3 : Hid (∀ W, PreAt W w.heap.size ⟨(rowOf ix).1, (rowOf ix).2, s⟩ → Calls Tryz.prog 79 #[.int .u64 (m : Int), .pointer (some ⟨w.heap.size, 0, none⟩)] W fun en w' => en = .returned (.int .u64 a3) ∧ ∃ n, w' = W.drewN n))
    (HR3 : Hid (∀ W, Calls Tryz.prog 83 #[.int .u64 a3] W fun en w' => en = .returned (.int .u64 R) ∧ W = w'))
    (HZ : Hid ((L ≤ H / 10 * 10 ∧ D = H / 10 ∧ E = -(p - 1)) ∨ (H / 10 * 10 < L ∧ L < H ∧ D = R ∧ E = -p) ∨ (H / 10 * 10 < L ∧ H ≤ L ∧ D = L ∧ E = -p))) :
    Calls Tryz.prog 66 #[.int .u64 (m : Int), .int .i64 e] w fun en w' => en = .returned (.tuple #[.int .u64 D, .int .i64 E]) ∧ Below w.heap.size w w' := by
  have hg : ((m : Int) == 9223372036854775808) = false ∨ (((m : Int) == 9223372036854775808) = true ∧ decide (-1085 < e) = false ∧ e ≤ -1085) := by
    cases hq : ((m : Int) == 9223372036854775808) with
    | false => exact .inl rfl
    | true => exact .inr ⟨rfl, decide_eq_false (by omega), by omega⟩
  rcases hg with hg | ⟨hg, hg2, hg3⟩
  all_goals
    go_enter Tryz.func66, Tryz.ntmps66
    go_wp2_with fail
    refine (log10_any _ (by omega) (by omega) _).mono ?_
    rintro en w1 ⟨rfl, rfl⟩
    go_wp2_with fail
    refine (HLG.out _).mono ?_
    rintro en w1 ⟨rfl, rfl⟩
    go_wp2_with fail
    refine (HPS.out).mono ?_
    rintro en w1 ⟨rfl, rfl⟩
    go_wp2_with fail
    refine (HS1.out _ (pre_new _ _ _ 0)).mono ?_
    rintro en w1 ⟨rfl, n1, rfl⟩
    go_wp2_with fail
    refine (HN1.out _).mono ?_
    rintro en w1 ⟨rfl, rfl⟩
    go_wp2_with fail
    refine (HC1.out _).mono ?_
    rintro en w1 ⟨rfl, rfl⟩
    go_wp2_with fail
    refine (HS2.out _ (pre_new _ _ _ _)).mono ?_
    rintro en w1 ⟨rfl, n2, rfl⟩
    go_wp2_with fail
    refine (HN2.out _).mono ?_
    rintro en w1 ⟨rfl, rfl⟩
    go_wp2_with fail
    refine (HF2.out _).mono ?_
    rintro en w1 ⟨rfl, rfl⟩
    rcases HZ.out with ⟨c1, hD, hE⟩ | ⟨c1, c2, hD, hE⟩ | ⟨c1, c2, hD, hE⟩
    · have HD := Lib.hid hD
      have HE := Lib.hid hE
      clear hD hE
      go_wp2_with fail
      go_ret2
      exact ⟨by rw [HD.out, HE.out]; rfl, bel_drawn ((Below.refl _ _).alloc (Nat.le_refl _) _) _⟩
    · have HD := Lib.hid hD
      have HE := Lib.hid hE
      clear hD hE
      go_wp2_with fail
      refine (HS3.out _ (pre_new _ _ _ _)).mono ?_
      rintro en w1 ⟨rfl, n3, rfl⟩
      go_wp2_with fail
      refine (HR3.out _).mono ?_
      rintro en w1 ⟨rfl, rfl⟩
      go_wp2_with fail
      go_ret2
      exact ⟨by rw [HD.out, HE.out]; rfl, bel_drawn ((Below.refl _ _).alloc (Nat.le_refl _) _) _⟩
    · have HD := Lib.hid hD
      have HE := Lib.hid hE
      clear hD hE
      go_wp2_with fail
      go_ret2
      exact ⟨by rw [HD.out, HE.out]; rfl, bel_drawn ((Below.refl _ _).alloc (Nat.le_refl _) _) _⟩
end Go.Proofs.YtofndhmnofghaaaGreatDoor

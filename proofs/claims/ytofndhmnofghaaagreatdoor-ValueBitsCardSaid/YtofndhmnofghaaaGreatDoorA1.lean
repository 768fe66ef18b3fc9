import Derived.Test.YtofndhmnofghaaaGreatDoorC1
import Derived.Test.YtofndhmnofghaaaGreatDoorShelf
import Derived.OpenShut
import Derived.Laws.Closers25b
namespace Go.Proofs.YtofndhmnofghaaaGreatDoor
open Go.RowKit Ieee
set_option linter.unusedVariables false

/-! the scaling of floats, as strconv does it: each function by its value -/
theorem bool2_q (b : Bool) (w : World) : Calls Tryz.prog 103 #[.bool b] w fun e w' => e = .returned (.int .u64 (if b = true then 1 else 0)) ∧ w' = w := by
  cases b <;>
  · go_enter Tryz.func103, Tryz.ntmps103
    go_wp2
    go_ret
    exact ⟨rfl, rfl⟩
theorem bool2_any (b : Bool) (w : World) : Calls Tryz.prog 103 #[.bool b] w fun e w' => e = .returned (.int .u64 (if b = true then 1 else 0)) ∧ w = w' :=
  (bool2_q b w).mono fun _ _ h => ⟨h.1, h.2.symm⟩
/-- a row of the table, and how far to shift -/
structure Pre where
  hi : Nat
  lo : Nat
  s : Nat
def Pre.Fits (p : Pre) : Prop := p.hi < 18446744073709551616 ∧ p.lo < 18446744073709551616 ∧ p.s ≤ 63
def PreAt (w : World) (b : Nat) (p : Pre) : Prop := w.cell? ⟨b, 0, none⟩ = some (.int .u64 (p.hi : Int)) ∧ w.cell? ⟨b, 1, none⟩ = some (.int .u64 (p.lo : Int)) ∧ w.cell? ⟨b, 2, none⟩ = some (.int .i64 (p.s : Int))
def scl (h m k : Int) (s : Nat) : Int :=
  if (IntKind.u64.wrap (h / 2 ^ s * 2 ^ s) != h) = true then bits BinOp.or IntKind.u64 (h / 2 ^ s) 1
  else bits BinOp.or IntKind.u64 (IntKind.u64.wrap (h - if decide (m < k) = true then 1 else 0) / 2 ^ s) (if decide (1 < IntKind.u64.wrap (m - k)) = true then 1 else 0)
def scale (x : Nat) (p : Pre) : Int := scl ((x * p.hi / 18446744073709551616 : Nat) : Int) ((x * p.hi % 18446744073709551616 : Nat) : Int) ((x * p.lo / 18446744073709551616 : Nat) : Int) p.s
theorem scl_in (h m k : Int) (s : Nat) : 0 ≤ scl h m k s ∧ scl h m k s ≤ 18446744073709551615 := by
  unfold scl
  split
  · exact ⟨bits_lo_u64 _ _ _, bits_hi_u64 _ _ _⟩
  · exact ⟨bits_lo_u64 _ _ _, bits_hi_u64 _ _ _⟩
theorem mask63 (s : Nat) (h : s ≤ 63) : bits BinOp.and IntKind.i64 (s : Int) 63 = (s : Int) := by
  have : ∀ s : Fin 64, bits BinOp.and IntKind.i64 (s.val : Int) 63 = (s.val : Int) := by decide
  exact this ⟨s, by omega⟩
set_option maxRecDepth 100000 in
set_option maxHeartbeats 2000000 in
theorem scl_walk (x hi lo s B : Nat) (h m k : Int) (w : World) (hx : x < 18446744073709551616) (hs : s ≤ 63) (h0 : 0 ≤ h) (h1 : h < 18446744073709551616) (m0 : 0 ≤ m) (m1 : m < 18446744073709551616) (k0 : 0 ≤ k) (k1 : k < 18446744073709551616)
    (c0 : w.cell? ⟨B, 0, none⟩ = some (.int .u64 (hi : Int))) (c1 : w.cell? ⟨B, 1, none⟩ = some (.int .u64 (lo : Int))) (c2 : w.cell? ⟨B, 2, none⟩ = some (.int .i64 (s : Int)))
    (M1 : Hid (∀ W, Calls Tryz.prog 110 #[.int .u64 (x : Int), .int .u64 (hi : Int)] W fun e w' => (∃ y, e = .returned (.tuple #[.int .u64 h, .int .u64 m]) ∧ y = (0 : Int)) ∧ W = w'))
    (M2 : Hid (∀ W, Calls Tryz.prog 110 #[.int .u64 (x : Int), .int .u64 (lo : Int)] W fun e w' => (∃ y, e = .returned (.tuple #[.int .u64 k, .int .u64 y]) ∧ 0 ≤ y) ∧ W = w')) :
    Calls Tryz.prog 79 #[.int .u64 (x : Int), .pointer (some ⟨B, 0, none⟩)] w fun e w' => e = .returned (.int .u64 (scl h m k s)) ∧ ∃ n, w' = w.drewN n := by
  have ea := mask63 s hs
  obtain ⟨r, hr⟩ : ∃ r, scl h m k s = r := ⟨_, rfl⟩
  rw [hr]
  have HR := Lib.hid hr
  clear hr
  by_cases hc : (IntKind.u64.wrap (h / 2 ^ s * 2 ^ s) != h) = true
  · have er : r = bits BinOp.or IntKind.u64 (h / 2 ^ s) 1 := by rw [← HR.out]; unfold scl; rw [if_pos hc]
    subst er
    go_enter Tryz.func79, Tryz.ntmps79
    go_wp2_with fail
    refine (M1.out _).mono ?_
    rintro e w1 ⟨⟨y, rfl, hy⟩, rfl⟩
    clear hy
    go_wp2
    go_ret
    exact ⟨rfl, 0, rfl⟩
  · have hcf : (IntKind.u64.wrap (h / 2 ^ s * 2 ^ s) != h) = false := by simpa using hc
    clear hc
    have er : r = bits BinOp.or IntKind.u64 (IntKind.u64.wrap (h - if decide (m < k) = true then 1 else 0) / 2 ^ s) (if decide (1 < IntKind.u64.wrap (m - k)) = true then 1 else 0) := by rw [← HR.out]; unfold scl; rw [hcf]; rfl
    subst er
    obtain ⟨z1, hz1⟩ : ∃ z : Int, (if decide (m < k) = true then (1 : Int) else 0) = z := ⟨_, rfl⟩
    obtain ⟨z2, hz2⟩ : ∃ z : Int, (if decide (1 < IntKind.u64.wrap (m - k)) = true then (1 : Int) else 0) = z := ⟨_, rfl⟩
    have B1 := Lib.hid (fun W => bool2_any (decide (m < k)) W)
    have B2 := Lib.hid (fun W => bool2_q (decide (1 < IntKind.u64.wrap (m - k))) W)
    rw [hz1] at B1
    rw [hz2] at B2
    rw [hz1, hz2]
    clear hz1 hz2 HR
    obtain ⟨u, hu⟩ : ∃ u, IntKind.u64.wrap (h - z1) = u := ⟨_, rfl⟩
    have hu0 : 0 ≤ u := by rw [← hu]; exact (wrap_within .u64 _).1
    have hu1 : u < 18446744073709551616 := by have := (wrap_within .u64 (h - z1)).2; rw [hu] at this; exact Int.lt_of_le_of_lt this (by decide)
    rw [hu]
    go_enter Tryz.func79, Tryz.ntmps79
    go_wp2_with fail
    refine (M1.out _).mono ?_
    rintro e w1 ⟨⟨y, rfl, hy⟩, rfl⟩
    clear hy
    go_wp2_with fail
    refine (M2.out _).mono ?_
    rintro e w1 ⟨⟨y, rfl, hy⟩, rfl⟩
    clear hy
    go_wp2_with fail
    refine (B1.out _).mono ?_
    rintro e w1 ⟨rfl, rfl⟩
    go_wp2_with fail
    clear hu
    go_quiet ((go_at_call 103; exact Calls.quiet_of_same (B2.out _)))
    go_wp2
    go_ret
    exact ⟨rfl, _, rfl⟩
end Go.Proofs.YtofndhmnofghaaaGreatDoor

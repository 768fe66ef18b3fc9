import Derived.Test.YtaggmakaceafgaaGreatDoorB2
import Derived.Test.YtaggmakaceafgaaGreatDoorShelf
import Derived.Test.YtaggmakaceafgaaGreatDoorC0
import Derived.OpenShut
import Derived.Laws.Closers25b
namespace Go.Proofs.YtaggmakaceafgaaGreatDoor
open Go.RowKit Ieee
set_option linter.unusedVariables false

/-! the scaling of floats, as strconv does it: each function by its value -/
theorem bool2_q (b : Bool) (w : World) : Calls Tryz.prog 104 #[.bool b] w fun e w' => e = .returned (.int .u64 (if b = true then 1 else 0)) ∧ w' = w := by
  cases b <;>
  · go_enter Tryz.func104, Tryz.ntmps104
    go_wp2
    go_ret
    exact ⟨rfl, rfl⟩
theorem bool2_any (b : Bool) (w : World) : Calls Tryz.prog 104 #[.bool b] w fun e w' => e = .returned (.int .u64 (if b = true then 1 else 0)) ∧ w = w' :=
  (bool2_q b w).mono fun _ _ h => ⟨h.1, h.2.symm⟩
/-- a row of the table, and how far to shift -/
structure Pre where
  hi : Nat
  lo : Nat
  s : Nat
def Pre.Fits (p : Pre) : Prop := p.hi < 18446744073709551616 ∧ p.lo < 18446744073709551616 ∧ p.s ≤ 63
def PreAt (w : World) (b : Nat) (p : Pre) : Prop := w.cell? ⟨b, 0, none⟩ = some (.int .u64 (p.hi : Int)) ∧ w.cell? ⟨b, 1, none⟩ = some (.int .u64 (p.lo : Int)) ∧ w.cell? ⟨b, 2, none⟩ = some (.int .i64 (p.s : Int))
def scl (h m k : Int) (s : Nat) : Int :=
  if (IntKind.u64.wrap (h / 2 ^ s * 2 ^ s) != h) = true then bits BinOp.or IntKind.u64 (h / 2 ^ s) 1
  else bits BinOp.or IntKind.u64 (IntKind.u64.wrap (h - if decide (m < k) = true then 1 else 0) / 2 ^ s) (if decide (1 < IntKind.u64.wrap (m - k)) = true then 1 else 0)
def scale (x : Nat) (p : Pre) : Int := scl ((x * p.hi / 18446744073709551616 : Nat) : Int) ((x * p.hi % 18446744073709551616 : Nat) : Int) ((x * p.lo / 18446744073709551616 : Nat) : Int) p.s
theorem scl_in (h m k : Int) (s : Nat) : 0 ≤ scl h m k s ∧ scl h m k s ≤ 18446744073709551615 := by
  unfold scl
  split
  · exact ⟨bits_lo_u64 _ _ _, bits_hi_u64 _ _ _⟩
  · exact ⟨bits_lo_u64 _ _ _, bits_hi_u64 _ _ _⟩
theorem mask63 (s : Nat) (h : s ≤ 63) : bits BinOp.and IntKind.i64 (s : Int) 63 = (s : Int) := by
  have : ∀ s : Fin 64, bits BinOp.and IntKind.i64 (s.val : Int) 63 = (s.val : Int) := by decide
  exact this ⟨s, by omega⟩
set_option maxRecDepth 100000 in
set_option maxHeartbeats 2000000 in
theorem scl_walk (x hi lo s B : Nat) (h m k : Int) (w : World) (hx : x < 18446744073709551616) (hs : s ≤ 63) (h0 : 0 ≤ h) (h1 : h < 18446744073709551616) (m0 : 0 ≤ m) (m1 : m < 18446744073709551616) (k0 : 0 ≤ k) (k1 : k < 18446744073709551616)
    (c0 : w.cell? ⟨B, 0, none⟩ = some (.int .u64 (hi : Int))) (c1 : w.cell? ⟨B, 1, none⟩ = some (.int .u64 (lo : Int))) (c2 : w.cell? ⟨B, 2, none⟩ = some (.int .i64 (s : Int)))
    (M1 : Hid (∀ W, Calls Tryz.prog 126 #[.int .u64 (x : Int), .int .u64 (hi : Int)] W fun e w' => (∃ y, e = .returned (.tuple #[.int .u64 h, .int .u64 m]) ∧ y = (0 : Int)) ∧ W = w'))
    (M2 : Hid (∀ W, Calls Tryz.prog 126 #[.int .u64 (x : Int), .int .u64 (lo : Int)] W fun e w' => (∃ y, e = .returned (.tuple #[.int .u64 k, .int .u64 y]) ∧ 0 ≤ y) ∧ W = w')) :
    Calls Tryz.prog 117 #[.int .u64 (x : Int), .pointer (some ⟨B, 0, none⟩)] w fun e w' => e = .returned (.int .u64 (scl h m k s)) ∧ ∃ n, w' = w.drewN n := by
  have ea := mask63 s hs
  obtain ⟨r, hr⟩ : ∃ r, scl h m k s = r := ⟨_, rfl⟩
  rw [hr]
  have HR := Lib.hid hr
  clear hr
  by_cases hc : (IntKind.u64.wrap (h / 2 ^ s * 2 ^ s) != h) = true
  · have er : r = bits BinOp.or IntKind.u64 (h / 2 ^ s) 1 := by rw [← HR.out]; unfold scl; rw [if_pos hc]
    subst er
    go_enter Tryz.func117, Tryz.ntmps117
    go_wp2_with fail
    refine (M1.out _).mono ?_
    rintro e w1 ⟨⟨y, rfl, hy⟩, rfl⟩
    clear hy
    go_wp2
    go_ret
    exact ⟨rfl, 0, rfl⟩
  · have hcf : (IntKind.u64.wrap (h / 2 ^ s * 2 ^ s) != h) = false := by simpa using hc
    clear hc
    have er : r = bits BinOp.or IntKind.u64 (IntKind.u64.wrap (h - if decide (m < k) = true then 1 else 0) / 2 ^ s) (if decide (1 < IntKind.u64.wrap (m - k)) = true then 1 else 0) := by rw [← HR.out]; unfold scl; rw [hcf]; rfl
    subst er
    obtain ⟨z1, hz1⟩ : ∃ z : Int, (if decide (m < k) = true then (1 : Int) else 0) = z := ⟨_, rfl⟩
    obtain ⟨z2, hz2⟩ : ∃ z : Int, (if decide (1 < IntKind.u64.wrap (m - k)) = true then (1 : Int) else 0) = z := ⟨_, rfl⟩
    have B1 := Lib.hid (fun W => bool2_any (decide (m < k)) W)
    have B2 := Lib.hid (fun W => bool2_q (decide (1 < IntKind.u64.wrap (m - k))) W)
    rw [hz1] at B1
    rw [hz2] at B2
    rw [hz1, hz2]
    clear hz1 hz2 HR
    obtain ⟨u, hu⟩ : ∃ u, IntKind.u64.wrap (h - z1) = u := ⟨_, rfl⟩
    have hu0 : 0 ≤ u := by rw [← hu]; exact (wrap_within .u64 _).1
    have hu1 : u < 18446744073709551616 := by have := (wrap_within .u64 (h - z1)).2; rw [hu] at this; exact Int.lt_of_le_of_lt this (by decide)
    rw [hu]
    go_enter Tryz.func117, Tryz.ntmps117
    go_wp2_with fail
    refine (M1.out _).mono ?_
    rintro e w1 ⟨⟨y, rfl, hy⟩, rfl⟩
    clear hy
    go_wp2_with fail
    refine (M2.out _).mono ?_
    rintro e w1 ⟨⟨y, rfl, hy⟩, rfl⟩
    clear hy
    go_wp2_with fail
    refine (B1.out _).mono ?_
    rintro e w1 ⟨rfl, rfl⟩
    go_wp2_with fail
    clear hu
    go_quiet ((go_at_call 104; exact Calls.quiet_of_same (B2.out _)))
    go_wp2
    go_ret
    exact ⟨rfl, _, rfl⟩
theorem scale_any (x : Nat) (p : Pre) (B : Nat) (w : World) (hx : x < 18446744073709551616) (hp : p.Fits) (hc : PreAt w B p) :
    Calls Tryz.prog 117 #[.int .u64 (x : Int), .pointer (some ⟨B, 0, none⟩)] w fun e w' => e = .returned (.int .u64 (scale x p)) ∧ ∃ n, w' = w.drewN n := by
  have hb : ∀ a b : Nat, a < 18446744073709551616 → b < 18446744073709551616 → a * b / 18446744073709551616 < 18446744073709551616 := fun a b ha hb => Nat.div_lt_of_lt_mul (Nat.mul_lt_mul'' ha hb)
  have h1 := hb x p.hi hx hp.1
  have h2 := hb x p.lo hx hp.2.1
  have h3 : x * p.hi % 18446744073709551616 < 18446744073709551616 := Nat.mod_lt _ (by decide)
  have M1 := Lib.hid (fun W => (Tryz.bits_Mul64 x p.hi hx hp.1 W).mono (R' := fun e w' => (∃ y, e = .returned (.tuple #[.int .u64 ((x * p.hi / 18446744073709551616 : Nat) : Int), .int .u64 ((x * p.hi % 18446744073709551616 : Nat) : Int)]) ∧ y = (0 : Int)) ∧ W = w') fun e w' h => ⟨⟨0, h.1, rfl⟩, h.2.symm⟩)
  have M2 := Lib.hid (fun W => (Tryz.bits_Mul64 x p.lo hx hp.2.1 W).mono (R' := fun e w' => (∃ y, e = .returned (.tuple #[.int .u64 ((x * p.lo / 18446744073709551616 : Nat) : Int), .int .u64 y]) ∧ (0 : Int) ≤ y) ∧ W = w') fun e w' h => ⟨⟨_, h.1, Int.natCast_nonneg _⟩, h.2.symm⟩)
  exact scl_walk x p.hi p.lo p.s B _ _ _ w hx hp.2.2 (Int.natCast_nonneg _) (by omega) (Int.natCast_nonneg _) (by omega) (Int.natCast_nonneg _) (by omega) hc.1 hc.2.1 hc.2.2 M1 M2

theorem log2_any (x : Int) (h1 : -2000 ≤ x) (h2 : x ≤ 2000) (w : World) : Calls Tryz.prog 115 #[.int .i64 x] w fun e w' => e = .returned (.int .i64 (x * 108853 / 32768)) ∧ w = w' := by
  go_enter Tryz.func115, Tryz.ntmps115
  go_wp2
  go_ret
  exact ⟨rfl, rfl⟩
def roundF (u : Int) : Int := IntKind.u64.wrap (IntKind.u64.wrap (u + 1) + bits BinOp.and IntKind.u64 (u / 4) 1) / 4
theorem u64_in (n : Int) : 0 ≤ IntKind.u64.wrap n ∧ IntKind.u64.wrap n ≤ 18446744073709551615 := wrap_within .u64 n
theorem round_any (u : Int) (h0 : 0 ≤ u) (h1 : u ≤ 18446744073709551615) (w : World) : Calls Tryz.prog 121 #[.int .u64 u] w fun e w' => e = .returned (.int .u64 (roundF u)) ∧ w = w' := by
  have h := u64_in (IntKind.u64.wrap (u + 1) + bits BinOp.and IntKind.u64 (u / 4) 1)
  unfold roundF
  obtain ⟨z, hz⟩ : ∃ z, IntKind.u64.wrap (IntKind.u64.wrap (u + 1) + bits BinOp.and IntKind.u64 (u / 4) 1) = z := ⟨_, rfl⟩
  rw [hz] at h ⊢
  have a := h.1
  clear h
  go_enter Tryz.func121, Tryz.ntmps121
  go_wp2
  go_ret
  exact ⟨rfl, rfl⟩
/-- the table of powers -/
def rowOf (i : Nat) : Nat × Nat := Go.Pinned.pow10Rows.getD i (0, 0)
def P10 (w : World) : Prop := ∀ i, i < 696 → w.cell? ⟨14, i * 2, none⟩ = some (.int .u64 ((rowOf i).1 : Int)) ∧ w.cell? ⟨14, i * 2 + 1, none⟩ = some (.int .u64 ((rowOf i).2 : Int))
theorem row_in (i : Nat) : (rowOf i).1 < 18446744073709551616 ∧ (rowOf i).2 < 18446744073709551616 := by
  unfold rowOf
  have h : ∀ x ∈ Go.Pinned.pow10Rows, x.1 < 18446744073709551616 ∧ x.2 < 18446744073709551616 := by
    have : (Go.Pinned.pow10Rows.all fun x => decide (x.1 < 18446744073709551616) && decide (x.2 < 18446744073709551616)) = true := by decide +kernel
    intro x hx
    have := List.all_eq_true.1 this x hx
    simpa using this
  rw [List.getD_eq_getElem?_getD]
  rcases Nat.lt_or_ge i Go.Pinned.pow10Rows.length with hl | hl
  · rw [List.getElem?_eq_getElem hl]; exact h _ (List.getElem_mem hl)
  · rw [List.getElem?_eq_none hl]; decide
set_option maxRecDepth 100000 in
theorem prescale_any (e p lp : Int) (i B s : Nat) (v0 v1 v2 : Value) (t : TypeId) (w : World) (hi1 : p - -348 = (i : Int)) (hi2 : i < 696) (he : -2000 ≤ e) (he2 : e ≤ 2000) (hl : -2000 ≤ lp) (hl2 : lp ≤ 2000)
    (hT : P10 w) (hs : -(e + lp + 3) = (s : Int)) (hB : 14 < B) (hb : Blk w B t #[v0, v1, v2]) :
    Calls Tryz.prog 116 #[.pointer (some ⟨B, 0, none⟩), .int .i64 e, .int .i64 p, .int .i64 lp] w fun en w' => en = .returned (.tuple #[]) ∧ w' = ((w.setCell ⟨B, 0, none⟩ (.int .u64 (rowOf i).1)).setCell ⟨B, 1, none⟩ (.int .u64 (rowOf i).2)).setCell ⟨B, 2, none⟩ (.int .i64 s) := by
  have hBB : (14 == B) = false := by simp; omega
  have hBn : (B == 14) = false := by simp; omega
  obtain ⟨c0, c1⟩ := hT i hi2
  have d0 := hb.cell 0
  have d1 := hb.cell 1
  have d2 := hb.cell 2
  have f := hb.frozen
  simp at d0 d1 d2
  clear hb hT
  go_enter Tryz.func116, Tryz.ntmps116
  go_wp2_with fail
  go_end0
  exact ⟨rfl, rfl⟩
theorem frombits (n : Nat) (w : World) : (callFunc 105 #[.int .u64 (n : Int)]).run Tryz.prog w = .ok (.value (.float .f64 n)) w := by kernel_rfl
theorem unmin_any (w : World) : Calls Tryz.prog 119 #[.int .u64 9007199254740992] w fun e w' => e = .returned (.int .u64 36028797018963966) ∧ w = w' := by
  go_enter Tryz.func119, Tryz.ntmps119
  go_wp2
  go_ret
  exact ⟨rfl, rfl⟩
/-- no error, or one of range -/
def Err (v : Value) : Prop := v = .nilIface ∨ v = .iface 132 (.int .i64 1)
def PkP (w : World) (e : Ending) (w' : World) : Prop := (∃ (b : Nat) (er : Value), e = .returned (.tuple #[.float .f64 b, er]) ∧ Err er) ∧ w = w'
theorem results_tmp2 {fn : Func} {a b : Tmp} (h : fn.results = #[.tmp a, .tmp b]) (tmps : Array Value) (P : Program) (w : World) :
    (results fn tmps).run P w = .ok (.tuple #[tmps.getD a undef, tmps.getD b undef]) w := by
  simp [results, h]
theorem pack_any (m : Nat) (x : Int) (w : World) (hm : m < 18446744073709551616) (h1 : -1100 ≤ x) (h2 : x ≤ 4000) : Calls Tryz.prog 124 #[.int .u64 (m : Int), .int .i64 x] w (PkP w) := by
  have HF := fun (n : Nat) w => frombits n w
  by_cases h0 : bits BinOp.and IntKind.u64 (m : Int) 4503599627370496 = 0
  · have h0t : (bits BinOp.and IntKind.u64 (m : Int) 4503599627370496 == 0) = true := beq_iff_eq.2 h0
    clear h0
    go_enter Tryz.func124, Tryz.ntmps124
    go_wp2
    refine bodyPost_ret (results_tmp2 rfl _ _ _) rfl ?_
    exact ⟨⟨_, _, rfl, .inl rfl⟩, rfl⟩
  · have h0f : (bits BinOp.and IntKind.u64 (m : Int) 4503599627370496 == 0) = false := beq_eq_false_iff_ne.2 h0
    clear h0
    by_cases h3 : 972 ≤ x
    · obtain ⟨z, hz⟩ : ∃ z, bits BinOp.or IntKind.u64 (bits BinOp.and IntKind.u64 (m : Int) 9223372036854775808) 9218868437227405312 = z := ⟨_, rfl⟩
      have z0 : 0 ≤ z := by rw [← hz]; exact bits_lo_u64 _ _ _
      obtain ⟨n, rfl⟩ : ∃ n : Nat, z = (n : Int) := ⟨z.toNat, by omega⟩
      go_enter Tryz.func124, Tryz.ntmps124
      go_wp2
      refine bodyPost_ret (results_tmp2 rfl _ _ _) rfl ?_
      exact ⟨⟨_, _, rfl, .inr rfl⟩, rfl⟩
    · obtain ⟨z, hz⟩ : ∃ z, bits BinOp.or IntKind.u64 (bits BinOp.andNot IntKind.u64 (m : Int) 4503599627370496) (IntKind.u64.wrap (IntKind.u64.wrap (1075 + x) * 4503599627370496)) = z := ⟨_, rfl⟩
      have z0 : 0 ≤ z := by rw [← hz]; exact bits_lo_u64 _ _ _
      obtain ⟨n, rfl⟩ : ∃ n : Nat, z = (n : Int) := ⟨z.toNat, by omega⟩
      have h3f : decide (972 ≤ x) = false := decide_eq_false h3
      go_enter Tryz.func124, Tryz.ntmps124
      go_wp2
      refine bodyPost_ret (results_tmp2 rfl _ _ _) rfl ?_
      exact ⟨⟨_, _, rfl, .inl rfl⟩, rfl⟩
end Go.Proofs.YtaggmakaceafgaaGreatDoor

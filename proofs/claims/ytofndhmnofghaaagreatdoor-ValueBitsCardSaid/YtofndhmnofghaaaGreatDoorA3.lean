import Derived.Test.YtofndhmnofghaaaGreatDoorA2
import Derived.Deep.DeepCutAuto
import Derived.Laws.BitsLemmas
namespace Go.Proofs.YtofndhmnofghaaaGreatDoor
open Go.RowKit Ieee
set_option linter.unusedVariables false

theorem mask1 (q : Int) (h0 : 0 ≤ q) (h1 : q < 9223372036854775808) : bits BinOp.and IntKind.i64 q 1 = q % 2 := by
  have := bits_mask .i64 63 (by decide) (fun n a b => by rw [IntKind.wrap_i64]; omega) 1 (by omega) q h0 (by omega)
  simpa using this
/-- the shortest text of a float: where the table is asked, and between what numbers -/
def sfA (m : Nat) (e : Int) : Bool := decide (m = 9223372036854775808) && decide (-1085 < e)
def sfZ (e : Int) : Nat := if -1085 ≤ e then 11 else (-1074 - e).toNat
def sfP (m : Nat) (e : Int) : Int := if sfA m e = true then -(((e + 11) * 631305 - 261663) / 2097152) else if -1085 ≤ e then -((e + 11) * 78913 / 262144) else 324
def sfMin (m : Nat) (e : Int) : Nat := if sfA m e = true then 9223372036854775296 else m - 2 ^ (sfZ e - 1)
def sfMax (m : Nat) (e : Int) : Nat := (m + 2 ^ (sfZ e - 1)) % 18446744073709551616
def sfOdd (m : Nat) (e : Int) : Nat := m / 2 ^ sfZ e % 2
theorem u64_eq {a b : Int} (h : a = b) : Value.int .u64 a = Value.int .u64 b := by rw [h]
theorem i64_eq {a b : Int} (h : a = b) : Value.int .i64 a = Value.int .i64 b := by rw [h]
theorem wrap_u64_nat (n : Nat) : IntKind.u64.wrap (n : Int) = ((n % 18446744073709551616 : Nat) : Int) := by
  simp [IntKind.wrap, IntKind.bits, IntKind.signed]
def SfHead (m : Nat) (e : Int) (s5 s8 s9 s10 : Value) : Prop := s5 = .int .i64 (sfP m e) ∧ s8 = .int .u64 (sfMin m e : Int) ∧ s9 = .int .u64 (sfMax m e : Int) ∧ s10 = .int .i64 (sfOdd m e : Int)
def sfPre (m : Nat) (e : Int) : Pre := { hi := (rowOf (sfP m e + 348).toNat).1, lo := (rowOf (sfP m e + 348).toNat).2, s := (-(e + sfP m e * 108853 / 32768 + 3)).toNat }
def sfLo (m : Nat) (e : Int) : Int := ceilF (nud (scale (sfMin m e) (sfPre m e)) (sfOdd m e))
def sfHi (m : Nat) (e : Int) : Int := nud (scale (sfMax m e) (sfPre m e)) (-(sfOdd m e : Int)) / 4
def sfD (m : Nat) (e : Int) : Int := if sfLo m e ≤ sfHi m e / 10 * 10 then sfHi m e / 10 else if sfLo m e < sfHi m e then roundF (scale m (sfPre m e)) else sfLo m e
def sfE (m : Nat) (e : Int) : Int := if sfLo m e ≤ sfHi m e / 10 * 10 then -(sfP m e - 1) else -sfP m e
theorem P10.below {w w' : World} {B : Nat} (h : P10 w) (hB : 10 ≤ B) (hb : Below B w w') : P10 w' := fun i hi =>
  ⟨(hb.cell (p := ⟨9, i * 2, none⟩) (by show 9 < B; omega)).trans (h i hi).1, (hb.cell (p := ⟨9, i * 2 + 1, none⟩) (by show 9 < B; omega)).trans (h i hi).2⟩
abbrev preZ : Obj := .cells #[.int .u64 0, .int .u64 0, .int .i64 0] 124
abbrev preO (ix s : Nat) : Obj := .cells #[.int .u64 (rowOf ix).1, .int .u64 (rowOf ix).2, .int .i64 s] 124
theorem prescale_new (e p lp : Int) (ix s : Nat) (w : World) (hi1 : p - -348 = (ix : Int)) (hi2 : ix < 696) (he : -2000 ≤ e) (he2 : e ≤ 2000) (hl : -2000 ≤ lp) (hl2 : lp ≤ 2000)
    (hT : P10 w) (h16 : 16 ≤ w.heap.size) (hs : -(e + lp + 3) = (s : Int)) :
    Calls Tryz.prog 77 #[.pointer (some ⟨w.heap.size, 0, none⟩), .int .i64 e, .int .i64 p, .int .i64 lp] (w.alloc preZ) fun en w' => en = .returned (.tuple #[]) ∧ w' = w.alloc (preO ix s) := by
  refine (prescale_any e p lp ix w.heap.size s _ _ _ 124 (w.alloc preZ) hi1 hi2 he he2 hl hl2 (hT.below (B := 16) (by omega) ((Below.refl 16 w).alloc h16 _)) hs (by omega) (Blk.new w 124 _)).mono ?_
  rintro en w' ⟨rfl, rfl⟩
  refine ⟨rfl, ?_⟩
  rw [World.setCell_alloc_at _ _ _ _ _ rfl, World.setCell_alloc_at _ _ _ _ _ rfl, World.setCell_alloc_at _ _ _ _ _ rfl]
  rfl
theorem pre_new (w : World) (ix s : Nat) (n : Nat) : PreAt ((w.alloc (preO ix s)).drewN n) w.heap.size ⟨(rowOf ix).1, (rowOf ix).2, s⟩ :=
  ⟨(Blk.new w 124 _).cell 0, (Blk.new w 124 _).cell 1, (Blk.new w 124 _).cell 2⟩
set_option maxRecDepth 100000 in
set_option maxHeartbeats 2000000 in
theorem short_a (m : Nat) (e p lp : Int) (mn mx od ix s : Nat) (a1 b1 L a2 b2 H a3 R D E : Int) (w : World) (h0 : 9223372036854775808 ≤ m) (h1 : m < 18446744073709551616) (he : -1137 ≤ e) (he2 : e ≤ 960)
    (hm : ((m : Int) == 9223372036854775808) = true) (he3 : -1085 < e) (r1 : -(((e + 11) * 631305 - 261663) / 2097152) = p) (r2 : (m : Int) - 512 = (mn : Int)) (r3 : IntKind.u64.wrap ((m : Int) + 1024) = (mx : Int)) (r4 : bits BinOp.and IntKind.i64 ((m : Int) / 2048) 1 = (od : Int))
    (hp1 : -400 ≤ p) (hp2 : p ≤ 400) (hl1 : -1400 ≤ lp) (hl2 : lp ≤ 1400) (ho : od ≤ 1) (hb2 : 0 ≤ b2) (hH0 : 0 ≤ H) (hH1 : H ≤ 4611686018427387904) (hL0 : 0 ≤ L) (hL1 : L ≤ 4611686018427387904)
    (HLG : Hid (∀ W, Calls Tryz.prog 78 #[.int .i64 p] W fun en w' => en = .returned (.int .i64 lp) ∧ W = w'))
    (HPS : Hid (Calls Tryz.prog 77 #[.pointer (some ⟨w.heap.size, 0, none⟩), .int .i64 e, .int .i64 p, .int .i64 lp] (w.alloc preZ) fun en w' => en = .returned (.tuple #[]) ∧ w' = w.alloc (preO ix s)))
    (HS1 : Hid (∀ W, PreAt W w.heap.size ⟨(rowOf ix).1, (rowOf ix).2, s⟩ → Calls Tryz.prog 79 #[.int .u64 (mn : Int), .pointer (some ⟨w.heap.size, 0, none⟩)] W fun en w' => en = .returned (.int .u64 a1) ∧ ∃ n, w' = W.drewN n))
    (HN1 : Hid (∀ W, Calls Tryz.prog 80 #[.int .u64 a1, .int .i64 (od : Int)] W fun en w' => en = .returned (.int .u64 b1) ∧ W = w'))
    (HC1 : Hid (∀ W, Calls Tryz.prog 81 #[.int .u64 b1] W fun en w' => en = .returned (.int .u64 L) ∧ W = w'))
    (HS2 : Hid (∀ W, PreAt W w.heap.size ⟨(rowOf ix).1, (rowOf ix).2, s⟩ → Calls Tryz.prog 79 #[.int .u64 (mx : Int), .pointer (some ⟨w.heap.size, 0, none⟩)] W fun en w' => en = .returned (.int .u64 a2) ∧ ∃ n, w' = W.drewN n))
    (HN2 : Hid (∀ W, Calls Tryz.prog 80 #[.int .u64 a2, .int .i64 (-(od : Int))] W fun en w' => en = .returned (.int .u64 b2) ∧ W = w'))
    (HF2 : Hid (∀ W, Calls Tryz.prog 82 #[.int .u64 b2] W fun en w' => en = .returned (.int .u64 H) ∧ W = w'))
    (HS3 : Hid (∀ W, PreAt W w.heap.size ⟨(rowOf ix).1, (rowOf ix).2, s⟩ → Calls Tryz.prog 79 #[.int .u64 (m : Int), .pointer (some ⟨w.heap.size, 0, none⟩)] W fun en w' => en = .returned (.int .u64 a3) ∧ ∃ n, w' = W.drewN n))
    (HR3 : Hid (∀ W, Calls Tryz.prog 83 #[.int .u64 a3] W fun en w' => en = .returned (.int .u64 R) ∧ W = w'))
    (HZ : Hid ((L ≤ H / 10 * 10 ∧ D = H / 10 ∧ E = -(p - 1)) ∨ (H / 10 * 10 < L ∧ L < H ∧ D = R ∧ E = -p) ∨ (H / 10 * 10 < L ∧ H ≤ L ∧ D = L ∧ E = -p))) :
    Calls Tryz.prog 66 #[.int .u64 (m : Int), .int .i64 e] w fun en w' => en = .returned (.tuple #[.int .u64 D, .int .i64 E]) ∧ Below w.heap.size w w' := by
  go_enter Tryz.func66, Tryz.ntmps66
  go_wp2_with fail
  refine (skewed_any _ (by omega) (by omega) _).mono ?_
  rintro en w1 ⟨rfl, rfl⟩
  go_wp2_with fail
  refine (HLG.out _).mono ?_
  rintro en w1 ⟨rfl, rfl⟩
  go_wp2_with fail
  refine (HPS.out).mono ?_
  rintro en w1 ⟨rfl, rfl⟩
  go_wp2_with fail
  refine (HS1.out _ (pre_new _ _ _ 0)).mono ?_
  rintro en w1 ⟨rfl, n1, rfl⟩
  go_wp2_with fail
  refine (HN1.out _).mono ?_
  rintro en w1 ⟨rfl, rfl⟩
  go_wp2_with fail
  refine (HC1.out _).mono ?_
  rintro en w1 ⟨rfl, rfl⟩
  go_wp2_with fail
  refine (HS2.out _ (pre_new _ _ _ _)).mono ?_
  rintro en w1 ⟨rfl, n2, rfl⟩
  go_wp2_with fail
  refine (HN2.out _).mono ?_
  rintro en w1 ⟨rfl, rfl⟩
  go_wp2_with fail
  refine (HF2.out _).mono ?_
  rintro en w1 ⟨rfl, rfl⟩
  rcases HZ.out with ⟨c1, hD, hE⟩ | ⟨c1, c2, hD, hE⟩ | ⟨c1, c2, hD, hE⟩
  · have HD := Lib.hid hD
    have HE := Lib.hid hE
    clear hD hE
    go_wp2_with fail
    go_ret2
    exact ⟨by rw [HD.out, HE.out]; rfl, bel_drawn ((Below.refl _ _).alloc (Nat.le_refl _) _) _⟩
  · have HD := Lib.hid hD
    have HE := Lib.hid hE
    clear hD hE
    go_wp2_with fail
    refine (HS3.out _ (pre_new _ _ _ _)).mono ?_
    rintro en w1 ⟨rfl, n3, rfl⟩
    go_wp2_with fail
    refine (HR3.out _).mono ?_
    rintro en w1 ⟨rfl, rfl⟩
    go_wp2_with fail
    go_ret2
    exact ⟨by rw [HD.out, HE.out]; rfl, bel_drawn ((Below.refl _ _).alloc (Nat.le_refl _) _) _⟩
  · have HD := Lib.hid hD
    have HE := Lib.hid hE
    clear hD hE
    go_wp2_with fail
    go_ret2
    exact ⟨by rw [HD.out, HE.out]; rfl, bel_drawn ((Below.refl _ _).alloc (Nat.le_refl _) _) _⟩
set_option maxRecDepth 100000 in
set_option maxHeartbeats 2000000 in
theorem short_b (m : Nat) (e p lp : Int) (mn mx od ix s : Nat) (a1 b1 L a2 b2 H a3 R D E : Int) (w : World) (h0 : 9223372036854775808 ≤ m) (h1 : m < 18446744073709551616) (he : -1137 ≤ e) (he2 : e ≤ 960)
    (hm : ((m : Int) == 9223372036854775808) = false ∨ e = -1085) (he3 : -1085 ≤ e) (r1 : -((e + 11) * 78913 / 262144) = p) (r2 : (m : Int) - 1024 = (mn : Int)) (r3 : IntKind.u64.wrap ((m : Int) + 1024) = (mx : Int)) (r4 : bits BinOp.and IntKind.i64 ((m : Int) / 2048) 1 = (od : Int))
    (hp1 : -400 ≤ p) (hp2 : p ≤ 400) (hl1 : -1400 ≤ lp) (hl2 : lp ≤ 1400) (ho : od ≤ 1) (hb2 : 0 ≤ b2) (hH0 : 0 ≤ H) (hH1 : H ≤ 4611686018427387904) (hL0 : 0 ≤ L) (hL1 : L ≤ 4611686018427387904)
    (HLG : Hid (∀ W, Calls Tryz.prog 78 #[.int .i64 p] W fun en w' => en = .returned (.int .i64 lp) ∧ W = w'))
    (HPS : Hid (Calls Tryz.prog 77 #[.pointer (some ⟨w.heap.size, 0, none⟩), .int .i64 e, .int .i64 p, .int .i64 lp] (w.alloc preZ) fun en w' => en = .returned (.tuple #[]) ∧ w' = w.alloc (preO ix s)))
    (HS1 : Hid (∀ W, PreAt W w.heap.size ⟨(rowOf ix).1, (rowOf ix).2, s⟩ → Calls Tryz.prog 79 #[.int .u64 (mn : Int), .pointer (some ⟨w.heap.size, 0, none⟩)] W fun en w' => en = .returned (.int .u64 a1) ∧ ∃ n, w' = W.drewN n))
    (HN1 : Hid (∀ W, Calls Tryz.prog 80 #[.int .u64 a1, .int .i64 (od : Int)] W fun en w' => en = .returned (.int .u64 b1) ∧ W = w'))
    (HC1 : Hid (∀ W, Calls Tryz.prog 81 #[.int .u64 b1] W fun en w' => en = .returned (.int .u64 L) ∧ W = w'))
    (HS2 : Hid (∀ W, PreAt W w.heap.size ⟨(rowOf ix).1, (rowOf ix).2, s⟩ → Calls Tryz.prog 79 #[.int .u64 (mx : Int), .pointer (some ⟨w.heap.size, 0, none⟩)] W fun en w' => en = .returned (.int .u64 a2) ∧ ∃ n, w' = W.drewN n))
    (HN2 : Hid (∀ W, Calls Tryz.prog 80 #[.int .u64 a2, .int .i64 (-(od : Int))] W fun en w' => en = .returned (.int .u64 b2) ∧ W = w'))
    (HF2 : Hid (∀ W, Calls Tryz.prog 82 #[.int .u64 b2] W fun en w' => en = .returned (.int .u64 H) ∧ W = w'))
    (HS3 : Hid (∀ W, PreAt W w.heap.size ⟨(rowOf ix).1, (rowOf ix).2, s⟩ → Calls Tryz.prog 79 #[.int .u64 (m : Int), .pointer (some ⟨w.heap.size, 0, none⟩)] W fun en w' => en = .returned (.int .u64 a3) ∧ ∃ n, w' = W.drewN n))
    (HR3 : Hid (∀ W, Calls Tryz.prog 83 #[.int .u64 a3] W fun en w' => en = .returned (.int .u64 R) ∧ W = w'))
    (HZ : Hid ((L ≤ H / 10 * 10 ∧ D = H / 10 ∧ E = -(p - 1)) ∨ (H / 10 * 10 < L ∧ L < H ∧ D = R ∧ E = -p) ∨ (H / 10 * 10 < L ∧ H ≤ L ∧ D = L ∧ E = -p))) :
    Calls Tryz.prog 66 #[.int .u64 (m : Int), .int .i64 e] w fun en w' => en = .returned (.tuple #[.int .u64 D, .int .i64 E]) ∧ Below w.heap.size w w' := by
  have hg : ((m : Int) == 9223372036854775808) = false ∨ (((m : Int) == 9223372036854775808) = true ∧ decide (-1085 < e) = false ∧ e ≤ -1085) := by
    rcases hm with h | h
    · exact .inl h
    · cases hq : ((m : Int) == 9223372036854775808) with
      | false => exact .inl rfl
      | true => exact .inr ⟨rfl, decide_eq_false (by omega), by omega⟩
  clear hm
  rcases hg with hg | ⟨hg, hg2, hg3⟩
  all_goals
    go_enter Tryz.func66, Tryz.ntmps66
    go_wp2_with fail
    refine (log10_any _ (by omega) (by omega) _).mono ?_
    rintro en w1 ⟨rfl, rfl⟩
    go_wp2_with fail
    refine (HLG.out _).mono ?_
    rintro en w1 ⟨rfl, rfl⟩
    go_wp2_with fail
    refine (HPS.out).mono ?_
    rintro en w1 ⟨rfl, rfl⟩
    go_wp2_with fail
    refine (HS1.out _ (pre_new _ _ _ 0)).mono ?_
    rintro en w1 ⟨rfl, n1, rfl⟩
    go_wp2_with fail
    refine (HN1.out _).mono ?_
    rintro en w1 ⟨rfl, rfl⟩
    go_wp2_with fail
    refine (HC1.out _).mono ?_
    rintro en w1 ⟨rfl, rfl⟩
    go_wp2_with fail
    refine (HS2.out _ (pre_new _ _ _ _)).mono ?_
    rintro en w1 ⟨rfl, n2, rfl⟩
    go_wp2_with fail
    refine (HN2.out _).mono ?_
    rintro en w1 ⟨rfl, rfl⟩
    go_wp2_with fail
    refine (HF2.out _).mono ?_
    rintro en w1 ⟨rfl, rfl⟩
    rcases HZ.out with ⟨c1, hD, hE⟩ | ⟨c1, c2, hD, hE⟩ | ⟨c1, c2, hD, hE⟩
    · have HD := Lib.hid hD
      have HE := Lib.hid hE
      clear hD hE
      go_wp2_with fail
      go_ret2
      exact ⟨by rw [HD.out, HE.out]; rfl, bel_drawn ((Below.refl _ _).alloc (Nat.le_refl _) _) _⟩
    · have HD := Lib.hid hD
      have HE := Lib.hid hE
      clear hD hE
      go_wp2_with fail
      refine (HS3.out _ (pre_new _ _ _ _)).mono ?_
      rintro en w1 ⟨rfl, n3, rfl⟩
      go_wp2_with fail
      refine (HR3.out _).mono ?_
      rintro en w1 ⟨rfl, rfl⟩
      go_wp2_with fail
      go_ret2
      exact ⟨by rw [HD.out, HE.out]; rfl, bel_drawn ((Below.refl _ _).alloc (Nat.le_refl _) _) _⟩
    · have HD := Lib.hid hD
      have HE := Lib.hid hE
      clear hD hE
      go_wp2_with fail
      go_ret2
      exact ⟨by rw [HD.out, HE.out]; rfl, bel_drawn ((Below.refl _ _).alloc (Nat.le_refl _) _) _⟩
set_option maxRecDepth 100000 in
set_option maxHeartbeats 2000000 in
theorem short_c (z y : Nat) (x : Int) (k q : Nat) (m : Nat) (e p lp : Int) (mn mx od ix s : Nat) (a1 b1 L a2 b2 H a3 R D E : Int) (w : World) (h0 : 9223372036854775808 ≤ m) (h1 : m < 18446744073709551616) (he : -1137 ≤ e) (he2 : e ≤ 960)
    (he3 : e < -1085) (hx1 : -1100 ≤ x) (hx2 : x ≤ 1000) (hy : y ≤ 62) (hz : y + 1 = z) (hk : k ≤ 4611686018427387904) (hq : q < 9223372036854775808) (r0 : 11 + (-1085 - e) = (z : Int)) (rx : e + (z : Int) = x) (ry : (z : Int) - 1 = (y : Int)) (rk : (2 : Int) ^ y = (k : Int)) (rq : (m : Int) / 2 ^ z = (q : Int))
    (r1 : -(x * 78913 / 262144) = p) (r2 : (m : Int) - (k : Int) = (mn : Int)) (r3 : IntKind.u64.wrap ((m : Int) + (k : Int)) = (mx : Int)) (r4 : bits BinOp.and IntKind.i64 (q : Int) 1 = (od : Int))
    (hp1 : -400 ≤ p) (hp2 : p ≤ 400) (hl1 : -1400 ≤ lp) (hl2 : lp ≤ 1400) (ho : od ≤ 1) (hb2 : 0 ≤ b2) (hH0 : 0 ≤ H) (hH1 : H ≤ 4611686018427387904) (hL0 : 0 ≤ L) (hL1 : L ≤ 4611686018427387904)
    (HLG : Hid (∀ W, Calls Tryz.prog 78 #[.int .i64 p] W fun en w' => en = .returned (.int .i64 lp) ∧ W = w'))
    (HPS : Hid (Calls Tryz.prog 77 #[.pointer (some ⟨w.heap.size, 0, none⟩), .int .i64 e, .int .i64 p, .int .i64 lp] (w.alloc preZ) fun en w' => en = .returned (.tuple #[]) ∧ w' = w.alloc (preO ix s)))
    (HS1 : Hid (∀ W, PreAt W w.heap.size ⟨(rowOf ix).1, (rowOf ix).2, s⟩ → Calls Tryz.prog 79 #[.int .u64 (mn : Int), .pointer (some ⟨w.heap.size, 0, none⟩)] W fun en w' => en = .returned (.int .u64 a1) ∧ ∃ n, w' = W.drewN n))
    (HN1 : Hid (∀ W, Calls Tryz.prog 80 #[.int .u64 a1, .int .i64 (od : Int)] W fun en w' => en = .returned (.int .u64 b1) ∧ W = w'))
    (HC1 : Hid (∀ W, Calls Tryz.prog 81 #[.int .u64 b1] W fun en w' => en = .returned (.int .u64 L) ∧ W = w'))
    (HS2 : Hid (∀ W, PreAt W w.heap.size ⟨(rowOf ix).1, (rowOf ix).2, s⟩ → Calls Tryz.prog 79 #[.int .u64 (mx : Int), .pointer (some ⟨w.heap.size, 0, none⟩)] W fun en w' => en = .returned (.int .u64 a2) ∧ ∃ n, w' = W.drewN n))
    (HN2 : Hid (∀ W, Calls Tryz.prog 80 #[.int .u64 a2, .int .i64 (-(od : Int))] W fun en w' => en = .returned (.int .u64 b2) ∧ W = w'))
    (HF2 : Hid (∀ W, Calls Tryz.prog 82 #[.int .u64 b2] W fun en w' => en = .returned (.int .u64 H) ∧ W = w'))
    (HS3 : Hid (∀ W, PreAt W w.heap.size ⟨(rowOf ix).1, (rowOf ix).2, s⟩ → Calls Tryz.prog 79 #[.int .u64 (m : Int), .pointer (some ⟨w.heap.size, 0, none⟩)] W fun en w' => en = .returned (.int .u64 a3) ∧ ∃ n, w' = W.drewN n))
    (HR3 : Hid (∀ W, Calls Tryz.prog 83 #[.int .u64 a3] W fun en w' => en = .returned (.int .u64 R) ∧ W = w'))
    (HZ : Hid ((L ≤ H / 10 * 10 ∧ D = H / 10 ∧ E = -(p - 1)) ∨ (H / 10 * 10 < L ∧ L < H ∧ D = R ∧ E = -p) ∨ (H / 10 * 10 < L ∧ H ≤ L ∧ D = L ∧ E = -p))) :
    Calls Tryz.prog 66 #[.int .u64 (m : Int), .int .i64 e] w fun en w' => en = .returned (.tuple #[.int .u64 D, .int .i64 E]) ∧ Below w.heap.size w w' := by
  have hg : ((m : Int) == 9223372036854775808) = false ∨ (((m : Int) == 9223372036854775808) = true ∧ decide (-1085 < e) = false ∧ e ≤ -1085) := by
    cases hq : ((m : Int) == 9223372036854775808) with
    | false => exact .inl rfl
    | true => exact .inr ⟨rfl, decide_eq_false (by omega), by omega⟩
  rcases hg with hg | ⟨hg, hg2, hg3⟩
  all_goals
    go_enter Tryz.func66, Tryz.ntmps66
    go_wp2_with fail
    refine (log10_any _ (by omega) (by omega) _).mono ?_
    rintro en w1 ⟨rfl, rfl⟩
    go_wp2_with fail
    refine (HLG.out _).mono ?_
    rintro en w1 ⟨rfl, rfl⟩
    go_wp2_with fail
    refine (HPS.out).mono ?_
    rintro en w1 ⟨rfl, rfl⟩
    go_wp2_with fail
    refine (HS1.out _ (pre_new _ _ _ 0)).mono ?_
    rintro en w1 ⟨rfl, n1, rfl⟩
    go_wp2_with fail
    refine (HN1.out _).mono ?_
    rintro en w1 ⟨rfl, rfl⟩
    go_wp2_with fail
    refine (HC1.out _).mono ?_
    rintro en w1 ⟨rfl, rfl⟩
    go_wp2_with fail
    refine (HS2.out _ (pre_new _ _ _ _)).mono ?_
    rintro en w1 ⟨rfl, n2, rfl⟩
    go_wp2_with fail
    refine (HN2.out _).mono ?_
    rintro en w1 ⟨rfl, rfl⟩
    go_wp2_with fail
    refine (HF2.out _).mono ?_
    rintro en w1 ⟨rfl, rfl⟩
    rcases HZ.out with ⟨c1, hD, hE⟩ | ⟨c1, c2, hD, hE⟩ | ⟨c1, c2, hD, hE⟩
    · have HD := Lib.hid hD
      have HE := Lib.hid hE
      clear hD hE
      go_wp2_with fail
      go_ret2
      exact ⟨by rw [HD.out, HE.out]; rfl, bel_drawn ((Below.refl _ _).alloc (Nat.le_refl _) _) _⟩
    · have HD := Lib.hid hD
      have HE := Lib.hid hE
      clear hD hE
      go_wp2_with fail
      refine (HS3.out _ (pre_new _ _ _ _)).mono ?_
      rintro en w1 ⟨rfl, n3, rfl⟩
      go_wp2_with fail
      refine (HR3.out _).mono ?_
      rintro en w1 ⟨rfl, rfl⟩
      go_wp2_with fail
      go_ret2
      exact ⟨by rw [HD.out, HE.out]; rfl, bel_drawn ((Below.refl _ _).alloc (Nat.le_refl _) _) _⟩
    · have HD := Lib.hid hD
      have HE := Lib.hid hE
      clear hD hE
      go_wp2_with fail
      go_ret2
      exact ⟨by rw [HD.out, HE.out]; rfl, bel_drawn ((Below.refl _ _).alloc (Nat.le_refl _) _) _⟩
end Go.Proofs.YtofndhmnofghaaaGreatDoor

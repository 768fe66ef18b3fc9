import Derived.Test.YtaggmakaceafgaaGreatDoorB4
import Derived.Deep.DeepCutAuto
import Derived.Laws.BitsLemmas
namespace Go.Proofs.YtaggmakaceafgaaGreatDoor
open Go.RowKit Ieee
set_option linter.unusedVariables false

/-! a number and a power of ten, as a float -/
theorem bel_drawn {B : Nat} {w w' : World} (h : Below B w w') (n : Nat) : Below B w (w'.drewN n) := ⟨h.os, h.tape, h.output, h.size, h.block⟩
theorem P10.below {w w' : World} {B : Nat} (h : P10 w) (hB : 15 ≤ B) (hb : Below B w w') : P10 w' := fun i hi =>
  ⟨(hb.cell (p := ⟨14, i * 2, none⟩) (by show 14 < B; omega)).trans (h i hi).1, (hb.cell (p := ⟨14, i * 2 + 1, none⟩) (by show 14 < B; omega)).trans (h i hi).2⟩
abbrev preZ : Obj := .cells #[.int .u64 0, .int .u64 0, .int .i64 0] 183
abbrev preO (ix s : Nat) : Obj := .cells #[.int .u64 (rowOf ix).1, .int .u64 (rowOf ix).2, .int .i64 s] 183
theorem prescale_new (e p lp : Int) (ix s : Nat) (w : World) (hi1 : p - -348 = (ix : Int)) (hi2 : ix < 696) (he : -2000 ≤ e) (he2 : e ≤ 2000) (hl : -2000 ≤ lp) (hl2 : lp ≤ 2000)
    (hT : P10 w) (h16 : 16 ≤ w.heap.size) (hs : -(e + lp + 3) = (s : Int)) :
    Calls Tryz.prog 116 #[.pointer (some ⟨w.heap.size, 0, none⟩), .int .i64 e, .int .i64 p, .int .i64 lp] (w.alloc preZ) fun en w' => en = .returned (.tuple #[]) ∧ w' = w.alloc (preO ix s) := by
  refine (prescale_any e p lp ix w.heap.size s _ _ _ 183 (w.alloc preZ) hi1 hi2 he he2 hl hl2 (hT.below (B := 16) (by omega) ((Below.refl 16 w).alloc h16 _)) hs (by omega) (Blk.new w 183 _)).mono ?_
  rintro en w' ⟨rfl, rfl⟩
  refine ⟨rfl, ?_⟩
  rw [World.setCell_alloc_at _ _ _ _ _ rfl, World.setCell_alloc_at _ _ _ _ _ rfl, World.setCell_alloc_at _ _ _ _ _ rfl]
  rfl
theorem pre_new (w : World) (ix s : Nat) (n : Nat) : PreAt ((w.alloc (preO ix s)).drewN n) w.heap.size ⟨(rowOf ix).1, (rowOf ix).2, s⟩ :=
  ⟨(Blk.new w 183 _).cell 0, (Blk.new w 183 _).cell 1, (Blk.new w 183 _).cell 2⟩
def PfP (w : World) (e : Ending) (w' : World) : Prop := (∃ (b : Nat) (er : Value), e = .returned (.tuple #[.float .f64 b, er]) ∧ Err er) ∧ Below w.heap.size w w'
set_option maxRecDepth 100000 in
set_option maxHeartbeats 2000000 in
theorem parse_walk (d b sg : Nat) (p lp : Int) (ix s : Nat) (x a u2 R m : Nat) (t : Nat) (w : World) (hb1 : 1 ≤ b) (hb2 : b ≤ 64) (hp1 : -345 ≤ p) (hp2 : p ≤ 310) (hl1 : -1200 ≤ lp) (hl2 : lp ≤ 1100) (hs1 : s ≤ 200)
    (hd : d < 18446744073709551616) (hsg : sg < 18446744073709551616)
    (hx : IntKind.u64.wrap ((d : Int) * 2 ^ (64 - b)) = (x : Int)) (ha1 : a < 18446744073709551616) (ht : t ≤ 1) (hu2 : bits BinOp.or IntKind.u64 ((a : Int) / 2 ^ t) (bits BinOp.and IntKind.u64 (a : Int) 1) = (u2 : Int))
    (hR : bits BinOp.or IntKind.u64 (sg : Int) (R : Int) = (m : Int))
    (HB : Hid (∀ W, Calls Tryz.prog 114 #[.int .u64 (d : Int)] W fun en w' => en = .returned (.int .i64 (b : Int)) ∧ W = w'))
    (HLG : Hid (∀ W, Calls Tryz.prog 115 #[.int .i64 p] W fun en w' => en = .returned (.int .i64 lp) ∧ W = w'))
    (HPS : Hid (Calls Tryz.prog 116 #[.pointer (some ⟨w.heap.size, 0, none⟩), .int .i64 (min 1074 (53 - (b : Int) - lp) - (64 - (b : Int))), .int .i64 p, .int .i64 lp] (w.alloc preZ) fun en w' => en = .returned (.tuple #[]) ∧ w' = w.alloc (preO ix s)))
    (HS : Hid (s < 64 → ∀ W, PreAt W w.heap.size ⟨(rowOf ix).1, (rowOf ix).2, s⟩ → Calls Tryz.prog 117 #[.int .u64 (x : Int), .pointer (some ⟨w.heap.size, 0, none⟩)] W fun en w' => en = .returned (.int .u64 (a : Int)) ∧ ∃ n, w' = W.drewN n))
    (HU : Hid (∀ W, Calls Tryz.prog 119 #[.int .u64 9007199254740992] W fun e w' => e = .returned (.int .u64 36028797018963966) ∧ W = w'))
    (HT : Hid (∀ W, Calls Tryz.prog 118 #[.bool (decide (36028797018963966 ≤ (a : Int)))] W fun e w' => e = .returned (.int .i64 (t : Int)) ∧ W = w'))
    (HR : Hid (∀ W, Calls Tryz.prog 121 #[.int .u64 (u2 : Int)] W fun en w' => en = .returned (.int .u64 (R : Int)) ∧ W = w'))
    (HPK : Hid (∀ W x, -1100 ≤ x → x ≤ 4000 → Calls Tryz.prog 124 #[.int .u64 (m : Int), .int .i64 x] W (PkP W))) :
    Calls Tryz.prog 107 #[.int .u64 (d : Int), .int .i64 p, .int .u64 (sg : Int)] w (PfP w) := by
  have HF := Lib.hid fun (n : Nat) w => frombits n w
  by_cases h64 : 64 ≤ s
  · obtain ⟨z, hz⟩ : ∃ z, bits BinOp.or IntKind.u64 (sg : Int) 0 = z := ⟨_, rfl⟩
    have z0 : 0 ≤ z := by rw [← hz]; exact bits_lo_u64 _ _ _
    obtain ⟨zn, rfl⟩ : ∃ n : Nat, z = (n : Int) := ⟨z.toNat, by omega⟩
    have HF2 := HF.out
    have h64i : (64 : Int) ≤ (s : Int) := by omega
    clear hx hu2 hR
    go_enter Tryz.func107, Tryz.ntmps107
    go_wp2_with fail
    refine (HB.out _).mono ?_
    rintro en w1 ⟨rfl, rfl⟩
    go_wp2_with fail
    refine (HLG.out _).mono ?_
    rintro en w1 ⟨rfl, rfl⟩
    go_wp2_with fail
    refine (HPS.out).mono ?_
    rintro en w1 ⟨rfl, rfl⟩
    go_wp2_with fail
    refine bodyPost_ret (results_tmp2 rfl _ _ _) rfl ?_
    exact ⟨⟨_, _, rfl, .inl rfl⟩, (Below.refl _ _).alloc (Nat.le_refl _) _⟩
  · have HS2 := Lib.hid (HS.out (by omega))
    have h64i : (s : Int) < 64 := by omega
    have hsh : (0 : Int) ≤ 64 - (b : Int) := by omega
    have hshn : (64 - (b : Int)).toNat = 64 - b := by omega
    have hti : (t : Int) ≤ 1 := by omega
    go_enter Tryz.func107, Tryz.ntmps107
    go_wp2_with fail
    refine (HB.out _).mono ?_
    rintro en w1 ⟨rfl, rfl⟩
    go_wp2_with fail
    refine (HLG.out _).mono ?_
    rintro en w1 ⟨rfl, rfl⟩
    go_wp2_with fail
    refine (HPS.out).mono ?_
    rintro en w1 ⟨rfl, rfl⟩
    go_wp2_with fail
    refine (HS2.out _ (pre_new _ _ _ 0)).mono ?_
    rintro en w1 ⟨rfl, n1, rfl⟩
    go_wp2_with fail
    refine (HU.out _).mono ?_
    rintro en w1 ⟨rfl, rfl⟩
    go_wp2_with fail
    refine (HT.out _).mono ?_
    rintro en w1 ⟨rfl, rfl⟩
    go_wp2_with fail
    refine (HR.out _).mono ?_
    rintro en w1 ⟨rfl, rfl⟩
    go_wp2_with fail
    refine (HPK.out _ _ (by omega) (by omega)).mono ?_
    rintro en w1 ⟨⟨b, er, rfl, her⟩, rfl⟩
    go_wp2_with fail
    refine bodyPost_ret (results_tmp2 rfl _ _ _) rfl ?_
    exact ⟨⟨_, _, rfl, her⟩, bel_drawn ((Below.refl _ _).alloc (Nat.le_refl _) _) _⟩
theorem blen (d : Nat) (h0 : 1 ≤ d) (h : d < 18446744073709551616) : 1 ≤ Lib.bitLen d ∧ Lib.bitLen d ≤ 64 := by
  refine ⟨?_, Lib.bitLen_le d 64 (by omega) (by omega)⟩
  unfold Lib.bitLen Lib.bitLenAux
  split <;> omega
theorem parse64_any (d sg : Nat) (p : Int) (w : World) (h1 : 1 ≤ d) (hd : d < 18446744073709551616) (hsg : sg < 18446744073709551616) (hp1 : -345 ≤ p) (hp2 : p ≤ 310) (hT : P10 w) (h16 : 16 ≤ w.heap.size) :
    Calls Tryz.prog 107 #[.int .u64 (d : Int), .int .i64 p, .int .u64 (sg : Int)] w (PfP w) := by
  obtain ⟨hb1, hb2⟩ := blen d h1 hd
  obtain ⟨b, hb⟩ : ∃ b, Lib.bitLen d = b := ⟨_, rfl⟩
  have HB := Lib.hid (fun W => (Tryz.bits_Len64 (d : Int) W (by omega) (by omega)).mono (R' := fun en w' => en = .returned (.int .i64 (b : Int)) ∧ W = w') fun e w' h => ⟨by rw [h.1, Int.toNat_natCast, hb], h.2.symm⟩)
  rw [hb] at hb1 hb2
  have HLG := Lib.hid (fun W => log2_any p (by omega) (by omega) W)
  obtain ⟨lp, hlp⟩ : ∃ lp, p * 108853 / 32768 = lp := ⟨_, rfl⟩
  have l1 : -1200 ≤ lp := by omega
  have l2 : lp ≤ 1100 := by omega
  rw [hlp] at HLG
  clear hlp
  obtain ⟨s, hs⟩ : ∃ s : Nat, -(min 1074 (53 - (b : Int) - lp) - (64 - (b : Int)) + lp + 3) = (s : Int) := ⟨(-(min 1074 (53 - (b : Int) - lp) - (64 - (b : Int)) + lp + 3)).toNat, by omega⟩
  obtain ⟨ix, hix⟩ : ∃ ix : Nat, p - -348 = (ix : Int) := ⟨(p - -348).toNat, by omega⟩
  have HPS := Lib.hid (prescale_new (min 1074 (53 - (b : Int) - lp) - (64 - (b : Int))) p lp ix s w hix (by omega) (by omega) (by omega) (by omega) (by omega) hT h16 hs)
  obtain ⟨x, hx⟩ : ∃ x : Nat, IntKind.u64.wrap ((d : Int) * 2 ^ (64 - b)) = (x : Int) := ⟨(IntKind.u64.wrap ((d : Int) * 2 ^ (64 - b))).toNat, by have := (u64_in ((d : Int) * 2 ^ (64 - b))).1; omega⟩
  have hx1 : x < 18446744073709551616 := by have := (u64_in ((d : Int) * 2 ^ (64 - b))).2; omega
  have hscl := scl_in ((x * (rowOf ix).1 / 18446744073709551616 : Nat) : Int) ((x * (rowOf ix).1 % 18446744073709551616 : Nat) : Int) ((x * (rowOf ix).2 / 18446744073709551616 : Nat) : Int) s
  obtain ⟨a, ha⟩ : ∃ a : Nat, scale x ⟨(rowOf ix).1, (rowOf ix).2, s⟩ = (a : Int) := ⟨(scale x ⟨(rowOf ix).1, (rowOf ix).2, s⟩).toNat, by have : 0 ≤ scale x ⟨(rowOf ix).1, (rowOf ix).2, s⟩ := hscl.1; omega⟩
  have ha1 : a < 18446744073709551616 := by have : scale x ⟨(rowOf ix).1, (rowOf ix).2, s⟩ ≤ 18446744073709551615 := hscl.2; omega
  have HS := Lib.hid (fun (h64 : s < 64) W (hW : PreAt W w.heap.size ⟨(rowOf ix).1, (rowOf ix).2, s⟩) => scale_any x ⟨(rowOf ix).1, (rowOf ix).2, s⟩ w.heap.size W hx1 ⟨(row_in ix).1, (row_in ix).2, show s ≤ 63 by omega⟩ hW)
  rw [ha] at HS
  obtain ⟨t, ht⟩ : ∃ t : Nat, (if decide (36028797018963966 ≤ (a : Int)) = true then (1 : Int) else 0) = (t : Int) ∧ t ≤ 1 := by
    cases decide (36028797018963966 ≤ (a : Int))
    · exact ⟨0, rfl, by omega⟩
    · exact ⟨1, rfl, by omega⟩
  have HT := Lib.hid (fun W => (Tryz.internal_strconv_bool2_int (decide (36028797018963966 ≤ (a : Int))) W).mono (R' := fun e w' => e = .returned (.int .i64 (t : Int)) ∧ W = w') fun e w' h => ⟨by rw [h.1, ← ht.1], h.2.symm⟩)
  obtain ⟨u2, hu2⟩ : ∃ u2 : Nat, bits BinOp.or IntKind.u64 ((a : Int) / 2 ^ t) (bits BinOp.and IntKind.u64 (a : Int) 1) = (u2 : Int) := ⟨(bits BinOp.or IntKind.u64 ((a : Int) / 2 ^ t) (bits BinOp.and IntKind.u64 (a : Int) 1)).toNat, by have := bits_lo_u64 BinOp.or ((a : Int) / 2 ^ t) (bits BinOp.and IntKind.u64 (a : Int) 1); omega⟩
  have hu3 : (u2 : Int) ≤ 18446744073709551615 := by rw [← hu2]; exact bits_hi_u64 _ _ _
  have HR := Lib.hid (fun W => round_any (u2 : Int) (by omega) hu3 W)
  obtain ⟨R, hR⟩ : ∃ R : Nat, roundF (u2 : Int) = (R : Int) := ⟨(roundF (u2 : Int)).toNat, by
    have : 0 ≤ roundF (u2 : Int) := by unfold roundF; have := (u64_in (IntKind.u64.wrap ((u2 : Int) + 1) + bits BinOp.and IntKind.u64 ((u2 : Int) / 4) 1)).1; omega
    omega⟩
  rw [hR] at HR
  obtain ⟨m, hm⟩ : ∃ m : Nat, bits BinOp.or IntKind.u64 (sg : Int) (R : Int) = (m : Int) := ⟨(bits BinOp.or IntKind.u64 (sg : Int) (R : Int)).toNat, by have := bits_lo_u64 BinOp.or (sg : Int) (R : Int); omega⟩
  have hm1 : m < 18446744073709551616 := by have := bits_hi_u64 BinOp.or (sg : Int) (R : Int); omega
  exact parse_walk d b sg p lp ix s x a u2 R m t w hb1 hb2 hp1 hp2 l1 l2 (by omega) hd hsg hx ha1 ht.2 hu2 hm HB HLG HPS HS (Lib.hid unmin_any) HT HR (Lib.hid fun W x h1 h2 => pack_any m x W hm1 h1 h2)
end Go.Proofs.YtaggmakaceafgaaGreatDoor

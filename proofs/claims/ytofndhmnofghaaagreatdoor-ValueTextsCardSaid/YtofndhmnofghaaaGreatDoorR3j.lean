/- A whole number times a power of ten as a float: what the fast way reckons, as a function. No condition. -/
import Derived.Test.YtofndhmnofghaaaGreatDoorA3j
import Derived.Deep.DeepCutAuto
import Derived.Laws.BitsLemmas
import Derived.Test.YtofndhmnofghaaaGreatDoorA4j
namespace Go.Proofs.YtofndhmnofghaaaGreatDoor.Rd
open Go.RowKit Ieee
set_option linter.unusedVariables false

theorem frombits (n : Nat) (w : World) : (callFunc 104 #[.int .u64 (n : Int)]).run Tryz.prog w = .ok (.value (.float .f64 n)) w := by kernel_rfl
theorem unmin_any (w : World) : Calls Tryz.prog 86 #[.int .u64 9007199254740992] w fun e w' => e = .returned (.int .u64 36028797018963966) ∧ w = w' := by
  go_enter Tryz.func86, Tryz.ntmps86
  go_wp2
  go_ret
  exact ⟨rfl, rfl⟩
/-- no error, or one -/
def Err (v : Value) : Prop := v = .nilIface ∨ v = .iface 72 (.int .i64 1)
/-- a float's word out of its mantissa, its sign and its power -/
def pkB (m : Nat) (x : Int) : Nat := if bits BinOp.and IntKind.u64 (m : Int) 4503599627370496 = 0 then m else if 972 ≤ x then (bits BinOp.or IntKind.u64 (bits BinOp.and IntKind.u64 (m : Int) 9223372036854775808) 9218868437227405312).toNat
  else (bits BinOp.or IntKind.u64 (bits BinOp.andNot IntKind.u64 (m : Int) 4503599627370496) (IntKind.u64.wrap (IntKind.u64.wrap (1075 + x) * 4503599627370496))).toNat
def PkP (m : Nat) (x : Int) (w : World) (e : Ending) (w' : World) : Prop := (∃ er : Value, e = .returned (.tuple #[.float .f64 (pkB m x), er]) ∧ Err er) ∧ w = w'
theorem results_tmp2 {fn : Func} {a b : Tmp} (h : fn.results = #[.tmp a, .tmp b]) (tmps : Array Value) (P : Program) (w : World) :
    (results fn tmps).run P w = .ok (.tuple #[tmps.getD a undef, tmps.getD b undef]) w := by
  simp [results, h]
theorem pack_any (m : Nat) (x : Int) (w : World) (hm : m < 18446744073709551616) (h1 : -1100 ≤ x) (h2 : x ≤ 4000) : Calls Tryz.prog 119 #[.int .u64 (m : Int), .int .i64 x] w (PkP m x w) := by
  have HF := fun (n : Nat) w => frombits n w
  by_cases h0 : bits BinOp.and IntKind.u64 (m : Int) 4503599627370496 = 0
  · have hk : pkB m x = m := by unfold pkB; rw [if_pos h0]
    have h0t : (bits BinOp.and IntKind.u64 (m : Int) 4503599627370496 == 0) = true := beq_iff_eq.2 h0
    clear h0
    go_enter Tryz.func119, Tryz.ntmps119
    go_wp2
    refine bodyPost_ret (results_tmp2 rfl _ _ _) rfl ?_
    exact ⟨⟨_, by rw [hk]; rfl, .inl rfl⟩, rfl⟩
  · have hk : pkB m x = if 972 ≤ x then (bits BinOp.or IntKind.u64 (bits BinOp.and IntKind.u64 (m : Int) 9223372036854775808) 9218868437227405312).toNat else (bits BinOp.or IntKind.u64 (bits BinOp.andNot IntKind.u64 (m : Int) 4503599627370496) (IntKind.u64.wrap (IntKind.u64.wrap (1075 + x) * 4503599627370496))).toNat := by unfold pkB; rw [if_neg h0]
    have h0f : (bits BinOp.and IntKind.u64 (m : Int) 4503599627370496 == 0) = false := beq_eq_false_iff_ne.2 h0
    clear h0
    by_cases h3 : 972 ≤ x
    · obtain ⟨z, hz⟩ : ∃ z, bits BinOp.or IntKind.u64 (bits BinOp.and IntKind.u64 (m : Int) 9223372036854775808) 9218868437227405312 = z := ⟨_, rfl⟩
      have z0 : 0 ≤ z := by rw [← hz]; exact bits_lo_u64 _ _ _
      rw [if_pos h3, hz] at hk
      obtain ⟨n, rfl⟩ : ∃ n : Nat, z = (n : Int) := ⟨z.toNat, by omega⟩
      rw [Int.toNat_natCast] at hk
      go_enter Tryz.func119, Tryz.ntmps119
      go_wp2
      refine bodyPost_ret (results_tmp2 rfl _ _ _) rfl ?_
      exact ⟨⟨_, by rw [hk]; rfl, .inr rfl⟩, rfl⟩
    · obtain ⟨z, hz⟩ : ∃ z, bits BinOp.or IntKind.u64 (bits BinOp.andNot IntKind.u64 (m : Int) 4503599627370496) (IntKind.u64.wrap (IntKind.u64.wrap (1075 + x) * 4503599627370496)) = z := ⟨_, rfl⟩
      have z0 : 0 ≤ z := by rw [← hz]; exact bits_lo_u64 _ _ _
      rw [if_neg h3, hz] at hk
      obtain ⟨n, rfl⟩ : ∃ n : Nat, z = (n : Int) := ⟨z.toNat, by omega⟩
      rw [Int.toNat_natCast] at hk
      have h3f : decide (972 ≤ x) = false := decide_eq_false h3
      go_enter Tryz.func119, Tryz.ntmps119
      go_wp2
      refine bodyPost_ret (results_tmp2 rfl _ _ _) rfl ?_
      exact ⟨⟨_, by rw [hk]; rfl, .inl rfl⟩, rfl⟩
/-- what the fast way reckons -/
def pfS (b : Nat) (lp : Int) : Nat := (-(min 1074 (53 - (b : Int) - lp) - (64 - (b : Int)) + lp + 3)).toNat
def PfP (r : Nat) (w : World) (e : Ending) (w' : World) : Prop := (∃ er : Value, e = .returned (.tuple #[.float .f64 r, er]) ∧ Err er) ∧ Below w.heap.size w w'
set_option maxRecDepth 100000 in
set_option maxHeartbeats 2000000 in
theorem parse_walk (d b sg : Nat) (p lp : Int) (ix s : Nat) (x a u2 R m : Nat) (t : Nat) (w : World) (hb1 : 1 ≤ b) (hb2 : b ≤ 64) (hp1 : -345 ≤ p) (hp2 : p ≤ 310) (hl1 : -1200 ≤ lp) (hl2 : lp ≤ 1100) (hs1 : s ≤ 200)
    (hd : d < 18446744073709551616) (hsg : sg < 18446744073709551616)
    (hx : IntKind.u64.wrap ((d : Int) * 2 ^ (64 - b)) = (x : Int)) (ha1 : a < 18446744073709551616) (ht : t ≤ 1) (hu2 : bits BinOp.or IntKind.u64 ((a : Int) / 2 ^ t) (bits BinOp.and IntKind.u64 (a : Int) 1) = (u2 : Int))
    (hR : bits BinOp.or IntKind.u64 (sg : Int) (R : Int) = (m : Int))
    (HB : Hid (∀ W, Calls Tryz.prog 57 #[.int .u64 (d : Int)] W fun en w' => en = .returned (.int .i64 (b : Int)) ∧ W = w'))
    (HLG : Hid (∀ W, Calls Tryz.prog 78 #[.int .i64 p] W fun en w' => en = .returned (.int .i64 lp) ∧ W = w'))
    (HPS : Hid (Calls Tryz.prog 77 #[.pointer (some ⟨w.heap.size, 0, none⟩), .int .i64 (min 1074 (53 - (b : Int) - lp) - (64 - (b : Int))), .int .i64 p, .int .i64 lp] (w.alloc preZ) fun en w' => en = .returned (.tuple #[]) ∧ w' = w.alloc (preO ix s)))
    (HS : Hid (s < 64 → ∀ W, PreAt W w.heap.size ⟨(rowOf ix).1, (rowOf ix).2, s⟩ → Calls Tryz.prog 79 #[.int .u64 (x : Int), .pointer (some ⟨w.heap.size, 0, none⟩)] W fun en w' => en = .returned (.int .u64 (a : Int)) ∧ ∃ n, w' = W.drewN n))
    (HU : Hid (∀ W, Calls Tryz.prog 86 #[.int .u64 9007199254740992] W fun e w' => e = .returned (.int .u64 36028797018963966) ∧ W = w'))
    (HT : Hid (∀ W, Calls Tryz.prog 85 #[.bool (decide (36028797018963966 ≤ (a : Int)))] W fun e w' => e = .returned (.int .i64 (t : Int)) ∧ W = w'))
    (HR : Hid (∀ W, Calls Tryz.prog 83 #[.int .u64 (u2 : Int)] W fun en w' => en = .returned (.int .u64 (R : Int)) ∧ W = w'))
    (HPK : Hid (∀ W x, -1100 ≤ x → x ≤ 4000 → Calls Tryz.prog 119 #[.int .u64 (m : Int), .int .i64 x] W (PkP m x W))) :
    Calls Tryz.prog 106 #[.int .u64 (d : Int), .int .i64 p, .int .u64 (sg : Int)] w (PfP (if 64 ≤ s then sg else pkB m (-(min 1074 (53 - (b : Int) - lp) - (t : Int)))) w) := by
  have HF := Lib.hid fun (n : Nat) w => frombits n w
  by_cases h64 : 64 ≤ s
  · obtain ⟨z, hz⟩ : ∃ z, bits BinOp.or IntKind.u64 (sg : Int) 0 = z := ⟨_, rfl⟩
    have z0 : 0 ≤ z := by rw [← hz]; exact bits_lo_u64 _ _ _
    obtain ⟨zn, rfl⟩ : ∃ n : Nat, z = (n : Int) := ⟨z.toNat, by omega⟩
    have hzz : (zn : Int) = (sg : Int) := by
      have := (bits_nat .u64 64 (by decide) (fun n a b => by simp [IntKind.wrap, IntKind.bits, IntKind.signed]; omega) sg 0 (by omega) (by omega)).2
      rw [← hz]; simpa using this
    have hzs : zn = sg := by omega
    subst hzs
    have HF2 := HF.out
    rw [if_pos h64]
    have h64i : (64 : Int) ≤ (s : Int) := by omega
    clear hx hu2 hR
    go_enter Tryz.func106, Tryz.ntmps106
    go_wp2_with fail
    refine (HB.out _).mono ?_
    rintro en w1 ⟨rfl, rfl⟩
    go_wp2_with fail
    refine (HLG.out _).mono ?_
    rintro en w1 ⟨rfl, rfl⟩
    go_wp2_with fail
    refine (HPS.out).mono ?_
    rintro en w1 ⟨rfl, rfl⟩
    go_wp2_with fail
    refine bodyPost_ret (results_tmp2 rfl _ _ _) rfl ?_
    exact ⟨⟨_, rfl, .inl rfl⟩, (Below.refl _ _).alloc (Nat.le_refl _) _⟩
  · have HS2 := Lib.hid (HS.out (by omega))
    have h64i : (s : Int) < 64 := by omega
    have hsh : (0 : Int) ≤ 64 - (b : Int) := by omega
    have hshn : (64 - (b : Int)).toNat = 64 - b := by omega
    have hti : (t : Int) ≤ 1 := by omega
    go_enter Tryz.func106, Tryz.ntmps106
    go_wp2_with fail
    refine (HB.out _).mono ?_
    rintro en w1 ⟨rfl, rfl⟩
    go_wp2_with fail
    refine (HLG.out _).mono ?_
    rintro en w1 ⟨rfl, rfl⟩
    go_wp2_with fail
    refine (HPS.out).mono ?_
    rintro en w1 ⟨rfl, rfl⟩
    go_wp2_with fail
    refine (HS2.out _ (pre_new _ _ _ 0)).mono ?_
    rintro en w1 ⟨rfl, n1, rfl⟩
    go_wp2_with fail
    refine (HU.out _).mono ?_
    rintro en w1 ⟨rfl, rfl⟩
    go_wp2_with fail
    refine (HT.out _).mono ?_
    rintro en w1 ⟨rfl, rfl⟩
    go_wp2_with fail
    refine (HR.out _).mono ?_
    rintro en w1 ⟨rfl, rfl⟩
    go_wp2_with fail
    refine (HPK.out _ _ (by omega) (by omega)).mono ?_
    rintro en w1 ⟨⟨er, rfl, her⟩, rfl⟩
    go_wp2_with fail
    refine bodyPost_ret (results_tmp2 rfl _ _ _) rfl ?_
    exact ⟨⟨_, rfl, her⟩, bel_drawn ((Below.refl _ _).alloc (Nat.le_refl _) _) _⟩
end Go.Proofs.YtofndhmnofghaaaGreatDoor.Rd

namespace Go.Proofs.YtofndhmnofghaaaGreatDoor.Rd
open Go.RowKit Ieee
set_option linter.unusedVariables false

def pfX (d : Nat) : Nat := (IntKind.u64.wrap ((d : Int) * 2 ^ (64 - Lib.bitLen d))).toNat
def pfA (d : Nat) (p : Int) (s : Nat) : Nat := (scale (pfX d) ⟨(rowOf (p - -348).toNat).1, (rowOf (p - -348).toNat).2, s⟩).toNat
def pfT (a : Nat) : Nat := if 36028797018963966 ≤ a then 1 else 0
def pfU (a : Nat) : Nat := (bits BinOp.or IntKind.u64 ((a : Int) / 2 ^ pfT a) (bits BinOp.and IntKind.u64 (a : Int) 1)).toNat
def pfM (u sg : Nat) : Nat := (bits BinOp.or IntKind.u64 (sg : Int) ((roundF (u : Int)).toNat : Int)).toNat
/-- the float's word -/
def pfB (d : Nat) (p : Int) (sg : Nat) : Nat :=
  if 64 ≤ pfS (Lib.bitLen d) (p * 108853 / 32768) then sg
  else pkB (pfM (pfU (pfA d p (pfS (Lib.bitLen d) (p * 108853 / 32768)))) sg) (-(min 1074 (53 - (Lib.bitLen d : Int) - p * 108853 / 32768) - (pfT (pfA d p (pfS (Lib.bitLen d) (p * 108853 / 32768))) : Int)))
theorem blen (d : Nat) (h0 : 1 ≤ d) (h : d < 18446744073709551616) : 1 ≤ Lib.bitLen d ∧ Lib.bitLen d ≤ 64 := by
  refine ⟨?_, Lib.bitLen_le d 64 (by omega) (by omega)⟩
  unfold Lib.bitLen Lib.bitLenAux
  split <;> omega
theorem parse64_any (d sg : Nat) (p : Int) (w : World) (h1 : 1 ≤ d) (hd : d < 18446744073709551616) (hsg : sg < 18446744073709551616) (hp1 : -345 ≤ p) (hp2 : p ≤ 310) (hT : P10 w) (h16 : 16 ≤ w.heap.size) :
    Calls Tryz.prog 106 #[.int .u64 (d : Int), .int .i64 p, .int .u64 (sg : Int)] w (PfP (pfB d p sg) w) := by
  obtain ⟨hb1, hb2⟩ := blen d h1 hd
  obtain ⟨b, hb⟩ : ∃ b, Lib.bitLen d = b := ⟨_, rfl⟩
  have HB := Lib.hid (fun W => (Tryz.bits_Len64 (d : Int) W (by omega) (by omega)).mono (R' := fun en w' => en = .returned (.int .i64 (b : Int)) ∧ W = w') fun e w' h => ⟨by rw [h.1, Int.toNat_natCast, hb], h.2.symm⟩)
  rw [hb] at hb1 hb2
  have HLG := Lib.hid (fun W => log2_any p (by omega) (by omega) W)
  obtain ⟨lp, hlp⟩ : ∃ lp, p * 108853 / 32768 = lp := ⟨_, rfl⟩
  have l1 : -1200 ≤ lp := by omega
  have l2 : lp ≤ 1100 := by omega
  rw [hlp] at HLG
  obtain ⟨s, hs⟩ : ∃ s : Nat, -(min 1074 (53 - (b : Int) - lp) - (64 - (b : Int)) + lp + 3) = (s : Int) := ⟨(-(min 1074 (53 - (b : Int) - lp) - (64 - (b : Int)) + lp + 3)).toNat, by omega⟩
  obtain ⟨ix, hix⟩ : ∃ ix : Nat, p - -348 = (ix : Int) := ⟨(p - -348).toNat, by omega⟩
  have HPS := Lib.hid (prescale_new (min 1074 (53 - (b : Int) - lp) - (64 - (b : Int))) p lp ix s w hix (by omega) (by omega) (by omega) (by omega) (by omega) hT h16 hs)
  obtain ⟨x, hx⟩ : ∃ x : Nat, IntKind.u64.wrap ((d : Int) * 2 ^ (64 - b)) = (x : Int) := ⟨(IntKind.u64.wrap ((d : Int) * 2 ^ (64 - b))).toNat, by have := (u64_in ((d : Int) * 2 ^ (64 - b))).1; omega⟩
  have hx1 : x < 18446744073709551616 := by have := (u64_in ((d : Int) * 2 ^ (64 - b))).2; omega
  have hscl := scl_in ((x * (rowOf ix).1 / 18446744073709551616 : Nat) : Int) ((x * (rowOf ix).1 % 18446744073709551616 : Nat) : Int) ((x * (rowOf ix).2 / 18446744073709551616 : Nat) : Int) s
  obtain ⟨a, ha⟩ : ∃ a : Nat, scale x ⟨(rowOf ix).1, (rowOf ix).2, s⟩ = (a : Int) := ⟨(scale x ⟨(rowOf ix).1, (rowOf ix).2, s⟩).toNat, by have : 0 ≤ scale x ⟨(rowOf ix).1, (rowOf ix).2, s⟩ := hscl.1; omega⟩
  have ha1 : a < 18446744073709551616 := by have : scale x ⟨(rowOf ix).1, (rowOf ix).2, s⟩ ≤ 18446744073709551615 := hscl.2; omega
  have HS := Lib.hid (fun (h64 : s < 64) W (hW : PreAt W w.heap.size ⟨(rowOf ix).1, (rowOf ix).2, s⟩) => scale_any x ⟨(rowOf ix).1, (rowOf ix).2, s⟩ w.heap.size W hx1 ⟨(row_in ix).1, (row_in ix).2, show s ≤ 63 by omega⟩ hW)
  rw [ha] at HS
  obtain ⟨t, htt, ht⟩ : ∃ t : Nat, pfT a = t ∧ (if decide (36028797018963966 ≤ (a : Int)) = true then (1 : Int) else 0) = (t : Int) ∧ t ≤ 1 := by
    refine ⟨pfT a, rfl, ?_⟩
    unfold pfT
    by_cases h : 36028797018963966 ≤ a
    · rw [if_pos h, if_pos (decide_eq_true (by omega))]; exact ⟨rfl, by omega⟩
    · rw [if_neg h, if_neg (by rw [decide_eq_true_iff]; omega)]; exact ⟨rfl, by omega⟩
  have HT := Lib.hid (fun W => (Tryz.internal_strconv_bool2_int (decide (36028797018963966 ≤ (a : Int))) W).mono (R' := fun e w' => e = .returned (.int .i64 (t : Int)) ∧ W = w') fun e w' h => ⟨by rw [h.1, ← ht.1], h.2.symm⟩)
  obtain ⟨u2, hu2⟩ : ∃ u2 : Nat, bits BinOp.or IntKind.u64 ((a : Int) / 2 ^ t) (bits BinOp.and IntKind.u64 (a : Int) 1) = (u2 : Int) := ⟨(bits BinOp.or IntKind.u64 ((a : Int) / 2 ^ t) (bits BinOp.and IntKind.u64 (a : Int) 1)).toNat, by have := bits_lo_u64 BinOp.or ((a : Int) / 2 ^ t) (bits BinOp.and IntKind.u64 (a : Int) 1); omega⟩
  have hu3 : (u2 : Int) ≤ 18446744073709551615 := by rw [← hu2]; exact bits_hi_u64 _ _ _
  have HR := Lib.hid (fun W => round_any (u2 : Int) (by omega) hu3 W)
  obtain ⟨R, hR⟩ : ∃ R : Nat, roundF (u2 : Int) = (R : Int) := ⟨(roundF (u2 : Int)).toNat, by
    have : 0 ≤ roundF (u2 : Int) := by unfold roundF; have := (u64_in (IntKind.u64.wrap ((u2 : Int) + 1) + bits BinOp.and IntKind.u64 ((u2 : Int) / 4) 1)).1; omega
    omega⟩
  rw [hR] at HR
  obtain ⟨m, hm⟩ : ∃ m : Nat, bits BinOp.or IntKind.u64 (sg : Int) (R : Int) = (m : Int) := ⟨(bits BinOp.or IntKind.u64 (sg : Int) (R : Int)).toNat, by have := bits_lo_u64 BinOp.or (sg : Int) (R : Int); omega⟩
  have hm1 : m < 18446744073709551616 := by have := bits_hi_u64 BinOp.or (sg : Int) (R : Int); omega
  have hres : pfB d p sg = if 64 ≤ s then sg else pkB m (-(min 1074 (53 - (b : Int) - lp) - (t : Int))) := by
    have q1 : pfS b lp = s := by unfold pfS; omega
    have q2 : pfX d = x := by unfold pfX; rw [hb, hx]; exact Int.toNat_natCast _
    have q3 : pfA d p s = a := by unfold pfA; rw [q2, hix, Int.toNat_natCast, ha]; exact Int.toNat_natCast _
    have q4 : pfU a = u2 := by unfold pfU; rw [htt, hu2]; exact Int.toNat_natCast _
    have q5 : pfM u2 sg = m := by unfold pfM; rw [hR, Int.toNat_natCast, hm]; exact Int.toNat_natCast _
    unfold pfB
    rw [hb, hlp, q1, q3, q4, q5, htt]
  rw [hres]
  exact parse_walk d b sg p lp ix s x a u2 R m t w hb1 hb2 hp1 hp2 l1 l2 (by omega) hd hsg hx ha1 ht.2 hu2 hm HB HLG HPS HS (Lib.hid unmin_any) HT HR (Lib.hid fun W x h1 h2 => pack_any m x W hm1 h1 h2)
end Go.Proofs.YtofndhmnofghaaaGreatDoor.Rd

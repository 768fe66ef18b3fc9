import Derived.Test.YtofndhmnofghaaaGreatDoorA3j
namespace Go.Proofs.YtofndhmnofghaaaGreatDoor
open Go.RowKit Ieee
set_option linter.unusedVariables false

theorem ceil_in (u : Int) : 0 ≤ ceilF u ∧ ceilF u ≤ 4611686018427387904 := by
  have := u64_in (u + 3)
  unfold ceilF
  omega
theorem scale_in (x : Nat) (p : Pre) : 0 ≤ scale x p ∧ scale x p ≤ 18446744073709551615 := scl_in _ _ _ _
theorem sf_z (L H R p : Int) : (L ≤ H / 10 * 10 ∧ (if L ≤ H / 10 * 10 then H / 10 else if L < H then R else L) = H / 10 ∧ (if L ≤ H / 10 * 10 then -(p - 1) else -p) = -(p - 1)) ∨
    (H / 10 * 10 < L ∧ L < H ∧ (if L ≤ H / 10 * 10 then H / 10 else if L < H then R else L) = R ∧ (if L ≤ H / 10 * 10 then -(p - 1) else -p) = -p) ∨
    (H / 10 * 10 < L ∧ H ≤ L ∧ (if L ≤ H / 10 * 10 then H / 10 else if L < H then R else L) = L ∧ (if L ≤ H / 10 * 10 then -(p - 1) else -p) = -p) := by
  by_cases h : L ≤ H / 10 * 10
  · exact .inl ⟨h, by rw [if_pos h], by rw [if_pos h]⟩
  · by_cases g : L < H
    · exact .inr (.inl ⟨by omega, g, by rw [if_neg h, if_pos g], by rw [if_neg h]⟩)
    · exact .inr (.inr ⟨by omega, by omega, by rw [if_neg h, if_neg g], by rw [if_neg h]⟩)
theorem short_any (m : Nat) (e : Int) (h0 : 9223372036854775808 ≤ m) (h1 : m < 18446744073709551616) (he : -1137 ≤ e) (he2 : e ≤ 960) (w : World) (hT : P10 w) (h16 : 16 ≤ w.heap.size) :
    Calls Tryz.prog 66 #[.int .u64 (m : Int), .int .i64 e] w fun en w' => en = .returned (.tuple #[.int .u64 (sfD m e), .int .i64 (sfE m e)]) ∧ Below w.heap.size w w' := by
  obtain ⟨p, hp⟩ : ∃ p, sfP m e = p := ⟨_, rfl⟩
  have hpb : ∃ ix s : Nat, p - -348 = (ix : Int) ∧ ix < 696 ∧ -(e + p * 108853 / 32768 + 3) = (s : Int) ∧ s ≤ 63 ∧ -400 ≤ p ∧ p ≤ 400 := by
    have key : 0 ≤ p + 348 ∧ p + 348 < 696 ∧ 0 ≤ -(e + p * 108853 / 32768 + 3) ∧ -(e + p * 108853 / 32768 + 3) ≤ 63 := by
      unfold sfP at hp
      by_cases hA : sfA m e = true
      · rw [if_pos hA] at hp
        have : -1085 < e := by unfold sfA at hA; simp at hA; exact hA.2
        omega
      · rw [if_neg hA] at hp
        by_cases hB : -1085 ≤ e
        · rw [if_pos hB] at hp; omega
        · rw [if_neg hB] at hp; omega
    exact ⟨(p + 348).toNat, (-(e + p * 108853 / 32768 + 3)).toNat, by omega, by omega, by omega, by omega, by omega, by omega⟩
  obtain ⟨ix, s, hix, hix2, hs, hs2, hp1, hp2⟩ := hpb
  have epre : sfPre m e = ⟨(rowOf ix).1, (rowOf ix).2, s⟩ := by
    unfold sfPre
    rw [hp, show (p + 348).toNat = ix by omega, hs, Int.toNat_natCast]
  have fits : (⟨(rowOf ix).1, (rowOf ix).2, s⟩ : Pre).Fits := ⟨(row_in ix).1, (row_in ix).2, hs2⟩
  have hzl : 11 ≤ sfZ e ∧ sfZ e ≤ 63 := by unfold sfZ; split <;> omega
  have hpow : 2 ^ (sfZ e - 1) ≤ 4611686018427387904 := by
    have := Nat.pow_le_pow_right (n := 2) (by omega) (show sfZ e - 1 ≤ 62 by omega)
    simpa using this
  have hmn : sfMin m e < 18446744073709551616 := by
    unfold sfMin
    split
    · omega
    · exact Nat.lt_of_le_of_lt (Nat.sub_le _ _) h1
  have hmx : sfMax m e < 18446744073709551616 := Nat.mod_lt _ (by decide)
  have hod : sfOdd m e ≤ 1 := by unfold sfOdd; omega
  have eLo : sfLo m e = ceilF (nud (scale (sfMin m e) ⟨(rowOf ix).1, (rowOf ix).2, s⟩) (sfOdd m e)) := by unfold sfLo; rw [epre]
  have eHi : sfHi m e = nud (scale (sfMax m e) ⟨(rowOf ix).1, (rowOf ix).2, s⟩) (-(sfOdd m e : Int)) / 4 := by unfold sfHi; rw [epre]
  have bL := ceil_in (nud (scale (sfMin m e) ⟨(rowOf ix).1, (rowOf ix).2, s⟩) (sfOdd m e))
  have bH := nud_in (scale (sfMax m e) ⟨(rowOf ix).1, (rowOf ix).2, s⟩) (-(sfOdd m e : Int))
  have HLG := Lib.hid (fun W => log2_any p (by omega) (by omega) W)
  have HPS := Lib.hid (prescale_new e p (p * 108853 / 32768) ix s w hix hix2 (by omega) (by omega) (by omega) (by omega) hT h16 hs)
  have HS1 := Lib.hid (fun W (h : PreAt W w.heap.size ⟨(rowOf ix).1, (rowOf ix).2, s⟩) => scale_any (sfMin m e) _ w.heap.size W hmn fits h)
  have HN1 := Lib.hid (fun W => nudge_any (scale (sfMin m e) ⟨(rowOf ix).1, (rowOf ix).2, s⟩) (sfOdd m e) W)
  have HC1 := Lib.hid (fun W => ceil_any (nud (scale (sfMin m e) ⟨(rowOf ix).1, (rowOf ix).2, s⟩) (sfOdd m e)) (nud_in _ _).1 W)
  have HS2 := Lib.hid (fun W (h : PreAt W w.heap.size ⟨(rowOf ix).1, (rowOf ix).2, s⟩) => scale_any (sfMax m e) _ w.heap.size W hmx fits h)
  have HN2 := Lib.hid (fun W => nudge_any (scale (sfMax m e) ⟨(rowOf ix).1, (rowOf ix).2, s⟩) (-(sfOdd m e : Int)) W)
  have HF2 := Lib.hid (fun W => floor_any (nud (scale (sfMax m e) ⟨(rowOf ix).1, (rowOf ix).2, s⟩) (-(sfOdd m e : Int))) (nud_in _ _).1 (nud_in _ _).2 W)
  have HS3 := Lib.hid (fun W (h : PreAt W w.heap.size ⟨(rowOf ix).1, (rowOf ix).2, s⟩) => scale_any m _ w.heap.size W h1 fits h)
  have HR3 := Lib.hid (fun W => round_any (scale m ⟨(rowOf ix).1, (rowOf ix).2, s⟩) (scale_in _ _).1 (scale_in _ _).2 W)
  have HZ := Lib.hid (sf_z (sfLo m e) (sfHi m e) (roundF (scale m ⟨(rowOf ix).1, (rowOf ix).2, s⟩)) p)
  have hD : sfD m e = if sfLo m e ≤ sfHi m e / 10 * 10 then sfHi m e / 10 else if sfLo m e < sfHi m e then roundF (scale m ⟨(rowOf ix).1, (rowOf ix).2, s⟩) else sfLo m e := by unfold sfD; rw [epre]
  have hE : sfE m e = if sfLo m e ≤ sfHi m e / 10 * 10 then -(p - 1) else -p := by unfold sfE; rw [hp]
  rw [hD, hE]
  rw [eLo, eHi] at HZ ⊢
  have q11 : ((m / 2048 : Nat) : Int) = (m : Int) / 2048 := by simp
  have e4 : ∀ q : Nat, q < 9223372036854775808 → bits BinOp.and IntKind.i64 (q : Int) 1 = ((q % 2 : Nat) : Int) := fun q hq => by rw [mask1 _ (by omega) (by omega)]; simp
  by_cases hA : sfA m e = true
  · have hA' := hA
    unfold sfA at hA'
    simp at hA'
    have z : sfZ e = 11 := by unfold sfZ; rw [if_pos (by omega)]
    refine short_a m e p _ (sfMin m e) (sfMax m e) (sfOdd m e) ix s _ _ _ _ _ _ _ _ _ _ w h0 h1 he he2 (by rw [hA'.1]; rfl) hA'.2 (by rw [← hp]; unfold sfP; rw [if_pos hA]) (by unfold sfMin; rw [if_pos hA]; omega)
      (by unfold sfMax; rw [z, show (m : Int) + 1024 = ((m + 1024 : Nat) : Int) by omega, wrap_u64_nat]) (by unfold sfOdd; rw [z, ← q11, e4 _ (by omega)]) hp1 hp2 (by omega) (by omega) hod bH.1 (by omega) (by omega) bL.1 bL.2 HLG HPS HS1 HN1 HC1 HS2 HN2 HF2 HS3 HR3 HZ
  · by_cases hB : -1085 ≤ e
    · have z : sfZ e = 11 := by unfold sfZ; rw [if_pos hB]
      have hm : ((m : Int) == 9223372036854775808) = false ∨ e = -1085 := by
        by_cases hq : m = 9223372036854775808
        · refine .inr ?_
          unfold sfA at hA
          simp [hq] at hA
          omega
        · exact .inl (beq_eq_false_iff_ne.2 (by omega))
      refine short_b m e p _ (sfMin m e) (sfMax m e) (sfOdd m e) ix s _ _ _ _ _ _ _ _ _ _ w h0 h1 he he2 hm hB (by rw [← hp]; unfold sfP; rw [if_neg hA, if_pos hB]) (by unfold sfMin; rw [if_neg hA, z]; omega)
        (by unfold sfMax; rw [z, show (m : Int) + 1024 = ((m + 1024 : Nat) : Int) by omega, wrap_u64_nat]) (by unfold sfOdd; rw [z, ← q11, e4 _ (by omega)]) hp1 hp2 (by omega) (by omega) hod bH.1 (by omega) (by omega) bL.1 bL.2 HLG HPS HS1 HN1 HC1 HS2 HN2 HF2 HS3 HR3 HZ
    · have z : sfZ e = (-1074 - e).toNat := by unfold sfZ; rw [if_neg hB]
      have hp324 : p = 324 := by rw [← hp]; unfold sfP; rw [if_neg hA, if_neg hB]
      have hq : m / 2 ^ sfZ e < 9223372036854775808 := by
        have h2 : 2 ^ 11 ≤ 2 ^ sfZ e := Nat.pow_le_pow_right (by omega) hzl.1
        have h3 : m / 2 ^ sfZ e ≤ m / 2 ^ 11 := Nat.div_le_div_left h2 (Nat.two_pow_pos 11)
        omega
      refine short_c (sfZ e) (sfZ e - 1) (-1074) (2 ^ (sfZ e - 1)) (m / 2 ^ sfZ e) m e p _ (sfMin m e) (sfMax m e) (sfOdd m e) ix s _ _ _ _ _ _ _ _ _ _ w h0 h1 he he2 (by omega) (by omega) (by omega) (by omega) (by omega) hpow hq (by omega) (by omega) (by omega) (by simp) (by simp) (by rw [hp324]; decide) (by unfold sfMin; rw [if_neg hA]; omega)
        (by unfold sfMax; rw [← Int.natCast_add, wrap_u64_nat]) (by unfold sfOdd; rw [e4 _ hq]) hp1 hp2 (by omega) (by omega) hod bH.1 (by omega) (by omega) bL.1 bL.2 HLG HPS HS1 HN1 HC1 HS2 HN2 HF2 HS3 HR3 HZ
end Go.Proofs.YtofndhmnofghaaaGreatDoor

import Derived.Test.YtahphjaelpgjdaaDoorW4
import Derived.Test.YtahphjaelpgjdaaDoorX4
namespace Go.Proofs.YtahphjaelpgjdaaDoor
open Go.RowKit Rx
set_option linter.unusedVariables false

/-! each: what holds ahead of a bit holds behind it, whether it is one of the set or not -/
theorem pred_word (t q x : Nat) (hx : x = 2 ^ t * (2 * q + 1)) (h : x < 18446744073709551616) : bits .and .u64 (x : Int) ((x : Int) - 1) = ((2 ^ t * (2 * q) : Nat) : Int) := by
  have hp : 0 < x := by rw [hx]; exact Nat.mul_pos (two_pos t) (by omega)
  have e : ((x : Int) - 1) = ((x - 1 : Nat) : Int) := by omega
  rw [e, u64_and_nat _ _ h (by omega), hx, and_pred t q]
theorem inv_skip {Inv : Nat → World → Prop} {n : Nat} (hskip : ∀ b w, n.testBit b = false → Inv b w → Inv (b + 1) w) (w : World) (c : Nat) : ∀ d, (∀ j, c ≤ j → j < c + d → n.testBit j = false) → Inv c w → Inv (c + d) w
  | 0, _, h => h
  | d + 1, hj, h => hskip (c + d) w (hj (c + d) (by omega) (by omega)) (inv_skip hskip w c d (fun j h1 h2 => hj j h1 (by omega)) h)
theorem agg0 (a b c d : Int) (w : World) : (Instr.index 61 (.agg #[.int .u64 a, .int .u64 b, .int .u64 c, .int .u64 d]) (.int .i64 0)).run Tryd.prog w = .ok (.int .u64 a) w := by kernel_rfl
theorem agg1 (a b c d : Int) (w : World) : (Instr.index 61 (.agg #[.int .u64 a, .int .u64 b, .int .u64 c, .int .u64 d]) (.int .i64 1)).run Tryd.prog w = .ok (.int .u64 b) w := by kernel_rfl
theorem agg2 (a b c d : Int) (w : World) : (Instr.index 61 (.agg #[.int .u64 a, .int .u64 b, .int .u64 c, .int .u64 d]) (.int .i64 2)).run Tryd.prog w = .ok (.int .u64 c) w := by kernel_rfl
theorem agg3 (a b c d : Int) (w : World) : (Instr.index 61 (.agg #[.int .u64 a, .int .u64 b, .int .u64 c, .int .u64 d]) (.int .i64 3)).run Tryd.prog w = .ok (.int .u64 d) w := by kernel_rfl
set_option maxRecDepth 100000 in
set_option maxHeartbeats 4000000 in
theorem each_38 (n : Nat) (c1 c2 c3 : Value) (Inv : Nat → World → Prop) (w : World)
    (h0 : ∀ o, Inv 0 (w.alloc o)) (hT : ∀ b w, Inv b w → TzT w)
    (hstep : ∀ b w, b < 256 → n.testBit b = true → Inv b w → Calls Tryd.prog 38 #[.int .i64 b, c1, c2, c3] w fun e w' => e = .returned (.tuple #[]) ∧ Inv (b + 1) w')
    (hskip : ∀ b w, n.testBit b = false → Inv b w → Inv (b + 1) w) :
    Calls Tryd.prog 37 #[setV n, .func (.func 38) #[] #[c1, c2, c3]] w fun e w' => e = .returned (.tuple #[]) ∧ Inv 256 w' := by
  have H0 := Lib.hid h0
  have HT := Lib.hid hT
  have HS := Lib.hid hstep
  have HK := Lib.hid hskip
  have HW := Lib.hid (word_from n)
  clear h0 hT hstep hskip
  have HU : Hid (∀ i : Nat, uw n i = ((wd (from_ n (64 * i)) i : Nat) : Int)) := fun i => by unfold uw; rw [HW.out]
  clear HW
  show Calls Tryd.prog 37 #[.agg #[.int .u64 (uw n 0), .int .u64 (uw n 1), .int .u64 (uw n 2), .int .u64 (uw n 3)], .func (.func 38) #[] #[c1, c2, c3]] w _
  rw [HU.out 0, HU.out 1, HU.out 2, HU.out 3]
  clear HU
  generalize hu0 : wd (from_ n (64 * 0)) 0 = u0
  generalize hu1 : wd (from_ n (64 * 1)) 1 = u1
  generalize hu2 : wd (from_ n (64 * 2)) 2 = u2
  generalize hu3 : wd (from_ n (64 * 3)) 3 = u3
  have g0 := Lib.hid hu0
  have g1 := Lib.hid hu1
  have g2 := Lib.hid hu2
  have g3 := Lib.hid hu3
  clear hu0 hu1 hu2 hu3
  go_enter Tryd.func37, Tryd.ntmps37
  go_wp2
  go_loopw [4, 5, 7] (fun s4 s5 s7 wr => ∃ i : Nat, i ≤ 4 ∧ s7 = .int .i64 i ∧ Hid (Inv (64 * i) wr)) (fun s4 s5 s7 _ => (4 - intOf s7).toNat)
  case atStart => exact ⟨0, by omega, rfl, H0.out _⟩
  case round =>
    obtain ⟨i, hi, rfl, HI⟩ := hrel
    rcases (by omega : i = 0 ∨ i = 1 ∨ i = 2 ∨ i = 3 ∨ i = 4) with e | e | e | e | e
    · subst e
      rw [show ((0 : Nat) : Int) = 0 from rfl]
      have hx := fun w => agg0 u0 u1 u2 u3 w
      go_wp2
      clear hx
      go_loopw [5] (fun s5 wr => ∃ x c : Nat, s5 = .int .u64 x ∧ 64 * 0 ≤ c ∧ c ≤ 64 * (0 + 1) ∧ Hid (wd (from_ n c) 0 = x) ∧ Hid (Inv c wr)) (fun s5 _ => (intOf s5).toNat)
      case atStart => exact ⟨u0, 64 * 0, rfl, by omega, by omega, g0, HI⟩
      case round =>
        obtain ⟨x, c, rfl, hc1, hc2, HX, HC⟩ := hrel
        by_cases hx0 : x = 0
        · subst hx0
          rw [show ((0 : Nat) : Int) = 0 from rfl]
          go_wp2
          go_roundw
          case rel =>
            refine ⟨0 + 1, by omega, rfl, ?_⟩
            have := inv_skip HK.out _ c (64 * (0 + 1) - c) (fun j h1 h2 => word_none n c 0 HX.out hc1 j h1 (by omega)) HC.out
            rw [show c + (64 * (0 + 1) - c) = 64 * (0 + 1) by omega] at this
            exact this
          case measure => simp [intOf]
        · obtain ⟨t, q, hf⟩ := low_form x hx0
          have hlt : x < 18446744073709551616 := by have := wd_lt (from_ n c) 0; rw [HX.out] at this; exact this
          obtain ⟨ht, hct, hbit, hgap, hleft⟩ := word_next n c 0 t q (HX.out.trans hf) hc1
          have hxne : ((x : Int) != 0) = true := by simp; exact hx0
          have hp := pred_word t q x hf hlt
          have HT1 := Lib.hid (fun W (hI : Inv (64 * 0 + t) W) => tz_any t q x hf hlt W (HT.out _ W hI))
          have HI1 : Hid (Inv (64 * 0 + t) wr) := by
            have := inv_skip HK.out _ c (64 * 0 + t - c) (fun j h1 h2 => hgap j h1 (by omega)) HC.out
            rw [show c + (64 * 0 + t - c) = 64 * 0 + t by omega] at this
            exact this
          have hs1 := HS.out (64 * 0 + t) wr (by omega) hbit HI1.out
          rw [show ((64 * 0 + t : Nat) : Int) = (t : Int) by omega] at hs1
          have HS1 := Lib.hid hs1
          have HL : Hid (wd (from_ n (64 * 0 + t + 1)) 0 = 2 ^ t * (2 * q)) := hleft.symm
          have hsm : 2 ^ t * (2 * q) < x := by rw [hf]; exact Nat.mul_lt_mul_of_pos_left (by omega) (two_pos t)
          generalize 2 ^ t * (2 * q) = y at *
          clear hf hbit hgap hleft hs1
          go_wp2_with fail
          refine (HT1.out _ HI1.out).mono ?_
          rintro e w1 ⟨rfl, rfl⟩
          go_wp2_with fail
          refine HS1.out.mono ?_
          rintro e w1 ⟨rfl, hi1⟩
          have HI2 := Lib.hid hi1
          clear hi1
          go_wp2
          go_roundw
          case rel => exact ⟨y, 64 * 0 + t + 1, rfl, by omega, by omega, HL, HI2⟩
          case measure => simp [intOf]; omega
    · subst e
      rw [show ((1 : Nat) : Int) = 1 from rfl]
      have hx := fun w => agg1 u0 u1 u2 u3 w
      go_wp2
      clear hx
      go_loopw [5] (fun s5 wr => ∃ x c : Nat, s5 = .int .u64 x ∧ 64 * 1 ≤ c ∧ c ≤ 64 * (1 + 1) ∧ Hid (wd (from_ n c) 1 = x) ∧ Hid (Inv c wr)) (fun s5 _ => (intOf s5).toNat)
      case atStart => exact ⟨u1, 64 * 1, rfl, by omega, by omega, g1, HI⟩
      case round =>
        obtain ⟨x, c, rfl, hc1, hc2, HX, HC⟩ := hrel
        by_cases hx0 : x = 0
        · subst hx0
          rw [show ((0 : Nat) : Int) = 0 from rfl]
          go_wp2
          go_roundw
          case rel =>
            refine ⟨1 + 1, by omega, rfl, ?_⟩
            have := inv_skip HK.out _ c (64 * (1 + 1) - c) (fun j h1 h2 => word_none n c 1 HX.out hc1 j h1 (by omega)) HC.out
            rw [show c + (64 * (1 + 1) - c) = 64 * (1 + 1) by omega] at this
            exact this
          case measure => simp [intOf]
        · obtain ⟨t, q, hf⟩ := low_form x hx0
          have hlt : x < 18446744073709551616 := by have := wd_lt (from_ n c) 1; rw [HX.out] at this; exact this
          obtain ⟨ht, hct, hbit, hgap, hleft⟩ := word_next n c 1 t q (HX.out.trans hf) hc1
          have hxne : ((x : Int) != 0) = true := by simp; exact hx0
          have hp := pred_word t q x hf hlt
          have HT1 := Lib.hid (fun W (hI : Inv (64 * 1 + t) W) => tz_any t q x hf hlt W (HT.out _ W hI))
          have HI1 : Hid (Inv (64 * 1 + t) wr) := by
            have := inv_skip HK.out _ c (64 * 1 + t - c) (fun j h1 h2 => hgap j h1 (by omega)) HC.out
            rw [show c + (64 * 1 + t - c) = 64 * 1 + t by omega] at this
            exact this
          have hs1 := HS.out (64 * 1 + t) wr (by omega) hbit HI1.out
          rw [show ((64 * 1 + t : Nat) : Int) = 64 + (t : Int) by omega] at hs1
          have HS1 := Lib.hid hs1
          have HL : Hid (wd (from_ n (64 * 1 + t + 1)) 1 = 2 ^ t * (2 * q)) := hleft.symm
          have hsm : 2 ^ t * (2 * q) < x := by rw [hf]; exact Nat.mul_lt_mul_of_pos_left (by omega) (two_pos t)
          generalize 2 ^ t * (2 * q) = y at *
          clear hf hbit hgap hleft hs1
          go_wp2_with fail
          refine (HT1.out _ HI1.out).mono ?_
          rintro e w1 ⟨rfl, rfl⟩
          go_wp2_with fail
          refine HS1.out.mono ?_
          rintro e w1 ⟨rfl, hi1⟩
          have HI2 := Lib.hid hi1
          clear hi1
          go_wp2
          go_roundw
          case rel => exact ⟨y, 64 * 1 + t + 1, rfl, by omega, by omega, HL, HI2⟩
          case measure => simp [intOf]; omega
    · subst e
      rw [show ((2 : Nat) : Int) = 2 from rfl]
      have hx := fun w => agg2 u0 u1 u2 u3 w
      go_wp2
      clear hx
      go_loopw [5] (fun s5 wr => ∃ x c : Nat, s5 = .int .u64 x ∧ 64 * 2 ≤ c ∧ c ≤ 64 * (2 + 1) ∧ Hid (wd (from_ n c) 2 = x) ∧ Hid (Inv c wr)) (fun s5 _ => (intOf s5).toNat)
      case atStart => exact ⟨u2, 64 * 2, rfl, by omega, by omega, g2, HI⟩
      case round =>
        obtain ⟨x, c, rfl, hc1, hc2, HX, HC⟩ := hrel
        by_cases hx0 : x = 0
        · subst hx0
          rw [show ((0 : Nat) : Int) = 0 from rfl]
          go_wp2
          go_roundw
          case rel =>
            refine ⟨2 + 1, by omega, rfl, ?_⟩
            have := inv_skip HK.out _ c (64 * (2 + 1) - c) (fun j h1 h2 => word_none n c 2 HX.out hc1 j h1 (by omega)) HC.out
            rw [show c + (64 * (2 + 1) - c) = 64 * (2 + 1) by omega] at this
            exact this
          case measure => simp [intOf]
        · obtain ⟨t, q, hf⟩ := low_form x hx0
          have hlt : x < 18446744073709551616 := by have := wd_lt (from_ n c) 2; rw [HX.out] at this; exact this
          obtain ⟨ht, hct, hbit, hgap, hleft⟩ := word_next n c 2 t q (HX.out.trans hf) hc1
          have hxne : ((x : Int) != 0) = true := by simp; exact hx0
          have hp := pred_word t q x hf hlt
          have HT1 := Lib.hid (fun W (hI : Inv (64 * 2 + t) W) => tz_any t q x hf hlt W (HT.out _ W hI))
          have HI1 : Hid (Inv (64 * 2 + t) wr) := by
            have := inv_skip HK.out _ c (64 * 2 + t - c) (fun j h1 h2 => hgap j h1 (by omega)) HC.out
            rw [show c + (64 * 2 + t - c) = 64 * 2 + t by omega] at this
            exact this
          have hs1 := HS.out (64 * 2 + t) wr (by omega) hbit HI1.out
          rw [show ((64 * 2 + t : Nat) : Int) = 128 + (t : Int) by omega] at hs1
          have HS1 := Lib.hid hs1
          have HL : Hid (wd (from_ n (64 * 2 + t + 1)) 2 = 2 ^ t * (2 * q)) := hleft.symm
          have hsm : 2 ^ t * (2 * q) < x := by rw [hf]; exact Nat.mul_lt_mul_of_pos_left (by omega) (two_pos t)
          generalize 2 ^ t * (2 * q) = y at *
          clear hf hbit hgap hleft hs1
          go_wp2_with fail
          refine (HT1.out _ HI1.out).mono ?_
          rintro e w1 ⟨rfl, rfl⟩
          go_wp2_with fail
          refine HS1.out.mono ?_
          rintro e w1 ⟨rfl, hi1⟩
          have HI2 := Lib.hid hi1
          clear hi1
          go_wp2
          go_roundw
          case rel => exact ⟨y, 64 * 2 + t + 1, rfl, by omega, by omega, HL, HI2⟩
          case measure => simp [intOf]; omega
    · subst e
      rw [show ((3 : Nat) : Int) = 3 from rfl]
      have hx := fun w => agg3 u0 u1 u2 u3 w
      go_wp2
      clear hx
      go_loopw [5] (fun s5 wr => ∃ x c : Nat, s5 = .int .u64 x ∧ 64 * 3 ≤ c ∧ c ≤ 64 * (3 + 1) ∧ Hid (wd (from_ n c) 3 = x) ∧ Hid (Inv c wr)) (fun s5 _ => (intOf s5).toNat)
      case atStart => exact ⟨u3, 64 * 3, rfl, by omega, by omega, g3, HI⟩
      case round =>
        obtain ⟨x, c, rfl, hc1, hc2, HX, HC⟩ := hrel
        by_cases hx0 : x = 0
        · subst hx0
          rw [show ((0 : Nat) : Int) = 0 from rfl]
          go_wp2
          go_roundw
          case rel =>
            refine ⟨3 + 1, by omega, rfl, ?_⟩
            have := inv_skip HK.out _ c (64 * (3 + 1) - c) (fun j h1 h2 => word_none n c 3 HX.out hc1 j h1 (by omega)) HC.out
            rw [show c + (64 * (3 + 1) - c) = 64 * (3 + 1) by omega] at this
            exact this
          case measure => simp [intOf]
        · obtain ⟨t, q, hf⟩ := low_form x hx0
          have hlt : x < 18446744073709551616 := by have := wd_lt (from_ n c) 3; rw [HX.out] at this; exact this
          obtain ⟨ht, hct, hbit, hgap, hleft⟩ := word_next n c 3 t q (HX.out.trans hf) hc1
          have hxne : ((x : Int) != 0) = true := by simp; exact hx0
          have hp := pred_word t q x hf hlt
          have HT1 := Lib.hid (fun W (hI : Inv (64 * 3 + t) W) => tz_any t q x hf hlt W (HT.out _ W hI))
          have HI1 : Hid (Inv (64 * 3 + t) wr) := by
            have := inv_skip HK.out _ c (64 * 3 + t - c) (fun j h1 h2 => hgap j h1 (by omega)) HC.out
            rw [show c + (64 * 3 + t - c) = 64 * 3 + t by omega] at this
            exact this
          have hs1 := HS.out (64 * 3 + t) wr (by omega) hbit HI1.out
          rw [show ((64 * 3 + t : Nat) : Int) = 192 + (t : Int) by omega] at hs1
          have HS1 := Lib.hid hs1
          have HL : Hid (wd (from_ n (64 * 3 + t + 1)) 3 = 2 ^ t * (2 * q)) := hleft.symm
          have hsm : 2 ^ t * (2 * q) < x := by rw [hf]; exact Nat.mul_lt_mul_of_pos_left (by omega) (two_pos t)
          generalize 2 ^ t * (2 * q) = y at *
          clear hf hbit hgap hleft hs1
          go_wp2_with fail
          refine (HT1.out _ HI1.out).mono ?_
          rintro e w1 ⟨rfl, rfl⟩
          go_wp2_with fail
          refine HS1.out.mono ?_
          rintro e w1 ⟨rfl, hi1⟩
          have HI2 := Lib.hid hi1
          clear hi1
          go_wp2
          go_roundw
          case rel => exact ⟨y, 64 * 3 + t + 1, rfl, by omega, by omega, HL, HI2⟩
          case measure => simp [intOf]; omega
    · subst e
      rw [show ((4 : Nat) : Int) = 4 from rfl]
      go_wp2
      exact bodyPost_end (v := .tuple #[]) (by simp [results, Tryd.results37, go_sem]) rfl ⟨rfl, HI.out⟩
set_option maxRecDepth 100000 in
set_option maxHeartbeats 4000000 in
theorem each_83 (n : Nat) (c1 c2 : Value) (Inv : Nat → World → Prop) (w : World)
    (h0 : ∀ o, Inv 0 (w.alloc o)) (hT : ∀ b w, Inv b w → TzT w)
    (hstep : ∀ b w, b < 256 → n.testBit b = true → Inv b w → Calls Tryd.prog 83 #[.int .i64 b, c1, c2] w fun e w' => e = .returned (.tuple #[]) ∧ Inv (b + 1) w')
    (hskip : ∀ b w, n.testBit b = false → Inv b w → Inv (b + 1) w) :
    Calls Tryd.prog 37 #[setV n, .func (.func 83) #[] #[c1, c2]] w fun e w' => e = .returned (.tuple #[]) ∧ Inv 256 w' := by
  have H0 := Lib.hid h0
  have HT := Lib.hid hT
  have HS := Lib.hid hstep
  have HK := Lib.hid hskip
  have HW := Lib.hid (word_from n)
  clear h0 hT hstep hskip
  have HU : Hid (∀ i : Nat, uw n i = ((wd (from_ n (64 * i)) i : Nat) : Int)) := fun i => by unfold uw; rw [HW.out]
  clear HW
  show Calls Tryd.prog 37 #[.agg #[.int .u64 (uw n 0), .int .u64 (uw n 1), .int .u64 (uw n 2), .int .u64 (uw n 3)], .func (.func 83) #[] #[c1, c2]] w _
  rw [HU.out 0, HU.out 1, HU.out 2, HU.out 3]
  clear HU
  generalize hu0 : wd (from_ n (64 * 0)) 0 = u0
  generalize hu1 : wd (from_ n (64 * 1)) 1 = u1
  generalize hu2 : wd (from_ n (64 * 2)) 2 = u2
  generalize hu3 : wd (from_ n (64 * 3)) 3 = u3
  have g0 := Lib.hid hu0
  have g1 := Lib.hid hu1
  have g2 := Lib.hid hu2
  have g3 := Lib.hid hu3
  clear hu0 hu1 hu2 hu3
  go_enter Tryd.func37, Tryd.ntmps37
  go_wp2
  go_loopw [4, 5, 7] (fun s4 s5 s7 wr => ∃ i : Nat, i ≤ 4 ∧ s7 = .int .i64 i ∧ Hid (Inv (64 * i) wr)) (fun s4 s5 s7 _ => (4 - intOf s7).toNat)
  case atStart => exact ⟨0, by omega, rfl, H0.out _⟩
  case round =>
    obtain ⟨i, hi, rfl, HI⟩ := hrel
    rcases (by omega : i = 0 ∨ i = 1 ∨ i = 2 ∨ i = 3 ∨ i = 4) with e | e | e | e | e
    · subst e
      rw [show ((0 : Nat) : Int) = 0 from rfl]
      have hx := fun w => agg0 u0 u1 u2 u3 w
      go_wp2
      clear hx
      go_loopw [5] (fun s5 wr => ∃ x c : Nat, s5 = .int .u64 x ∧ 64 * 0 ≤ c ∧ c ≤ 64 * (0 + 1) ∧ Hid (wd (from_ n c) 0 = x) ∧ Hid (Inv c wr)) (fun s5 _ => (intOf s5).toNat)
      case atStart => exact ⟨u0, 64 * 0, rfl, by omega, by omega, g0, HI⟩
      case round =>
        obtain ⟨x, c, rfl, hc1, hc2, HX, HC⟩ := hrel
        by_cases hx0 : x = 0
        · subst hx0
          rw [show ((0 : Nat) : Int) = 0 from rfl]
          go_wp2
          go_roundw
          case rel =>
            refine ⟨0 + 1, by omega, rfl, ?_⟩
            have := inv_skip HK.out _ c (64 * (0 + 1) - c) (fun j h1 h2 => word_none n c 0 HX.out hc1 j h1 (by omega)) HC.out
            rw [show c + (64 * (0 + 1) - c) = 64 * (0 + 1) by omega] at this
            exact this
          case measure => simp [intOf]
        · obtain ⟨t, q, hf⟩ := low_form x hx0
          have hlt : x < 18446744073709551616 := by have := wd_lt (from_ n c) 0; rw [HX.out] at this; exact this
          obtain ⟨ht, hct, hbit, hgap, hleft⟩ := word_next n c 0 t q (HX.out.trans hf) hc1
          have hxne : ((x : Int) != 0) = true := by simp; exact hx0
          have hp := pred_word t q x hf hlt
          have HT1 := Lib.hid (fun W (hI : Inv (64 * 0 + t) W) => tz_any t q x hf hlt W (HT.out _ W hI))
          have HI1 : Hid (Inv (64 * 0 + t) wr) := by
            have := inv_skip HK.out _ c (64 * 0 + t - c) (fun j h1 h2 => hgap j h1 (by omega)) HC.out
            rw [show c + (64 * 0 + t - c) = 64 * 0 + t by omega] at this
            exact this
          have hs1 := HS.out (64 * 0 + t) wr (by omega) hbit HI1.out
          rw [show ((64 * 0 + t : Nat) : Int) = (t : Int) by omega] at hs1
          have HS1 := Lib.hid hs1
          have HL : Hid (wd (from_ n (64 * 0 + t + 1)) 0 = 2 ^ t * (2 * q)) := hleft.symm
          have hsm : 2 ^ t * (2 * q) < x := by rw [hf]; exact Nat.mul_lt_mul_of_pos_left (by omega) (two_pos t)
          generalize 2 ^ t * (2 * q) = y at *
          clear hf hbit hgap hleft hs1
          go_wp2_with fail
          refine (HT1.out _ HI1.out).mono ?_
          rintro e w1 ⟨rfl, rfl⟩
          go_wp2_with fail
          refine HS1.out.mono ?_
          rintro e w1 ⟨rfl, hi1⟩
          have HI2 := Lib.hid hi1
          clear hi1
          go_wp2
          go_roundw
          case rel => exact ⟨y, 64 * 0 + t + 1, rfl, by omega, by omega, HL, HI2⟩
          case measure => simp [intOf]; omega
    · subst e
      rw [show ((1 : Nat) : Int) = 1 from rfl]
      have hx := fun w => agg1 u0 u1 u2 u3 w
      go_wp2
      clear hx
      go_loopw [5] (fun s5 wr => ∃ x c : Nat, s5 = .int .u64 x ∧ 64 * 1 ≤ c ∧ c ≤ 64 * (1 + 1) ∧ Hid (wd (from_ n c) 1 = x) ∧ Hid (Inv c wr)) (fun s5 _ => (intOf s5).toNat)
      case atStart => exact ⟨u1, 64 * 1, rfl, by omega, by omega, g1, HI⟩
      case round =>
        obtain ⟨x, c, rfl, hc1, hc2, HX, HC⟩ := hrel
        by_cases hx0 : x = 0
        · subst hx0
          rw [show ((0 : Nat) : Int) = 0 from rfl]
          go_wp2
          go_roundw
          case rel =>
            refine ⟨1 + 1, by omega, rfl, ?_⟩
            have := inv_skip HK.out _ c (64 * (1 + 1) - c) (fun j h1 h2 => word_none n c 1 HX.out hc1 j h1 (by omega)) HC.out
            rw [show c + (64 * (1 + 1) - c) = 64 * (1 + 1) by omega] at this
            exact this
          case measure => simp [intOf]
        · obtain ⟨t, q, hf⟩ := low_form x hx0
          have hlt : x < 18446744073709551616 := by have := wd_lt (from_ n c) 1; rw [HX.out] at this; exact this
          obtain ⟨ht, hct, hbit, hgap, hleft⟩ := word_next n c 1 t q (HX.out.trans hf) hc1
          have hxne : ((x : Int) != 0) = true := by simp; exact hx0
          have hp := pred_word t q x hf hlt
          have HT1 := Lib.hid (fun W (hI : Inv (64 * 1 + t) W) => tz_any t q x hf hlt W (HT.out _ W hI))
          have HI1 : Hid (Inv (64 * 1 + t) wr) := by
            have := inv_skip HK.out _ c (64 * 1 + t - c) (fun j h1 h2 => hgap j h1 (by omega)) HC.out
            rw [show c + (64 * 1 + t - c) = 64 * 1 + t by omega] at this
            exact this
          have hs1 := HS.out (64 * 1 + t) wr (by omega) hbit HI1.out
          rw [show ((64 * 1 + t : Nat) : Int) = 64 + (t : Int) by omega] at hs1
          have HS1 := Lib.hid hs1
          have HL : Hid (wd (from_ n (64 * 1 + t + 1)) 1 = 2 ^ t * (2 * q)) := hleft.symm
          have hsm : 2 ^ t * (2 * q) < x := by rw [hf]; exact Nat.mul_lt_mul_of_pos_left (by omega) (two_pos t)
          generalize 2 ^ t * (2 * q) = y at *
          clear hf hbit hgap hleft hs1
          go_wp2_with fail
          refine (HT1.out _ HI1.out).mono ?_
          rintro e w1 ⟨rfl, rfl⟩
          go_wp2_with fail
          refine HS1.out.mono ?_
          rintro e w1 ⟨rfl, hi1⟩
          have HI2 := Lib.hid hi1
          clear hi1
          go_wp2
          go_roundw
          case rel => exact ⟨y, 64 * 1 + t + 1, rfl, by omega, by omega, HL, HI2⟩
          case measure => simp [intOf]; omega
    · subst e
      rw [show ((2 : Nat) : Int) = 2 from rfl]
      have hx := fun w => agg2 u0 u1 u2 u3 w
      go_wp2
      clear hx
      go_loopw [5] (fun s5 wr => ∃ x c : Nat, s5 = .int .u64 x ∧ 64 * 2 ≤ c ∧ c ≤ 64 * (2 + 1) ∧ Hid (wd (from_ n c) 2 = x) ∧ Hid (Inv c wr)) (fun s5 _ => (intOf s5).toNat)
      case atStart => exact ⟨u2, 64 * 2, rfl, by omega, by omega, g2, HI⟩
      case round =>
        obtain ⟨x, c, rfl, hc1, hc2, HX, HC⟩ := hrel
        by_cases hx0 : x = 0
        · subst hx0
          rw [show ((0 : Nat) : Int) = 0 from rfl]
          go_wp2
          go_roundw
          case rel =>
            refine ⟨2 + 1, by omega, rfl, ?_⟩
            have := inv_skip HK.out _ c (64 * (2 + 1) - c) (fun j h1 h2 => word_none n c 2 HX.out hc1 j h1 (by omega)) HC.out
            rw [show c + (64 * (2 + 1) - c) = 64 * (2 + 1) by omega] at this
            exact this
          case measure => simp [intOf]
        · obtain ⟨t, q, hf⟩ := low_form x hx0
          have hlt : x < 18446744073709551616 := by have := wd_lt (from_ n c) 2; rw [HX.out] at this; exact this
          obtain ⟨ht, hct, hbit, hgap, hleft⟩ := word_next n c 2 t q (HX.out.trans hf) hc1
          have hxne : ((x : Int) != 0) = true := by simp; exact hx0
          have hp := pred_word t q x hf hlt
          have HT1 := Lib.hid (fun W (hI : Inv (64 * 2 + t) W) => tz_any t q x hf hlt W (HT.out _ W hI))
          have HI1 : Hid (Inv (64 * 2 + t) wr) := by
            have := inv_skip HK.out _ c (64 * 2 + t - c) (fun j h1 h2 => hgap j h1 (by omega)) HC.out
            rw [show c + (64 * 2 + t - c) = 64 * 2 + t by omega] at this
            exact this
          have hs1 := HS.out (64 * 2 + t) wr (by omega) hbit HI1.out
          rw [show ((64 * 2 + t : Nat) : Int) = 128 + (t : Int) by omega] at hs1
          have HS1 := Lib.hid hs1
          have HL : Hid (wd (from_ n (64 * 2 + t + 1)) 2 = 2 ^ t * (2 * q)) := hleft.symm
          have hsm : 2 ^ t * (2 * q) < x := by rw [hf]; exact Nat.mul_lt_mul_of_pos_left (by omega) (two_pos t)
          generalize 2 ^ t * (2 * q) = y at *
          clear hf hbit hgap hleft hs1
          go_wp2_with fail
          refine (HT1.out _ HI1.out).mono ?_
          rintro e w1 ⟨rfl, rfl⟩
          go_wp2_with fail
          refine HS1.out.mono ?_
          rintro e w1 ⟨rfl, hi1⟩
          have HI2 := Lib.hid hi1
          clear hi1
          go_wp2
          go_roundw
          case rel => exact ⟨y, 64 * 2 + t + 1, rfl, by omega, by omega, HL, HI2⟩
          case measure => simp [intOf]; omega
    · subst e
      rw [show ((3 : Nat) : Int) = 3 from rfl]
      have hx := fun w => agg3 u0 u1 u2 u3 w
      go_wp2
      clear hx
      go_loopw [5] (fun s5 wr => ∃ x c : Nat, s5 = .int .u64 x ∧ 64 * 3 ≤ c ∧ c ≤ 64 * (3 + 1) ∧ Hid (wd (from_ n c) 3 = x) ∧ Hid (Inv c wr)) (fun s5 _ => (intOf s5).toNat)
      case atStart => exact ⟨u3, 64 * 3, rfl, by omega, by omega, g3, HI⟩
      case round =>
        obtain ⟨x, c, rfl, hc1, hc2, HX, HC⟩ := hrel
        by_cases hx0 : x = 0
        · subst hx0
          rw [show ((0 : Nat) : Int) = 0 from rfl]
          go_wp2
          go_roundw
          case rel =>
            refine ⟨3 + 1, by omega, rfl, ?_⟩
            have := inv_skip HK.out _ c (64 * (3 + 1) - c) (fun j h1 h2 => word_none n c 3 HX.out hc1 j h1 (by omega)) HC.out
            rw [show c + (64 * (3 + 1) - c) = 64 * (3 + 1) by omega] at this
            exact this
          case measure => simp [intOf]
        · obtain ⟨t, q, hf⟩ := low_form x hx0
          have hlt : x < 18446744073709551616 := by have := wd_lt (from_ n c) 3; rw [HX.out] at this; exact this
          obtain ⟨ht, hct, hbit, hgap, hleft⟩ := word_next n c 3 t q (HX.out.trans hf) hc1
          have hxne : ((x : Int) != 0) = true := by simp; exact hx0
          have hp := pred_word t q x hf hlt
          have HT1 := Lib.hid (fun W (hI : Inv (64 * 3 + t) W) => tz_any t q x hf hlt W (HT.out _ W hI))
          have HI1 : Hid (Inv (64 * 3 + t) wr) := by
            have := inv_skip HK.out _ c (64 * 3 + t - c) (fun j h1 h2 => hgap j h1 (by omega)) HC.out
            rw [show c + (64 * 3 + t - c) = 64 * 3 + t by omega] at this
            exact this
          have hs1 := HS.out (64 * 3 + t) wr (by omega) hbit HI1.out
          rw [show ((64 * 3 + t : Nat) : Int) = 192 + (t : Int) by omega] at hs1
          have HS1 := Lib.hid hs1
          have HL : Hid (wd (from_ n (64 * 3 + t + 1)) 3 = 2 ^ t * (2 * q)) := hleft.symm
          have hsm : 2 ^ t * (2 * q) < x := by rw [hf]; exact Nat.mul_lt_mul_of_pos_left (by omega) (two_pos t)
          generalize 2 ^ t * (2 * q) = y at *
          clear hf hbit hgap hleft hs1
          go_wp2_with fail
          refine (HT1.out _ HI1.out).mono ?_
          rintro e w1 ⟨rfl, rfl⟩
          go_wp2_with fail
          refine HS1.out.mono ?_
          rintro e w1 ⟨rfl, hi1⟩
          have HI2 := Lib.hid hi1
          clear hi1
          go_wp2
          go_roundw
          case rel => exact ⟨y, 64 * 3 + t + 1, rfl, by omega, by omega, HL, HI2⟩
          case measure => simp [intOf]; omega
    · subst e
      rw [show ((4 : Nat) : Int) = 4 from rfl]
      go_wp2
      exact bodyPost_end (v := .tuple #[]) (by simp [results, Tryd.results37, go_sem]) rfl ⟨rfl, HI.out⟩
end Go.Proofs.YtahphjaelpgjdaaDoor

/- The bits of a decimal: the relation FbR. Conditions: it is right or nought, the tables lie in memory. -/
import Derived.Test.YtofndhmnofghaaaGreatDoorSgj
import Derived.WalkMore
import Derived.Deep.CutBlock
namespace Go.Proofs.YtofndhmnofghaaaGreatDoor.Sl
open Go.RowKit
set_option linter.unusedVariables false

/-! a decimal, as bits -/
def powN (i : Nat) : Nat := [1, 3, 6, 9, 13, 16, 19, 23, 26].getD i 0
theorem powN_in (i : Nat) (h : i < 9) : 1 ≤ powN i ∧ powN i ≤ 26 := by
  have : ∀ i : Fin 9, 1 ≤ powN i.val ∧ powN i.val ≤ 26 := by decide
  exact this ⟨i, h⟩
/-- what lies beside the decimal -/
structure Env (w : World) (B Q qo qc P off c : Nat) : Prop where
  f0 : w.cell? ⟨8, 0, none⟩ = some (.int .u64 52)
  f1 : w.cell? ⟨8, 1, none⟩ = some (.int .u64 11)
  f2 : w.cell? ⟨8, 2, none⟩ = some (.int .i64 (-1023))
  pt : w.cell? ⟨12, 0, none⟩ = some (.slice (some ⟨Q, qo, none⟩) 9 qc)
  pw : ∀ i, i < 9 → w.cell? ⟨Q, qo + i, none⟩ = some (.int .i64 (powN i : Int))
  ch : Cheat w P off c
  b10 : B ≠ 8
  b12 : B ≠ 12
  b15 : B ≠ 10
  bQ : B ≠ Q
  bP : B ≠ P
theorem Env.moved {w w' : World} {B Q qo qc P off c : Nat} (h : Env w B Q qo qc P off c) (hm : Moved B w w') : Env w' B Q qo qc P off c :=
  ⟨(hm.cell (Ne.symm h.b10)).trans h.f0, (hm.cell (Ne.symm h.b10)).trans h.f1, (hm.cell (Ne.symm h.b10)).trans h.f2, (hm.cell (Ne.symm h.b12)).trans h.pt, fun i hi => (hm.cell (Ne.symm h.bQ)).trans (h.pw i hi), h.ch.moved hm h.b15 h.bP, h.b10, h.b12, h.b15, h.bQ, h.bP⟩
def hi310 : Nat := 310
theorem hi310_is : hi310 = 310 := rfl
def t1100 : Nat := 1100
theorem t1100_is : t1100 = 1100 := rfl
theorem U_top {d : Nat → Nat} {nd : Nat} {dp : Int} (h : Dm.Dg d nd) (hd : nd ≤ 800) (h1 : -400 ≤ dp) (h2 : dp ≤ 310) : Dm.U d nd dp < 10 ^ Dm.top * 10 ^ hi310 := by
  have ht := Dm.top_is
  have ht2 := hi310_is
  unfold Dm.U
  have h3 := Dm.num_lt nd h
  have h4 := Nat.mul_lt_mul_of_pos_right h3 (Nat.pow_pos (n := ((Dm.top : Int) + dp - nd).toNat) (show 0 < 10 by decide))
  rw [← Nat.pow_add] at h4
  refine Nat.lt_of_lt_of_le h4 ?_
  rw [← Nat.pow_add]
  exact Nat.pow_le_pow_right (by decide) (by omega)
theorem fall_few {t u v : Nat} (h : 2 ^ t * u ≤ v) (hv : v < 10 ^ Dm.top * 10 ^ hi310) (hu : 10 ^ Dm.top ≤ u) : t < t1100 := by
  rcases Nat.lt_or_ge t t1100 with h1 | h1
  · exact h1
  · exfalso
    have a : (2 : Nat) ^ t1100 ≤ 2 ^ t := Nat.pow_le_pow_right (by decide) h1
    have b : (10 : Nat) ^ hi310 ≤ 2 ^ t1100 := by decide +kernel
    have c : 10 ^ hi310 * 10 ^ Dm.top ≤ 2 ^ t * u := Nat.mul_le_mul (Nat.le_trans b a) hu
    rw [Nat.mul_comm] at c
    omega
def asm0 (m x : Int) : Int := bits BinOp.or IntKind.u64 (bits BinOp.and IntKind.u64 m 4503599627370495) (IntKind.u64.wrap (IntKind.u64.wrap (bits BinOp.and IntKind.i64 x 2047) * 4503599627370496))
def asm1 (m x : Int) : Int := bits BinOp.or IntKind.u64 (asm0 m x) 9223372036854775808
def pwN (i : Nat) : Nat := if 9 ≤ i then 27 else powN i
def fb1 (s t : Int × Dc) : Prop := ∃ i : Nat, s.2.dp = (i : Int) ∧ 0 < i ∧ RightR (pwN i) s.2 t.2 ∧ t.1 = s.1 + (pwN i : Int)
def fb2 (s t : Int × Dc) : Prop := ∃ i : Nat, -s.2.dp = (i : Int) ∧ (0 < i ∨ s.2.d 0 < 53) ∧ LeftR (pwN i) s.2 t.2 ∧ t.1 = s.1 - (pwN i : Int)
theorem fb1_det : Det fb1 := by
  rintro ⟨x, a⟩ ⟨y, b⟩ ⟨z, c⟩ ⟨i, h1, h2, h3, h4⟩ ⟨j, g1, g2, g3, g4⟩
  obtain rfl : i = j := by omega
  have e := RightR.det _ _ _ _ h3 g3
  dsimp only at e h4 g4
  rw [e, h4, g4]
theorem fb2_det : Det fb2 := by
  rintro ⟨x, a⟩ ⟨y, b⟩ ⟨z, c⟩ ⟨i, h1, h2, h3, h4⟩ ⟨j, g1, g2, g3, g4⟩
  obtain rfl : i = j := by omega
  have e := LeftR.det _ _ _ _ h3 g3
  dsimp only at e h4 g4
  rw [e, h4, g4]
/-- too small a power: shifted to the right -/
def LowR (s t : Int × Dc) : Prop := (s.1 - 1 < -1022 ∧ ∃ n : Nat, -1022 - (s.1 - 1) = (n : Int) ∧ FarR n s.2 t.2 ∧ t.1 = -1022) ∨ (¬ s.1 - 1 < -1022 ∧ t = (s.1 - 1, s.2))
theorem LowR.det : Det LowR := by
  rintro s ⟨x, a⟩ ⟨y, b⟩ h g
  rcases h with ⟨h, n, h1, h2, h3⟩ | ⟨h, h1⟩
  · rcases g with ⟨g, m, g1, g2, g3⟩ | ⟨g, g1⟩
    · obtain rfl : n = m := by omega
      have e := FarR.det _ _ _ _ h2 g2
      dsimp only at e h3 g3
      rw [e, h3, g3]
    · exact absurd h g
  · rcases g with ⟨g, m, g1, g2, g3⟩ | ⟨g, g1⟩
    · exact absurd g h
    · rw [h1, g1]
def asmZ (ng : Bool) (m x : Int) : Int := if ng = true then asm1 m x else asm0 m x
def finZ (ng : Bool) (m x : Int) : Int :=
  if m = 9007199254740992 then (if 1023 ≤ x then asmZ ng 0 2047 else asmZ ng 4503599627370496 (x + 1 + 1023))
  else if bits BinOp.and IntKind.u64 m 4503599627370496 = 0 then asmZ ng m 0 else asmZ ng m (x + 1023)
/-- the bits of a decimal -/
def FbR (ng : Bool) (x : Dc) (z : Int) : Prop :=
  if x.nd = 0 then z = asmZ ng 0 0 else if 310 < x.dp then z = asmZ ng 0 2047 else if x.dp < -330 then z = asmZ ng 0 0
  else ∃ s t u, Ends fb1 (0, x) s ∧ Ends fb2 s t ∧ LowR t u ∧ ((1024 ≤ u.1 ∧ z = asmZ ng 0 2047) ∨ (¬ 1024 ≤ u.1 ∧ ∃ y m, LeftR 53 u.2 y ∧ RiR y m ∧ z = finZ ng m u.1))
theorem FbR.det (ng : Bool) : Det (FbR ng) := by
  intro x z z' h g
  unfold FbR at h g
  by_cases h1 : x.nd = 0
  · rw [if_pos h1] at h g; rw [h, g]
  · rw [if_neg h1] at h g
    by_cases h2 : 310 < x.dp
    · rw [if_pos h2] at h g; rw [h, g]
    · rw [if_neg h2] at h g
      by_cases h3 : x.dp < -330
      · rw [if_pos h3] at h g; rw [h, g]
      · rw [if_neg h3] at h g
        obtain ⟨s, t, u, a, b, c, d⟩ := h
        obtain ⟨s', t', u', a', b', c', d'⟩ := g
        obtain rfl := Ends.det fb1_det _ _ _ a a'
        obtain rfl := Ends.det fb2_det _ _ _ b b'
        obtain rfl := LowR.det _ _ _ c c'
        rcases d with ⟨d, rfl⟩ | ⟨d, y, m, e, f, rfl⟩
        · rcases d' with ⟨d', rfl⟩ | ⟨d', y', m', e', f', rfl⟩
          · rfl
          · exact absurd d d'
        · rcases d' with ⟨d', rfl⟩ | ⟨d', y', m', e', f', rfl⟩
          · exact absurd d' d
          · obtain rfl := LeftR.det _ _ _ _ e e'
            obtain rfl := RiR.det _ _ _ f f'
            rfl
def FbP (B : Nat) (ng : Bool) (x : Dc) (w : World) (e : Ending) (w' : World) : Prop := (∃ (z : Int) (ov : Bool), e = .returned (.tuple #[.int .u64 z, .bool ov]) ∧ 0 ≤ z ∧ z ≤ 18446744073709551615 ∧ FbR ng x z) ∧ Moved B w w'
theorem Dz.ng' {w : World} {B : Nat} {f : Nat → Nat} {nd : Nat} {dp : Int} {ng tr : Bool} (h : Dz w B f nd dp ng tr) : ∃ b : Bool, w.cell? ⟨B, 802, none⟩ = some (.bool b) := ⟨_, h.ng_⟩
/-- As Q; by a goto to label l: J l. -/
def Jump (J : Nat → Act → World → Prop) (Q : Exit → Act → World → Prop) : Exit → Act → World → Prop
  | .goto l, a, w => J l a w
  | e, a, w => Q e a w
/-- a scope with jumps on to two labels, from which the run goes on to the end -/
theorem wp_scope_two {P : Program} {a : Act} {w : World} {Q : Exit → Act → World → Prop} {c r0 r1 : Code} (h0 : findLabel c 0 = some r0) (h1 : findLabel c 1 = some r1)
    (first : ∀ J : Nat → Act → World → Prop, (∀ a w, r0.wp P (Exit.noGoto Q) a w → J 0 a w) → (∀ a w, r1.wp P (Exit.noGoto Q) a w → J 1 a w) → c.wp P (Jump J Q) a w) : (Code.scope c).wp P Q a w := by
  intro b k cs
  have hg0 : gotoIn 0 (.inScope c :: k) = some (.code r0 :: .inScope c :: k) := by simp [gotoIn, h0]
  have hg1 : gotoIn 1 (.inScope c :: k) = some (.code r1 :: .inScope c :: k) := by simp [gotoIn, h1]
  have key : ∀ r a w, (r.wp P (Exit.noGoto Q) a w) → ∃ e a' w', Q e a' w' ∧ Arrives P (lone (b.at a (.code r :: .inScope c :: k)) cs w) b k cs e a' w' := by
    intro r a w h
    obtain ⟨e, a₁, w₁, hq, harr⟩ := h b (.inScope c :: k) cs
    cases e with
    | normal => exact ⟨.normal, a₁, w₁, hq, Steps.trans harr (.one step_inScope)⟩
    | exit id => exact ⟨.exit id, a₁, w₁, hq, fun k' hk => harr k' (by simp [exitTo, hk])⟩
    | goto l' => exact hq.elim
    | ret => exact ⟨_, a₁, w₁, hq, harr⟩
    | panic ch => exact ⟨_, a₁, w₁, hq, harr⟩
    | outgrown => exact ⟨_, a₁, w₁, hq, harr⟩
  obtain ⟨e, a₁, w₁, hq, harr⟩ := first (fun l a w => (l = 0 ∧ r0.wp P (Exit.noGoto Q) a w) ∨ (l = 1 ∧ r1.wp P (Exit.noGoto Q) a w)) (fun _ _ h => .inl ⟨rfl, h⟩) (fun _ _ h => .inr ⟨rfl, h⟩) b (.inScope c :: k) cs
  cases e with
  | normal => exact ⟨.normal, a₁, w₁, hq, .head step_scope (Steps.trans harr (.one step_inScope))⟩
  | exit id => exact ⟨.exit id, a₁, w₁, hq, fun k' hk => .head step_scope (harr k' (by simp [exitTo, hk]))⟩
  | goto l =>
    rcases hq with ⟨rfl, hq⟩ | ⟨rfl, hq⟩
    · obtain ⟨e₂, a₂, w₂, hq₂, harr₂⟩ := key _ a₁ w₁ hq
      exact ⟨e₂, a₂, w₂, hq₂, .of_steps (.head step_scope (harr _ hg0)) harr₂⟩
    · obtain ⟨e₂, a₂, w₂, hq₂, harr₂⟩ := key _ a₁ w₁ hq
      exact ⟨e₂, a₂, w₂, hq₂, .of_steps (.head step_scope (harr _ hg1)) harr₂⟩
  | ret => exact ⟨_, a₁, w₁, hq, .of_steps (.one step_scope) harr⟩
  | panic ch => exact ⟨_, a₁, w₁, hq, .of_steps (.one step_scope) harr⟩
  | outgrown => exact ⟨_, a₁, w₁, hq, .of_steps (.one step_scope) harr⟩
/-! a decimal, as bits: the walk -/
theorem fall_step {t k u v z : Nat} (h : 2 ^ t * u ≤ z) (hk : 1 ≤ k) (hv : 2 ^ k * v ≤ u) : 2 ^ (t + 1) * v ≤ z := by
  obtain ⟨j, rfl⟩ : ∃ j, k = j + 1 := ⟨k - 1, by omega⟩
  have h1 : 2 * v ≤ u := by
    refine Nat.le_trans ?_ hv
    rw [Nat.pow_succ, Nat.mul_comm (2 ^ j), Nat.mul_assoc]
    exact Nat.mul_le_mul_left 2 (Nat.le_mul_of_pos_left v (Nat.pow_pos (by decide)))
  rw [Nat.pow_succ, Nat.mul_assoc]
  exact Nat.le_trans (Nat.mul_le_mul_left _ h1) h
theorem rise_step {t u v : Nat} (h : 3 ^ t ≤ 2 ^ t * u) (hv : 3 * u ≤ 2 * v) : 3 ^ (t + 1) ≤ 2 ^ (t + 1) * v := by
  rw [Nat.pow_succ, Nat.pow_succ, Nat.mul_assoc (2 ^ t)]
  refine Nat.le_trans ?_ (Nat.mul_le_mul_left (2 ^ t) hv)
  rw [Nat.mul_left_comm]
  rw [Nat.mul_comm]
  exact Nat.mul_le_mul_left 3 h
theorem many_is : Dm.many = 7000 := rfl
set_option maxRecDepth 100000 in
set_option maxHeartbeats 8000000 in
theorem bits_any (B Q qo qc P off c : Nat) (d : Nat → Nat) (nd : Nat) (dp : Int) (ng tr : Bool) (w : World) (h : Dz w B d nd dp ng tr) (hok : nd = 0 ∨ Dok w B d nd dp ng tr) (hE : Env w B Q qo qc P off c) :
    Calls Tryz.prog 102 #[.pointer (some ⟨B, 0, none⟩), .pointer (some ⟨8, 0, none⟩)] w (FbP B ng ⟨d, nd, dp, tr⟩ w) := by
  have H := Lib.hid h
  have HOK := Lib.hid hok
  have HE := Lib.hid hE
  have HM := Lib.hid (Moved.refl B w)
  have c800 := h.nd_
  have c801 := h.dp_
  have c802 := h.ng_
  have f0 := hE.f0
  have f1 := hE.f1
  have f2 := hE.f2
  have HZ0 : Hid (nd = 0 ∨ (nd ≠ 0 ∧ dp < -330) → FbR ng ⟨d, nd, dp, tr⟩ (asmZ ng 0 0)) := by
    intro h
    unfold FbR
    by_cases h1 : nd = 0
    · rw [if_pos h1]
    · rw [if_neg h1, if_neg (by show ¬ 310 < dp; omega), if_pos (by show dp < -330; omega)]
  have HZ1 : Hid (nd ≠ 0 → 310 < dp → FbR ng ⟨d, nd, dp, tr⟩ (asmZ ng 0 2047)) := by
    intro h h2
    unfold FbR
    rw [if_neg h, if_pos h2]
  have HZ2 : Hid (nd ≠ 0 → dp ≤ 310 → -330 ≤ dp → ∀ s t u z, Ends fb1 (0, ⟨d, nd, dp, tr⟩) s → Ends fb2 s t → LowR t u → ((1024 ≤ u.1 ∧ z = asmZ ng 0 2047) ∨ (¬ 1024 ≤ u.1 ∧ ∃ y m, LeftR 53 u.2 y ∧ RiR y m ∧ z = finZ ng m u.1)) → FbR ng ⟨d, nd, dp, tr⟩ z) := by
    intro h h1 h2 s t u z a b c e
    unfold FbR
    rw [if_neg h, if_neg (by show ¬ 310 < dp; omega), if_neg (by show ¬ dp < -330; omega)]
    exact ⟨s, t, u, a, b, c, e⟩
  clear h hok hE
  go_enter Tryz.func102, Tryz.ntmps102
  go_wp2_with fail
  refine wp_scope_two rfl rfl ?_
  intro J HJ0 HJ1
  by_cases hn0 : nd = 0
  · subst hn0
    cases ng with
    | true =>
      go_wp2_with fail
      go_step3
      refine HJ0 _ _ ?_
      clear HJ0 HJ1
      go_wp2_with fail
      go_quiet (fail)
      go_wp2_with fail
      go_quiet (fail)
      go_wp2_with fail
      rw [Exit.noGoto_ret]
      go_ret2
      exact ⟨⟨_, _, rfl, bits_lo_u64 _ _ _, bits_hi_u64 _ _ _, HZ0.out (by first | exact .inl rfl | exact .inl trivial)⟩, by first | exact HM.out | exact HM.out.drewN _ | exact (HM.out.drewN _).drewN _ | exact ((HM.out.drewN _).drewN _).drewN _ | exact (((HM.out.drewN _).drewN _).drewN _).drewN _⟩
    | false =>
      go_wp2_with fail
      go_step3
      refine HJ0 _ _ ?_
      clear HJ0 HJ1
      go_wp2_with fail
      go_quiet (fail)
      go_wp2_with fail
      rw [Exit.noGoto_ret]
      go_ret2
      exact ⟨⟨_, _, rfl, bits_lo_u64 _ _ _, bits_hi_u64 _ _ _, HZ0.out (by first | exact .inl rfl | exact .inl trivial)⟩, by first | exact HM.out | exact HM.out.drewN _ | exact (HM.out.drewN _).drewN _ | exact ((HM.out.drewN _).drewN _).drewN _ | exact (((HM.out.drewN _).drewN _).drewN _).drewN _⟩
  · have HO : Hid (Dok w B d nd dp ng tr) := HOK.out.resolve_left hn0
    have hnz : ((nd : Int) == 0) = false := beq_eq_false_iff_ne.2 (by omega)
    have HNZ := Lib.hid hn0
    clear HOK hn0
    by_cases hp1 : 310 < dp
    · cases ng with
      | true =>
        go_wp2_with fail
        go_step3
        refine HJ1 _ _ ?_
        clear HJ0 HJ1
        go_wp2_with fail
        go_quiet (fail)
        go_wp2_with fail
        go_step3
        go_wp2_with fail
        go_quiet (fail)
        go_wp2_with fail
        go_quiet (fail)
        go_wp2_with fail
        rw [Exit.noGoto_ret]
        go_ret2
        exact ⟨⟨_, _, rfl, bits_lo_u64 _ _ _, bits_hi_u64 _ _ _, HZ1.out HNZ.out hp1⟩, by first | exact HM.out | exact HM.out.drewN _ | exact (HM.out.drewN _).drewN _ | exact ((HM.out.drewN _).drewN _).drewN _ | exact (((HM.out.drewN _).drewN _).drewN _).drewN _⟩
      | false =>
        go_wp2_with fail
        go_step3
        refine HJ1 _ _ ?_
        clear HJ0 HJ1
        go_wp2_with fail
        go_quiet (fail)
        go_wp2_with fail
        go_step3
        go_wp2_with fail
        go_quiet (fail)
        go_wp2_with fail
        rw [Exit.noGoto_ret]
        go_ret2
        exact ⟨⟨_, _, rfl, bits_lo_u64 _ _ _, bits_hi_u64 _ _ _, HZ1.out HNZ.out hp1⟩, by first | exact HM.out | exact HM.out.drewN _ | exact (HM.out.drewN _).drewN _ | exact ((HM.out.drewN _).drewN _).drewN _ | exact (((HM.out.drewN _).drewN _).drewN _).drewN _⟩
    · by_cases hp2 : dp < -330
      · have hp1f : decide (310 < dp) = false := decide_eq_false hp1
        clear hp1
        cases ng with
        | true =>
          go_wp2_with fail
          go_step3
          refine HJ0 _ _ ?_
          clear HJ0 HJ1
          go_wp2_with fail
          go_quiet (fail)
          go_wp2_with fail
          go_quiet (fail)
          go_wp2_with fail
          rw [Exit.noGoto_ret]
          go_ret2
          exact ⟨⟨_, _, rfl, bits_lo_u64 _ _ _, bits_hi_u64 _ _ _, HZ0.out (.inr ⟨HNZ.out, hp2⟩)⟩, by first | exact HM.out | exact HM.out.drewN _ | exact (HM.out.drewN _).drewN _ | exact ((HM.out.drewN _).drewN _).drewN _ | exact (((HM.out.drewN _).drewN _).drewN _).drewN _⟩
        | false =>
          go_wp2_with fail
          go_step3
          refine HJ0 _ _ ?_
          clear HJ0 HJ1
          go_wp2_with fail
          go_quiet (fail)
          go_wp2_with fail
          rw [Exit.noGoto_ret]
          go_ret2
          exact ⟨⟨_, _, rfl, bits_lo_u64 _ _ _, bits_hi_u64 _ _ _, HZ0.out (.inr ⟨HNZ.out, hp2⟩)⟩, by first | exact HM.out | exact HM.out.drewN _ | exact (HM.out.drewN _).drewN _ | exact ((HM.out.drewN _).drewN _).drewN _ | exact (((HM.out.drewN _).drewN _).drewN _).drewN _⟩
      · have hp1f : decide (310 < dp) = false := decide_eq_false hp1
        have hp2f : decide (dp < -330) = false := decide_eq_false hp2
        have hb1 : dp ≤ 310 := by omega
        have hb2 : -330 ≤ dp := by omega
        clear hp1 hp2
        go_upto_block 0 with fail
        go_cut [6] (fun s6 wx => ∃ (x : Int) (f : Nat → Nat) (nd2 : Nat) (dp2 : Int) (tr2 : Bool), s6 = .int .i64 x ∧ 0 ≤ x ∧ x ≤ 30000 ∧ -330 ≤ dp2 ∧ dp2 ≤ 0 ∧ Hid (Dok wx B f nd2 dp2 ng tr2) ∧ Hid (Ends fb1 (0, ⟨d, nd, dp, tr⟩) (x, ⟨f, nd2, dp2, tr2⟩)) ∧ Hid (Moved B w wx))
        case first =>
          clear f0 f1 f2 c800 c801 c802
          have HUT := Lib.hid (U_top HO.out.dg HO.out.le (by omega) hb1)
          have HT11 := t1100_is
          have HT11 := Lib.hid HT11
          go_wp2_with fail
          go_loopg [6] 1100 (fun g s6 wx => ∃ (t : Nat) (x : Int) (f : Nat → Nat) (nd2 : Nat) (dp2 : Int) (tr2 : Bool), t + g = 1100 ∧ s6 = .int .i64 x ∧ 0 ≤ x ∧ x ≤ 27 * (t : Int) ∧ -330 ≤ dp2 ∧ dp2 ≤ 310 ∧ Hid (2 ^ t * Dm.U f nd2 dp2 ≤ Dm.U d nd dp) ∧ Hid (Dok wx B f nd2 dp2 ng tr2) ∧ Hid (Rch fb1 (0, ⟨d, nd, dp, tr⟩) (x, ⟨f, nd2, dp2, tr2⟩)) ∧ Hid (Moved B w wx))
          case atStart => exact ⟨0, 0, d, nd, dp, tr, rfl, rfl, by omega, by omega, hb2, hb1, by show 2 ^ 0 * _ ≤ _; simp, HO, Rch.refl, HM⟩
          case round =>
            clear HM HO
            obtain ⟨t, x, f, nd2, dp2, tr2, htg, rfl, x0, x1, p0, p1, HU, HO, HC, HM⟩ := hrel
            have c801 := HO.out.dz.dp_
            have pt := (HE.out.moved HM.out).pt
            by_cases hpos : 0 < dp2
            · have ht : t < 1100 := by
                have := fall_few HU.out HUT.out (Dm.U_big HO.out.first HO.out.pos HO.out.le hpos)
                rw [HT11.out] at this
                exact this
              obtain ⟨g, rfl⟩ : ∃ g, gk = g + 1 := ⟨gk - 1, by omega⟩
              obtain ⟨i, rfl⟩ : ∃ i : Nat, dp2 = (i : Int) := ⟨dp2.toNat, by omega⟩
              by_cases h9 : 9 ≤ i
              · have HS := Lib.hid (shift_right B 27 f nd2 i ng tr2 wr HO.out (by omega) (by omega) (by omega) (by omega))
                have HS2 := Lib.hid (fun n => shift_right B 27 f nd2 i ng tr2 (wr.drewN n) ⟨HO.out.dz.drewN n, HO.out.dg, HO.out.first, HO.out.pos, HO.out.le⟩ (by omega) (by omega) (by omega) (by omega))
                have h9i : (9 : Int) ≤ (i : Int) := by omega
                go_wp2_with fail
                go_quiet (fail)
                go_wp2_with fail
                refine (HS2.out _).mono ?_
                rintro e w9 ⟨rfl, g2, nd3, dp3, tr3, t1, t2, t3, t4, t5, t6, t7, t8, t9, t10⟩
                have HO2 : Hid (Dok w9 B g2 nd3 dp3 ng tr3) := ⟨t1, t3, t2, t4, t5⟩
                have HU2 : Hid (2 ^ (t + 1) * Dm.U g2 nd3 dp3 ≤ Dm.U d nd dp) := fall_step HU.out (by omega) (t8 (by omega))
                have HM2 : Hid (Moved B w w9) := (HM.out.drewN _).trans t9
                have HC2 : Hid (Rch fb1 (0, ⟨d, nd, dp, tr⟩) (x + 27, ⟨g2, nd3, dp3, tr3⟩)) := .tail HC.out ⟨i, rfl, by omega, by show RightR (pwN i) _ _; rw [show pwN i = 27 from if_pos h9]; exact t10, by show x + 27 = x + (pwN i : Int); rw [show pwN i = 27 from if_pos h9]; rfl⟩
                have q1 : -330 ≤ dp3 := by omega
                have q2 : dp3 ≤ 310 := by omega
                clear t1 t2 t3 t4 t5 t6 t7 t8 t9 t10
                go_wp2_with fail
                go_roundg g
                case measure => omega
                case rel => exact ⟨t + 1, _, g2, nd3, dp3, tr3, by omega, rfl, by omega, by omega, q1, q2, HU2, HO2, HC2, HM2⟩
              · obtain ⟨k, hk⟩ : ∃ k, powN i = k := ⟨_, rfl⟩
                have hki := powN_in i (by omega)
                have cp := (HE.out.moved HM.out).pw i (by omega)
                have HPW : Hid (pwN i = k) := by
                  show pwN i = k
                  rw [← hk]; exact if_neg h9
                rw [hk] at hki cp
                obtain ⟨hk1, hk2⟩ := hki
                clear hk
                have HS2 := Lib.hid (fun n => shift_right B k f nd2 i ng tr2 (wr.drewN n) ⟨HO.out.dz.drewN n, HO.out.dg, HO.out.first, HO.out.pos, HO.out.le⟩ (by omega) (by omega) hk1 (by omega))
                have h9i : decide ((9 : Int) ≤ (i : Int)) = false := decide_eq_false (by omega)
                have hi9 : (i : Int) < 9 := by omega
                have hi0 : (0 : Int) ≤ (i : Int) := by omega
                go_wp2_with fail
                go_quiet (fail)
                go_wp2_with fail
                go_quiet (fail)
                go_wp2_with fail
                refine (HS2.out _).mono ?_
                rintro e w9 ⟨rfl, g2, nd3, dp3, tr3, t1, t2, t3, t4, t5, t6, t7, t8, t9, t10⟩
                have HO2 : Hid (Dok w9 B g2 nd3 dp3 ng tr3) := ⟨t1, t3, t2, t4, t5⟩
                have HU2 : Hid (2 ^ (t + 1) * Dm.U g2 nd3 dp3 ≤ Dm.U d nd dp) := fall_step HU.out hk1 (t8 (by omega))
                have HM2 : Hid (Moved B w w9) := (HM.out.drewN _).trans t9
                have HC2 : Hid (Rch fb1 (0, ⟨d, nd, dp, tr⟩) (x + k, ⟨g2, nd3, dp3, tr3⟩)) := .tail HC.out ⟨i, rfl, by omega, by show RightR (pwN i) _ _; rw [HPW.out]; exact t10, by show x + (k : Int) = x + (pwN i : Int); rw [HPW.out]⟩
                have q1 : -330 ≤ dp3 := by omega
                have q2 : dp3 ≤ 310 := by omega
                clear t1 t2 t3 t4 t5 t6 t7 t8 t9 t10
                go_wp2_with fail
                go_roundg g
                case measure => omega
                case rel => exact ⟨t + 1, _, g2, nd3, dp3, tr3, by omega, rfl, by omega, by omega, q1, q2, HU2, HO2, HC2, HM2⟩
            · have hposf : decide (0 < dp2) = false := decide_eq_false hpos
              have hle : dp2 ≤ 0 := by omega
              have HEX : Hid (Ends fb1 (0, ⟨d, nd, dp, tr⟩) (x, ⟨f, nd2, dp2, tr2⟩)) := ⟨HC.out, by rintro t ⟨i, a, b, _⟩; dsimp only at a; omega⟩
              clear hpos
              go_wp2_with fail
              go_meet
              exact ⟨x, f, nd2, dp2, tr2, rfl, x0, by omega, p0, hle, HO, HEX, HM⟩
        case rest =>
          clear HM HO H c800 c801 c802 f0 f1 f2
          have hb15 := HE.out.b15
          have hbP := HE.out.bP
          have hbPB := Lib.hid hbP
          obtain ⟨x, f, nd2, dp2, tr2, rfl, x0, x1, p0, p1, HO, HC1, HM⟩ := hcut
          obtain ⟨S1, hS1⟩ : ∃ S1 : Int × Dc, (x, (⟨f, nd2, dp2, tr2⟩ : Dc)) = S1 := ⟨_, rfl⟩
          rw [hS1] at HC1
          have HR0 : Hid (Rch fb2 S1 (x, ⟨f, nd2, dp2, tr2⟩)) := by
            show Rch _ _ _
            rw [hS1]; exact Rch.refl
          clear hS1
          go_upto_block 2 with fail
          go_cut [6] (fun s6 wx => ∃ (x : Int) (f : Nat → Nat) (nd2 : Nat) (dp2 : Int) (tr2 : Bool), s6 = .int .i64 x ∧ -200000 ≤ x ∧ x ≤ 30000 ∧ -330 ≤ dp2 ∧ dp2 ≤ 20 ∧ Hid (Dok wx B f nd2 dp2 ng tr2) ∧ Hid (Ends fb2 S1 (x, ⟨f, nd2, dp2, tr2⟩)) ∧ Hid (Moved B w wx))
          case first =>
            have HU1 : Hid (3 ^ 0 ≤ 2 ^ 0 * Dm.U f nd2 dp2) := by
              show 3 ^ 0 ≤ 2 ^ 0 * _
              have := Dm.U_pos (dp := dp2) HO.out.first HO.out.pos
              simp; omega
            go_wp2_with fail
            go_loopg [6] 7000 (fun g s6 wx => ∃ (t : Nat) (x : Int) (f : Nat → Nat) (nd2 : Nat) (dp2 : Int) (tr2 : Bool), t + g = 7000 ∧ s6 = .int .i64 x ∧ -(27 * (t : Int)) ≤ x ∧ x ≤ 30000 ∧ -330 ≤ dp2 ∧ dp2 ≤ 20 ∧ Hid (3 ^ t ≤ 2 ^ t * Dm.U f nd2 dp2) ∧ Hid (Dok wx B f nd2 dp2 ng tr2) ∧ Hid (Rch fb2 S1 (x, ⟨f, nd2, dp2, tr2⟩)) ∧ Hid (Moved B w wx))
            case atStart => exact ⟨0, x, f, nd2, dp2, tr2, rfl, rfl, by omega, x1, p0, by omega, HU1, HO, HR0, HM⟩
            case round =>
              clear HM HO HU1 HR0
              obtain ⟨t, x, f, nd2, dp2, tr2, htg, rfl, x0, x1, p0, p1, HU, HO, HC, HM⟩ := hrel
              have c801 := HO.out.dz.dp_
              have pt := (HE.out.moved HM.out).pt
              have cd0 := HO.out.dz.dig 0 (by omega)
              by_cases hneg : dp2 < 0
              · have hnegt : decide (dp2 < 0) = true := decide_eq_true hneg
                have ht : t < 7000 := Dm.grow_few HU.out (Dm.U_small HO.out.dg HO.out.le (by omega) (by omega))
                obtain ⟨g, rfl⟩ : ∃ g, gk = g + 1 := ⟨gk - 1, by omega⟩
                obtain ⟨i, hi⟩ : ∃ i : Nat, -dp2 = (i : Int) := ⟨(-dp2).toNat, by omega⟩
                by_cases h9 : 9 ≤ i
                · have HS2 := Lib.hid (fun n => shift_left B P off c 27 f nd2 dp2 ng tr2 (wr.drewN n) ((HE.out.moved HM.out).ch.moved ((Moved.refl B wr).drewN n) hb15 hbP) hb15 hbP ⟨HO.out.dz.drewN n, HO.out.dg, HO.out.first, HO.out.pos, HO.out.le⟩ (by omega) (by omega) (by omega) (by omega))
                  have h9i : (9 : Int) ≤ (i : Int) := by omega
                  go_wp2_with fail
                  go_quiet (fail)
                  go_wp2_with fail
                  refine (HS2.out _).mono ?_
                  rintro e w9 ⟨rfl, g2, nd3, dp3, tr3, t1, t2, t3, t4, t5, t6, t7, t8, t9, t10⟩
                  have HO2 : Hid (Dok w9 B g2 nd3 dp3 ng tr3) := ⟨t1, t3, t2, t4, t5⟩
                  have HU2 : Hid (3 ^ (t + 1) ≤ 2 ^ (t + 1) * Dm.U g2 nd3 dp3) := rise_step HU.out (t8 (by omega))
                  have HM2 : Hid (Moved B w w9) := (HM.out.drewN _).trans t9
                  have HC2 : Hid (Rch fb2 S1 (x - 27, ⟨g2, nd3, dp3, tr3⟩)) := .tail HC.out ⟨i, hi, .inl (by omega), by show LeftR (pwN i) _ _; rw [show pwN i = 27 from if_pos h9]; exact t10, by show x - 27 = x - (pwN i : Int); rw [show pwN i = 27 from if_pos h9]; rfl⟩
                  have q1 : -330 ≤ dp3 := by omega
                  have q2 : dp3 ≤ 20 := by omega
                  clear t1 t2 t3 t4 t5 t6 t7 t8 t9 t10
                  go_wp2_with fail
                  go_roundg g
                  case measure => omega
                  case rel => exact ⟨t + 1, _, g2, nd3, dp3, tr3, by omega, rfl, by omega, by omega, q1, q2, HU2, HO2, HC2, HM2⟩
                · obtain ⟨k, hk⟩ : ∃ k, powN i = k := ⟨_, rfl⟩
                  have hki := powN_in i (by omega)
                  have cp := (HE.out.moved HM.out).pw i (by omega)
                  have HPW : Hid (pwN i = k) := by
                    show pwN i = k
                    rw [← hk]; exact if_neg h9
                  rw [hk] at hki cp
                  obtain ⟨hk1, hk2⟩ := hki
                  clear hk
                  have HS2 := Lib.hid (fun n => shift_left B P off c k f nd2 dp2 ng tr2 (wr.drewN n) ((HE.out.moved HM.out).ch.moved ((Moved.refl B wr).drewN n) hb15 hbP) hb15 hbP ⟨HO.out.dz.drewN n, HO.out.dg, HO.out.first, HO.out.pos, HO.out.le⟩ (by omega) (by omega) hk1 (by omega))
                  have h9i : decide ((9 : Int) ≤ (i : Int)) = false := decide_eq_false (by omega)
                  have hi9 : (i : Int) < 9 := by omega
                  have hi0 : (0 : Int) ≤ (i : Int) := by omega
                  go_wp2_with fail
                  go_quiet (fail)
                  go_wp2_with fail
                  go_quiet (fail)
                  go_wp2_with fail
                  refine (HS2.out _).mono ?_
                  rintro e w9 ⟨rfl, g2, nd3, dp3, tr3, t1, t2, t3, t4, t5, t6, t7, t8, t9, t10⟩
                  have HO2 : Hid (Dok w9 B g2 nd3 dp3 ng tr3) := ⟨t1, t3, t2, t4, t5⟩
                  have HU2 : Hid (3 ^ (t + 1) ≤ 2 ^ (t + 1) * Dm.U g2 nd3 dp3) := rise_step HU.out (t8 (by omega))
                  have HM2 : Hid (Moved B w w9) := (HM.out.drewN _).trans t9
                  have HC2 : Hid (Rch fb2 S1 (x - k, ⟨g2, nd3, dp3, tr3⟩)) := .tail HC.out ⟨i, hi, .inl (by omega), by show LeftR (pwN i) _ _; rw [HPW.out]; exact t10, by show x - (k : Int) = x - (pwN i : Int); rw [HPW.out]⟩
                  have q1 : -330 ≤ dp3 := by omega
                  have q2 : dp3 ≤ 20 := by omega
                  clear t1 t2 t3 t4 t5 t6 t7 t8 t9 t10
                  go_wp2_with fail
                  go_roundg g
                  case measure => omega
                  case rel => exact ⟨t + 1, _, g2, nd3, dp3, tr3, by omega, rfl, by omega, by omega, q1, q2, HU2, HO2, HC2, HM2⟩
              · have hnegf : decide (dp2 < 0) = false := decide_eq_false hneg
                by_cases hz : dp2 = 0
                · have hzt : (dp2 == 0) = true := by rw [hz]; rfl
                  obtain ⟨v, hv⟩ : ∃ v, f 0 = v := ⟨_, rfl⟩
                  rw [hv] at cd0
                  have HV := Lib.hid hv
                  clear hv
                  have hzz := Lib.hid hz
                  subst hz
                  clear hneg hnegf
                  by_cases h5 : v < 53
                  · have h5t : decide ((v : Int) < 53) = true := decide_eq_true (by omega)
                    have ht : t < 7000 := Dm.grow_few HU.out (Dm.U_small HO.out.dg HO.out.le (by omega) (by omega))
                    obtain ⟨g, rfl⟩ : ∃ g, gk = g + 1 := ⟨gk - 1, by omega⟩
                    have cp : wr.cell? ⟨Q, qo, none⟩ = some (.int .i64 1) := (HE.out.moved HM.out).pw 0 (by omega)
                    have HS2 := Lib.hid (fun n => shift_left B P off c 1 f nd2 0 ng tr2 (wr.drewN n) ((HE.out.moved HM.out).ch.moved ((Moved.refl B wr).drewN n) hb15 hbP) hb15 hbP ⟨HO.out.dz.drewN n, HO.out.dg, HO.out.first, HO.out.pos, HO.out.le⟩ (by omega) (by omega) (by omega) (by omega))
                    go_wp2_with fail
                    go_quiet (fail)
                    go_wp2_with fail
                    go_quiet (fail)
                    go_wp2_with fail
                    refine (HS2.out _).mono ?_
                    rintro e w9 ⟨rfl, g2, nd3, dp3, tr3, t1, t2, t3, t4, t5, t6, t7, t8, t9, t10⟩
                    have HO2 : Hid (Dok w9 B g2 nd3 dp3 ng tr3) := ⟨t1, t3, t2, t4, t5⟩
                    have HU2 : Hid (3 ^ (t + 1) ≤ 2 ^ (t + 1) * Dm.U g2 nd3 dp3) := rise_step HU.out (t8 (by omega))
                    have HM2 : Hid (Moved B w w9) := (HM.out.drewN _).trans t9
                    have HC2 : Hid (Rch fb2 S1 (x - 1, ⟨g2, nd3, dp3, tr3⟩)) := .tail HC.out ⟨0, by show -(0 : Int) = _; rfl, .inr (by show f 0 < 53; rw [HV.out]; exact h5), t10, rfl⟩
                    have q1 : -330 ≤ dp3 := by omega
                    have q2 : dp3 ≤ 20 := by omega
                    clear t1 t2 t3 t4 t5 t6 t7 t8 t9 t10
                    go_wp2_with fail
                    go_roundg g
                    case measure => omega
                    case rel => exact ⟨t + 1, _, g2, nd3, dp3, tr3, by omega, rfl, by omega, by omega, q1, q2, HU2, HO2, HC2, HM2⟩
                  · have HEX : Hid (Ends fb2 S1 (x, ⟨f, nd2, 0, tr2⟩)) := ⟨HC.out, by
                      rintro t ⟨i, a, b, _⟩
                      dsimp only at a b
                      rw [HV.out] at b
                      omega⟩
                    have h5f : decide ((v : Int) < 53) = false := decide_eq_false (by omega)
                    have h5n : decide (v < 53) = false := decide_eq_false (by omega)
                    go_wp2_with fail
                    go_meet
                    exact ⟨x, f, nd2, 0, tr2, rfl, by omega, by omega, p0, p1, HO, HEX, HM⟩
                · have hzf : (dp2 == 0) = false := beq_eq_false_iff_ne.2 hz
                  have HEX : Hid (Ends fb2 S1 (x, ⟨f, nd2, dp2, tr2⟩)) := ⟨HC.out, by rintro t ⟨i, a, b, _⟩; dsimp only at a; omega⟩
                  clear hz hneg
                  go_wp2_with fail
                  go_meet
                  exact ⟨x, f, nd2, dp2, tr2, rfl, by omega, by omega, p0, p1, HO, HEX, HM⟩
          case rest =>
            clear HM HO
            clear HR0
            obtain ⟨x, f, nd2, dp2, tr2, rfl, x0, x1, p0, p1, HO, HC2, HM⟩ := hcut
            obtain ⟨S2, hS2⟩ : ∃ S2 : Int × Dc, (x, (⟨f, nd2, dp2, tr2⟩ : Dc)) = S2 := ⟨_, rfl⟩
            rw [hS2] at HC2
            have HS2 := Lib.hid hS2
            clear hS2
            have f2 := (HE.out.moved HM.out).f2
            go_upto_if 111 with fail
            go_cut [6] (fun s6 wx => ∃ (x : Int) (f : Nat → Nat) (nd2 : Nat) (dp2 : Int) (tr2 : Bool), s6 = .int .i64 x ∧ -1022 ≤ x ∧ x ≤ 30000 ∧ -5000000 ≤ dp2 ∧ dp2 ≤ 20 ∧ Hid (Dok wx B f nd2 dp2 ng tr2) ∧ Hid (LowR S2 (x, ⟨f, nd2, dp2, tr2⟩)) ∧ Hid (Moved B w wx))
            case first =>
              by_cases hlow : x - 1 < -1022
              · obtain ⟨n, hn⟩ : ∃ n : Nat, -1022 - (x - 1) = (n : Int) := ⟨(-1022 - (x - 1)).toNat, by omega⟩
                have HS := Lib.hid (fun (z : Int) (hz : z = -(n : Int)) => (show Calls Tryz.prog 64 #[.pointer (some ⟨B, 0, none⟩), .int .i64 z] wc (ShN B f nd2 dp2 ng tr2 n wc) by rw [hz]; exact shift_far B n f nd2 dp2 ng tr2 wc HO.out (by omega) (by omega) (by omega) (by omega)))
                have HNN := Lib.hid hn
                clear hn
                go_wp2_with fail
                refine (HS.out _ (by have := HNN.out; omega)).mono ?_
                rintro e w9 ⟨rfl, g2, nd3, dp3, tr3, t1, t2, t3, t4, t5⟩
                have hn1 := HNN.out
                have HO2 := Lib.hid t1
                have HM2 : Hid (Moved B w w9) := HM.out.trans t4
                have q1 : -5000000 ≤ dp3 := by omega
                have q2 : dp3 ≤ 20 := by omega
                have HLW : Hid (∀ y : Int, y = -1022 → LowR S2 (y, ⟨g2, nd3, dp3, tr3⟩)) := by
                  intro y hy
                  rw [← HS2.out]
                  exact .inl ⟨hlow, n, hn1, t5, hy⟩
                clear t1 t2 t3 t4 t5 hn1
                go_wp2_with fail
                go_meet
                exact ⟨_, g2, nd3, dp3, tr3, rfl, by have := HNN.out; omega, by have := HNN.out; omega, q1, q2, HO2, HLW.out _ (by have := HNN.out; omega), HM2⟩
              · have hlow2 : -1022 ≤ x - 1 := by omega
                have HLW : Hid (LowR S2 (x - 1, ⟨f, nd2, dp2, tr2⟩)) := by
                  show LowR _ _
                  rw [← HS2.out]; exact .inr ⟨hlow, rfl⟩
                clear hlow
                go_wp2_with fail
                go_meet
                exact ⟨_, f, nd2, dp2, tr2, rfl, by omega, by omega, by omega, p1, HO, HLW, HM⟩
            case rest =>
              clear HM HO f2
              clear HS2
              obtain ⟨x, f, nd2, dp2, tr2, rfl, x0, x1, p0, p1, HO, HLW, HM⟩ := hcut
              have HFIN := Lib.hid (fun z => HZ2.out HNZ.out hb1 hb2 S1 S2 _ z HC1.out HC2.out HLW.out)
              have E := HE.out.moved HM.out
              have f0 := E.f0
              have f1 := E.f1
              have f2 := E.f2
              have pt := E.pt
              have c802 := HO.out.dz.ng_
              clear E pt
              by_cases hbig : 1024 ≤ x
              · have hbigi : (2047 : Int) ≤ x + 1023 := by omega
                cases ng with
                | true =>
                  go_wp2_with fail
                  go_quiet (fail)
                  go_wp2_with fail
                  go_step3
                  refine HJ1 _ _ ?_
                  clear HJ0 HJ1
                  go_wp2_with fail
                  go_quiet (fail)
                  go_wp2_with fail
                  go_step3
                  go_wp2_with fail
                  go_quiet (fail)
                  go_wp2_with fail
                  go_quiet (fail)
                  go_wp2_with fail
                  rw [Exit.noGoto_ret]
                  go_ret2
                  exact ⟨⟨_, _, rfl, bits_lo_u64 _ _ _, bits_hi_u64 _ _ _, HFIN.out _ (.inl ⟨hbig, rfl⟩)⟩, by first | exact HM.out | exact HM.out.drewN _ | exact (HM.out.drewN _).drewN _ | exact ((HM.out.drewN _).drewN _).drewN _ | exact (((HM.out.drewN _).drewN _).drewN _).drewN _⟩
                | false =>
                  go_wp2_with fail
                  go_quiet (fail)
                  go_wp2_with fail
                  go_step3
                  refine HJ1 _ _ ?_
                  clear HJ0 HJ1
                  go_wp2_with fail
                  go_quiet (fail)
                  go_wp2_with fail
                  go_step3
                  go_wp2_with fail
                  go_quiet (fail)
                  go_wp2_with fail
                  rw [Exit.noGoto_ret]
                  go_ret2
                  exact ⟨⟨_, _, rfl, bits_lo_u64 _ _ _, bits_hi_u64 _ _ _, HFIN.out _ (.inl ⟨hbig, rfl⟩)⟩, by first | exact HM.out | exact HM.out.drewN _ | exact (HM.out.drewN _).drewN _ | exact ((HM.out.drewN _).drewN _).drewN _ | exact (((HM.out.drewN _).drewN _).drewN _).drewN _⟩
              · have hbigi : decide ((2047 : Int) ≤ x + 1023) = false := decide_eq_false (by omega)
                have HS2 := Lib.hid (fun n => shift_left B P off c 53 f nd2 dp2 ng tr2 (wc.drewN n) ((HE.out.moved HM.out).ch.moved ((Moved.refl B wc).drewN n) hb15 hbP) hb15 hbP ⟨HO.out.dz.drewN n, HO.out.dg, HO.out.first, HO.out.pos, HO.out.le⟩ (by omega) (by omega) (by omega) (by omega))
                go_wp2_with fail
                go_quiet (fail)
                go_wp2_with fail
                refine (HS2.out _).mono ?_
                rintro e w9 ⟨rfl, g2, nd3, dp3, tr3, t1, t2, t3, t4, t5, t6, t7, t8, t9, t10⟩
                have HO2 : Hid (Dok w9 B g2 nd3 dp3 ng tr3) := ⟨t1, t3, t2, t4, t5⟩
                have HM2 : Hid (Moved B w w9) := (HM.out.drewN _).trans t9
                have HRI := Lib.hid (round_int B g2 nd3 dp3 ng tr3 w9 HO2.out (by omega) (by omega))
                have HLF := Lib.hid t10
                clear t1 t2 t3 t4 t5 t6 t7 t8 t9 t10 f0 f1 f2 c802 HM HO
                have HO := HO2
                have HM := HM2
                clear HO2 HM2
                have E := HE.out.moved HM.out
                have f0 := E.f0
                have f1 := E.f1
                have f2 := E.f2
                have pt := E.pt
                have c802 := HO.out.dz.ng_
                clear E pt
                go_wp2_with fail
                refine HRI.out.mono ?_
                rintro e w10 ⟨⟨m, rfl, m0, m1, hri⟩, rfl⟩
                have HFM : Hid (∀ z, z = finZ ng m x → FbR ng ⟨d, nd, dp, tr⟩ z) := by
                  intro z hz
                  exact HFIN.out z (.inr ⟨hbig, _, m, HLF.out, hri, hz⟩)
                clear hri
                by_cases hm2 : m = 9007199254740992
                · have hm2t : (m == 9007199254740992) = true := by rw [hm2]; rfl
                  subst hm2
                  by_cases hb3 : 1023 ≤ x
                  · have hb3i : (2047 : Int) ≤ x + 1 + 1023 := by omega
                    cases ng with
                    | true =>
                      go_wp2_with fail
                      go_quiet (fail)
                      go_wp2_with fail
                      go_step3
                      refine HJ1 _ _ ?_
                      clear HJ0 HJ1
                      go_wp2_with fail
                      go_quiet (fail)
                      go_wp2_with fail
                      go_step3
                      go_wp2_with fail
                      go_quiet (fail)
                      go_wp2_with fail
                      go_quiet (fail)
                      go_wp2_with fail
                      rw [Exit.noGoto_ret]
                      go_ret2
                      exact ⟨⟨_, _, rfl, bits_lo_u64 _ _ _, bits_hi_u64 _ _ _, HFM.out _ (by unfold finZ; rw [if_pos rfl, if_pos hb3]; rfl)⟩, by first | exact HM.out | exact HM.out.drewN _ | exact (HM.out.drewN _).drewN _ | exact ((HM.out.drewN _).drewN _).drewN _ | exact (((HM.out.drewN _).drewN _).drewN _).drewN _⟩
                    | false =>
                      go_wp2_with fail
                      go_quiet (fail)
                      go_wp2_with fail
                      go_step3
                      refine HJ1 _ _ ?_
                      clear HJ0 HJ1
                      go_wp2_with fail
                      go_quiet (fail)
                      go_wp2_with fail
                      go_step3
                      go_wp2_with fail
                      go_quiet (fail)
                      go_wp2_with fail
                      rw [Exit.noGoto_ret]
                      go_ret2
                      exact ⟨⟨_, _, rfl, bits_lo_u64 _ _ _, bits_hi_u64 _ _ _, HFM.out _ (by unfold finZ; rw [if_pos rfl, if_pos hb3]; rfl)⟩, by first | exact HM.out | exact HM.out.drewN _ | exact (HM.out.drewN _).drewN _ | exact ((HM.out.drewN _).drewN _).drewN _ | exact (((HM.out.drewN _).drewN _).drewN _).drewN _⟩
                  · have hb3i : decide ((2047 : Int) ≤ x + 1 + 1023) = false := decide_eq_false (by omega)
                    cases ng with
                    | true =>
                      go_wp2_with fail
                      go_quiet (fail)
                      go_wp2_with fail
                      go_step3
                      refine HJ0 _ _ ?_
                      clear HJ0 HJ1
                      go_wp2_with fail
                      go_quiet (fail)
                      go_wp2_with fail
                      go_quiet (fail)
                      go_wp2_with fail
                      rw [Exit.noGoto_ret]
                      go_ret2
                      exact ⟨⟨_, _, rfl, bits_lo_u64 _ _ _, bits_hi_u64 _ _ _, HFM.out _ (by unfold finZ; rw [if_pos rfl, if_neg (show ¬ 1023 ≤ x by omega)]; rfl)⟩, by first | exact HM.out | exact HM.out.drewN _ | exact (HM.out.drewN _).drewN _ | exact ((HM.out.drewN _).drewN _).drewN _ | exact (((HM.out.drewN _).drewN _).drewN _).drewN _⟩
                    | false =>
                      go_wp2_with fail
                      go_quiet (fail)
                      go_wp2_with fail
                      go_step3
                      refine HJ0 _ _ ?_
                      clear HJ0 HJ1
                      go_wp2_with fail
                      go_quiet (fail)
                      go_wp2_with fail
                      rw [Exit.noGoto_ret]
                      go_ret2
                      exact ⟨⟨_, _, rfl, bits_lo_u64 _ _ _, bits_hi_u64 _ _ _, HFM.out _ (by unfold finZ; rw [if_pos rfl, if_neg (show ¬ 1023 ≤ x by omega)]; rfl)⟩, by first | exact HM.out | exact HM.out.drewN _ | exact (HM.out.drewN _).drewN _ | exact ((HM.out.drewN _).drewN _).drewN _ | exact (((HM.out.drewN _).drewN _).drewN _).drewN _⟩
                · have hm2f : (m == 9007199254740992) = false := beq_eq_false_iff_ne.2 hm2
                  have HM2 := Lib.hid hm2
                  clear hm2
                  obtain ⟨z, hz⟩ : ∃ z, bits BinOp.and IntKind.u64 m 4503599627370496 = z := ⟨_, rfl⟩
                  by_cases hz0 : z = 0
                  · have hzt : (z == 0) = true := by rw [hz0]; rfl
                    have HZB := Lib.hid (hz.trans hz0)
                    clear hz0
                    cases ng with
                    | true =>
                      go_wp2_with fail
                      go_step3
                      refine HJ0 _ _ ?_
                      clear HJ0 HJ1
                      go_wp2_with fail
                      go_quiet (fail)
                      go_wp2_with fail
                      go_quiet (fail)
                      go_wp2_with fail
                      rw [Exit.noGoto_ret]
                      go_ret2
                      exact ⟨⟨_, _, rfl, bits_lo_u64 _ _ _, bits_hi_u64 _ _ _, HFM.out _ (by unfold finZ; rw [if_neg HM2.out, if_pos HZB.out]; rfl)⟩, by first | exact HM.out | exact HM.out.drewN _ | exact (HM.out.drewN _).drewN _ | exact ((HM.out.drewN _).drewN _).drewN _ | exact (((HM.out.drewN _).drewN _).drewN _).drewN _⟩
                    | false =>
                      go_wp2_with fail
                      go_step3
                      refine HJ0 _ _ ?_
                      clear HJ0 HJ1
                      go_wp2_with fail
                      go_quiet (fail)
                      go_wp2_with fail
                      rw [Exit.noGoto_ret]
                      go_ret2
                      exact ⟨⟨_, _, rfl, bits_lo_u64 _ _ _, bits_hi_u64 _ _ _, HFM.out _ (by unfold finZ; rw [if_neg HM2.out, if_pos HZB.out]; rfl)⟩, by first | exact HM.out | exact HM.out.drewN _ | exact (HM.out.drewN _).drewN _ | exact ((HM.out.drewN _).drewN _).drewN _ | exact (((HM.out.drewN _).drewN _).drewN _).drewN _⟩
                  · have hzt : (z == 0) = false := beq_eq_false_iff_ne.2 hz0
                    have HZB := Lib.hid (fun h => hz0 (hz.symm.trans h))
                    clear hz0
                    cases ng with
                    | true =>
                      go_wp2_with fail
                      go_step3
                      refine HJ0 _ _ ?_
                      clear HJ0 HJ1
                      go_wp2_with fail
                      go_quiet (fail)
                      go_wp2_with fail
                      go_quiet (fail)
                      go_wp2_with fail
                      rw [Exit.noGoto_ret]
                      go_ret2
                      exact ⟨⟨_, _, rfl, bits_lo_u64 _ _ _, bits_hi_u64 _ _ _, HFM.out _ (by unfold finZ; rw [if_neg HM2.out, if_neg HZB.out]; rfl)⟩, by first | exact HM.out | exact HM.out.drewN _ | exact (HM.out.drewN _).drewN _ | exact ((HM.out.drewN _).drewN _).drewN _ | exact (((HM.out.drewN _).drewN _).drewN _).drewN _⟩
                    | false =>
                      go_wp2_with fail
                      go_step3
                      refine HJ0 _ _ ?_
                      clear HJ0 HJ1
                      go_wp2_with fail
                      go_quiet (fail)
                      go_wp2_with fail
                      rw [Exit.noGoto_ret]
                      go_ret2
                      exact ⟨⟨_, _, rfl, bits_lo_u64 _ _ _, bits_hi_u64 _ _ _, HFM.out _ (by unfold finZ; rw [if_neg HM2.out, if_neg HZB.out]; rfl)⟩, by first | exact HM.out | exact HM.out.drewN _ | exact (HM.out.drewN _).drewN _ | exact ((HM.out.drewN _).drewN _).drewN _ | exact (((HM.out.drewN _).drewN _).drewN _).drewN _⟩
end Go.Proofs.YtofndhmnofghaaaGreatDoor.Sl

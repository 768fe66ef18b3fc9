import Derived.Test.YtaggmakaceafgaaGreatDoorA7
import Derived.WalkMore
namespace Go.Proofs.YtaggmakaceafgaaGreatDoor
open Go.RowKit
set_option linter.unusedVariables false

/-! a decimal, as bits -/
def powN (i : Nat) : Nat := [1, 3, 6, 9, 13, 16, 19, 23, 26].getD i 0
theorem powN_in (i : Nat) (h : i < 9) : 1 ≤ powN i ∧ powN i ≤ 26 := by
  have : ∀ i : Fin 9, 1 ≤ powN i.val ∧ powN i.val ≤ 26 := by decide
  exact this ⟨i, h⟩
/-- what lies beside the decimal -/
structure Env (w : World) (B Q qo qc P off c : Nat) : Prop where
  f0 : w.cell? ⟨10, 0, none⟩ = some (.int .u64 52)
  f1 : w.cell? ⟨10, 1, none⟩ = some (.int .u64 11)
  f2 : w.cell? ⟨10, 2, none⟩ = some (.int .i64 (-1023))
  pt : w.cell? ⟨12, 0, none⟩ = some (.slice (some ⟨Q, qo, none⟩) 9 qc)
  pw : ∀ i, i < 9 → w.cell? ⟨Q, qo + i, none⟩ = some (.int .i64 (powN i : Int))
  ch : Cheat w P off c
  b10 : B ≠ 10
  b12 : B ≠ 12
  b15 : B ≠ 15
  bQ : B ≠ Q
  bP : B ≠ P
theorem Env.moved {w w' : World} {B Q qo qc P off c : Nat} (h : Env w B Q qo qc P off c) (hm : Moved B w w') : Env w' B Q qo qc P off c :=
  ⟨(hm.cell (Ne.symm h.b10)).trans h.f0, (hm.cell (Ne.symm h.b10)).trans h.f1, (hm.cell (Ne.symm h.b10)).trans h.f2, (hm.cell (Ne.symm h.b12)).trans h.pt, fun i hi => (hm.cell (Ne.symm h.bQ)).trans (h.pw i hi), h.ch.moved hm h.b15 h.bP, h.b10, h.b12, h.b15, h.bQ, h.bP⟩
def hi310 : Nat := 310
theorem hi310_is : hi310 = 310 := rfl
def t1100 : Nat := 1100
theorem t1100_is : t1100 = 1100 := rfl
theorem U_top {d : Nat → Nat} {nd : Nat} {dp : Int} (h : Dm.Dg d nd) (hd : nd ≤ 800) (h1 : -400 ≤ dp) (h2 : dp ≤ 310) : Dm.U d nd dp < 10 ^ Dm.top * 10 ^ hi310 := by
  have ht := Dm.top_is
  have ht2 := hi310_is
  unfold Dm.U
  have h3 := Dm.num_lt nd h
  have h4 := Nat.mul_lt_mul_of_pos_right h3 (Nat.pow_pos (n := ((Dm.top : Int) + dp - nd).toNat) (show 0 < 10 by decide))
  rw [← Nat.pow_add] at h4
  refine Nat.lt_of_lt_of_le h4 ?_
  rw [← Nat.pow_add]
  exact Nat.pow_le_pow_right (by decide) (by omega)
theorem fall_few {t u v : Nat} (h : 2 ^ t * u ≤ v) (hv : v < 10 ^ Dm.top * 10 ^ hi310) (hu : 10 ^ Dm.top ≤ u) : t < t1100 := by
  rcases Nat.lt_or_ge t t1100 with h1 | h1
  · exact h1
  · exfalso
    have a : (2 : Nat) ^ t1100 ≤ 2 ^ t := Nat.pow_le_pow_right (by decide) h1
    have b : (10 : Nat) ^ hi310 ≤ 2 ^ t1100 := by decide +kernel
    have c : 10 ^ hi310 * 10 ^ Dm.top ≤ 2 ^ t * u := Nat.mul_le_mul (Nat.le_trans b a) hu
    rw [Nat.mul_comm] at c
    omega
def FbP (B : Nat) (w : World) (e : Ending) (w' : World) : Prop := (∃ (z : Int) (ov : Bool), e = .returned (.tuple #[.int .u64 z, .bool ov]) ∧ 0 ≤ z ∧ z ≤ 18446744073709551615) ∧ Moved B w w'
theorem Dz.ng' {w : World} {B : Nat} {f : Nat → Nat} {nd : Nat} {dp : Int} {ng tr : Bool} (h : Dz w B f nd dp ng tr) : ∃ b : Bool, w.cell? ⟨B, 802, none⟩ = some (.bool b) := ⟨_, h.ng_⟩
/-- As Q; by a goto to label l: J l. -/
def Jump (J : Nat → Act → World → Prop) (Q : Exit → Act → World → Prop) : Exit → Act → World → Prop
  | .goto l, a, w => J l a w
  | e, a, w => Q e a w
/-- a scope with jumps on to two labels, from which the run goes on to the end -/
theorem wp_scope_two {P : Program} {a : Act} {w : World} {Q : Exit → Act → World → Prop} {c r0 r1 : Code} (h0 : findLabel c 0 = some r0) (h1 : findLabel c 1 = some r1)
    (first : ∀ J : Nat → Act → World → Prop, (∀ a w, r0.wp P (Exit.noGoto Q) a w → J 0 a w) → (∀ a w, r1.wp P (Exit.noGoto Q) a w → J 1 a w) → c.wp P (Jump J Q) a w) : (Code.scope c).wp P Q a w := by
  intro b k cs
  have hg0 : gotoIn 0 (.inScope c :: k) = some (.code r0 :: .inScope c :: k) := by simp [gotoIn, h0]
  have hg1 : gotoIn 1 (.inScope c :: k) = some (.code r1 :: .inScope c :: k) := by simp [gotoIn, h1]
  have key : ∀ r a w, (r.wp P (Exit.noGoto Q) a w) → ∃ e a' w', Q e a' w' ∧ Arrives P (lone (b.at a (.code r :: .inScope c :: k)) cs w) b k cs e a' w' := by
    intro r a w h
    obtain ⟨e, a₁, w₁, hq, harr⟩ := h b (.inScope c :: k) cs
    cases e with
    | normal => exact ⟨.normal, a₁, w₁, hq, Steps.trans harr (.one step_inScope)⟩
    | exit id => exact ⟨.exit id, a₁, w₁, hq, fun k' hk => harr k' (by simp [exitTo, hk])⟩
    | goto l' => exact hq.elim
    | ret => exact ⟨_, a₁, w₁, hq, harr⟩
    | panic ch => exact ⟨_, a₁, w₁, hq, harr⟩
    | outgrown => exact ⟨_, a₁, w₁, hq, harr⟩
  obtain ⟨e, a₁, w₁, hq, harr⟩ := first (fun l a w => (l = 0 ∧ r0.wp P (Exit.noGoto Q) a w) ∨ (l = 1 ∧ r1.wp P (Exit.noGoto Q) a w)) (fun _ _ h => .inl ⟨rfl, h⟩) (fun _ _ h => .inr ⟨rfl, h⟩) b (.inScope c :: k) cs
  cases e with
  | normal => exact ⟨.normal, a₁, w₁, hq, .head step_scope (Steps.trans harr (.one step_inScope))⟩
  | exit id => exact ⟨.exit id, a₁, w₁, hq, fun k' hk => .head step_scope (harr k' (by simp [exitTo, hk]))⟩
  | goto l =>
    rcases hq with ⟨rfl, hq⟩ | ⟨rfl, hq⟩
    · obtain ⟨e₂, a₂, w₂, hq₂, harr₂⟩ := key _ a₁ w₁ hq
      exact ⟨e₂, a₂, w₂, hq₂, .of_steps (.head step_scope (harr _ hg0)) harr₂⟩
    · obtain ⟨e₂, a₂, w₂, hq₂, harr₂⟩ := key _ a₁ w₁ hq
      exact ⟨e₂, a₂, w₂, hq₂, .of_steps (.head step_scope (harr _ hg1)) harr₂⟩
  | ret => exact ⟨_, a₁, w₁, hq, .of_steps (.one step_scope) harr⟩
  | panic ch => exact ⟨_, a₁, w₁, hq, .of_steps (.one step_scope) harr⟩
  | outgrown => exact ⟨_, a₁, w₁, hq, .of_steps (.one step_scope) harr⟩
end Go.Proofs.YtaggmakaceafgaaGreatDoor

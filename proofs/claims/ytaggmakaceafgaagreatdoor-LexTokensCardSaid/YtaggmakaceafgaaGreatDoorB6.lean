import Derived.Test.YtaggmakaceafgaaGreatDoorB4
import Derived.Deep.DeepCutAuto
import Derived.Deep.CutBlock
namespace Go.Proofs.YtaggmakaceafgaaGreatDoor
open Go.RowKit Ieee
set_option linter.unusedVariables false

/-! small numbers, by one product or quotient -/
/-- the table of powers of ten -/
def FlP (w : World) (F fo fc : Nat) : Prop := w.cell? ⟨13, 0, none⟩ = some (.slice (some ⟨F, fo, none⟩) 23 fc) ∧
  ∀ i, i < 23 → ∃ y : Nat, w.cell? ⟨F, fo + i, none⟩ = some (.float .f64 y) ∧ 0 < y ∧ y < 9218868437227405312
def ExP (w : World) (e : Ending) (w' : World) : Prop := (∃ (b : Nat) (ok : Bool), e = .returned (.tuple #[.float .f64 b, .bool ok])) ∧ w = w'
set_option maxRecDepth 100000 in
set_option maxHeartbeats 2000000 in
theorem exact_any (z : Nat) (x : Int) (ng : Bool) (F fo fc : Nat) (w : World) (hz : z < 18446744073709551616) (h1 : -400000 ≤ x) (h2 : x ≤ 400000) (hf0 : w.cell? ⟨10, 0, none⟩ = some (.int .u64 52)) (hF : FlP w F fo fc) :
    Calls Tryz.prog 106 #[.int .u64 (z : Int), .int .i64 x, .bool ng] w (ExP w) := by
  have HFT := Lib.hid hF
  have h13 := hF.1
  clear hF
  by_cases hz1 : z < 4503599627370496
  · have hsh : ((z : Int) / 4503599627370496) = 0 := by omega
    have hpl := Lib.hid (Fl.of_int (z : Int))
    obtain ⟨f0, hf0'⟩ : ∃ f, Go.floatOfInt .f64 (z : Int) = f := ⟨_, rfl⟩
    rw [hf0'] at hpl
    go_enter Tryz.func106, Tryz.ntmps106
    go_upto_if 15 with fail
    go_cut [6] (fun s6 wx => ∃ f, s6 = .float .f64 f ∧ Hid (Fl.Pl f) ∧ w = wx)
    case first => as_aux_lemma =>
      cases ng with
      | true =>
        obtain ⟨q, hq⟩ : ∃ q, Op.negFloat .f64 f0 = q := ⟨_, rfl⟩
        have HQ := Lib.hid (Fl.neg_pl hpl.out)
        have hn : ∀ w, (Op.unary .neg (.float .f64 f0)).run Tryz.prog w = .ok (.float .f64 q) w := by
          intro w; rw [← hq]; rfl
        have hq2 : f0 ^^^ 9223372036854775808 = q := hq
        rw [hq2] at HQ
        clear hq hq2
        go_wp2_with fail
        go_meet
        exact ⟨_, rfl, HQ, rfl⟩
      | false =>
        go_wp2_with fail
        go_meet
        exact ⟨_, rfl, hpl, rfl⟩
    case rest => as_aux_lemma =>
      clear hpl hf0'
      obtain ⟨f, rfl, HP, rfl⟩ := hcut
      by_cases hx0 : x = 0
      · subst hx0
        go_wp2_with fail
        ((try simp only [Exit.inBlock, Exit.then]); refine bodyPost_ret (results_tmp2 rfl _ _ _) rfl ?_)
        exact ⟨⟨_, _, rfl⟩, rfl⟩
      · have hx0f : (x == 0) = false := beq_eq_false_iff_ne.2 hx0
        by_cases hxp : 0 < x
        · clear hx0
          by_cases hx37 : x ≤ 37
          · obtain ⟨n, rfl⟩ : ∃ n : Nat, x = (n : Int) := ⟨x.toNat, by omega⟩
            go_upto_if 30 with fail
            go_cut [1, 6] (fun s1 s6 wx => ∃ (j f : Nat), s1 = .int .i64 j ∧ s6 = .float .f64 f ∧ j ≤ 22 ∧ Hid (Fl.Pl f) ∧ w = wx)
            case first => as_aux_lemma =>
              by_cases h22 : 22 < n
              · have h22i : (22 : Int) < (n : Int) := by omega
                obtain ⟨k, hk⟩ : ∃ k : Nat, (n : Int) - 22 = (k : Int) := ⟨n - 22, by omega⟩
                have hn22 : n - 22 = k := by omega
                obtain ⟨y, hy, y0, y1⟩ := HFT.out.2 k (by omega)
                obtain ⟨q, hq, hqp⟩ := Fl.mul_pl HP.out y0 y1
                have hr := fun (w : World) => run_float_arith (P := Tryz.prog) (w := w) .mul 88 .f64 f y q hq
                have HQ := Lib.hid hqp
                clear hqp hq
                go_wp2_with fail
                go_meet
                exact ⟨22, _, rfl, rfl, by omega, HQ, rfl⟩
              · have h22i : (n : Int) ≤ 22 := by omega
                go_wp2_with fail
                go_meet
                exact ⟨n, _, rfl, rfl, by omega, HP, rfl⟩
            case rest => as_aux_lemma =>
              clear HP
              obtain ⟨j, f, rfl, rfl, hj, HP, rfl⟩ := hcut
              obtain ⟨g1, hg1⟩ : ∃ b, (FloatKind.f64.format.order f 4831355200913801216 == some .gt) = b := ⟨_, rfl⟩
              obtain ⟨g2, hg2⟩ : ∃ b, (FloatKind.f64.format.order f 14054727237768577024 == some .lt) = b := ⟨_, rfl⟩
              obtain ⟨y, hy, y0, y1⟩ := HFT.out.2 j (by omega)
              obtain ⟨q, hq, hqp⟩ := Fl.mul_pl HP.out y0 y1
              have hr := fun (w : World) => run_float_arith (P := Tryz.prog) (w := w) .mul 88 .f64 f y q hq
              clear hqp hq
              cases g1 <;> cases g2 <;>
              · go_wp2_with fail
                ((try simp only [Exit.inBlock, Exit.then]); refine bodyPost_ret (results_tmp2 rfl _ _ _) rfl ?_)
                exact ⟨⟨_, _, rfl⟩, rfl⟩
          · have hx37f : decide (x ≤ 37) = false := decide_eq_false hx37
            have hxn : decide (x < 0) = false := decide_eq_false (by omega)
            go_wp2_with fail
            ((try simp only [Exit.inBlock, Exit.then]); refine bodyPost_ret (results_tmp2 rfl _ _ _) rfl ?_)
            exact ⟨⟨_, _, rfl⟩, rfl⟩
        · have hxn : x < 0 := by omega
          by_cases hx22 : -22 ≤ x
          · obtain ⟨n, rfl⟩ : ∃ n : Nat, x = -(n : Int) := ⟨(-x).toNat, by omega⟩
            obtain ⟨y, hy, y0, y1⟩ := HFT.out.2 n (by omega)
            obtain ⟨q, hq, hqp⟩ := Fl.div_pl HP.out y0 y1
            have hr := fun (w : World) => run_float_arith (P := Tryz.prog) (w := w) .quo 88 .f64 f y q hq
            clear hqp hq hx0 hxp
            go_wp2_with fail
            ((try simp only [Exit.inBlock, Exit.then]); refine bodyPost_ret (results_tmp2 rfl _ _ _) rfl ?_)
            exact ⟨⟨_, _, rfl⟩, rfl⟩
          · have hx22f : decide (-22 ≤ x) = false := decide_eq_false hx22
            clear hx0 hxp
            go_wp2_with fail
            ((try simp only [Exit.inBlock, Exit.then]); refine bodyPost_ret (results_tmp2 rfl _ _ _) rfl ?_)
            exact ⟨⟨_, _, rfl⟩, rfl⟩
  · have hsh : ((z : Int) / 4503599627370496 != 0) = true := by simp; omega
    go_enter Tryz.func106, Tryz.ntmps106
    go_wp2_with fail
    ((try simp only [Exit.inBlock, Exit.then]); refine bodyPost_ret (results_tmp2 rfl _ _ _) rfl ?_)
    exact ⟨⟨_, _, rfl⟩, rfl⟩
end Go.Proofs.YtaggmakaceafgaaGreatDoor

/- Small numbers by one product or quotient of floats: the function exF. Condition: the powers of ten lie in memory. -/
import Derived.Test.YtofndhmnofghaaaGreatDoorScj
import Derived.Test.YtofndhmnofghaaaGreatDoorFoj
import Derived.OpenShut
import Derived.Laws.Closers25b
import Derived.WalkMore
import Derived.Deep.DeepCutAuto
import Derived.Deep.CutBlock
namespace Go.Proofs.YtofndhmnofghaaaGreatDoor.Sl
open Go.RowKit Ieee
set_option linter.unusedVariables false

/-! small numbers, by one product or quotient -/
theorem results_tmp2 {fn : Func} {a b : Tmp} (h : fn.results = #[.tmp a, .tmp b]) (tmps : Array Value) (P : Program) (w : World) :
    (results fn tmps).run P w = .ok (.tuple #[tmps.getD a undef, tmps.getD b undef]) w := by
  simp [results, h]
/-- the powers of ten -/
def pwF (i : Nat) : Nat := [4607182418800017408, 4621819117588971520, 4636737291354636288, 4652007308841189376, 4666723172467343360, 4681608360884174848, 4696837146684686336, 4711630319722168320, 4726483295884279808, 4741671816366391296, 4756540486875873280, 4771362005757984768, 4786511204640096256, 4801453603149578240, 4816244402031689728, 4831355200913801216, 4846369599423283200, 4861130398305394688, 4876203697187506176, 4891288408196988160, 4906019910204099648, 4921056587992461136, 4936209963552724370].getD i 4607182418800017408
theorem pwF_in (i : Nat) (h : i < 23) : 0 < pwF i ∧ pwF i < 9218868437227405312 := by
  have : ∀ i : Fin 23, 0 < pwF i.val ∧ pwF i.val < 9218868437227405312 := by decide
  exact this ⟨i, h⟩
def fm (f y : Nat) : Nat := (double.mul f y).getD 0
def fd (f y : Nat) : Nat := (double.div f y).getD 0
theorem fm_is {f y q : Nat} (h : double.mul f y = some q) : fm f y = q := by unfold fm; rw [h]; rfl
theorem fd_is {f y q : Nat} (h : double.div f y = some q) : fd f y = q := by unfold fd; rw [h]; rfl
def exC (f j : Nat) : Option Nat :=
  if (FloatKind.f64.format.order f 4831355200913801216 == some .gt) = true then none
  else if (FloatKind.f64.format.order f 14054727237768577024 == some .lt) = true then none else some (fm f (pwF j))
def exB (f : Nat) (x : Int) : Option Nat :=
  if x = 0 then some f else if 0 < x then (if x ≤ 37 then (if 22 < x then exC (fm f (pwF (x - 22).toNat)) 22 else exC f x.toNat) else none)
  else if -22 ≤ x then some (fd f (pwF (-x).toNat)) else none
def sgF (ng : Bool) (f : Nat) : Nat := if ng = true then f ^^^ 9223372036854775808 else f
/-- small numbers: what atof64exact says -/
def exF (z : Nat) (x : Int) (ng : Bool) : Option Nat := if z < 4503599627370496 then exB (sgF ng (Go.floatOfInt .f64 (z : Int))) x else none
/-- the table of powers of ten -/
def FlP (w : World) (F fo fc : Nat) : Prop := w.cell? ⟨13, 0, none⟩ = some (.slice (some ⟨F, fo, none⟩) 23 fc) ∧
  ∀ i, i < 23 → w.cell? ⟨F, fo + i, none⟩ = some (.float .f64 (pwF i))
def ExP (r : Option Nat) (w : World) (e : Ending) (w' : World) : Prop := (∃ (b : Nat) (ok : Bool), e = .returned (.tuple #[.float .f64 b, .bool ok]) ∧ r = if ok = true then some b else none) ∧ w = w'
set_option maxRecDepth 100000 in
set_option maxHeartbeats 2000000 in
theorem exact_any (z : Nat) (x : Int) (ng : Bool) (F fo fc : Nat) (w : World) (hz : z < 18446744073709551616) (h1 : -400000 ≤ x) (h2 : x ≤ 400000) (hf0 : w.cell? ⟨8, 0, none⟩ = some (.int .u64 52)) (hF : FlP w F fo fc) :
    Calls Tryz.prog 105 #[.int .u64 (z : Int), .int .i64 x, .bool ng] w (ExP (exF z x ng) w) := by
  have HFT := Lib.hid hF
  have h13 := hF.1
  clear hF
  by_cases hz1 : z < 4503599627370496
  · have hsh : ((z : Int) / 4503599627370496) = 0 := by omega
    have hpl := Lib.hid (Fl.of_int (z : Int))
    obtain ⟨f0, hf0'⟩ : ∃ f, Go.floatOfInt .f64 (z : Int) = f := ⟨_, rfl⟩
    rw [hf0'] at hpl
    obtain ⟨R, hR⟩ : ∃ R, exF z x ng = R := ⟨_, rfl⟩
    have HR : Hid (exB (sgF ng f0) x = R) := by
      show _ = _
      rw [← hR]; unfold exF; rw [if_pos hz1, hf0']
    rw [hR]
    clear hR
    go_enter Tryz.func105, Tryz.ntmps105
    go_upto_if 15 with fail
    go_cut [6] (fun s6 wx => ∃ f, s6 = .float .f64 f ∧ Hid (Fl.Pl f) ∧ Hid (exB f x = R) ∧ w = wx)
    case first => as_aux_lemma =>
      cases ng with
      | true =>
        obtain ⟨q, hq⟩ : ∃ q, Op.negFloat .f64 f0 = q := ⟨_, rfl⟩
        have HQ := Lib.hid (Fl.neg_pl hpl.out)
        have hn : ∀ w, (Op.unary .neg (.float .f64 f0)).run Tryz.prog w = .ok (.float .f64 q) w := by
          intro w; rw [← hq]; rfl
        have hq2 : f0 ^^^ 9223372036854775808 = q := hq
        rw [hq2] at HQ
        have HX : Hid (exB q x = R) := by
          show _ = _
          rw [← HR.out, ← hq2]; rfl
        clear hq hq2
        go_wp2_with fail
        go_meet
        exact ⟨_, rfl, HQ, HX, rfl⟩
      | false =>
        go_wp2_with fail
        go_meet
        exact ⟨_, rfl, hpl, HR, rfl⟩
    case rest => as_aux_lemma =>
      clear hpl hf0' HR
      obtain ⟨f, rfl, HP, HR, rfl⟩ := hcut
      by_cases hx0 : x = 0
      · subst hx0
        have HF : Hid (R = some f) := HR.out.symm.trans (if_pos rfl)
        go_wp2_with fail
        ((try simp only [Exit.inBlock, Exit.then]); refine bodyPost_ret (results_tmp2 rfl _ _ _) rfl ?_)
        exact ⟨⟨_, _, rfl, HF.out⟩, rfl⟩
      · have hx0f : (x == 0) = false := beq_eq_false_iff_ne.2 hx0
        by_cases hxp : 0 < x
        · clear hx0
          by_cases hx37 : x ≤ 37
          · obtain ⟨n, rfl⟩ : ∃ n : Nat, x = (n : Int) := ⟨x.toNat, by omega⟩
            have HR2 : Hid ((if (22 : Int) < (n : Int) then exC (fm f (pwF ((n : Int) - 22).toNat)) 22 else exC f (n : Int).toNat) = R) := by
              show _ = _
              rw [← HR.out]; unfold exB; rw [if_neg (show ¬ (n : Int) = 0 by omega), if_pos hxp, if_pos hx37]
            go_upto_if 30 with fail
            go_cut [1, 6] (fun s1 s6 wx => ∃ (j f : Nat), s1 = .int .i64 j ∧ s6 = .float .f64 f ∧ j ≤ 22 ∧ Hid (Fl.Pl f) ∧ Hid (exC f j = R) ∧ w = wx)
            case first => as_aux_lemma =>
              by_cases h22 : 22 < n
              · have h22i : (22 : Int) < (n : Int) := by omega
                obtain ⟨k, hk⟩ : ∃ k : Nat, (n : Int) - 22 = (k : Int) := ⟨n - 22, by omega⟩
                have hn22 : n - 22 = k := by omega
                have hy := HFT.out.2 k (by omega)
                obtain ⟨y0, y1⟩ := pwF_in k (by omega)
                have HX2 := HR2.out
                rw [if_pos h22i, hk, Int.toNat_natCast] at HX2
                obtain ⟨y, hye⟩ : ∃ y, pwF k = y := ⟨_, rfl⟩
                rw [hye] at hy y0 y1 HX2
                obtain ⟨q, hq, hqp⟩ := Fl.mul_pl HP.out y0 y1
                rw [fm_is hq] at HX2
                have HX := Lib.hid HX2
                clear HX2 hye
                have hr := fun (w : World) => run_float_arith (P := Tryz.prog) (w := w) .mul 39 .f64 f y q hq
                have HQ := Lib.hid hqp
                clear hqp hq
                go_wp2_with fail
                go_meet
                exact ⟨22, _, rfl, rfl, by omega, HQ, HX, rfl⟩
              · have h22i : (n : Int) ≤ 22 := by omega
                have HX2 := HR2.out
                rw [if_neg (show ¬ (22 : Int) < (n : Int) by omega), Int.toNat_natCast] at HX2
                have HX := Lib.hid HX2
                clear HX2
                go_wp2_with fail
                go_meet
                exact ⟨n, _, rfl, rfl, by omega, HP, HX, rfl⟩
            case rest => as_aux_lemma =>
              clear HP HR2 HR
              obtain ⟨j, f, rfl, rfl, hj, HP, HR, rfl⟩ := hcut
              obtain ⟨g1, hg1⟩ : ∃ b, (FloatKind.f64.format.order f 4831355200913801216 == some .gt) = b := ⟨_, rfl⟩
              obtain ⟨g2, hg2⟩ : ∃ b, (FloatKind.f64.format.order f 14054727237768577024 == some .lt) = b := ⟨_, rfl⟩
              have hy := HFT.out.2 j (by omega)
              obtain ⟨y0, y1⟩ := pwF_in j (by omega)
              have HX2 := HR.out
              unfold exC at HX2
              rw [hg1, hg2] at HX2
              obtain ⟨y, hye⟩ : ∃ y, pwF j = y := ⟨_, rfl⟩
              rw [hye] at hy y0 y1 HX2
              obtain ⟨q, hq, hqp⟩ := Fl.mul_pl HP.out y0 y1
              rw [fm_is hq] at HX2
              have HX := Lib.hid HX2
              clear HX2 hye
              have hr := fun (w : World) => run_float_arith (P := Tryz.prog) (w := w) .mul 39 .f64 f y q hq
              clear hqp hq
              cases g1 <;> cases g2 <;>
              · go_wp2_with fail
                ((try simp only [Exit.inBlock, Exit.then]); refine bodyPost_ret (results_tmp2 rfl _ _ _) rfl ?_)
                exact ⟨⟨_, _, rfl, HX.out.symm⟩, rfl⟩
          · have hx37f : decide (x ≤ 37) = false := decide_eq_false hx37
            have HF : Hid (R = none) := by
              show _ = _
              rw [← HR.out]; unfold exB; rw [if_neg (show ¬ x = 0 by omega), if_pos hxp, if_neg hx37]
            have hxn : decide (x < 0) = false := decide_eq_false (by omega)
            go_wp2_with fail
            ((try simp only [Exit.inBlock, Exit.then]); refine bodyPost_ret (results_tmp2 rfl _ _ _) rfl ?_)
            exact ⟨⟨_, _, rfl, HF.out⟩, rfl⟩
        · have hxn : x < 0 := by omega
          by_cases hx22 : -22 ≤ x
          · obtain ⟨n, rfl⟩ : ∃ n : Nat, x = -(n : Int) := ⟨(-x).toNat, by omega⟩
            have hy := HFT.out.2 n (by omega)
            obtain ⟨y0, y1⟩ := pwF_in n (by omega)
            have HX2 := HR.out
            unfold exB at HX2
            rw [if_neg hx0, if_neg hxp, if_pos hx22, show (-(-(n : Int))).toNat = n by omega] at HX2
            obtain ⟨y, hye⟩ : ∃ y, pwF n = y := ⟨_, rfl⟩
            rw [hye] at hy y0 y1 HX2
            obtain ⟨q, hq, hqp⟩ := Fl.div_pl HP.out y0 y1
            rw [fd_is hq] at HX2
            have HF := Lib.hid HX2.symm
            clear HX2 hye
            have hr := fun (w : World) => run_float_arith (P := Tryz.prog) (w := w) .quo 39 .f64 f y q hq
            clear hqp hq hx0 hxp
            go_wp2_with fail
            ((try simp only [Exit.inBlock, Exit.then]); refine bodyPost_ret (results_tmp2 rfl _ _ _) rfl ?_)
            exact ⟨⟨_, _, rfl, HF.out⟩, rfl⟩
          · have hx22f : decide (-22 ≤ x) = false := decide_eq_false hx22
            have HF : Hid (R = none) := by
              show _ = _
              rw [← HR.out]; unfold exB; rw [if_neg hx0, if_neg hxp, if_neg hx22]
            clear hx0 hxp
            go_wp2_with fail
            ((try simp only [Exit.inBlock, Exit.then]); refine bodyPost_ret (results_tmp2 rfl _ _ _) rfl ?_)
            exact ⟨⟨_, _, rfl, HF.out⟩, rfl⟩
  · have hsh : ((z : Int) / 4503599627370496 != 0) = true := by simp; omega
    go_enter Tryz.func105, Tryz.ntmps105
    go_wp2_with fail
    ((try simp only [Exit.inBlock, Exit.then]); refine bodyPost_ret (results_tmp2 rfl _ _ _) rfl ?_)
    exact ⟨⟨_, _, rfl, by unfold exF; rw [if_neg hz1]; rfl⟩, rfl⟩
end Go.Proofs.YtofndhmnofghaaaGreatDoor.Sl

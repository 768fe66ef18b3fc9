import Derived.Test.YtofndhmnofghaaaGreatDoorD2j
import Derived.Test.YtofndhmnofghaaaGreatDoorE3j
import Derived.LoopN
import Derived.Laws.FloatArith
namespace Go.Proofs.YtofndhmnofghaaaGreatDoor
open Go.RowKit Ieee
set_option linter.unusedVariables false

/-! what awake asks of numbers: the text 1e3 -/
set_option maxRecDepth 100000 in
set_option maxHeartbeats 2000000 in
theorem special_1e3 (w : World) : Calls Tryz.prog 94 #[.string ⟨#[49, 101, 51]⟩] w fun e w' => e = .returned (.tuple #[.float .f64 0, .int .i64 0, .bool false]) ∧ w = w' := by
  go_enter Tryz.func94, Tryz.ntmps94
  go_wp2
  go_ret3
  exact ⟨rfl, rfl⟩
set_option maxRecDepth 100000 in
set_option maxHeartbeats 2000000 in
theorem read_1e3 (w : World) : Calls Tryz.prog 95 #[.string ⟨#[49, 101, 51]⟩] w fun e w' => e = .returned (.tuple #[.int .u64 1, .int .i64 3, .bool false, .bool false, .bool false, .int .i64 3, .bool true]) ∧ w = w' := by
  have g0 : ∀ h, (⟨#[49, 101, 51]⟩ : ByteArray)[0]'h = 49 := fun _ => rfl
  have g1 : ∀ h, (⟨#[49, 101, 51]⟩ : ByteArray)[1]'h = 101 := fun _ => rfl
  have g2 : ∀ h, (⟨#[49, 101, 51]⟩ : ByteArray)[2]'h = 51 := fun _ => rfl
  have n0 : (49 : UInt8).toNat = 49 := rfl
  have n1 : (101 : UInt8).toNat = 101 := rfl
  have n2 : (51 : UInt8).toNat = 51 := rfl
  go_enter Tryz.func95, Tryz.ntmps95
  go_wp2
  go_step3
  go_wp2
  go_step3
  go_wp2
  refine wp_loop_rounds 3 ?_
  rw [rounds_succ]
  go_wp2
  rw [rounds_succ]
  go_wp2
  refine wp_loop_rounds 3 ?_
  rw [rounds_succ]
  go_wp2
  rw [rounds_succ]
  go_wp2
  rw [Exit.noGoto_ret]
  refine bodyPost_ret (v := .tuple #[.int .u64 1, .int .i64 3, .bool false, .bool false, .bool false, .int .i64 3, .bool true]) (by simp [results, Tryz.results95, go_sem]) rfl ⟨rfl, rfl⟩
/-- the variables that the road takes -/
structure NumT (w : World) : Prop where
  info : w.cell? ⟨8, 0, none⟩ = some (.int .u64 52)
  opt : w.cell? ⟨2, 0, none⟩ = some (.bool true)
  pow : ∃ P off c, w.cell? ⟨13, 0, none⟩ = some (.slice (some ⟨P, off, none⟩) 23 c) ∧ w.cell? ⟨P, off + 3, none⟩ = some (.float .f64 4652007308841189376)
theorem NumT.below {w w' : World} (h : NumT w) (hb : Below w.heap.size w w') (h16 : 16 ≤ w.heap.size) : NumT w' := by
  obtain ⟨P, off, c, h1, h2⟩ := h.pow
  exact ⟨below_cell hb h.info, below_cell hb h.opt, P, off, c, below_cell hb h1, below_cell hb h2⟩
set_option maxRecDepth 100000 in
set_option maxHeartbeats 2000000 in
theorem exact_1e3 (w : World) (hT : NumT w) : Calls Tryz.prog 105 #[.int .u64 1, .int .i64 3, .bool false] w fun e w' => e = .returned (.tuple #[.float .f64 4652007308841189376, .bool true]) ∧ w = w' := by
  obtain ⟨P, off, c, h1, h2⟩ := hT.pow
  have h3 := hT.info
  have f1 : floatOfInt FloatKind.f64 1 = 4607182418800017408 := by kernel_rfl
  have f2 : (FloatKind.f64.format.order 4607182418800017408 4831355200913801216 == some Ordering.gt) = false := by kernel_rfl
  have f3 : (FloatKind.f64.format.order 4607182418800017408 14054727237768577024 == some Ordering.lt) = false := by kernel_rfl
  have hr := fun (w : World) => run_float_arith (P := Tryz.prog) (w := w) .mul 39 .f64 4607182418800017408 4652007308841189376 4652007308841189376 (by kernel_rfl)
  clear hT
  go_enter Tryz.func105, Tryz.ntmps105
  go_wp2_with fail
  go_ret2
  exact ⟨rfl, rfl⟩
set_option maxRecDepth 100000 in
set_option maxHeartbeats 2000000 in
theorem atof_1e3 (w : World) (hT : NumT w) : Calls Tryz.prog 69 #[.string ⟨#[49, 101, 51]⟩] w fun e w' => e = .returned (.tuple #[.float .f64 4652007308841189376, .int .i64 3, .nilIface]) ∧ w = w' := by
  have HE := Lib.hid (exact_1e3 w hT)
  have h3 := hT.opt
  clear hT
  go_enter Tryz.func69, Tryz.ntmps69
  go_wp2_with fail
  refine (special_1e3 _).mono ?_
  rintro e w1 ⟨rfl, rfl⟩
  go_wp2_with fail
  refine (read_1e3 _).mono ?_
  rintro e w1 ⟨rfl, rfl⟩
  go_wp2_with fail
  refine (bool2_any false _).mono ?_
  rintro e w1 ⟨rfl, rfl⟩
  go_wp2_with fail
  refine (HE.out).mono ?_
  rintro e w1 ⟨rfl, rfl⟩
  go_wp2_with fail
  go_ret3
  exact ⟨rfl, rfl⟩
set_option maxRecDepth 100000 in
theorem prefix_1e3 (w : World) (hT : NumT w) : Calls Tryz.prog 43 #[.string ⟨#[49, 101, 51]⟩, .int .i64 64] w fun e w' => e = .returned (.tuple #[.float .f64 4652007308841189376, .int .i64 3, .nilIface]) ∧ w = w' := by
  have HE := Lib.hid (atof_1e3 w hT)
  clear hT
  go_enter Tryz.func43, Tryz.ntmps43
  go_wp2_with fail
  refine (HE.out).mono ?_
  rintro e w1 ⟨rfl, rfl⟩
  go_wp2_with fail
  go_ret3
  exact ⟨rfl, rfl⟩
set_option maxRecDepth 100000 in
theorem parseIn_1e3 (w : World) (hT : NumT w) : Calls Tryz.prog 33 #[.string ⟨#[49, 101, 51]⟩, .int .i64 64] w fun e w' => e = .returned (.tuple #[.float .f64 4652007308841189376, .nilIface]) ∧ w = w' := by
  have HE := Lib.hid (prefix_1e3 w hT)
  clear hT
  go_enter Tryz.func33, Tryz.ntmps33
  go_wp2_with fail
  refine (HE.out).mono ?_
  rintro e w1 ⟨rfl, rfl⟩
  go_wp2_with fail
  go_ret2
  exact ⟨rfl, rfl⟩
set_option maxRecDepth 100000 in
theorem parseF_1e3 (w : World) (hT : NumT w) : Calls Tryz.prog 25 #[.string ⟨#[49, 101, 51]⟩, .int .i64 64] w fun e w' => e = .returned (.tuple #[.float .f64 4652007308841189376, .nilIface]) ∧ w = w' := by
  have HE := Lib.hid (parseIn_1e3 w hT)
  clear hT
  go_enter Tryz.func25, Tryz.ntmps25
  go_wp2_with fail
  refine (HE.out).mono ?_
  rintro e w1 ⟨rfl, rfl⟩
  go_wp2_with fail
  go_ret2
  exact ⟨rfl, rfl⟩
theorem tobits (n : Nat) (w : World) : (callFunc 22 #[.float .f64 n]).run Tryz.prog w = .ok (.value (.int .u64 (n : Int))) w := by kernel_rfl
theorem dec_1e3 : decB ⟨#[49, 101, 51]⟩ = true := by decide +kernel
theorem dec_1e : decB ⟨#[49, 101]⟩ = false := by decide +kernel
set_option maxRecDepth 100000 in
theorem parse_1e3 (w : World) (hT : NumT w) (h16 : 16 ≤ w.heap.size) : Calls Tryz.prog 14 #[.string ⟨#[49, 101, 51]⟩] w fun e w' => e = .returned (.tuple #[.int .u64 4652007308841189376, .nilIface]) ∧ Below w.heap.size w w' := by
  have HD := Lib.hid (dec_any ⟨#[49, 101, 51]⟩ (by decide) w)
  rw [dec_1e3] at HD
  have HP := Lib.hid (fun W (hW : Below w.heap.size w W) => parseF_1e3 W (hT.below hW h16))
  have hb := fun w => tobits 4652007308841189376 w
  clear hT
  go_enter Tryz.func14, Tryz.ntmps14
  go_wp2_with fail
  refine (HD.out).mono ?_
  rintro e w1 ⟨rfl, hb1⟩
  go_wp2_with fail
  refine (HP.out _ hb1).mono ?_
  rintro e w2 ⟨rfl, rfl⟩
  go_wp2_with fail
  go_ret2
  exact ⟨rfl, hb1⟩
set_option maxRecDepth 100000 in
theorem parse_1e (w : World) : Calls Tryz.prog 14 #[.string ⟨#[49, 101]⟩] w fun e w' => e = .returned (.tuple #[.int .u64 0, .iface 45 (.int .i64 13)]) ∧ Below w.heap.size w w' := by
  have HD := Lib.hid (dec_any ⟨#[49, 101]⟩ (by decide) w)
  rw [dec_1e] at HD
  go_enter Tryz.func14, Tryz.ntmps14
  go_wp2_with fail
  refine (HD.out).mono ?_
  rintro e w1 ⟨rfl, hb1⟩
  go_wp2_with fail
  go_ret2
  exact ⟨rfl, hb1⟩
theorem fmt_1000 : strF 4652007308841189376 = ⟨#[49, 48, 48, 48]⟩ := by
  have : fmtF 4652007308841189376 = [49, 48, 48, 48] := by decide +kernel
  unfold strF
  rw [this]
/-- all that awake takes of the world -/
structure Laid (w : World) : Prop where
  tabs : Tabs w
  num : NumT w
  err : ErrT w
theorem Laid.below {w w' : World} (h : Laid w) (hb : Below w.heap.size w w') : Laid w' :=
  ⟨h.tabs.below h.tabs.size hb, h.num.below hb h.tabs.size, (hb.cell (p := ⟨1, 0, none⟩) (by have := h.tabs.size; show 1 < w.heap.size; omega)).trans h.err⟩
set_option maxRecDepth 100000 in
set_option maxHeartbeats 2000000 in
theorem awake_any (w : World) (hL : Laid w) : Calls Tryz.prog 6 #[] w fun e w' => e = .returned (.bool true) ∧ Below w.heap.size w w' := by
  have H1 := Lib.hid (parse_1e3 w hL.num hL.tabs.size)
  have H2 := Lib.hid (fun W => parse_1e W)
  have H3 := Lib.hid (fun W (hW : Below w.heap.size w W) => text_any 4652007308841189376 (by decide) W (hL.below hW).tabs)
  rw [fmt_1000] at H3
  have H4 := Lib.hid (fun W (hW : Below w.heap.size w W) => code_is 13 (by decide) W (hL.below hW).err)
  have H5 := Lib.hid (fun W => norm_any 9218868437227405314 ⟨by decide, by decide⟩ W)
  have H6 := Lib.hid (fun W => norm_any 9218868437227405315 ⟨by decide, by decide⟩ W)
  have n1 : normI 9218868437227405314 = 9218868437227405314 := by decide
  have n2 : normI 9218868437227405315 = 9221120237041090561 := by decide
  rw [n1] at H5
  rw [n2] at H6
  clear n1 n2 hL
  go_enter Tryz.func6, Tryz.ntmps6
  go_wp2_with fail
  refine (H1.out).mono ?_
  rintro e w1 ⟨rfl, hb1⟩
  go_wp2_with fail
  refine (H2.out _).mono ?_
  rintro e w2 ⟨rfl, hb2⟩
  have K2 := Lib.hid (hb1.trans (hb2.mono hb1.size))
  clear hb1 hb2
  go_wp2_with fail
  refine (H3.out _ K2.out).mono ?_
  rintro e w3 ⟨rfl, hb3⟩
  have K3 := Lib.hid (K2.out.trans (hb3.mono K2.out.size))
  clear hb3
  go_wp2_with fail
  refine (H4.out _ K3.out).mono ?_
  rintro e w4 ⟨rfl, hb4⟩
  have K4 := Lib.hid (K3.out.trans (hb4.mono K3.out.size))
  clear hb4
  go_wp2_with fail
  refine (H5.out _).mono ?_
  rintro e w5 ⟨rfl, rfl⟩
  go_wp2_with fail
  refine (H6.out _).mono ?_
  rintro e w6 ⟨rfl, rfl⟩
  go_wp2_with fail
  go_ret
  exact ⟨rfl, K4.out⟩
end Go.Proofs.YtofndhmnofghaaaGreatDoor

/- Shift as relations. Condition: the decimal is right. -/
import Derived.Test.YtofndhmnofghaaaGreatDoorSej
import Derived.Deep.CutBlock
namespace Go.Proofs.YtofndhmnofghaaaGreatDoor.Sl
open Go.RowKit
set_option linter.unusedVariables false

/-! a decimal that is right: digits, the first of them not 0 -/
structure Dok (w : World) (B : Nat) (d : Nat → Nat) (nd : Nat) (dp : Int) (ng tr : Bool) : Prop where
  dz : Dz w B d nd dp ng tr
  dg : Dm.Dg d nd
  first : 49 ≤ d 0
  pos : 0 < nd
  le : nd ≤ 800
set_option maxRecDepth 100000 in
theorem shift_left (B P off c k : Nat) (d : Nat → Nat) (nd : Nat) (dp : Int) (ng tr : Bool) (w : World) (hT : Cheat w P off c) (hB15 : B ≠ 10) (hBP : B ≠ P) (h : Dok w B d nd dp ng tr)
    (hp : -10000000 ≤ dp) (hp2 : dp ≤ 10000000) (h1 : 1 ≤ k) (h2 : k ≤ 60) : Calls Tryz.prog 64 #[.pointer (some ⟨B, 0, none⟩), .int .i64 (k : Int)] w (ShP B d nd dp ng tr (LeftR k) w) := by
  have HL := Lib.hid (left_any B P off c k d nd dp ng tr w hT hB15 hBP h.dz h.dg h.first h.pos h.le hp hp2 h1 h2)
  have c800 := h.dz.nd_
  have hn : ((nd : Int) == 0) = false := beq_eq_false_iff_ne.2 (by have := h.pos; omega)
  have hk0 : (0 : Int) < (k : Int) := by omega
  have hk1 : 0 < k := by omega
  clear hT h
  go_enter Tryz.func64, Tryz.ntmps64
  go_wp2_with fail
  go_loopg [1] 1 (fun g s1 wx => s1 = .int .i64 (k : Int) ∧ w = wx)
  case atStart => exact ⟨rfl, rfl⟩
  case round =>
    obtain ⟨rfl, rfl⟩ := hrel
    go_wp2_with fail
    refine HL.out.mono ?_
    rintro e w9 ⟨rfl, ht9⟩
    have HT9 := Lib.hid ht9
    clear ht9
    go_wp2_with fail
    go_end0
    exact ⟨rfl, HT9.out⟩
def ShN (B : Nat) (d : Nat → Nat) (nd : Nat) (dp : Int) (ng tr : Bool) (n : Nat) (w : World) (e : Ending) (w' : World) : Prop :=
  e = .returned (.tuple #[]) ∧ ∃ g nd' dp' tr', Dok w' B g nd' dp' ng tr' ∧ dp - 20 * n ≤ dp' ∧ dp' ≤ dp ∧ Moved B w w' ∧ FarR n ⟨d, nd, dp, tr⟩ ⟨g, nd', dp', tr'⟩
set_option maxRecDepth 100000 in
theorem shift_right (B k : Nat) (d : Nat → Nat) (nd : Nat) (dp : Int) (ng tr : Bool) (w : World) (h : Dok w B d nd dp ng tr)
    (hp : -10000000 ≤ dp) (hp2 : dp ≤ 10000000) (h1 : 1 ≤ k) (h2 : k ≤ 60) : Calls Tryz.prog 64 #[.pointer (some ⟨B, 0, none⟩), .int .i64 (-(k : Int))] w (ShR B d nd dp ng tr k w) := by
  have HL := Lib.hid (right_any B k d nd dp ng tr w h.dz h.dg h.first h.pos h.le hp hp2 h1 h2)
  have c800 := h.dz.nd_
  have hn : ((nd : Int) == 0) = false := beq_eq_false_iff_ne.2 (by have := h.pos; omega)
  obtain ⟨z, hz⟩ : ∃ z : Int, -(k : Int) = z := ⟨_, rfl⟩
  rw [hz]
  have e1 : -z = (k : Int) := by omega
  have hz0 : z < 0 := by omega
  have hz1 : -60 ≤ z := by omega
  clear h hz
  go_enter Tryz.func64, Tryz.ntmps64
  go_wp2_with fail
  go_loopg [1] 1 (fun g s1 wx => s1 = .int .i64 z ∧ w = wx)
  case atStart => exact ⟨rfl, rfl⟩
  case round =>
    obtain ⟨rfl, rfl⟩ := hrel
    go_wp2_with fail
    refine HL.out.mono ?_
    rintro e w9 ⟨rfl, ht9⟩
    have HT9 := Lib.hid ht9
    clear ht9
    go_wp2_with fail
    go_end0
    exact ⟨rfl, HT9.out⟩
set_option maxRecDepth 100000 in
theorem shift_far (B n : Nat) (d : Nat → Nat) (nd : Nat) (dp : Int) (ng tr : Bool) (w : World) (h : Dok w B d nd dp ng tr)
    (hp : -1000000 ≤ dp) (hp2 : dp ≤ 10000000) (h1 : 1 ≤ n) (h2 : n ≤ 400000) : Calls Tryz.prog 64 #[.pointer (some ⟨B, 0, none⟩), .int .i64 (-(n : Int))] w (ShN B d nd dp ng tr n w) := by
  have HR := Lib.hid (fun (k : Nat) (d : Nat → Nat) (nd : Nat) (dp : Int) (tr : Bool) (w : World) (h : Dok w B d nd dp ng tr) (hp : -10000000 ≤ dp) (hp2 : dp ≤ 10000000) (h1 : 1 ≤ k) (h2 : k ≤ 60) => right_any B k d nd dp ng tr w h.dz h.dg h.first h.pos h.le hp hp2 h1 h2)
  have H := Lib.hid h
  have c800 := h.dz.nd_
  have hn : ((nd : Int) == 0) = false := beq_eq_false_iff_ne.2 (by have := h.pos; omega)
  obtain ⟨z, hz⟩ : ∃ z : Int, -(n : Int) = z := ⟨_, rfl⟩
  rw [hz]
  have hz0 : z < 0 := by omega
  have hz1 : -400000 ≤ z := by omega
  have HZ := Lib.hid hz
  clear h hz
  go_enter Tryz.func64, Tryz.ntmps64
  go_wp2_with fail
  go_loopg [1] n (fun g s1 wx => ∃ (z' : Int) (d' : Nat → Nat) (nd' : Nat) (dp' : Int) (tr' : Bool), g = (-z').toNat ∧ z' < 0 ∧ -400000 ≤ z' ∧ s1 = .int .i64 z' ∧ Hid (Dok wx B d' nd' dp' ng tr') ∧ Hid (dp - 20 * ((n : Int) + z') ≤ dp') ∧ Hid (dp' ≤ dp) ∧ Hid (Moved B w wx) ∧ Hid (∀ y, FarR g ⟨d', nd', dp', tr'⟩ y → FarR n ⟨d, nd, dp, tr⟩ y))
  case atStart => exact ⟨z, d, nd, dp, tr, by have := HZ.out; omega, hz0, hz1, rfl, H, by show _ ≤ _; have := HZ.out; omega, Int.le_refl _, Moved.refl _ _, fun y h => h⟩
  case round =>
    obtain ⟨z', d', nd', dp', tr', hg, hz0, hz1, rfl, HO, HP1, HP2, HM, HFR⟩ := hrel
    have b1 := HP1.out
    have b2 := HP2.out
    have b3 : -9000000 ≤ dp' := by omega
    have b4 : dp' ≤ 10000000 := by omega
    clear b1 b2
    by_cases hz6 : z' < -60
    · have HS := Lib.hid (HR.out 60 d' nd' dp' tr' wr HO.out (by omega) (by omega) (by omega) (by omega))
      clear hp hp2
      go_wp2_with fail
      refine HS.out.mono ?_
      rintro e w9 ⟨rfl, g, nd2, dp2, tr2, t1, t2, t3, t4, t5, t6, t7, t8, t9, t10⟩
      have HO2 : Hid (Dok w9 B g nd2 dp2 ng tr2) := ⟨t1, t3, t2, t4, t5⟩
      have HQ1 : Hid (dp - 20 * ((n : Int) + (z' + 60)) ≤ dp2) := by show _ ≤ _; have := HP1.out; omega
      have HQ2 : Hid (dp2 ≤ dp) := by show _ ≤ _; have := HP2.out; omega
      have HM2 := Lib.hid (HM.out.trans t9)
      have HF2 : Hid (∀ y, FarR ((-(z' + 60)).toNat) ⟨g, nd2, dp2, tr2⟩ y → FarR n ⟨d, nd, dp, tr⟩ y) := Lib.hid fun y hy => HFR.out y (.far (by omega) t10 (by omega) hy)
      clear t1 t2 t3 t4 t5 t6 t7 t8 t9 t10
      go_wp2_with fail
      go_roundg ((-(z' + 60)).toNat)
      case measure => omega
      case rel => exact ⟨z' + 60, g, nd2, dp2, tr2, rfl, by omega, by omega, by go_num, HO2, HQ1, HQ2, HM2, HF2⟩
    · obtain ⟨k, hk⟩ : ∃ k : Nat, -z' = (k : Int) := ⟨(-z').toNat, by omega⟩
      have HS := Lib.hid (HR.out k d' nd' dp' tr' wr HO.out (by omega) (by omega) (by omega) (by omega))
      have hz7 : -60 ≤ z' := by omega
      have HGK : Hid (gk = k) := by show gk = k; omega
      clear hp hp2 hg
      go_wp2_with fail
      refine HS.out.mono ?_
      rintro e w9 ⟨rfl, g, nd2, dp2, tr2, t1, t2, t3, t4, t5, t6, t7, t8, t9, t10⟩
      have HO2 : Hid (Dok w9 B g nd2 dp2 ng tr2) := ⟨t1, t3, t2, t4, t5⟩
      have HQ1 : Hid (dp - 20 * (n : Int) ≤ dp2) := by show _ ≤ _; have := HP1.out; omega
      have HQ2 : Hid (dp2 ≤ dp) := by show _ ≤ _; have := HP2.out; omega
      have HM2 := Lib.hid (HM.out.trans t9)
      have HF2 : Hid (FarR n ⟨d, nd, dp, tr⟩ ⟨g, nd2, dp2, tr2⟩) := HFR.out _ (by rw [HGK.out]; exact .last (by omega) t10)
      clear t1 t2 t3 t4 t5 t6 t7 t8 t9 t10
      go_wp2_with fail
      go_end0
      exact ⟨rfl, g, nd2, dp2, tr2, HO2.out, HQ1.out, HQ2.out, HM2.out, HF2.out⟩
end Go.Proofs.YtofndhmnofghaaaGreatDoor.Sl

namespace Go.Proofs.YtofndhmnofghaaaGreatDoor.Sl
open Go.RowKit
set_option linter.unusedVariables false

/-! a decimal, rounded -/
/-- is it rounded up behind n digits? -/
def upF (x : Dc) (n : Int) : Bool :=
  if n < 0 ∨ (x.nd : Int) ≤ n then false
  else if x.d n.toNat = 53 ∧ n.toNat + 1 = x.nd then (if x.tr = true then true else decide (0 < n.toNat) && (((x.d (n.toNat - 1) : Int) - 48) % 2 != 0))
  else decide (53 ≤ x.d n.toNat)
theorem up_out {x : Dc} {n : Int} (h : n < 0 ∨ (x.nd : Int) ≤ n) : upF x n = false := by unfold upF; rw [if_pos h]
theorem up_half {x : Dc} {n : Nat} (h : n < x.nd) (h5 : x.d n = 53) (hn : n + 1 = x.nd) : upF x n = (if x.tr = true then true else decide (0 < n) && (((x.d (n - 1) : Int) - 48) % 2 != 0)) := by
  unfold upF; rw [if_neg (by omega), Int.toNat_natCast, if_pos ⟨h5, hn⟩]
theorem up_other {x : Dc} {n : Nat} (h : n < x.nd) (h5 : ¬ (x.d n = 53 ∧ n + 1 = x.nd)) : upF x n = decide (53 ≤ x.d n) := by
  unfold upF; rw [if_neg (by omega), Int.toNat_natCast, if_neg h5]
def ri1 (x : Dc) (s t : Nat × Int) : Prop := (s.1 : Int) < x.dp ∧ s.1 < x.nd ∧ t = (s.1 + 1, IntKind.u64.wrap (IntKind.u64.wrap (s.2 * 10) + ((x.d s.1 : Int) - 48)))
def ri2 (x : Dc) (s t : Nat × Int) : Prop := (s.1 : Int) < x.dp ∧ t = (s.1 + 1, IntKind.u64.wrap (s.2 * 10))
theorem ri1_det (x : Dc) : Det (ri1 x) := by rintro s t u ⟨_, _, rfl⟩ ⟨_, _, rfl⟩; rfl
theorem ri2_det (x : Dc) : Det (ri2 x) := by rintro s t u ⟨_, rfl⟩ ⟨_, rfl⟩; rfl
def RiR (x : Dc) (z : Int) : Prop :=
  if 20 < x.dp then z = 18446744073709551615 else ∃ s t, Ends (ri1 x) (0, 0) s ∧ Ends (ri2 x) s t ∧ z = (if upF x x.dp = true then IntKind.u64.wrap (t.2 + 1) else t.2)
theorem RiR.det : Det RiR := by
  intro x y z h g
  unfold RiR at h g
  split at h
  · rename_i hc
    rw [if_pos hc] at g; rw [h, g]
  · rename_i hc
    rw [if_neg hc] at g
    obtain ⟨s, t, a, b, rfl⟩ := h
    obtain ⟨s', t', a', b', rfl⟩ := g
    obtain rfl := Ends.det (ri1_det _) _ _ _ a a'
    obtain rfl := Ends.det (ri2_det _) _ _ _ b b'
    rfl
set_option maxRecDepth 100000 in
theorem round_up (B : Nat) (d : Nat → Nat) (nd : Nat) (dp : Int) (ng tr : Bool) (w : World) (h : Dok w B d nd dp ng tr) (z : Int) :
    Calls Tryz.prog 91 #[.pointer (some ⟨B, 0, none⟩), .int .i64 z] w fun e w' => e = .returned (.bool (upF ⟨d, nd, dp, tr⟩ z)) ∧ w = w' := by
  have c800 := h.dz.nd_
  have c803 := h.dz.tr_
  have H := Lib.hid h
  have hle := h.le
  clear h
  obtain ⟨r, hr⟩ : ∃ r, upF ⟨d, nd, dp, tr⟩ z = r := ⟨_, rfl⟩
  rw [hr]
  have HR := Lib.hid hr
  clear hr
  by_cases h0 : z < 0
  · have hr : false = r := by rw [← HR.out]; exact (up_out (.inl h0)).symm
    subst hr
    go_enter Tryz.func91, Tryz.ntmps91
    go_wp2_with fail
    go_ret
    exact ⟨rfl, rfl⟩
  · obtain ⟨n, rfl⟩ : ∃ n : Nat, z = (n : Int) := ⟨z.toNat, by omega⟩
    clear h0
    have hn0 : decide ((n : Int) < 0) = false := decide_eq_false (by omega)
    by_cases hn : nd ≤ n
    · have hn1 : decide ((nd : Int) ≤ (n : Int)) = true := decide_eq_true (by omega)
      have hr : false = r := by rw [← HR.out]; exact (up_out (.inr (by show (nd : Int) ≤ (n : Int); omega))).symm
      subst hr
      go_enter Tryz.func91, Tryz.ntmps91
      go_wp2_with fail
      go_ret
      exact ⟨rfl, rfl⟩
    · have hn1 : decide ((nd : Int) ≤ (n : Int)) = false := decide_eq_false (by omega)
      have cn := H.out.dz.dig n (by omega)
      obtain ⟨v, hv⟩ : ∃ v, d n = v := ⟨_, rfl⟩
      rw [hv] at cn
      have HV := Lib.hid hv
      clear hv
      by_cases h5 : v = 53 ∧ n + 1 = nd
      · obtain ⟨rfl, rfl⟩ := h5
        by_cases hnp : 0 < n
        · obtain ⟨q, rfl⟩ : ∃ q, n = q + 1 := ⟨n - 1, by omega⟩
          have cq := H.out.dz.dig q (by omega)
          have hd := H.out.dg q (by omega)
          have e1 : ((q + 1 : Nat) : Int) - 1 = (q : Int) := by omega
          have e2 : decide ((0 : Int) < ((q + 1 : Nat) : Int)) = true := by simp
          cases tr with
          | true =>
            have hr : true = r := by rw [← HR.out, up_half (by show q + 1 < q + 1 + 1; omega) HV.out rfl]; rfl
            subst hr
            go_enter Tryz.func91, Tryz.ntmps91
            go_wp2_with fail
            go_ret
            exact ⟨rfl, rfl⟩
          | false =>
            have hr : (((d q : Int) - 48) % 2 != 0) = r := by rw [← HR.out, up_half (by show q + 1 < q + 1 + 1; omega) HV.out rfl]; simp
            have HRQ := Lib.hid hr
            clear hr
            go_enter Tryz.func91, Tryz.ntmps91
            go_wp2_with fail
            go_ret
            have hr := HRQ.out
            subst hr
            exact ⟨rfl, rfl⟩
        · obtain rfl : n = 0 := by omega
          cases tr with
          | true =>
            have hr : true = r := by rw [← HR.out]; exact (up_half (x := ⟨d, 0 + 1, dp, true⟩) (n := 0) (by show 0 < 0 + 1; omega) HV.out rfl).symm
            subst hr
            go_enter Tryz.func91, Tryz.ntmps91
            go_wp2_with fail
            go_ret
            exact ⟨rfl, rfl⟩
          | false =>
            have hr : false = r := by rw [← HR.out]; exact (up_half (x := ⟨d, 0 + 1, dp, false⟩) (n := 0) (by show 0 < 0 + 1; omega) HV.out rfl).symm
            subst hr
            go_enter Tryz.func91, Tryz.ntmps91
            go_wp2_with fail
            go_ret
            exact ⟨rfl, rfl⟩
      · by_cases hv : v = 53
        · subst hv
          have hne : (((n : Int) + 1) == (nd : Int)) = false := beq_eq_false_iff_ne.2 (by omega)
          have hr : true = r := by rw [← HR.out, up_other (by show n < nd; omega) (by show ¬ (d n = 53 ∧ _); rw [HV.out]; exact h5)]; exact (decide_eq_true (by show 53 ≤ d n; rw [HV.out]; omega)).symm
          subst hr
          clear h5
          go_enter Tryz.func91, Tryz.ntmps91
          go_wp2_with fail
          go_ret
          exact ⟨rfl, rfl⟩
        · have hne : ((v : Int) == 53) = false := beq_eq_false_iff_ne.2 (by omega)
          have hr : decide ((53 : Int) ≤ (v : Int)) = r := by
            rw [← HR.out, up_other (by show n < nd; omega) (by show ¬ (d n = 53 ∧ _); rw [HV.out]; exact h5)]
            show _ = decide (53 ≤ d n)
            rw [HV.out]; exact decide_eq_decide.2 (by omega)
          have HRQ := Lib.hid hr
          clear h5 hv hr
          go_enter Tryz.func91, Tryz.ntmps91
          go_wp2_with fail
          go_ret
          have hr := HRQ.out
          subst hr
          exact ⟨rfl, rfl⟩
def IsU (e : Ending) : Prop := ∃ z : Int, e = .returned (.int .u64 z) ∧ 0 ≤ z ∧ z ≤ 18446744073709551615
theorem u64_wrap (z : Int) : 0 ≤ IntKind.u64.wrap z ∧ IntKind.u64.wrap z ≤ 18446744073709551615 := wrap_within .u64 z
set_option maxRecDepth 100000 in
theorem round_int (B : Nat) (d : Nat → Nat) (nd : Nat) (dp : Int) (ng tr : Bool) (w : World) (h : Dok w B d nd dp ng tr) (hp : -100000000 ≤ dp) (hp2 : dp ≤ 100000000) :
    Calls Tryz.prog 118 #[.pointer (some ⟨B, 0, none⟩)] w fun e w' => (∃ z : Int, e = .returned (.int .u64 z) ∧ 0 ≤ z ∧ z ≤ 18446744073709551615 ∧ RiR ⟨d, nd, dp, tr⟩ z) ∧ w = w' := by
  have c800 := h.dz.nd_
  have c801 := h.dz.dp_
  have HR := Lib.hid (round_up B d nd dp ng tr w h dp)
  have H := Lib.hid h
  have hle := h.le
  clear h
  by_cases h20 : 20 < dp
  · go_enter Tryz.func118, Tryz.ntmps118
    go_wp2_with fail
    go_ret
    exact ⟨⟨_, rfl, by decide, by decide, by unfold RiR; rw [if_pos h20]⟩, rfl⟩
  · have h20f : decide (20 < dp) = false := decide_eq_false h20
    have h20i : dp ≤ 20 := by omega
    clear h20
    have HRI : Hid (∀ z s t, Ends (ri1 ⟨d, nd, dp, tr⟩) (0, 0) s → Ends (ri2 ⟨d, nd, dp, tr⟩) s t → z = (if upF ⟨d, nd, dp, tr⟩ dp = true then IntKind.u64.wrap (t.2 + 1) else t.2) → RiR ⟨d, nd, dp, tr⟩ z) := by
      intro z s t a b c
      unfold RiR; rw [if_neg (show ¬ 20 < dp by omega)]; exact ⟨s, t, a, b, c⟩
    go_enter Tryz.func118, Tryz.ntmps118
    go_upto_block 0 with fail
    go_cut [3, 4] (fun s3 s4 wx => ∃ (i : Nat) (z : Int), i ≤ 800 ∧ s3 = .int .i64 i ∧ s4 = .int .u64 z ∧ 0 ≤ z ∧ z ≤ 18446744073709551615 ∧ Hid (Ends (ri1 ⟨d, nd, dp, tr⟩) (0, 0) (i, z)) ∧ w = wx)
    case first =>
      go_wp2_with fail
      go_loopg [3, 4] 800 (fun g s3 s4 wx => ∃ (i : Nat) (z : Int), i + g = 800 ∧ s3 = .int .i64 i ∧ s4 = .int .u64 z ∧ 0 ≤ z ∧ z ≤ 18446744073709551615 ∧ Hid (Rch (ri1 ⟨d, nd, dp, tr⟩) (0, 0) (i, z)) ∧ w = wx)
      case atStart => exact ⟨0, 0, rfl, rfl, rfl, by omega, by omega, Rch.refl, rfl⟩
      case round =>
        obtain ⟨i, z, hig, rfl, rfl, z0, z1, HRC, rfl⟩ := hrel
        by_cases hi : (i : Int) < dp ∧ i < nd
        · obtain ⟨hi1, hi2⟩ := hi
          have hi3 : decide (i < nd) = true := decide_eq_true (by omega)
          obtain ⟨g, rfl⟩ : ∃ g, gk = g + 1 := ⟨gk - 1, by omega⟩
          have ci := H.out.dz.dig i (by omega)
          obtain ⟨dl, dh⟩ := H.out.dg i hi2
          have HRX : Hid (Rch (ri1 ⟨d, nd, dp, tr⟩) (0, 0) (i + 1, IntKind.u64.wrap (IntKind.u64.wrap (z * 10) + ((d i : Int) - 48)))) := .tail HRC.out ⟨hi1, hi2, rfl⟩
          go_wp2_with fail
          go_roundg g
          case measure => omega
          case rel => exact ⟨i + 1, _, by omega, by go_num, rfl, (u64_wrap _).1, (u64_wrap _).2, HRX, rfl⟩
        · by_cases hi1 : (i : Int) < dp
          · have hi3 : decide (i < nd) = false := decide_eq_false (by omega)
            have HEX : Hid (Ends (ri1 ⟨d, nd, dp, tr⟩) (0, 0) (i, z)) := ⟨HRC.out, by rintro t ⟨a, b, _⟩; exact hi ⟨a, b⟩⟩
            clear hi
            go_wp2_with fail
            go_meet
            exact ⟨i, z, by omega, rfl, rfl, z0, z1, HEX, rfl⟩
          · have hi3 : decide ((i : Int) < dp) = false := decide_eq_false hi1
            have HEX : Hid (Ends (ri1 ⟨d, nd, dp, tr⟩) (0, 0) (i, z)) := ⟨HRC.out, by rintro t ⟨a, b, _⟩; exact hi ⟨a, b⟩⟩
            clear hi
            go_wp2_with fail
            go_meet
            exact ⟨i, z, by omega, rfl, rfl, z0, z1, HEX, rfl⟩
    case rest =>
      obtain ⟨i, z, hi8, rfl, rfl, z0, z1, HE1, rfl⟩ := hcut
      obtain ⟨S1, hS1⟩ : ∃ S1 : Nat × Int, (i, z) = S1 := ⟨_, rfl⟩
      rw [hS1] at HE1
      have HR0 : Hid (Rch (ri2 ⟨d, nd, dp, tr⟩) S1 (i, z)) := by
        show Rch _ _ _
        rw [hS1]; exact Rch.refl
      clear hS1
      go_wp2_with fail
      go_loopg [3, 4] (20 - i) (fun g s3 s4 wx => ∃ (i : Nat) (z : Int), g = 20 - i ∧ i ≤ 800 ∧ s3 = .int .i64 i ∧ s4 = .int .u64 z ∧ 0 ≤ z ∧ z ≤ 18446744073709551615 ∧ Hid (Rch (ri2 ⟨d, nd, dp, tr⟩) S1 (i, z)) ∧ w = wx)
      case atStart => exact ⟨i, z, rfl, hi8, rfl, rfl, z0, z1, HR0, rfl⟩
      case round =>
        clear HR0
        obtain ⟨i, z, hig, hi8, rfl, rfl, z0, z1, HRC, rfl⟩ := hrel
        by_cases hi1 : (i : Int) < dp
        · have HRX : Hid (Rch (ri2 ⟨d, nd, dp, tr⟩) S1 (i + 1, IntKind.u64.wrap (z * 10))) := .tail HRC.out ⟨hi1, rfl⟩
          go_wp2_with fail
          go_roundg (20 - (i + 1))
          case measure => omega
          case rel => exact ⟨i + 1, _, rfl, by omega, by go_num, rfl, (u64_wrap _).1, (u64_wrap _).2, HRX, rfl⟩
        · have HEX : Hid (Ends (ri2 ⟨d, nd, dp, tr⟩) S1 (i, z)) := ⟨HRC.out, by rintro t ⟨a, _⟩; exact hi1 a⟩
          have HF := Lib.hid (fun z' => HRI.out z' S1 (i, z) HE1.out HEX.out)
          obtain ⟨b, hb⟩ : ∃ b, upF ⟨d, nd, dp, tr⟩ dp = b := ⟨_, rfl⟩
          rw [hb] at HF HR
          clear hb
          go_wp2_with fail
          refine HR.out.mono ?_
          rintro e w9 ⟨rfl, rfl⟩
          cases b with
          | true =>
            go_wp2_with fail
            go_ret
            exact ⟨⟨_, rfl, (u64_wrap _).1, (u64_wrap _).2, HF.out _ rfl⟩, rfl⟩
          | false =>
            go_wp2_with fail
            go_ret
            exact ⟨⟨_, rfl, z0, z1, HF.out _ rfl⟩, rfl⟩
end Go.Proofs.YtofndhmnofghaaaGreatDoor.Sl

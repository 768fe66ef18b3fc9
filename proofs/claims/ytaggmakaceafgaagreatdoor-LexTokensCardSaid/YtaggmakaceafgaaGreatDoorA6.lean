import Derived.Test.YtaggmakaceafgaaGreatDoorA5
namespace Go.Proofs.YtaggmakaceafgaaGreatDoor
open Go.RowKit
set_option linter.unusedVariables false

/-! a decimal that is right: digits, the first of them not 0 -/
structure Dok (w : World) (B : Nat) (d : Nat → Nat) (nd : Nat) (dp : Int) (ng tr : Bool) : Prop where
  dz : Dz w B d nd dp ng tr
  dg : Dm.Dg d nd
  first : 49 ≤ d 0
  pos : 0 < nd
  le : nd ≤ 800
set_option maxRecDepth 100000 in
theorem shift_left (B P off c k : Nat) (d : Nat → Nat) (nd : Nat) (dp : Int) (ng tr : Bool) (w : World) (hT : Cheat w P off c) (hB15 : B ≠ 15) (hBP : B ≠ P) (h : Dok w B d nd dp ng tr)
    (hp : -10000000 ≤ dp) (hp2 : dp ≤ 10000000) (h1 : 1 ≤ k) (h2 : k ≤ 60) : Calls Tryz.prog 122 #[.pointer (some ⟨B, 0, none⟩), .int .i64 (k : Int)] w (ShP B d nd dp ng w) := by
  have HL := Lib.hid (left_any B P off c k d nd dp ng tr w hT hB15 hBP h.dz h.dg h.first h.pos h.le hp hp2 h1 h2)
  have c800 := h.dz.nd_
  have hn : ((nd : Int) == 0) = false := beq_eq_false_iff_ne.2 (by have := h.pos; omega)
  have hk0 : (0 : Int) < (k : Int) := by omega
  have hk1 : 0 < k := by omega
  clear hT h
  go_enter Tryz.func122, Tryz.ntmps122
  go_wp2_with fail
  go_loopg [1] 1 (fun g s1 wx => s1 = .int .i64 (k : Int) ∧ w = wx)
  case atStart => exact ⟨rfl, rfl⟩
  case round =>
    obtain ⟨rfl, rfl⟩ := hrel
    go_wp2_with fail
    refine HL.out.mono ?_
    rintro e w9 ⟨rfl, ht9⟩
    have HT9 := Lib.hid ht9
    clear ht9
    go_wp2_with fail
    go_end0
    exact ⟨rfl, HT9.out⟩
def ShN (B : Nat) (dp : Int) (ng : Bool) (n : Nat) (w : World) (e : Ending) (w' : World) : Prop :=
  e = .returned (.tuple #[]) ∧ ∃ g nd' dp' tr', Dok w' B g nd' dp' ng tr' ∧ dp - 20 * n ≤ dp' ∧ dp' ≤ dp ∧ Moved B w w'
set_option maxRecDepth 100000 in
theorem shift_right (B k : Nat) (d : Nat → Nat) (nd : Nat) (dp : Int) (ng tr : Bool) (w : World) (h : Dok w B d nd dp ng tr)
    (hp : -10000000 ≤ dp) (hp2 : dp ≤ 10000000) (h1 : 1 ≤ k) (h2 : k ≤ 60) : Calls Tryz.prog 122 #[.pointer (some ⟨B, 0, none⟩), .int .i64 (-(k : Int))] w (ShR B d nd dp ng k w) := by
  have HL := Lib.hid (right_any B k d nd dp ng tr w h.dz h.dg h.first h.pos h.le hp hp2 h1 h2)
  have c800 := h.dz.nd_
  have hn : ((nd : Int) == 0) = false := beq_eq_false_iff_ne.2 (by have := h.pos; omega)
  obtain ⟨z, hz⟩ : ∃ z : Int, -(k : Int) = z := ⟨_, rfl⟩
  rw [hz]
  have e1 : -z = (k : Int) := by omega
  have hz0 : z < 0 := by omega
  have hz1 : -60 ≤ z := by omega
  clear h hz
  go_enter Tryz.func122, Tryz.ntmps122
  go_wp2_with fail
  go_loopg [1] 1 (fun g s1 wx => s1 = .int .i64 z ∧ w = wx)
  case atStart => exact ⟨rfl, rfl⟩
  case round =>
    obtain ⟨rfl, rfl⟩ := hrel
    go_wp2_with fail
    refine HL.out.mono ?_
    rintro e w9 ⟨rfl, ht9⟩
    have HT9 := Lib.hid ht9
    clear ht9
    go_wp2_with fail
    go_end0
    exact ⟨rfl, HT9.out⟩
set_option maxRecDepth 100000 in
theorem shift_far (B n : Nat) (d : Nat → Nat) (nd : Nat) (dp : Int) (ng tr : Bool) (w : World) (h : Dok w B d nd dp ng tr)
    (hp : -1000000 ≤ dp) (hp2 : dp ≤ 10000000) (h1 : 1 ≤ n) (h2 : n ≤ 400000) : Calls Tryz.prog 122 #[.pointer (some ⟨B, 0, none⟩), .int .i64 (-(n : Int))] w (ShN B dp ng n w) := by
  have HR := Lib.hid (fun (k : Nat) (d : Nat → Nat) (nd : Nat) (dp : Int) (tr : Bool) (w : World) (h : Dok w B d nd dp ng tr) (hp : -10000000 ≤ dp) (hp2 : dp ≤ 10000000) (h1 : 1 ≤ k) (h2 : k ≤ 60) => right_any B k d nd dp ng tr w h.dz h.dg h.first h.pos h.le hp hp2 h1 h2)
  have H := Lib.hid h
  have c800 := h.dz.nd_
  have hn : ((nd : Int) == 0) = false := beq_eq_false_iff_ne.2 (by have := h.pos; omega)
  obtain ⟨z, hz⟩ : ∃ z : Int, -(n : Int) = z := ⟨_, rfl⟩
  rw [hz]
  have hz0 : z < 0 := by omega
  have hz1 : -400000 ≤ z := by omega
  have HZ := Lib.hid hz
  clear h hz
  go_enter Tryz.func122, Tryz.ntmps122
  go_wp2_with fail
  go_loopg [1] n (fun g s1 wx => ∃ (z' : Int) (d' : Nat → Nat) (nd' : Nat) (dp' : Int) (tr' : Bool), g = (-z').toNat ∧ z' < 0 ∧ -400000 ≤ z' ∧ s1 = .int .i64 z' ∧ Hid (Dok wx B d' nd' dp' ng tr') ∧ Hid (dp - 20 * ((n : Int) + z') ≤ dp') ∧ Hid (dp' ≤ dp) ∧ Hid (Moved B w wx))
  case atStart => exact ⟨z, d, nd, dp, tr, by have := HZ.out; omega, hz0, hz1, rfl, H, by show _ ≤ _; have := HZ.out; omega, Int.le_refl _, Moved.refl _ _⟩
  case round =>
    obtain ⟨z', d', nd', dp', tr', hg, hz0, hz1, rfl, HO, HP1, HP2, HM⟩ := hrel
    have b1 := HP1.out
    have b2 := HP2.out
    have b3 : -9000000 ≤ dp' := by omega
    have b4 : dp' ≤ 10000000 := by omega
    clear b1 b2
    by_cases hz6 : z' < -60
    · have HS := Lib.hid (HR.out 60 d' nd' dp' tr' wr HO.out (by omega) (by omega) (by omega) (by omega))
      clear hp hp2
      go_wp2_with fail
      refine HS.out.mono ?_
      rintro e w9 ⟨rfl, g, nd2, dp2, tr2, t1, t2, t3, t4, t5, t6, t7, t8, t9⟩
      have HO2 : Hid (Dok w9 B g nd2 dp2 ng tr2) := ⟨t1, t3, t2, t4, t5⟩
      have HQ1 : Hid (dp - 20 * ((n : Int) + (z' + 60)) ≤ dp2) := by show _ ≤ _; have := HP1.out; omega
      have HQ2 : Hid (dp2 ≤ dp) := by show _ ≤ _; have := HP2.out; omega
      have HM2 := Lib.hid (HM.out.trans t9)
      clear t1 t2 t3 t4 t5 t6 t7 t8 t9
      go_wp2_with fail
      go_roundg ((-(z' + 60)).toNat)
      case measure => omega
      case rel => exact ⟨z' + 60, g, nd2, dp2, tr2, rfl, by omega, by omega, by go_num, HO2, HQ1, HQ2, HM2⟩
    · obtain ⟨k, hk⟩ : ∃ k : Nat, -z' = (k : Int) := ⟨(-z').toNat, by omega⟩
      have HS := Lib.hid (HR.out k d' nd' dp' tr' wr HO.out (by omega) (by omega) (by omega) (by omega))
      have hz7 : -60 ≤ z' := by omega
      clear hp hp2 hg
      go_wp2_with fail
      refine HS.out.mono ?_
      rintro e w9 ⟨rfl, g, nd2, dp2, tr2, t1, t2, t3, t4, t5, t6, t7, t8, t9⟩
      have HO2 : Hid (Dok w9 B g nd2 dp2 ng tr2) := ⟨t1, t3, t2, t4, t5⟩
      have HQ1 : Hid (dp - 20 * (n : Int) ≤ dp2) := by show _ ≤ _; have := HP1.out; omega
      have HQ2 : Hid (dp2 ≤ dp) := by show _ ≤ _; have := HP2.out; omega
      have HM2 := Lib.hid (HM.out.trans t9)
      clear t1 t2 t3 t4 t5 t6 t7 t8 t9
      go_wp2_with fail
      go_end0
      exact ⟨rfl, g, nd2, dp2, tr2, HO2.out, HQ1.out, HQ2.out, HM2.out⟩
end Go.Proofs.YtaggmakaceafgaaGreatDoor

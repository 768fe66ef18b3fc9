import Derived.Test.YtaggmakaceafgaaGreatDoorA6
import Derived.Deep.CutBlock
namespace Go.Proofs.YtaggmakaceafgaaGreatDoor
open Go.RowKit
set_option linter.unusedVariables false

/-! a decimal, rounded -/
set_option maxRecDepth 100000 in
theorem round_up (B : Nat) (d : Nat → Nat) (nd : Nat) (dp : Int) (ng tr : Bool) (w : World) (h : Dok w B d nd dp ng tr) (z : Int) :
    Calls Tryz.prog 129 #[.pointer (some ⟨B, 0, none⟩), .int .i64 z] w fun e w' => (∃ b : Bool, e = .returned (.bool b)) ∧ w = w' := by
  have c800 := h.dz.nd_
  have c803 := h.dz.tr_
  have H := Lib.hid h
  have hle := h.le
  clear h
  by_cases h0 : z < 0
  · go_enter Tryz.func129, Tryz.ntmps129
    go_wp2_with fail
    go_ret
    exact ⟨⟨_, rfl⟩, rfl⟩
  · obtain ⟨n, rfl⟩ : ∃ n : Nat, z = (n : Int) := ⟨z.toNat, by omega⟩
    clear h0
    have hn0 : decide ((n : Int) < 0) = false := decide_eq_false (by omega)
    by_cases hn : nd ≤ n
    · have hn1 : decide ((nd : Int) ≤ (n : Int)) = true := decide_eq_true (by omega)
      go_enter Tryz.func129, Tryz.ntmps129
      go_wp2_with fail
      go_ret
      exact ⟨⟨_, rfl⟩, rfl⟩
    · have hn1 : decide ((nd : Int) ≤ (n : Int)) = false := decide_eq_false (by omega)
      have cn := H.out.dz.dig n (by omega)
      obtain ⟨v, hv⟩ : ∃ v, d n = v := ⟨_, rfl⟩
      rw [hv] at cn
      clear hv
      by_cases h5 : v = 53 ∧ n + 1 = nd
      · obtain ⟨rfl, rfl⟩ := h5
        by_cases hnp : 0 < n
        · obtain ⟨q, rfl⟩ : ∃ q, n = q + 1 := ⟨n - 1, by omega⟩
          have cq := H.out.dz.dig q (by omega)
          have hd := H.out.dg q (by omega)
          have e1 : ((q + 1 : Nat) : Int) - 1 = (q : Int) := by omega
          have e2 : decide ((0 : Int) < ((q + 1 : Nat) : Int)) = true := by simp
          cases tr with
          | true =>
            go_enter Tryz.func129, Tryz.ntmps129
            go_wp2_with fail
            go_ret
            exact ⟨⟨_, rfl⟩, rfl⟩
          | false =>
            go_enter Tryz.func129, Tryz.ntmps129
            go_wp2_with fail
            go_ret
            exact ⟨⟨_, rfl⟩, rfl⟩
        · obtain rfl : n = 0 := by omega
          cases tr with
          | true =>
            go_enter Tryz.func129, Tryz.ntmps129
            go_wp2_with fail
            go_ret
            exact ⟨⟨_, rfl⟩, rfl⟩
          | false =>
            go_enter Tryz.func129, Tryz.ntmps129
            go_wp2_with fail
            go_ret
            exact ⟨⟨_, rfl⟩, rfl⟩
      · by_cases hv : v = 53
        · subst hv
          have hne : (((n : Int) + 1) == (nd : Int)) = false := beq_eq_false_iff_ne.2 (by omega)
          clear h5
          go_enter Tryz.func129, Tryz.ntmps129
          go_wp2_with fail
          go_ret
          exact ⟨⟨_, rfl⟩, rfl⟩
        · have hne : ((v : Int) == 53) = false := beq_eq_false_iff_ne.2 (by omega)
          clear h5 hv
          go_enter Tryz.func129, Tryz.ntmps129
          go_wp2_with fail
          go_ret
          exact ⟨⟨_, rfl⟩, rfl⟩
def IsU (e : Ending) : Prop := ∃ z : Int, e = .returned (.int .u64 z) ∧ 0 ≤ z ∧ z ≤ 18446744073709551615
theorem u64_wrap (z : Int) : 0 ≤ IntKind.u64.wrap z ∧ IntKind.u64.wrap z ≤ 18446744073709551615 := wrap_within .u64 z
set_option maxRecDepth 100000 in
theorem round_int (B : Nat) (d : Nat → Nat) (nd : Nat) (dp : Int) (ng tr : Bool) (w : World) (h : Dok w B d nd dp ng tr) (hp : -100000000 ≤ dp) (hp2 : dp ≤ 100000000) :
    Calls Tryz.prog 123 #[.pointer (some ⟨B, 0, none⟩)] w fun e w' => IsU e ∧ w = w' := by
  have c800 := h.dz.nd_
  have c801 := h.dz.dp_
  have HR := Lib.hid (round_up B d nd dp ng tr w h dp)
  have H := Lib.hid h
  have hle := h.le
  clear h
  by_cases h20 : 20 < dp
  · go_enter Tryz.func123, Tryz.ntmps123
    go_wp2_with fail
    go_ret
    exact ⟨⟨_, rfl, by decide, by decide⟩, rfl⟩
  · have h20f : decide (20 < dp) = false := decide_eq_false h20
    have h20i : dp ≤ 20 := by omega
    clear h20
    go_enter Tryz.func123, Tryz.ntmps123
    go_upto_block 0 with fail
    go_cut [3, 4] (fun s3 s4 wx => ∃ (i : Nat) (z : Int), i ≤ 800 ∧ s3 = .int .i64 i ∧ s4 = .int .u64 z ∧ 0 ≤ z ∧ z ≤ 18446744073709551615 ∧ w = wx)
    case first =>
      go_wp2_with fail
      go_loopg [3, 4] 800 (fun g s3 s4 wx => ∃ (i : Nat) (z : Int), i + g = 800 ∧ s3 = .int .i64 i ∧ s4 = .int .u64 z ∧ 0 ≤ z ∧ z ≤ 18446744073709551615 ∧ w = wx)
      case atStart => exact ⟨0, 0, rfl, rfl, rfl, by omega, by omega, rfl⟩
      case round =>
        obtain ⟨i, z, hig, rfl, rfl, z0, z1, rfl⟩ := hrel
        by_cases hi : (i : Int) < dp ∧ i < nd
        · obtain ⟨hi1, hi2⟩ := hi
          have hi3 : decide (i < nd) = true := decide_eq_true (by omega)
          obtain ⟨g, rfl⟩ : ∃ g, gk = g + 1 := ⟨gk - 1, by omega⟩
          have ci := H.out.dz.dig i (by omega)
          obtain ⟨dl, dh⟩ := H.out.dg i hi2
          go_wp2_with fail
          go_roundg g
          case measure => omega
          case rel => exact ⟨i + 1, _, by omega, by go_num, rfl, (u64_wrap _).1, (u64_wrap _).2, rfl⟩
        · by_cases hi1 : (i : Int) < dp
          · have hi3 : decide (i < nd) = false := decide_eq_false (by omega)
            clear hi
            go_wp2_with fail
            go_meet
            exact ⟨i, z, by omega, rfl, rfl, z0, z1, rfl⟩
          · have hi3 : decide ((i : Int) < dp) = false := decide_eq_false hi1
            clear hi
            go_wp2_with fail
            go_meet
            exact ⟨i, z, by omega, rfl, rfl, z0, z1, rfl⟩
    case rest =>
      obtain ⟨i, z, hi8, rfl, rfl, z0, z1, rfl⟩ := hcut
      go_wp2_with fail
      go_loopg [3, 4] (20 - i) (fun g s3 s4 wx => ∃ (i : Nat) (z : Int), g = 20 - i ∧ i ≤ 800 ∧ s3 = .int .i64 i ∧ s4 = .int .u64 z ∧ 0 ≤ z ∧ z ≤ 18446744073709551615 ∧ w = wx)
      case atStart => exact ⟨i, z, rfl, hi8, rfl, rfl, z0, z1, rfl⟩
      case round =>
        obtain ⟨i, z, hig, hi8, rfl, rfl, z0, z1, rfl⟩ := hrel
        by_cases hi1 : (i : Int) < dp
        · go_wp2_with fail
          go_roundg (20 - (i + 1))
          case measure => omega
          case rel => exact ⟨i + 1, _, rfl, by omega, by go_num, rfl, (u64_wrap _).1, (u64_wrap _).2, rfl⟩
        · go_wp2_with fail
          refine HR.out.mono ?_
          rintro e w9 ⟨⟨b, rfl⟩, rfl⟩
          cases b with
          | true =>
            go_wp2_with fail
            go_ret
            exact ⟨⟨_, rfl, (u64_wrap _).1, (u64_wrap _).2⟩, rfl⟩
          | false =>
            go_wp2_with fail
            go_ret
            exact ⟨⟨_, rfl, z0, z1⟩, rfl⟩
end Go.Proofs.YtaggmakaceafgaaGreatDoor

/- Lemmas. No condition. -/
import Derived.Test.YtofndhmnofghaaaGreatDoorB2j
namespace Go.Proofs.YtofndhmnofghaaaGreatDoor
open Go.RowKit Ieee
set_option linter.unusedVariables false

/-! the text without a power -/

theorem take_next (ds : List UInt8) (k : Nat) (h : k < ds.length) : ds.take k ++ [ds.getD k 0] = ds.take (k + 1) := by
  rw [List.take_succ_eq_append_getElem h, List.getD_eq_getElem?_getD, List.getElem?_eq_getElem h]
  rfl
theorem rep_next (k : Nat) : List.replicate k (48 : UInt8) ++ [48] = List.replicate (k + 1) 48 := (List.replicate_succ' ..).symm
set_option maxRecDepth 100000 in
set_option maxHeartbeats 4000000 in
theorem efgF_a (neg : Bool) (ds : List UInt8) (q r : Nat) (b cap base nd : Nat) (w w0 : World) (v : Value) (hO : Outp w0 base b ds v [] w) (hnd : ds.length = nd) (hn : nd ≤ 20) (hc1 : 32 ≤ cap) (hc2 : cap ≤ 9223372036854775807)
    (hq0 : 0 < q) (hq : q ≤ 6) (hr : nd + r = q) :
    Calls Tryz.prog 56 #[v, .bool neg, .slice (some ⟨b, 0, none⟩) 32 cap, .int .i64 (q : Int), .int .i64 (nd : Int), .int .i64 (nd : Int), .int .u8 103, .bool true] w (EfgP w0 base b ds (sgn neg ++ ds ++ List.replicate r 48)) := by
  have HO := Lib.hid hO
  have HND := Lib.hid hnd
  have e1 : min (nd : Int) (q : Int) = (nd : Int) := by omega
  have e2 : (q : Int) - (nd : Int) = (r : Int) := by omega
  have e3 : ¬ (q : Int) < (nd : Int) := by omega
  have e4 : max ((nd : Int) - (q : Int)) 0 = 0 := by omega
  have e5 : (nd : Int) ≤ 32 := by omega
  clear hO hnd
  go_enter Tryz.func56, Tryz.ntmps56
  go_upto_if 178 with fail
  go_cut [0] (fun s0 wx => Hid (Outp w0 base b ds s0 (sgn neg) wx))
  case first => as_aux_lemma =>
    cases neg with
    | false =>
      go_wp2
      go_meet
      exact HO
    | true =>
      go_wp2_with (at_builtin; refine push_one rfl _ _ rfl rfl _ 45 _ rfl HO.out rfl (by decide) ?_; intro v1 w1 hO1; have HO1 := Lib.hid hO1; clear hO1)
      go_meet
      exact HO1
  case rest => as_aux_lemma =>
    have HO1 := hcut
    clear hcut HO
    have hs1 : (sgn neg).length ≤ 1 := by cases neg <;> decide
    go_wp2_with fail
    go_loopg [0, 191] nd (fun g s0 s191 wx => ∃ k : Nat, k + g = nd ∧ s191 = .int .i64 k ∧ Hid (Outp w0 base b ds s0 (sgn neg ++ ds.take k) wx))
    case atStart => exact ⟨0, by omega, rfl, by simpa using HO1⟩
    case round =>
      obtain ⟨k, hkg, rfl, HK⟩ := hrel
      have hsk : (sgn neg ++ ds.take k).length ≤ 21 := by
        have := List.length_take_le k ds
        simp only [List.length_append]; omega
      by_cases hk : k < nd
      · as_aux_lemma =>
        obtain ⟨g, rfl⟩ : ∃ g, gk = g + 1 := ⟨gk - 1, by omega⟩
        have hlt : k < ds.length := by rw [HND.out]; exact hk
        have hc := HK.out.dig k hlt
        obtain ⟨c, hcc⟩ : ∃ c, ds.getD k 0 = c := ⟨_, rfl⟩
        rw [hcc] at hc
        have hn2 : Hid (sgn neg ++ ds.take k ++ [c] = sgn neg ++ ds.take (k + 1)) := by
          show sgn neg ++ ds.take k ++ [c] = sgn neg ++ ds.take (k + 1)
          rw [List.append_assoc, ← hcc, take_next ds k hlt]
        clear hcc hlt
        go_wp2_with (at_builtin; refine push_one rfl _ _ rfl rfl _ c _ rfl HK.out rfl (by omega) ?_; intro v2 w2 hO2; have HO2 := Lib.hid hO2; clear hO2)
        go_roundg g
        case measure => omega
        case rel => exact ⟨k + 1, by omega, by go_num, by show Outp _ _ _ _ _ _ _; rw [← hn2.out]; exact HO2.out⟩
      · as_aux_lemma =>
        have hkn : k = nd := by omega
        have ht : ds.take k = ds := List.take_of_length_le (by rw [HND.out]; omega)
        rw [ht] at HK
        have hs2 : (sgn neg ++ ds).length ≤ 21 := by simp only [List.length_append, HND.out]; omega
        clear ht hsk
        subst hkn
        go_wp2_with fail
        go_loopg [0, 203] r (fun g s0 s203 wx => ∃ j : Nat, j + g = r ∧ s203 = .int .i64 j ∧ Hid (Outp w0 base b ds s0 (sgn neg ++ ds ++ List.replicate j 48) wx))
        case atStart => exact ⟨0, by omega, rfl, by simpa using HK⟩
        case round =>
          obtain ⟨j, hjg, rfl, HJ⟩ := hrel
          have hsj : (sgn neg ++ ds ++ List.replicate j 48).length ≤ 40 := by
            simp only [List.length_append, List.length_replicate] at hs2 ⊢; omega
          by_cases hj : j < r
          · as_aux_lemma =>
            obtain ⟨g, rfl⟩ : ∃ g, gk = g + 1 := ⟨gk - 1, by omega⟩
            go_wp2_with (at_builtin; refine push_one rfl _ _ rfl rfl _ 48 _ rfl HJ.out rfl (by omega) ?_; intro v2 w2 hO2; have HO2 := Lib.hid hO2; clear hO2)
            go_roundg g
            case measure => omega
            case rel => exact ⟨j + 1, by omega, by go_num, by show Outp _ _ _ _ _ _ _; rw [← rep_next j, ← List.append_assoc]; exact HO2.out⟩
          · as_aux_lemma =>
            have hjn : j = r := by omega
            subst hjn
            go_wp2_with fail
            go_ret
            exact ⟨_, rfl, HJ.out⟩
end Go.Proofs.YtofndhmnofghaaaGreatDoor

namespace Go.Proofs.YtofndhmnofghaaaGreatDoor
open Go.RowKit Ieee
set_option linter.unusedVariables false

theorem drop_next (ds : List UInt8) (q k : Nat) (h : q + k < ds.length) : (ds.drop q).take k ++ [ds.getD (q + k) 0] = (ds.drop q).take (k + 1) := by
  have := take_next (ds.drop q) k (by rw [List.length_drop]; omega)
  rw [← this, List.getD_eq_getElem?_getD, List.getD_eq_getElem?_getD, List.getElem?_drop]
set_option maxRecDepth 100000 in
set_option maxHeartbeats 8000000 in
theorem efgF_b (neg : Bool) (ds : List UInt8) (q r : Nat) (b cap base nd : Nat) (w w0 : World) (v : Value) (hO : Outp w0 base b ds v [] w) (hnd : ds.length = nd) (hn : nd ≤ 20) (hc1 : 32 ≤ cap) (hc2 : cap ≤ 9223372036854775807)
    (hq0 : 0 < q) (hq : q ≤ 6) (hr : q + r = nd) (hr0 : 0 < r) :
    Calls Tryz.prog 56 #[v, .bool neg, .slice (some ⟨b, 0, none⟩) 32 cap, .int .i64 (q : Int), .int .i64 (nd : Int), .int .i64 (nd : Int), .int .u8 103, .bool true] w (EfgP w0 base b ds (sgn neg ++ ds.take q ++ [46] ++ ds.drop q)) := by
  have HO := Lib.hid hO
  have HND := Lib.hid hnd
  have e1 : min (nd : Int) (q : Int) = (q : Int) := by omega
  have e2 : (nd : Int) - (q : Int) = (r : Int) := by omega
  have e3 : (q : Int) < (nd : Int) := by omega
  have e4 : max (r : Int) 0 = (r : Int) := by omega
  have e5 : (nd : Int) ≤ 32 := by omega
  have e6 : max (0 : Int) (-(q : Int)) = 0 := by omega
  have e7 : min (r : Int) 0 = 0 := by omega
  have e8 : max (0 : Int) (r : Int) = (r : Int) := by omega
  have hqn : q < nd := by omega
  clear hO hnd
  go_enter Tryz.func56, Tryz.ntmps56
  go_upto_if 178 with fail
  go_cut [0] (fun s0 wx => Hid (Outp w0 base b ds s0 (sgn neg) wx))
  case first => as_aux_lemma =>
    cases neg with
    | false =>
      go_wp2
      go_meet
      exact HO
    | true =>
      go_wp2_with (at_builtin; refine push_one rfl _ _ rfl rfl _ 45 _ rfl HO.out rfl (by decide) ?_; intro v1 w1 hO1; have HO1 := Lib.hid hO1; clear hO1)
      go_meet
      exact HO1
  case rest => as_aux_lemma =>
    have HO1 := hcut
    clear hcut HO
    have hs1 : (sgn neg).length ≤ 1 := by cases neg <;> decide
    go_wp2_with fail
    go_loopg [0, 191] q (fun g s0 s191 wx => ∃ k : Nat, k + g = q ∧ s191 = .int .i64 k ∧ Hid (Outp w0 base b ds s0 (sgn neg ++ ds.take k) wx))
    case atStart => exact ⟨0, by omega, rfl, by simpa using HO1⟩
    case round =>
      obtain ⟨k, hkg, rfl, HK⟩ := hrel
      have hsk : (sgn neg ++ ds.take k).length ≤ 21 := by
        have := List.length_take_le k ds
        simp only [List.length_append]; omega
      by_cases hk : k < q
      · as_aux_lemma =>
        obtain ⟨g, rfl⟩ : ∃ g, gk = g + 1 := ⟨gk - 1, by omega⟩
        have hlt : k < ds.length := by rw [HND.out]; omega
        have hc := HK.out.dig k hlt
        obtain ⟨c, hcc⟩ : ∃ c, ds.getD k 0 = c := ⟨_, rfl⟩
        rw [hcc] at hc
        have hn2 : Hid (sgn neg ++ ds.take k ++ [c] = sgn neg ++ ds.take (k + 1)) := by
          show sgn neg ++ ds.take k ++ [c] = sgn neg ++ ds.take (k + 1)
          rw [List.append_assoc, ← hcc, take_next ds k hlt]
        clear hcc hlt
        go_wp2_with (at_builtin; refine push_one rfl _ _ rfl rfl _ c _ rfl HK.out rfl (by omega) ?_; intro v2 w2 hO2; have HO2 := Lib.hid hO2; clear hO2)
        go_roundg g
        case measure => omega
        case rel => exact ⟨k + 1, by omega, by go_num, by show Outp _ _ _ _ _ _ _; rw [← hn2.out]; exact HO2.out⟩
      · as_aux_lemma =>
        have hkn : k = q := by omega
        have hs2 : (sgn neg ++ ds.take k).length ≤ 21 := hsk
        clear hsk
        subst hkn
        go_wp2_with fail
        go_loopg [0, 203] 0 (fun g s0 s203 wx => s203 = .int .i64 0 ∧ Hid (Outp w0 base b ds s0 (sgn neg ++ ds.take k) wx))
        case atStart => exact ⟨rfl, HK⟩
        case round =>
          obtain ⟨rfl, HJ⟩ := hrel
          clear HK
          go_upto_region 73 with (at_builtin; refine push_one rfl _ _ rfl rfl _ 46 _ rfl HJ.out rfl (by omega) ?_; intro v3 w3 hO3; have HO3 := Lib.hid hO3; clear hO3)
          have hs3 : (sgn neg ++ ds.take k ++ [46]).length ≤ 22 := by simp only [List.length_append, List.length_cons, List.length_nil] at hs2 ⊢; omega
          go_wp2_with fail
          go_loopg [0, 240] 0 (fun g s0 s240 wx => s240 = .int .i64 0 ∧ Hid (Outp w0 base b ds s0 (sgn neg ++ ds.take k ++ [46]) wx))
          case atStart => exact ⟨rfl, HO3⟩
          case round =>
            obtain ⟨rfl, HL⟩ := hrel
            clear HO3 HJ
            go_wp2_with fail
            go_loopg [0, 247] r (fun g s0 s247 wx => ∃ j : Nat, j + g = r ∧ s247 = .int .i64 j ∧ Hid (Outp w0 base b ds s0 (sgn neg ++ ds.take k ++ [46] ++ (ds.drop k).take j) wx))
            case atStart => exact ⟨0, by omega, rfl, by simpa using HL⟩
            case round =>
              obtain ⟨j, hjg, rfl, HM⟩ := hrel
              have hsj : (sgn neg ++ ds.take k ++ [46] ++ (ds.drop k).take j).length ≤ 42 := by
                have := List.length_take_le j (ds.drop k)
                simp only [List.length_append] at hs3 ⊢; omega
              by_cases hj : j < r
              · as_aux_lemma =>
                obtain ⟨g, rfl⟩ : ∃ g, gk = g + 1 := ⟨gk - 1, by omega⟩
                have hlt : k + j < ds.length := by rw [HND.out]; omega
                have hc := HM.out.dig (k + j) hlt
                obtain ⟨c, hcc⟩ : ∃ c, ds.getD (k + j) 0 = c := ⟨_, rfl⟩
                rw [hcc] at hc
                have hn2 : Hid (sgn neg ++ ds.take k ++ [46] ++ (ds.drop k).take j ++ [c] = sgn neg ++ ds.take k ++ [46] ++ (ds.drop k).take (j + 1)) := by
                  show sgn neg ++ ds.take k ++ [46] ++ (ds.drop k).take j ++ [c] = sgn neg ++ ds.take k ++ [46] ++ (ds.drop k).take (j + 1)
                  rw [List.append_assoc, ← hcc, drop_next ds k j hlt]
                clear hcc hlt
                go_wp2_with (at_builtin; refine push_one rfl _ _ rfl rfl _ c _ rfl HM.out rfl (by omega) ?_; intro v2 w2 hO2; have HO2 := Lib.hid hO2; clear hO2)
                go_roundg g
                case measure => omega
                case rel => exact ⟨j + 1, by omega, by go_num, by show Outp _ _ _ _ _ _ _; rw [← hn2.out]; exact HO2.out⟩
              · as_aux_lemma =>
                have hjn : j = r := by omega
                have ht : (ds.drop k).take j = ds.drop k := List.take_of_length_le (by rw [List.length_drop, HND.out]; omega)
                rw [ht] at HM
                clear ht hsj
                subst hjn
                go_wp2_with fail
                go_loopg [0, 261] 0 (fun g s0 s261 wx => s261 = .int .i64 0 ∧ Hid (Outp w0 base b ds s0 (sgn neg ++ ds.take k ++ [46] ++ ds.drop k) wx))
                case atStart => exact ⟨rfl, HM⟩
                case round =>
                  obtain ⟨rfl, HN⟩ := hrel
                  go_wp2_with fail
                  go_ret
                  exact ⟨_, rfl, HN.out⟩
end Go.Proofs.YtofndhmnofghaaaGreatDoor

namespace Go.Proofs.YtofndhmnofghaaaGreatDoor
open Go.RowKit Ieee
set_option linter.unusedVariables false

set_option maxRecDepth 100000 in
set_option maxHeartbeats 8000000 in
theorem efgF_c (neg : Bool) (ds : List UInt8) (z p : Nat) (b cap base nd : Nat) (w w0 : World) (v : Value) (hO : Outp w0 base b ds v [] w) (hnd : ds.length = nd) (hn : nd ≤ 20) (hc1 : 32 ≤ cap) (hc2 : cap ≤ 9223372036854775807)
    (hz : z ≤ 3) (hp : nd + z = p) (hp0 : 0 < p) :
    Calls Tryz.prog 56 #[v, .bool neg, .slice (some ⟨b, 0, none⟩) 32 cap, .int .i64 (-(z : Int)), .int .i64 (nd : Int), .int .i64 (nd : Int), .int .u8 103, .bool true] w (EfgP w0 base b ds (sgn neg ++ [48] ++ [46] ++ List.replicate z 48 ++ ds)) := by
  have HO := Lib.hid hO
  have HND := Lib.hid hnd
  have e2 : (nd : Int) - -(z : Int) = (p : Int) := by omega
  have e2' : (nd : Int) + (z : Int) = (p : Int) := by omega
  have e3 : -(z : Int) < (nd : Int) := by omega
  have e4 : max (p : Int) 0 = (p : Int) := by omega
  have e5 : (nd : Int) ≤ 32 := by omega
  have e6 : max (0 : Int) (z : Int) = (z : Int) := by omega
  have e7 : min (p : Int) (z : Int) = (z : Int) := by omega
  have e8 : max (0 : Int) (nd : Int) = (nd : Int) := by omega
  have e9 : -(z : Int) + (z : Int) = 0 := by omega
  have e10 : (p : Int) - (z : Int) = (nd : Int) := by omega
  have e11 : ¬ (0 : Int) < -(z : Int) := by omega
  have e12 : (0 : Int) < (p : Int) := by omega
  clear hO hnd
  go_enter Tryz.func56, Tryz.ntmps56
  go_upto_if 178 with fail
  go_cut [0] (fun s0 wx => Hid (Outp w0 base b ds s0 (sgn neg) wx))
  case first => as_aux_lemma =>
    cases neg with
    | false =>
      go_wp2
      go_meet
      exact HO
    | true =>
      go_wp2_with (at_builtin; refine push_one rfl _ _ rfl rfl _ 45 _ rfl HO.out rfl (by decide) ?_; intro v1 w1 hO1; have HO1 := Lib.hid hO1; clear hO1)
      go_meet
      exact HO1
  case rest => as_aux_lemma =>
    have HO1 := hcut
    clear hcut HO
    have hs1 : (sgn neg).length ≤ 1 := by cases neg <;> decide
    go_upto_region 67 with (at_builtin; refine push_one rfl _ _ rfl rfl _ 48 _ rfl HO1.out rfl (by omega) ?_; intro v2 w2 hO2; have HO2 := Lib.hid hO2; clear hO2)
    have hs2 : (sgn neg ++ [48]).length ≤ 2 := by simp only [List.length_append, List.length_cons, List.length_nil] at hs1 ⊢; omega
    go_upto_region 73 with (at_builtin; refine push_one rfl _ _ rfl rfl _ 46 _ rfl HO2.out rfl (by omega) ?_; intro v3 w3 hO3; have HO3 := Lib.hid hO3; clear hO3)
    have hs3 : (sgn neg ++ [48] ++ [46]).length ≤ 3 := by simp only [List.length_append, List.length_cons, List.length_nil] at hs2 ⊢; omega
    clear HO1 HO2
    go_wp2_with fail
    go_loopg [0, 240] z (fun g s0 s240 wx => ∃ k : Nat, k + g = z ∧ s240 = .int .i64 k ∧ Hid (Outp w0 base b ds s0 (sgn neg ++ [48] ++ [46] ++ List.replicate k 48) wx))
    case atStart => exact ⟨0, by omega, rfl, by simpa using HO3⟩
    case round =>
      obtain ⟨k, hkg, rfl, HK⟩ := hrel
      have hsk : (sgn neg ++ [48] ++ [46] ++ List.replicate k 48).length ≤ 8 := by
        simp only [List.length_append, List.length_replicate] at hs3 ⊢; omega
      by_cases hk : k < z
      · as_aux_lemma =>
        obtain ⟨g, rfl⟩ : ∃ g, gk = g + 1 := ⟨gk - 1, by omega⟩
        go_wp2_with (at_builtin; refine push_one rfl _ _ rfl rfl _ 48 _ rfl HK.out rfl (by omega) ?_; intro v2 w2 hO2; have HO2 := Lib.hid hO2; clear hO2)
        go_roundg g
        case measure => omega
        case rel => exact ⟨k + 1, by omega, by go_num, by show Outp _ _ _ _ _ _ _; rw [← rep_next k, ← List.append_assoc]; exact HO2.out⟩
      · as_aux_lemma =>
        have hkn : k = z := by omega
        subst hkn
        clear HO3
        go_wp2_with fail
        go_loopg [0, 247] nd (fun g s0 s247 wx => ∃ j : Nat, j + g = nd ∧ s247 = .int .i64 j ∧ Hid (Outp w0 base b ds s0 (sgn neg ++ [48] ++ [46] ++ List.replicate k 48 ++ ds.take j) wx))
        case atStart => exact ⟨0, by omega, rfl, by simpa using HK⟩
        case round =>
          obtain ⟨j, hjg, rfl, HM⟩ := hrel
          have hsj : (sgn neg ++ [48] ++ [46] ++ List.replicate k 48 ++ ds.take j).length ≤ 28 := by
            have := List.length_take_le j ds
            simp only [List.length_append] at hsk ⊢; omega
          by_cases hj : j < nd
          · as_aux_lemma =>
            obtain ⟨g, rfl⟩ : ∃ g, gk = g + 1 := ⟨gk - 1, by omega⟩
            have hlt : j < ds.length := by rw [HND.out]; exact hj
            have hc := HM.out.dig j hlt
            obtain ⟨c, hcc⟩ : ∃ c, ds.getD j 0 = c := ⟨_, rfl⟩
            rw [hcc] at hc
            have hn2 : Hid (sgn neg ++ [48] ++ [46] ++ List.replicate k 48 ++ ds.take j ++ [c] = sgn neg ++ [48] ++ [46] ++ List.replicate k 48 ++ ds.take (j + 1)) := by
              show sgn neg ++ [48] ++ [46] ++ List.replicate k 48 ++ ds.take j ++ [c] = sgn neg ++ [48] ++ [46] ++ List.replicate k 48 ++ ds.take (j + 1)
              rw [List.append_assoc, ← hcc, take_next ds j hlt]
            clear hcc hlt
            go_wp2_with (at_builtin; refine push_one rfl _ _ rfl rfl _ c _ rfl HM.out rfl (by omega) ?_; intro v2 w2 hO2; have HO2 := Lib.hid hO2; clear hO2)
            go_roundg g
            case measure => omega
            case rel => exact ⟨j + 1, by omega, by go_num, by show Outp _ _ _ _ _ _ _; rw [← hn2.out]; exact HO2.out⟩
          · as_aux_lemma =>
            have hjn : j = nd := by omega
            have ht : ds.take j = ds := List.take_of_length_le (by rw [HND.out]; omega)
            rw [ht] at HM
            clear ht hsj
            subst hjn
            go_wp2_with fail
            go_loopg [0, 261] 0 (fun g s0 s261 wx => s261 = .int .i64 0 ∧ Hid (Outp w0 base b ds s0 (sgn neg ++ [48] ++ [46] ++ List.replicate k 48 ++ ds) wx))
            case atStart => exact ⟨rfl, HM⟩
            case round =>
              obtain ⟨rfl, HN⟩ := hrel
              go_wp2_with fail
              go_ret
              exact ⟨_, rfl, HN.out⟩
set_option maxRecDepth 100000 in
set_option maxHeartbeats 4000000 in
/-- nothing at all, or 0: no digit -/
theorem efg_zero (neg : Bool) (ds : List UInt8) (sv : Value) (pr : Int) (b base : Nat) (w w0 : World) (v : Value) (hO : Outp w0 base b ds v [] w) (hp : pr = 0 ∨ pr = -1) :
    Calls Tryz.prog 56 #[v, .bool neg, sv, .int .i64 0, .int .i64 0, .int .i64 pr, .int .u8 103, .bool true] w (EfgP w0 base b ds (sgn neg ++ [48])) := by
  have HO := Lib.hid hO
  clear hO
  rcases hp with rfl | rfl
  all_goals
    go_enter Tryz.func56, Tryz.ntmps56
    go_upto_if 178 with fail
    go_cut [0] (fun s0 wx => Hid (Outp w0 base b ds s0 (sgn neg) wx))
    case first => as_aux_lemma =>
      cases neg with
      | false =>
        go_wp2
        go_meet
        exact HO
      | true =>
        go_wp2_with (at_builtin; refine push_one rfl _ _ rfl rfl _ 45 _ rfl HO.out rfl (by decide) ?_; intro v1 w1 hO1; have HO1 := Lib.hid hO1; clear hO1)
        go_meet
        exact HO1
    case rest => as_aux_lemma =>
      have HO1 := hcut
      clear hcut HO
      have hs1 : (sgn neg).length ≤ 1 := by cases neg <;> decide
      go_wp2_with (at_builtin; refine push_one rfl _ _ rfl rfl _ 48 _ rfl HO1.out rfl (by omega) ?_; intro v2 w2 hO2; have HO2 := Lib.hid hO2; clear hO2)
      go_ret
      exact ⟨_, rfl, HO2.out⟩
end Go.Proofs.YtofndhmnofghaaaGreatDoor

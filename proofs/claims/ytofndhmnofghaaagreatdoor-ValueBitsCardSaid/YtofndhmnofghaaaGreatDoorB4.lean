import Derived.Test.YtofndhmnofghaaaGreatDoorB2
namespace Go.Proofs.YtofndhmnofghaaaGreatDoor
open Go.RowKit Ieee
set_option linter.unusedVariables false

/-! the text without a power -/

theorem take_next (ds : List UInt8) (k : Nat) (h : k < ds.length) : ds.take k ++ [ds.getD k 0] = ds.take (k + 1) := by
  rw [List.take_succ_eq_append_getElem h, List.getD_eq_getElem?_getD, List.getElem?_eq_getElem h]
  rfl
theorem rep_next (k : Nat) : List.replicate k (48 : UInt8) ++ [48] = List.replicate (k + 1) 48 := (List.replicate_succ' ..).symm
set_option maxRecDepth 100000 in
set_option maxHeartbeats 4000000 in
theorem efgF_a (neg : Bool) (ds : List UInt8) (q r : Nat) (b cap base nd : Nat) (w w0 : World) (v : Value) (hO : Outp w0 base b ds v [] w) (hnd : ds.length = nd) (hn : nd ≤ 20) (hc1 : 32 ≤ cap) (hc2 : cap ≤ 9223372036854775807)
    (hq0 : 0 < q) (hq : q ≤ 6) (hr : nd + r = q) :
    Calls Tryz.prog 56 #[v, .bool neg, .slice (some ⟨b, 0, none⟩) 32 cap, .int .i64 (q : Int), .int .i64 (nd : Int), .int .i64 (nd : Int), .int .u8 103, .bool true] w (EfgP w0 base b ds (sgn neg ++ ds ++ List.replicate r 48)) := by
  have HO := Lib.hid hO
  have HND := Lib.hid hnd
  have e1 : min (nd : Int) (q : Int) = (nd : Int) := by omega
  have e2 : (q : Int) - (nd : Int) = (r : Int) := by omega
  have e3 : ¬ (q : Int) < (nd : Int) := by omega
  have e4 : max ((nd : Int) - (q : Int)) 0 = 0 := by omega
  have e5 : (nd : Int) ≤ 32 := by omega
  clear hO hnd
  go_enter Tryz.func56, Tryz.ntmps56
  go_upto_if 178 with fail
  go_cut [0] (fun s0 wx => Hid (Outp w0 base b ds s0 (sgn neg) wx))
  case first => as_aux_lemma =>
    cases neg with
    | false =>
      go_wp2
      go_meet
      exact HO
    | true =>
      go_wp2_with (at_builtin; refine push_one rfl _ _ rfl rfl _ 45 _ rfl HO.out rfl (by decide) ?_; intro v1 w1 hO1; have HO1 := Lib.hid hO1; clear hO1)
      go_meet
      exact HO1
  case rest => as_aux_lemma =>
    have HO1 := hcut
    clear hcut HO
    have hs1 : (sgn neg).length ≤ 1 := by cases neg <;> decide
    go_wp2_with fail
    go_loopg [0, 191] nd (fun g s0 s191 wx => ∃ k : Nat, k + g = nd ∧ s191 = .int .i64 k ∧ Hid (Outp w0 base b ds s0 (sgn neg ++ ds.take k) wx))
    case atStart => exact ⟨0, by omega, rfl, by simpa using HO1⟩
    case round =>
      obtain ⟨k, hkg, rfl, HK⟩ := hrel
      have hsk : (sgn neg ++ ds.take k).length ≤ 21 := by
        have := List.length_take_le k ds
        simp only [List.length_append]; omega
      by_cases hk : k < nd
      · as_aux_lemma =>
        obtain ⟨g, rfl⟩ : ∃ g, gk = g + 1 := ⟨gk - 1, by omega⟩
        have hlt : k < ds.length := by rw [HND.out]; exact hk
        have hc := HK.out.dig k hlt
        obtain ⟨c, hcc⟩ : ∃ c, ds.getD k 0 = c := ⟨_, rfl⟩
        rw [hcc] at hc
        have hn2 : Hid (sgn neg ++ ds.take k ++ [c] = sgn neg ++ ds.take (k + 1)) := by
          show sgn neg ++ ds.take k ++ [c] = sgn neg ++ ds.take (k + 1)
          rw [List.append_assoc, ← hcc, take_next ds k hlt]
        clear hcc hlt
        go_wp2_with (at_builtin; refine push_one rfl _ _ rfl rfl _ c _ rfl HK.out rfl (by omega) ?_; intro v2 w2 hO2; have HO2 := Lib.hid hO2; clear hO2)
        go_roundg g
        case measure => omega
        case rel => exact ⟨k + 1, by omega, by go_num, by show Outp _ _ _ _ _ _ _; rw [← hn2.out]; exact HO2.out⟩
      · as_aux_lemma =>
        have hkn : k = nd := by omega
        have ht : ds.take k = ds := List.take_of_length_le (by rw [HND.out]; omega)
        rw [ht] at HK
        have hs2 : (sgn neg ++ ds).length ≤ 21 := by simp only [List.length_append, HND.out]; omega
        clear ht hsk
        subst hkn
        go_wp2_with fail
        go_loopg [0, 203] r (fun g s0 s203 wx => ∃ j : Nat, j + g = r ∧ s203 = .int .i64 j ∧ Hid (Outp w0 base b ds s0 (sgn neg ++ ds ++ List.replicate j 48) wx))
        case atStart => exact ⟨0, by omega, rfl, by simpa using HK⟩
        case round =>
          obtain ⟨j, hjg, rfl, HJ⟩ := hrel
          have hsj : (sgn neg ++ ds ++ List.replicate j 48).length ≤ 40 := by
            simp only [List.length_append, List.length_replicate] at hs2 ⊢; omega
          by_cases hj : j < r
          · as_aux_lemma =>
            obtain ⟨g, rfl⟩ : ∃ g, gk = g + 1 := ⟨gk - 1, by omega⟩
            go_wp2_with (at_builtin; refine push_one rfl _ _ rfl rfl _ 48 _ rfl HJ.out rfl (by omega) ?_; intro v2 w2 hO2; have HO2 := Lib.hid hO2; clear hO2)
            go_roundg g
            case measure => omega
            case rel => exact ⟨j + 1, by omega, by go_num, by show Outp _ _ _ _ _ _ _; rw [← rep_next j, ← List.append_assoc]; exact HO2.out⟩
          · as_aux_lemma =>
            have hjn : j = r := by omega
            subst hjn
            go_wp2_with fail
            go_ret
            exact ⟨_, rfl, HJ.out⟩
end Go.Proofs.YtofndhmnofghaaaGreatDoor

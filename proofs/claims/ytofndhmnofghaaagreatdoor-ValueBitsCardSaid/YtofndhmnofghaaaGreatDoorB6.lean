import Derived.Test.YtofndhmnofghaaaGreatDoorB5
namespace Go.Proofs.YtofndhmnofghaaaGreatDoor
open Go.RowKit Ieee
set_option linter.unusedVariables false

set_option maxRecDepth 100000 in
set_option maxHeartbeats 8000000 in
theorem efgF_c (neg : Bool) (ds : List UInt8) (z p : Nat) (b cap base nd : Nat) (w w0 : World) (v : Value) (hO : Outp w0 base b ds v [] w) (hnd : ds.length = nd) (hn : nd ≤ 20) (hc1 : 32 ≤ cap) (hc2 : cap ≤ 9223372036854775807)
    (hz : z ≤ 3) (hp : nd + z = p) (hp0 : 0 < p) :
    Calls Tryz.prog 56 #[v, .bool neg, .slice (some ⟨b, 0, none⟩) 32 cap, .int .i64 (-(z : Int)), .int .i64 (nd : Int), .int .i64 (nd : Int), .int .u8 103, .bool true] w (EfgP w0 base b ds (sgn neg ++ [48] ++ [46] ++ List.replicate z 48 ++ ds)) := by
  have HO := Lib.hid hO
  have HND := Lib.hid hnd
  have e2 : (nd : Int) - -(z : Int) = (p : Int) := by omega
  have e2' : (nd : Int) + (z : Int) = (p : Int) := by omega
  have e3 : -(z : Int) < (nd : Int) := by omega
  have e4 : max (p : Int) 0 = (p : Int) := by omega
  have e5 : (nd : Int) ≤ 32 := by omega
  have e6 : max (0 : Int) (z : Int) = (z : Int) := by omega
  have e7 : min (p : Int) (z : Int) = (z : Int) := by omega
  have e8 : max (0 : Int) (nd : Int) = (nd : Int) := by omega
  have e9 : -(z : Int) + (z : Int) = 0 := by omega
  have e10 : (p : Int) - (z : Int) = (nd : Int) := by omega
  have e11 : ¬ (0 : Int) < -(z : Int) := by omega
  have e12 : (0 : Int) < (p : Int) := by omega
  clear hO hnd
  go_enter Tryz.func56, Tryz.ntmps56
  go_upto_if 178 with fail
  go_cut [0] (fun s0 wx => Hid (Outp w0 base b ds s0 (sgn neg) wx))
  case first => as_aux_lemma =>
    cases neg with
    | false =>
      go_wp2
      go_meet
      exact HO
    | true =>
      go_wp2_with (at_builtin; refine push_one rfl _ _ rfl rfl _ 45 _ rfl HO.out rfl (by decide) ?_; intro v1 w1 hO1; have HO1 := Lib.hid hO1; clear hO1)
      go_meet
      exact HO1
  case rest => as_aux_lemma =>
    have HO1 := hcut
    clear hcut HO
    have hs1 : (sgn neg).length ≤ 1 := by cases neg <;> decide
    go_upto_region 67 with (at_builtin; refine push_one rfl _ _ rfl rfl _ 48 _ rfl HO1.out rfl (by omega) ?_; intro v2 w2 hO2; have HO2 := Lib.hid hO2; clear hO2)
    have hs2 : (sgn neg ++ [48]).length ≤ 2 := by simp only [List.length_append, List.length_cons, List.length_nil] at hs1 ⊢; omega
    go_upto_region 73 with (at_builtin; refine push_one rfl _ _ rfl rfl _ 46 _ rfl HO2.out rfl (by omega) ?_; intro v3 w3 hO3; have HO3 := Lib.hid hO3; clear hO3)
    have hs3 : (sgn neg ++ [48] ++ [46]).length ≤ 3 := by simp only [List.length_append, List.length_cons, List.length_nil] at hs2 ⊢; omega
    clear HO1 HO2
    go_wp2_with fail
    go_loopg [0, 240] z (fun g s0 s240 wx => ∃ k : Nat, k + g = z ∧ s240 = .int .i64 k ∧ Hid (Outp w0 base b ds s0 (sgn neg ++ [48] ++ [46] ++ List.replicate k 48) wx))
    case atStart => exact ⟨0, by omega, rfl, by simpa using HO3⟩
    case round =>
      obtain ⟨k, hkg, rfl, HK⟩ := hrel
      have hsk : (sgn neg ++ [48] ++ [46] ++ List.replicate k 48).length ≤ 8 := by
        simp only [List.length_append, List.length_replicate] at hs3 ⊢; omega
      by_cases hk : k < z
      · as_aux_lemma =>
        obtain ⟨g, rfl⟩ : ∃ g, gk = g + 1 := ⟨gk - 1, by omega⟩
        go_wp2_with (at_builtin; refine push_one rfl _ _ rfl rfl _ 48 _ rfl HK.out rfl (by omega) ?_; intro v2 w2 hO2; have HO2 := Lib.hid hO2; clear hO2)
        go_roundg g
        case measure => omega
        case rel => exact ⟨k + 1, by omega, by go_num, by show Outp _ _ _ _ _ _ _; rw [← rep_next k, ← List.append_assoc]; exact HO2.out⟩
      · as_aux_lemma =>
        have hkn : k = z := by omega
        subst hkn
        clear HO3
        go_wp2_with fail
        go_loopg [0, 247] nd (fun g s0 s247 wx => ∃ j : Nat, j + g = nd ∧ s247 = .int .i64 j ∧ Hid (Outp w0 base b ds s0 (sgn neg ++ [48] ++ [46] ++ List.replicate k 48 ++ ds.take j) wx))
        case atStart => exact ⟨0, by omega, rfl, by simpa using HK⟩
        case round =>
          obtain ⟨j, hjg, rfl, HM⟩ := hrel
          have hsj : (sgn neg ++ [48] ++ [46] ++ List.replicate k 48 ++ ds.take j).length ≤ 28 := by
            have := List.length_take_le j ds
            simp only [List.length_append] at hsk ⊢; omega
          by_cases hj : j < nd
          · as_aux_lemma =>
            obtain ⟨g, rfl⟩ : ∃ g, gk = g + 1 := ⟨gk - 1, by omega⟩
            have hlt : j < ds.length := by rw [HND.out]; exact hj
            have hc := HM.out.dig j hlt
            obtain ⟨c, hcc⟩ : ∃ c, ds.getD j 0 = c := ⟨_, rfl⟩
            rw [hcc] at hc
            have hn2 : Hid (sgn neg ++ [48] ++ [46] ++ List.replicate k 48 ++ ds.take j ++ [c] = sgn neg ++ [48] ++ [46] ++ List.replicate k 48 ++ ds.take (j + 1)) := by
              show sgn neg ++ [48] ++ [46] ++ List.replicate k 48 ++ ds.take j ++ [c] = sgn neg ++ [48] ++ [46] ++ List.replicate k 48 ++ ds.take (j + 1)
              rw [List.append_assoc, ← hcc, take_next ds j hlt]
            clear hcc hlt
            go_wp2_with (at_builtin; refine push_one rfl _ _ rfl rfl _ c _ rfl HM.out rfl (by omega) ?_; intro v2 w2 hO2; have HO2 := Lib.hid hO2; clear hO2)
            go_roundg g
            case measure => omega
            case rel => exact ⟨j + 1, by omega, by go_num, by show Outp _ _ _ _ _ _ _; rw [← hn2.out]; exact HO2.out⟩
          · as_aux_lemma =>
            have hjn : j = nd := by omega
            have ht : ds.take j = ds := List.take_of_length_le (by rw [HND.out]; omega)
            rw [ht] at HM
            clear ht hsj
            subst hjn
            go_wp2_with fail
            go_loopg [0, 261] 0 (fun g s0 s261 wx => s261 = .int .i64 0 ∧ Hid (Outp w0 base b ds s0 (sgn neg ++ [48] ++ [46] ++ List.replicate k 48 ++ ds) wx))
            case atStart => exact ⟨rfl, HM⟩
            case round =>
              obtain ⟨rfl, HN⟩ := hrel
              go_wp2_with fail
              go_ret
              exact ⟨_, rfl, HN.out⟩
set_option maxRecDepth 100000 in
set_option maxHeartbeats 4000000 in
/-- nothing at all, or 0: no digit -/
theorem efg_zero (neg : Bool) (ds : List UInt8) (sv : Value) (pr : Int) (b base : Nat) (w w0 : World) (v : Value) (hO : Outp w0 base b ds v [] w) (hp : pr = 0 ∨ pr = -1) :
    Calls Tryz.prog 56 #[v, .bool neg, sv, .int .i64 0, .int .i64 0, .int .i64 pr, .int .u8 103, .bool true] w (EfgP w0 base b ds (sgn neg ++ [48])) := by
  have HO := Lib.hid hO
  clear hO
  rcases hp with rfl | rfl
  all_goals
    go_enter Tryz.func56, Tryz.ntmps56
    go_upto_if 178 with fail
    go_cut [0] (fun s0 wx => Hid (Outp w0 base b ds s0 (sgn neg) wx))
    case first => as_aux_lemma =>
      cases neg with
      | false =>
        go_wp2
        go_meet
        exact HO
      | true =>
        go_wp2_with (at_builtin; refine push_one rfl _ _ rfl rfl _ 45 _ rfl HO.out rfl (by decide) ?_; intro v1 w1 hO1; have HO1 := Lib.hid hO1; clear hO1)
        go_meet
        exact HO1
    case rest => as_aux_lemma =>
      have HO1 := hcut
      clear hcut HO
      have hs1 : (sgn neg).length ≤ 1 := by cases neg <;> decide
      go_wp2_with (at_builtin; refine push_one rfl _ _ rfl rfl _ 48 _ rfl HO1.out rfl (by omega) ?_; intro v2 w2 hO2; have HO2 := Lib.hid hO2; clear hO2)
      go_ret
      exact ⟨_, rfl, HO2.out⟩
end Go.Proofs.YtofndhmnofghaaaGreatDoor

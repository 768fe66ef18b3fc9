import Derived.Test.YtofndhmnofghaaaGreatDoorB2j
namespace Go.Proofs.YtofndhmnofghaaaGreatDoor
open Go.RowKit Ieee
set_option linter.unusedVariables false

/-! the text with a power -/
def fracT (ds : List UInt8) : List UInt8 := if 1 < ds.length then 46 :: ds.drop 1 else []
def b8 (z : Int) : UInt8 := UInt8.ofNat z.toNat
theorem b8_nat {z : Int} (h0 : 0 ≤ z) (h1 : z < 256) : ((b8 z).toNat : Int) = z := by
  unfold b8
  rw [UInt8.toNat_ofNat_of_lt' (by show z.toNat < 256; omega)]
  omega
def powT (y : Int) : List UInt8 := if y < 10 then [48, b8 (y + 48)] else if y < 100 then [b8 (y / 10 + 48), b8 (y % 10 + 48)] else [b8 (y / 100 + 48), b8 (y / 10 % 10 + 48), b8 (y % 10 + 48)]
def expOf (ds : List UInt8) (x : Int) : Int := if ds.length = 0 then 0 else x
def expT (y : Int) : List UInt8 := if y < 0 then 45 :: powT (-y) else 43 :: powT y
def efgE (neg : Bool) (ds : List UInt8) (x : Int) : List UInt8 := sgn neg ++ [ds.headD 48] ++ fracT ds ++ [101] ++ expT (expOf ds x)
set_option maxRecDepth 100000 in
set_option maxHeartbeats 4000000 in
theorem efgE_walk (neg : Bool) (ds : List UInt8) (dp : Int) (b cap base nd : Nat) (w w0 : World) (v : Value) (hO : Outp w0 base b ds v [] w) (hnd : ds.length = nd) (hn : nd ≤ 20) (hc1 : 32 ≤ cap) (hc2 : cap ≤ 9223372036854775807)
    (hd1 : -390 ≤ dp) (hd2 : dp ≤ 390) (hx : dp - 1 < -4 ∨ (-4 ≤ dp - 1 ∧ 6 ≤ dp - 1)) :
    Calls Tryz.prog 56 #[v, .bool neg, .slice (some ⟨b, 0, none⟩) 32 cap, .int .i64 dp, .int .i64 (nd : Int), .int .i64 (nd : Int), .int .u8 103, .bool true] w (EfgP w0 base b ds (efgE neg ds (dp - 1))) := by
  have HO := Lib.hid hO
  have HND := Lib.hid hnd
  clear hO hnd
  go_enter Tryz.func56, Tryz.ntmps56
  go_upto_region 8 with fail
  go_cut [56] (fun s56 wx => s56 = .bool true ∧ w = wx)
  case first => as_aux_lemma =>
    rcases hx with hx | ⟨hx, hx2⟩
    all_goals
      go_wp2
      go_meet
      exact ⟨rfl, rfl⟩
  case rest => as_aux_lemma =>
    obtain ⟨rfl, rfl⟩ := hcut
    clear hx
    go_upto_if 78 with fail
    go_cut [0] (fun s0 wx => Hid (Outp w0 base b ds s0 (sgn neg) wx))
    case first => as_aux_lemma =>
      cases neg with
      | false =>
        go_wp2
        go_meet
        exact HO
      | true =>
        go_wp2_with (at_builtin; refine push_one rfl _ _ rfl rfl _ 45 _ rfl HO.out rfl (by decide) ?_; intro v1 w1 hO1; have HO1 := Lib.hid hO1; clear hO1)
        go_meet
        exact HO1
    case rest => as_aux_lemma =>
      have HO1 := hcut
      clear hcut HO
      have hs1 : (sgn neg).length ≤ 1 := by cases neg <;> decide
      go_upto_if 83 with fail
      obtain ⟨ch, hch⟩ : ∃ ch, ds.headD 48 = ch := ⟨_, rfl⟩
      have HCH := Lib.hid hch
      clear hch
      go_cut [19] (fun s19 wx => s19 = .int .u8 ((ch.toNat : Nat) : Int) ∧ wc = wx)
      case first => as_aux_lemma =>
        by_cases h0 : nd = 0
        · have e : ds = [] := List.eq_nil_of_length_eq_zero (by rw [HND.out]; exact h0)
          subst h0
          subst e
          have e2 : (48 : UInt8) = ch := HCH.out
          subst e2
          go_wp2
          go_meet
          exact ⟨rfl, rfl⟩
        · have hc := HO1.out.dig 0 (by rw [HND.out]; omega)
          have e : ds.getD 0 0 = ds.headD 48 := by
            cases ds with
            | nil => exact absurd HND.out.symm h0
            | cons c r => rfl
          rw [e, HCH.out] at hc
          have h0' : ((nd : Int) != 0) = true := by simp; omega
          clear e
          go_wp2
          go_meet
          exact ⟨rfl, rfl⟩
      case rest => as_aux_lemma =>
        obtain ⟨rfl, rfl⟩ := hcut
        go_upto_if 92 with (at_builtin; refine push_one rfl _ _ rfl rfl _ ch _ rfl HO1.out rfl (by omega) ?_; intro v2 w2 hO2; have HO2 := Lib.hid hO2; clear hO2)
        have hs2 : (sgn neg ++ [ch]).length ≤ 2 := by simp; omega
        go_cut [0] (fun s0 wx => Hid (Outp w0 base b ds s0 (sgn neg ++ [ch] ++ fracT ds) wx))
        case first => as_aux_lemma =>
          by_cases h1 : 1 < nd
          · have ef : fracT ds = 46 :: ds.drop 1 := by unfold fracT; rw [if_pos (by rw [HND.out]; exact h1)]
            have j1 : (0 : Int) < (nd : Int) - 1 := by omega
            have j2 : (nd : Int) - 1 + 1 = (nd : Int) := by omega
            have j3 : (1 : Int) < (nd : Int) := by omega
            have j4 : (nd : Int) ≤ 32 := by omega
            have HEF := Lib.hid ef
            clear ef
            go_upto_region 31 with (at_builtin; refine push_one rfl _ _ rfl rfl _ 46 _ rfl HO2.out rfl (by omega) ?_; intro v3 w3 hO3; have HO3 := Lib.hid hO3; clear hO3)
            have hs3 : (sgn neg ++ [ch] ++ [46]).length ≤ 3 := by simp; omega
            have hld : (ds.drop 1).length = nd - 1 := by rw [List.length_drop, HND.out]
            have HL := Lib.hid hld
            have HDG := Lib.hid (HO3.out.dig.drop 1)
            clear hld
            go_wp2_with (at_builtin; refine push_law rfl _ _ rfl rfl HO3.out ⟨b, 1, none⟩ _ (nd - 1) (ds.drop 1) HL.out rfl HDG.out (by have := HL.out; omega) ?_; intro v4 w4 hO4; have HO4 := Lib.hid hO4; clear hO4)
            go_loopg [0, 114] 0 (fun g s0 s114 wx => v4 = s0 ∧ s114 = .int .i64 0 ∧ w4 = wx)
            case atStart => exact ⟨rfl, rfl, rfl⟩
            case round =>
              obtain ⟨rfl, rfl, rfl⟩ := hrel
              go_wp2_with fail
              go_meet
              rw [HEF.out]
              have := HO4
              simpa using this
          · have ef : fracT ds = [] := by unfold fracT; rw [if_neg (by rw [HND.out]; exact h1)]
            have j1 : ¬ (0 : Int) < (nd : Int) - 1 := by omega
            have HO3 : Hid (Outp w0 base b ds v2 (sgn neg ++ [ch] ++ fracT ds) w2) := by rw [ef, List.append_nil]; exact HO2
            clear ef
            go_wp2_with fail
            go_meet
            exact HO3
        case rest => as_aux_lemma =>
          have HO3 := hcut
          clear hcut HO2
          have hs4 : (sgn neg ++ [ch] ++ fracT ds).length ≤ 22 := by
            have : (fracT ds).length ≤ 20 := by
              unfold fracT
              split
              · simp only [List.length_cons, List.length_drop, HND.out]; omega
              · simp
            simp only [List.length_append, List.length_cons, List.length_nil]; omega
          go_upto_if 127 with (at_builtin; refine push_one rfl _ _ rfl rfl _ 101 _ rfl HO3.out rfl (by omega) ?_; intro v4 w4 hO4; have HO4 := Lib.hid hO4; clear hO4)
          obtain ⟨y, hy⟩ : ∃ y, expOf ds (dp - 1) = y := ⟨_, rfl⟩
          have hyb : -400 ≤ y ∧ y ≤ 400 := by rw [← hy]; unfold expOf; split <;> omega
          obtain ⟨hy1, hy2⟩ := hyb
          have HY := Lib.hid hy
          clear hy
          go_cut [22] (fun s22 wx => s22 = .int .i64 y ∧ w4 = wx)
          case first => as_aux_lemma =>
            by_cases h0 : nd = 0
            · have e : y = 0 := by rw [← HY.out]; unfold expOf; rw [if_pos (by rw [HND.out]; exact h0)]
              subst h0
              subst e
              go_wp2
              go_meet
              exact ⟨rfl, rfl⟩
            · have e : dp - 1 = y := by rw [← HY.out]; unfold expOf; rw [if_neg (by rw [HND.out]; exact h0)]
              have h0' : ((nd : Int) == 0) = false := by simp; omega
              have HE := Lib.hid e
              clear e
              go_wp2
              go_meet
              exact ⟨i64_eq HE.out, rfl⟩
          case rest => as_aux_lemma =>
            obtain ⟨rfl, rfl⟩ := hcut
            obtain ⟨sg, hsg⟩ : ∃ sg : UInt8, (if y < 0 then (45 : UInt8) else 43) = sg := ⟨_, rfl⟩
            obtain ⟨ab, hab⟩ : ∃ ab : Int, (if y < 0 then -y else y) = ab := ⟨_, rfl⟩
            have ha0 : 0 ≤ ab := by rw [← hab]; split <;> omega
            have ha1 : ab ≤ 400 := by rw [← hab]; split <;> omega
            have HT : Hid (expT y = sg :: powT ab) := by
              show expT y = sg :: powT ab
              rw [← hsg, ← hab]
              unfold expT
              split <;> rfl
            have HSG := Lib.hid hsg
            have HAB := Lib.hid hab
            clear hsg hab
            go_upto_if 129 with fail
            go_cut [19, 22] (fun s19 s22 wx => s19 = .int .u8 ((sg.toNat : Nat) : Int) ∧ s22 = .int .i64 ab ∧ w4 = wx)
            case first => as_aux_lemma =>
              by_cases hn0 : y < 0
              · have e1 : sg = 45 := by rw [← HSG.out, if_pos hn0]
                have e2 : -y = ab := by rw [← HAB.out, if_pos hn0]
                subst e1
                go_wp2
                go_meet
                exact ⟨rfl, rfl, rfl⟩
              · have e1 : sg = 43 := by rw [← HSG.out, if_neg hn0]
                have e2 : y = ab := by rw [← HAB.out, if_neg hn0]
                subst e1
                subst e2
                go_wp2
                go_meet
                exact ⟨rfl, rfl, rfl⟩
            case rest => as_aux_lemma =>
              obtain ⟨rfl, rfl, rfl⟩ := hcut
              have hs5 : (sgn neg ++ [ch] ++ fracT ds ++ [101]).length ≤ 23 := by simp only [List.length_append, List.length_cons, List.length_nil] at hs4 ⊢; omega
              go_upto_region 47 with (at_builtin; refine push_one rfl _ _ rfl rfl _ sg _ rfl HO4.out rfl (by omega) ?_; intro v5 w5 hO5; have HO5 := Lib.hid hO5; clear hO5)
              have hs6 : (sgn neg ++ [ch] ++ fracT ds ++ [101] ++ [sg]).length ≤ 24 := by simp only [List.length_append, List.length_cons, List.length_nil] at hs5 ⊢; omega
              have HOUT : Hid (efgE neg ds (dp - 1) = sgn neg ++ [ch] ++ fracT ds ++ [101] ++ (sg :: powT ab)) := by
                show efgE neg ds (dp - 1) = sgn neg ++ [ch] ++ fracT ds ++ [101] ++ (sg :: powT ab)
                unfold efgE
                rw [HCH.out, HY.out, HT.out]
              clear HT HY HSG HAB hy1 hy2
              by_cases k1 : ab < 10
              · as_aux_lemma =>
                have HQ : Hid (powT ab = [48, b8 (ab + 48)]) := by show powT ab = _; unfold powT; rw [if_pos k1]
                have q1 : ((b8 (ab + 48)).toNat : Int) = ab + 48 := b8_nat (by omega) (by omega)
                have HQ1 := Lib.hid q1
                clear q1
                go_wp2_with (at_builtin; refine push_some rfl _ _ rfl rfl _ [48, b8 (ab + 48)] _ (by simp only [List.map_cons, List.map_nil, encB, HQ1.out]; rfl) HO5.out rfl (by simp only [List.length_cons, List.length_nil]; omega) ?_; intro v6 w6 hO6; have HO6 := Lib.hid hO6; clear hO6)
                go_ret
                refine ⟨v6, rfl, ?_⟩
                rw [HOUT.out, HQ.out]
                have := HO6.out
                simpa using this
              · by_cases k2 : ab < 100
                · as_aux_lemma =>
                  have HQ : Hid (powT ab = [b8 (ab / 10 + 48), b8 (ab % 10 + 48)]) := by show powT ab = _; unfold powT; rw [if_neg k1, if_pos k2]
                  have q1 : ((b8 (ab / 10 + 48)).toNat : Int) = ab / 10 + 48 := b8_nat (by omega) (by omega)
                  have q2 : ((b8 (ab % 10 + 48)).toNat : Int) = ab % 10 + 48 := b8_nat (by omega) (by omega)
                  have HQ1 := Lib.hid q1
                  have HQ2 := Lib.hid q2
                  clear q1 q2
                  go_wp2_with (at_builtin; refine push_some rfl _ _ rfl rfl _ [b8 (ab / 10 + 48), b8 (ab % 10 + 48)] _ (by simp only [List.map_cons, List.map_nil, encB, HQ1.out, HQ2.out] <;> rfl) HO5.out rfl (by simp only [List.length_cons, List.length_nil]; omega) ?_; intro v6 w6 hO6; have HO6 := Lib.hid hO6; clear hO6)
                  go_ret
                  refine ⟨v6, rfl, ?_⟩
                  rw [HOUT.out, HQ.out]
                  have := HO6.out
                  simpa using this
                · as_aux_lemma =>
                  have HQ : Hid (powT ab = [b8 (ab / 100 + 48), b8 (ab / 10 % 10 + 48), b8 (ab % 10 + 48)]) := by show powT ab = _; unfold powT; rw [if_neg k1, if_neg k2]
                  have q1 : ((b8 (ab / 100 + 48)).toNat : Int) = ab / 100 + 48 := b8_nat (by omega) (by omega)
                  have q2 : ((b8 (ab % 10 + 48)).toNat : Int) = ab % 10 + 48 := b8_nat (by omega) (by omega)
                  have q3 : ((b8 (ab / 10 % 10 + 48)).toNat : Int) = ab / 10 % 10 + 48 := b8_nat (by omega) (by omega)
                  have HQ1 := Lib.hid q1
                  have HQ2 := Lib.hid q2
                  have HQ3 := Lib.hid q3
                  clear q1 q2 q3
                  go_wp2_with (at_builtin; refine push_some rfl _ _ rfl rfl _ [b8 (ab / 100 + 48), b8 (ab / 10 % 10 + 48), b8 (ab % 10 + 48)] _ (by simp only [List.map_cons, List.map_nil, encB, HQ1.out, HQ2.out, HQ3.out] <;> rfl) HO5.out rfl (by simp only [List.length_cons, List.length_nil]; omega) ?_; intro v6 w6 hO6; have HO6 := Lib.hid hO6; clear hO6)
                  go_ret
                  refine ⟨v6, rfl, ?_⟩
                  rw [HOUT.out, HQ.out]
                  have := HO6.out
                  simpa using this
end Go.Proofs.YtofndhmnofghaaaGreatDoor

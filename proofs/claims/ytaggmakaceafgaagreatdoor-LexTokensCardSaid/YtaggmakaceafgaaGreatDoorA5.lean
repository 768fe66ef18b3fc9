import Derived.Test.YtaggmakaceafgaaGreatDoorA4
import Derived.Laws.BitsAllLaws
import Derived.Deep.CutBlock
namespace Go.Proofs.YtaggmakaceafgaaGreatDoor
open Go.RowKit
set_option linter.unusedVariables false

/-! a shift to the right -/
def ShR (B : Nat) (d : Nat → Nat) (nd : Nat) (dp : Int) (ng : Bool) (k : Nat) (w : World) (e : Ending) (w' : World) : Prop :=
  e = .returned (.tuple #[]) ∧ ∃ g nd' dp' tr', Dz w' B g nd' dp' ng tr' ∧ 49 ≤ g 0 ∧ Dm.Dg g nd' ∧ 0 < nd' ∧ nd' ≤ 800 ∧ dp - 20 ≤ dp' ∧ dp' ≤ dp ∧ (-370 ≤ dp → 2 ^ k * Dm.U g nd' dp' ≤ Dm.U d nd dp) ∧ Moved B w w'
/-- on the way: the digits up to q are laid -/
def RL (B : Nat) (d : Nat → Nat) (nd : Nat) (dp : Int) (ng : Bool) (q : Nat) (g : Nat → Nat) (w0 w : World) : Prop :=
  ∃ tr, Dz w B g nd dp ng tr ∧ (∀ i, q ≤ i → g i = d i) ∧ Dm.Dg g q ∧ (0 < q → 49 ≤ g 0) ∧ Moved B w0 w
section
variable {B nd q : Nat} {d g : Nat → Nat} {dp : Int} {ng : Bool} {w0 w : World}
theorem RL.nd_ (h : RL B d nd dp ng q g w0 w) : w.cell? ⟨B, 800, none⟩ = some (.int .i64 (nd : Int)) := by obtain ⟨tr, h1, _⟩ := h; exact h1.nd_
theorem RL.frozen (h : RL B d nd dp ng q g w0 w) (i : Nat) : w.frozen? ⟨B, i, none⟩ = false := by obtain ⟨tr, h1, _⟩ := h; exact h1.frozen i
theorem RL.any_ (h : RL B d nd dp ng q g w0 w) (i : Nat) (hi : i < 800) : ∃ x : Nat, w.cell? ⟨B, i, none⟩ = some (.int .u8 (x : Int)) := by obtain ⟨tr, h1, _⟩ := h; exact ⟨_, h1.dig i hi⟩
theorem RL.tr_ (h : RL B d nd dp ng q g w0 w) : ∃ b : Bool, w.cell? ⟨B, 803, none⟩ = some (.bool b) := by obtain ⟨tr, h1, _⟩ := h; exact ⟨_, h1.tr_⟩
theorem RL.read (h : RL B d nd dp ng q g w0 w) (i : Nat) (hi : q ≤ i) (h8 : i < 800) : w.cell? ⟨B, i, none⟩ = some (.int .u8 (d i : Int)) := by obtain ⟨tr, h1, h2, _⟩ := h; rw [h1.dig i h8, h2 i hi]
theorem RL.put (h : RL B d nd dp ng q g w0 w) (b : Nat) (hb : b ≤ 9) (h1 : q = 0 → 1 ≤ b) (hq : q < 800) (z : Int) (hz : z = (b : Int) + 48) : RL B d nd dp ng (q + 1) (Dm.put g q (b + 48)) w0 (w.setCell ⟨B, q, none⟩ (.int .u8 z)) := by
  obtain ⟨tr, a1, a2, a3, a4, a5⟩ := h
  refine ⟨tr, a1.setD q (b + 48) z (by omega) hq, fun i hi => ?_, fun i hi => ?_, fun _ => ?_, a5.trans (Moved.set _ _ _ _)⟩
  · rw [Dm.put_other _ (by omega)]; exact a2 i (by omega)
  · by_cases e : i = q
    · subst e; rw [Dm.put_same]; omega
    · rw [Dm.put_other _ e]; exact a3 i (by omega)
  · by_cases e : 0 = q
    · subst e; rw [Dm.put_same]; have := h1 rfl; omega
    · rw [Dm.put_other _ e]; exact a4 (by omega)
theorem RL.trunc (h : RL B d nd dp ng q g w0 w) (z : Bool) : RL B d nd dp ng q g w0 (w.setCell ⟨B, 803, none⟩ (.bool z)) := by
  obtain ⟨tr, a1, a2, a3, a4, a5⟩ := h
  exact ⟨z, a1.setT z, a2, a3, a4, a5.trans (Moved.set _ _ _ _)⟩
theorem num_put (g : Nat → Nat) (q x : Nat) : Dm.num (Dm.put g q x) (q + 1) = Dm.num g q * 10 + (x - 48) := by
  have e : Dm.num (Dm.put g q x) (q + 1) = Dm.num (Dm.put g q x) q * 10 + (Dm.put g q x q - 48) := rfl
  rw [e, Dm.put_same, Dm.num_congr (e := g) q fun i hi => Dm.put_other _ (by omega)]
end
theorem mask_is {k p2 n : Nat} (h : 2 ^ k = p2) (hp : p2 ≤ 1152921504606846976) (hn : n < 18446744073709551616) : bits BinOp.and IntKind.u64 (n : Int) ((p2 : Int) - 1) = ((n % p2 : Nat) : Int) := by
  have h0 : 0 < p2 := by rw [← h]; exact Nat.pow_pos (by decide)
  have e : ((p2 : Int) - 1) = ((p2 - 1 : Nat) : Int) := by omega
  rw [e, bits_and_u64_nat n (p2 - 1) hn (by omega), ← h, Nat.and_two_pow_sub_one_eq_mod]
theorem shr_none {n p2 : Nat} (h : n < p2) : ((n : Int) / (p2 : Int) == 0) = true := by
  rw [Int.ediv_eq_zero_of_lt (by omega) (by omega)]; rfl
theorem shr_some {n p2 : Nat} (h0 : 0 < p2) (h : ¬ n < p2) : ((n : Int) / (p2 : Int) == 0) = false := by
  refine beq_eq_false_iff_ne.2 fun e => ?_
  have e2 : ((n / p2 : Nat) : Int) = 0 := e
  have := Nat.div_pos (Nat.not_lt.1 h) h0
  omega
theorem pz_ten {d : Nat → Nat} {nd r : Nat} (h49 : 49 ≤ d 0) (hn : 0 < nd) (h : Dm.pz d nd r < 11529215046068469760) : r ≤ 20 := by
  rcases Nat.lt_or_ge r 21 with h1 | h1
  · omega
  · exfalso
    obtain ⟨j, rfl⟩ : ∃ j, r = j + 1 := ⟨r - 1, by omega⟩
    have h2 := Dm.pz_ge (r := j) h49 hn
    have h3 : 10 ^ 20 ≤ 10 ^ j := Nat.pow_le_pow_right (by decide) (by omega)
    have h4 : (10 : Nat) ^ 20 = 100000000000000000000 := by decide
    omega
theorem right_end {B nd k p2 r0 q : Nat} {d g : Nat → Nat} {dp dp' : Int} {ng tr : Bool} {w W W' : World} {e : Ending} (hn0 : 0 < nd) (hn : nd ≤ 800) (hr1 : 1 ≤ r0) (hr20 : r0 ≤ 20) (hdp : dp - ((r0 : Int) - 1) = dp') (hk : 2 ^ k = p2)
    (hq1 : 0 < q) (hq8 : q ≤ 800) (h49 : 49 ≤ g 0) (hg : Dm.Dg g q) (hnr : nd ≤ r0 + q) (hle : 10 * p2 * Dm.num g q ≤ Dm.pz d nd (r0 + q)) (hW : Moved B w W) (h : TrimP B g q dp' ng tr W e W') : ShR B d nd dp ng k w e W' := by
  obtain ⟨rfl, hd, hm⟩ := h
  have hp1 := Dm.trim_pos (d := g) h49 q hq1
  have hp2 := Dm.trim_le g q
  rw [if_neg (by omega)] at hd
  refine ⟨rfl, g, _, _, _, hd, h49, fun i hi => hg i (by omega), hp1, by omega, by omega, by omega, fun hp => ?_, hW.trans hm⟩
  have ht := Dm.top_is
  rw [Dm.U_trim _ _ _ (by omega), hk]
  have := Dm.U_right hnr hr1 hle (dp := dp) (by omega) (by omega)
  rw [show dp - (r0 : Int) + 1 = dp' by omega] at this
  exact this
set_option maxRecDepth 100000 in
set_option maxHeartbeats 4000000 in
theorem right_walk (B k p2 : Nat) (d : Nat → Nat) (nd : Nat) (dp : Int) (ng tr : Bool) (w : World) (h : Dz w B d nd dp ng tr) (hd : Dm.Dg d nd) (h49 : 49 ≤ d 0) (hn0 : 0 < nd) (hn : nd ≤ 800)
    (hp : -10000000 ≤ dp) (hp2 : dp ≤ 10000000) (h1 : 1 ≤ k) (h2 : k ≤ 60) (hk : 2 ^ k = p2) : Calls Tryz.prog 128 #[.pointer (some ⟨B, 0, none⟩), .int .u64 (k : Int)] w (ShR B d nd dp ng k w) := by
  have H := Lib.hid h
  have HD := Lib.hid hd
  have H49 := Lib.hid h49
  have c800 := h.nd_
  have hk2 := pow2_le h2
  have hk1 : 2 ≤ p2 := by rw [← hk]; exact Nat.le_trans (by decide) (Nat.pow_le_pow_right (by decide) h1)
  have HK := Lib.hid hk
  have hp2i : ((2 : Int) ^ k) = (p2 : Int) := by rw [← hk]; exact (Int.natCast_pow 2 k).symm
  rw [hk] at hk2
  clear h hd h49 hk
  go_enter Tryz.func128, Tryz.ntmps128
  go_upto_block 0 with fail
  go_cut [4, 6] (fun s4 s6 wx => ∃ r n : Nat, s4 = .int .i64 r ∧ s6 = .int .u64 n ∧ 1 ≤ r ∧ r ≤ 20 ∧ p2 ≤ n ∧ n < 10 * p2 ∧ Hid (n = Dm.pz d nd r) ∧ w = wx)
  case first =>
    go_wp2_with fail
    go_loopg [4, 6] nd (fun g s4 s6 wx => ∃ r n : Nat, r + g = nd ∧ s4 = .int .i64 r ∧ s6 = .int .u64 n ∧ n < 10 * p2 ∧ Hid (n = Dm.num d r) ∧ w = wx)
    case atStart => exact ⟨0, 0, by omega, rfl, rfl, by omega, rfl, rfl⟩
    case round =>
      obtain ⟨r, n, hrg, rfl, rfl, hnb, HN, rfl⟩ := hrel
      by_cases hlt : n < p2
      · have t0 : ((n : Int) / (p2 : Int) == 0) = true := by
          rw [Int.ediv_eq_zero_of_lt (by omega) (by omega)]; rfl
        by_cases hrn : r < nd
        · obtain ⟨g, rfl⟩ : ∃ g, gk = g + 1 := ⟨gk - 1, by omega⟩
          have cr := H.out.dig r (by omega)
          obtain ⟨dl, dh⟩ := HD.out r hrn
          obtain ⟨m, hm⟩ : ∃ m, n * 10 + (d r - 48) = m := ⟨_, rfl⟩
          have HM : Hid (m = Dm.num d (r + 1)) := by
            show m = _
            rw [← hm, HN.out]; rfl
          have e1 : (n : Int) * 10 + (d r : Int) - 48 = (m : Int) := by omega
          have hmb : m < 10 * p2 := by omega
          clear hm
          go_wp2_with fail
          go_roundg g
          case measure => omega
          case rel => exact ⟨r + 1, m, by omega, by go_num, by go_num, hmb, HM, rfl⟩
        · obtain rfl : r = nd := by omega
          have hn1 : 1 ≤ n := by
            rw [HN.out]
            obtain ⟨j, hj⟩ : ∃ j, r = j + 1 := ⟨r - 1, by omega⟩
            rw [hj]
            have := Dm.num_ge H49.out j
            have h10 : 1 ≤ 10 ^ j := Nat.pow_pos (by decide)
            omega
          have t1 : ((n : Int) == 0) = false := beq_eq_false_iff_ne.2 (by omega)
          have HP : Hid (n = Dm.pz d r r) := by
            show n = _
            rw [HN.out, Dm.pz_in (Nat.le_refl _)]
          clear HN
          go_wp2_with fail
          go_loopg [4, 6] (10 * p2 - n) (fun g s4 s6 wx => ∃ q m : Nat, m + g = 10 * p2 ∧ s4 = .int .i64 q ∧ s6 = .int .u64 m ∧ 1 ≤ m ∧ m < 10 * p2 ∧ 1 ≤ q ∧ r ≤ q ∧ Hid (m = Dm.pz d r q) ∧ w = wx)
          case atStart => exact ⟨r, n, by omega, rfl, rfl, hn1, hnb, by omega, Nat.le_refl _, HP, rfl⟩
          case round =>
            clear HP
            obtain ⟨q, m, hmg, rfl, rfl, hm1, hmb, hq, hrq, HP, rfl⟩ := hrel
            have hq20 : q ≤ 20 := pz_ten H49.out hn0 (by rw [← HP.out]; omega)
            by_cases hlt2 : m < p2
            · have t2 : ((m : Int) / (p2 : Int) == 0) = true := by
                rw [Int.ediv_eq_zero_of_lt (by omega) (by omega)]; rfl
              have HP2 : Hid (m * 10 = Dm.pz d r (q + 1)) := by
                show m * 10 = _
                have e := Dm.pz_succ d r q
                rw [show Dm.ext d r q = 48 from if_neg (by omega), ← HP.out] at e
                omega
              go_wp2_with fail
              go_roundg (10 * p2 - m * 10)
              case measure => omega
              case rel => exact ⟨q + 1, m * 10, by omega, by go_num, by go_num, by omega, by omega, by omega, by omega, HP2, rfl⟩
            · have t2 : ((m : Int) / (p2 : Int) == 0) = false := shr_some (by omega) hlt2
              go_wp2_with fail
              go_meet
              exact ⟨q, m, rfl, rfl, hq, hq20, by omega, hmb, HP, rfl⟩
      · have t0 : ((n : Int) / (p2 : Int) == 0) = false := shr_some (by omega) hlt
        have hr1 : 1 ≤ r := by
          rcases Nat.eq_zero_or_pos r with h0 | h0
          · have := HN.out
            rw [h0] at this
            have e : Dm.num d 0 = 0 := rfl
            omega
          · exact h0
        have HP : Hid (n = Dm.pz d nd r) := by
          show n = _
          rw [HN.out, Dm.pz_in (by omega)]
        have hq20 : r ≤ 20 := pz_ten H49.out hn0 (by rw [← HP.out]; omega)
        go_wp2_with fail
        go_meet
        exact ⟨r, n, rfl, rfl, hr1, hq20, by omega, hnb, HP, rfl⟩
  case rest =>
    obtain ⟨r0, n0, rfl, rfl, hr1, hr20, hn1, hnb, HN, rfl⟩ := hcut
    have c801 := H.out.dp_
    have f801 := H.out.frozen 801
    obtain ⟨dp', hdp⟩ : ∃ dp', dp - ((r0 : Int) - 1) = dp' := ⟨_, rfl⟩
    have HDP := Lib.hid hdp
    have HL0 : Hid (RL B d nd dp' ng 0 d w (w.setCell ⟨B, 801, none⟩ (.int .i64 dp'))) := ⟨tr, H.out.setP _, fun i _ => rfl, fun i hi => by omega, fun h => by omega, Moved.set _ _ _ _⟩
    have HE0 : Hid (Dm.pz d nd (r0 + 0) = 10 * p2 * Dm.num d 0 + n0) := by
      show Dm.pz d nd (r0 + 0) = _
      rw [Nat.add_zero, ← HN.out]
      have e : Dm.num d 0 = 0 := rfl
      rw [e]; omega
    have hdpb : -10000100 ≤ dp' ∧ dp' ≤ 10000100 := by omega
    clear hdp
    go_wp2_with fail
    go_loopg [4, 5, 6] (nd - 0) (fun g s4 s5 s6 wx => ∃ (rr q n : Nat) (g' : Nat → Nat), g = nd - q ∧ Hid (rr = r0 + q) ∧ q ≤ nd ∧ s4 = .int .i64 (rr : Int) ∧ s5 = .int .i64 q ∧ s6 = .int .u64 n ∧ n < 10 * p2 ∧ (q = 0 → p2 ≤ n) ∧ Hid (Dm.pz d nd (r0 + q) = 10 * p2 * Dm.num g' q + n) ∧ Hid (RL B d nd dp' ng q g' w wx))
    case atStart => exact ⟨r0, 0, n0, d, rfl, by show r0 = r0 + 0; omega, Nat.zero_le _, rfl, rfl, rfl, hnb, fun _ => hn1, HE0, by rw [HDP.out]; exact HL0⟩
    case round =>
      obtain ⟨rr, q, n, g', hgk, HRR, hq, rfl, rfl, rfl, hnb, hqn, HE, HL⟩ := hrel
      have c800 := HL.out.nd_
      have HQN := Lib.hid hqn
      clear hqn
      by_cases hrn : rr < nd
      · have hm1 : nd - (q + 1) < gk := by have := HRR.out; omega
        have hq1 : q + 1 ≤ nd := by have := HRR.out; omega
        have HG := Lib.hid hgk
        clear hgk
        have cr := HL.out.read rr (by have := HRR.out; omega) (by omega)
        obtain ⟨dl, dh⟩ := HD.out rr hrn
        have em := mask_is HK.out hk2 (show n < 18446744073709551616 by omega)
        have HB9 := Lib.hid (Dm.dig_le (n := n) (k2 := p2) (by omega))
        have HKL := Lib.hid (Dm.keep_lt (n := n) (k2 := p2) (c := d rr - 48) (by omega) (by omega))
        have HDS := Lib.hid (Dm.down_step (p := Dm.pz d nd (r0 + q)) (N := Dm.num g' q) (n := n) (c := d rr - 48) (m := n % p2) (k2 := p2) HE.out rfl)
        have hp0 : 0 < p2 := by omega
        have HMD := Lib.hid (Nat.mod_lt n hp0)
        have e1 : (n : Int) / (p2 : Int) = ((n / p2 : Nat) : Int) := rfl
        have HB1 : Hid (q = 0 → 1 ≤ n / p2) := fun h => Nat.div_pos (HQN.out h) hp0
        obtain ⟨b, hb⟩ : ∃ b, n / p2 = b := ⟨_, rfl⟩
        obtain ⟨x, hx⟩ : ∃ x, n % p2 = x := ⟨_, rfl⟩
        rw [hb] at e1 HB9 HDS HB1
        rw [hx] at em HKL HDS HMD
        obtain ⟨m, hm⟩ : ∃ m, x * 10 + (d rr - 48) = m := ⟨_, rfl⟩
        rw [hm] at HKL HDS
        have e2 : (x : Int) * 10 + (d rr : Int) - 48 = (m : Int) := by omega
        have hb9 : b ≤ 9 := HB9.out
        have hxb : x < p2 := HMD.out
        have hmb : m < 10 * p2 := HKL.out
        have HE2 : Hid (Dm.pz d nd (r0 + (q + 1)) = 10 * p2 * Dm.num (Dm.put g' q (b + 48)) (q + 1) + m) := by
          show Dm.pz d nd (r0 + (q + 1)) = _
          have e := Dm.pz_succ d nd (r0 + q)
          rw [show Dm.ext d nd (r0 + q) = d rr by rw [← HRR.out]; exact if_pos hrn, HDS.out] at e
          rw [num_put, Nat.add_sub_cancel]
          exact e
        clear hb hx hm
        have hq8 : q < 800 := by omega
        have HL2 := Lib.hid (HL.out.put b hb9 HB1.out hq8 ((b : Int) + 48) rfl)
        have fq := HL.out.frozen q
        obtain ⟨xx, cq⟩ := HL.out.any_ q hq8
        go_wp2_with fail
        go_roundg (nd - (q + 1))
        case measure => omega
        case rel => exact ⟨rr + 1, q + 1, m, Dm.put g' q (b + 48), rfl, by show rr + 1 = r0 + (q + 1); have := HRR.out; omega, hq1, by go_num, by go_num, by go_num, hmb, fun h => by omega, HE2, HL2⟩
      · have HNR : Hid (nd ≤ r0 + q) := by have := HRR.out; show nd ≤ r0 + q; omega
        have HLE : Hid (10 * p2 * Dm.num g' q ≤ Dm.pz d nd (r0 + q)) := by show _ ≤ _; rw [HE.out]; exact Nat.le_add_right _ _
        have HE1 : Hid (q < 800 → Dm.pz d nd (r0 + q) = 10 * p2 * Dm.num g' q + n) := fun _ => HE.out
        have HME : Hid ((n = 0 → (if n = 0 then 0 else k + 1) = 0) ∧ (n ≠ 0 → (if n = 0 then 0 else k + 1) + 0 = k + 1)) := ⟨fun h => if_pos h, fun h => by rw [if_neg h]⟩
        obtain ⟨g0, hg0⟩ : ∃ g0, (if n = 0 then 0 else k + 1) = g0 := ⟨_, rfl⟩
        rw [hg0] at HME
        clear hgk hg0
        have hq8 : q ≤ 800 := by omega
        go_wp2_with fail
        go_loopg [5, 6] g0 (fun g s5 s6 wx => ∃ (t q n : Nat) (g' : Nat → Nat), t ≤ k ∧ Hid (2 ^ t ∣ n) ∧ Hid ((n = 0 → g = 0) ∧ (n ≠ 0 → g + t = k + 1)) ∧ q ≤ 800 ∧ s5 = .int .i64 q ∧ s6 = .int .u64 n ∧ n < 10 * p2 ∧ Hid (q = 0 → p2 ≤ n) ∧ Hid (q < 800 → Dm.pz d nd (r0 + q) = 10 * p2 * Dm.num g' q + n) ∧ Hid (10 * p2 * Dm.num g' q ≤ Dm.pz d nd (r0 + q)) ∧ Hid (nd ≤ r0 + q) ∧ Hid (RL B d nd dp' ng q g' w wx))
        case atStart => exact ⟨0, q, n, g', Nat.zero_le _, by show 2 ^ 0 ∣ n; simp, HME, hq8, rfl, rfl, hnb, HQN, HE1, HLE, HNR, HL⟩
        case round =>
          clear HME HQN HE1 HLE HNR HL HE HRR
          obtain ⟨t, q, n, g', ht, HTD, HME, hq8, rfl, rfl, hnb, HQN, HE, HLE, HNR, HL⟩ := hrel
          by_cases hn00 : n = 0
          · subst hn00
            have hq1 : 0 < q := by
              rcases Nat.eq_zero_or_pos q with h0 | h0
              · have := HQN.out h0; omega
              · exact h0
            obtain ⟨tr', a1, a2, a3, a4, a5⟩ := HL.out
            have A1 := Lib.hid a1
            have f1 := a1.frozen 800
            have c1 := a1.nd_
            have HTR := Lib.hid (fun W (hW : Dz W B g' q dp' ng tr') => trim_any B g' q dp' ng tr' W hW hq8)
            have HEND := Lib.hid (fun W W' (e : Ending) (hW : Moved B w W) (h : TrimP B g' q dp' ng tr' W e W') => right_end hn0 hn hr1 hr20 HDP.out HK.out hq1 hq8 (a4 hq1) a3 HNR.out HLE.out hW h)
            have A5 := Lib.hid a5
            clear a1 a2 a3 a4 a5 HME hq1
            go_wp2_with fail
            refine (HTR.out _ (A1.out.setN q _ rfl)).mono ?_
            rintro e w9 ⟨rfl, ht9⟩
            have HT9 := Lib.hid (HEND.out _ _ _ (A5.out.trans (Moved.set _ _ _ _)) ⟨rfl, ht9⟩)
            clear ht9
            go_wp2_with fail
            go_end0
            exact HT9.out
          · have hn1 : (0 : Int) < (n : Int) := by omega
            have HGK := Lib.hid (HME.out.2 hn00)
            have em := mask_is HK.out hk2 (show n < 18446744073709551616 by omega)
            have hp0 : 0 < p2 := by omega
            have HB9 := Lib.hid (Dm.dig_le (n := n) (k2 := p2) (by omega))
            have HMD := Lib.hid (Nat.mod_lt n hp0)
            have HDS := Lib.hid (fun h8 : q < 800 => Dm.down_step (p := Dm.pz d nd (r0 + q)) (N := Dm.num g' q) (n := n) (c := 0) (m := n % p2) (k2 := p2) (HE.out h8) rfl)
            have HB1 : Hid (q = 0 → 1 ≤ n / p2) := fun h => Nat.div_pos (HQN.out h) hp0
            have e1 : (n : Int) / (p2 : Int) = ((n / p2 : Nat) : Int) := rfl
            have HT2 : Hid (∃ t', t' ≤ k ∧ 2 ^ t' ∣ n % p2 * 10 ∧ (n % p2 * 10 = 0 ∨ t' = t + 1)) := by
              by_cases htk : t < k
              · exact ⟨t + 1, htk, by rw [← HK.out]; exact Dm.ends_step HTD.out ht, .inr rfl⟩
              · obtain rfl : t = k := by omega
                have e := Dm.ends_all HTD.out
                rw [HK.out] at e
                exact ⟨0, Nat.zero_le _, by rw [e]; exact Nat.dvd_zero _, .inl e⟩
            obtain ⟨b, hb⟩ : ∃ b, n / p2 = b := ⟨_, rfl⟩
            obtain ⟨x, hx⟩ : ∃ x, n % p2 = x := ⟨_, rfl⟩
            rw [hb] at e1 HB9 HDS HB1
            rw [hx] at em HDS HMD HT2
            have hb9 : b ≤ 9 := HB9.out
            have hxb : x < p2 := HMD.out
            obtain ⟨g2, hg2⟩ : ∃ g2, (if x * 10 = 0 then 0 else gk - 1) = g2 := ⟨_, rfl⟩
            have HG2 := Lib.hid hg2
            have hg1 : 1 ≤ gk := by have := HGK.out; omega
            have hgl : g2 < gk := by rw [← hg2]; split <;> omega
            have HM2 : Hid (∃ t', t' ≤ k ∧ 2 ^ t' ∣ x * 10 ∧ (x * 10 = 0 → g2 = 0) ∧ (x * 10 ≠ 0 → g2 + t' = k + 1)) := by
              obtain ⟨t', a1, a2, a3⟩ := HT2.out
              refine ⟨t', a1, a2, fun h => by rw [← hg2, if_pos h], fun h => ?_⟩
              rw [← hg2, if_neg h]
              rcases a3 with a3 | a3
              · exact absurd a3 h
              · have := HGK.out; omega
            clear hb hx hg2 hn00
            by_cases h8 : q < 800
            · have HL2 := Lib.hid (HL.out.put b hb9 HB1.out h8 ((b : Int) + 48) rfl)
              have fq := HL.out.frozen q
              obtain ⟨xx, cq⟩ := HL.out.any_ q h8
              have HE2 : Hid (Dm.pz d nd (r0 + (q + 1)) = 10 * p2 * Dm.num (Dm.put g' q (b + 48)) (q + 1) + x * 10) := by
                show Dm.pz d nd (r0 + (q + 1)) = _
                have e := Dm.pz_succ d nd (r0 + q)
                have e5 := HDS.out h8
                rw [show Dm.ext d nd (r0 + q) = 48 from if_neg (by have := HNR.out; omega)] at e
                rw [num_put, Nat.add_sub_cancel]
                have e6 : Dm.pz d nd (r0 + (q + 1)) = Dm.pz d nd (r0 + q + 1) := rfl
                omega
              have h8i : (q : Int) < 800 := by omega
              go_wp2_with fail
              go_roundg g2
              case measure => exact hgl
              case rel =>
                obtain ⟨t', a1, a2, a3, a4⟩ := HM2.out
                exact ⟨t', q + 1, x * 10, Dm.put g' q (b + 48), a1, a2, ⟨a3, a4⟩, by omega, by go_num, by go_num, by omega, fun h => by omega, fun _ => HE2.out, by show _ ≤ _; rw [HE2.out]; exact Nat.le_add_right _ _, by show _ ≤ _; have := HNR.out; omega, HL2⟩
            · obtain rfl : q = 800 := by omega
              obtain ⟨xx, cu⟩ := HL.out.tr_
              have fu := HL.out.frozen 803
              by_cases hb0 : b = 0
              · have hb1 : decide (0 < b) = false := decide_eq_false (by omega)
                clear hb0
                go_wp2_with fail
                go_roundg g2
                case measure => exact hgl
                case rel =>
                  obtain ⟨t', a1, a2, a3, a4⟩ := HM2.out
                  exact ⟨t', 800, x * 10, g', a1, a2, ⟨a3, a4⟩, by omega, by go_num, by go_num, by omega, fun h => by omega, fun h => by omega, HLE, HNR, HL⟩
              · have hb1 : 0 < b := by omega
                have HL3 := Lib.hid (HL.out.trunc true)
                clear hb0
                go_wp2_with fail
                go_roundg g2
                case measure => exact hgl
                case rel =>
                  obtain ⟨t', a1, a2, a3, a4⟩ := HM2.out
                  exact ⟨t', 800, x * 10, g', a1, a2, ⟨a3, a4⟩, by omega, by go_num, by go_num, by omega, fun h => by omega, fun h => by omega, HLE, HNR, HL3⟩
theorem right_any (B k : Nat) (d : Nat → Nat) (nd : Nat) (dp : Int) (ng tr : Bool) (w : World) (h : Dz w B d nd dp ng tr) (hd : Dm.Dg d nd) (h49 : 49 ≤ d 0) (hn0 : 0 < nd) (hn : nd ≤ 800)
    (hp : -10000000 ≤ dp) (hp2 : dp ≤ 10000000) (h1 : 1 ≤ k) (h2 : k ≤ 60) : Calls Tryz.prog 128 #[.pointer (some ⟨B, 0, none⟩), .int .u64 (k : Int)] w (ShR B d nd dp ng k w) :=
  right_walk B k _ d nd dp ng tr w h hd h49 hn0 hn hp hp2 h1 h2 rfl
end Go.Proofs.YtaggmakaceafgaaGreatDoor

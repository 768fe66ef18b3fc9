import Derived.Test.YtaggmakaceafgaaGreatDoorA3
namespace Go.Proofs.YtaggmakaceafgaaGreatDoor
open Go.RowKit
set_option linter.unusedVariables false

def ShP (B : Nat) (d : Nat → Nat) (nd : Nat) (dp : Int) (ng : Bool) (w : World) (e : Ending) (w' : World) : Prop :=
  e = .returned (.tuple #[]) ∧ ∃ g nd' dp' tr', Dz w' B g nd' dp' ng tr' ∧ 49 ≤ g 0 ∧ Dm.Dg g nd' ∧ 0 < nd' ∧ nd' ≤ 800 ∧ dp ≤ dp' ∧ dp' ≤ dp + 20 ∧ (-400 ≤ dp → 3 * Dm.U d nd dp ≤ 2 * Dm.U g nd' dp') ∧ Moved B w w'
/-- on the way: the digits from w on are laid -/
def Lay (B : Nat) (d : Nat → Nat) (nd : Nat) (dp : Int) (ng : Bool) (j v m : Nat) (o : Nat → Nat) (w0 w : World) : Prop :=
  ∃ g tr, Dz w B g nd dp ng tr ∧ (∀ i, i < j → g i = d i) ∧ (∀ i, v ≤ i → i < m → i < 800 → g i = o i + 48) ∧ (∀ i, v ≤ i → i < m → o i ≤ 9) ∧ Moved B w0 w
theorem Lay.put {B nd : Nat} {d : Nat → Nat} {dp : Int} {ng : Bool} {j v m : Nat} {o : Nat → Nat} {w0 w : World} (h : Lay B d nd dp ng j (v + 1) m o w0 w) (j' b : Nat) (hj : j' ≤ j) (hjv : j' ≤ v) (hv : v < 800) (hb : b ≤ 9) (z : Int) (hz : z = (b : Int) + 48) :
    Lay B d nd dp ng j' v m (Dm.put o v b) w0 (w.setCell ⟨B, v, none⟩ (.int .u8 z)) := by
  obtain ⟨g, tr, h1, h2, h3, h4, h5⟩ := h
  refine ⟨_, tr, h1.setD v (b + 48) z (by omega) hv, fun i hi => ?_, fun i hi hm h8 => ?_, fun i hi hm => ?_, h5.trans (Moved.set _ _ _ _)⟩
  · rw [Dm.put_other _ (by omega)]; exact h2 i (by omega)
  · by_cases e : i = v
    · subst e; rw [Dm.put_same, Dm.put_same]
    · rw [Dm.put_other _ e, Dm.put_other _ e]; exact h3 i (by omega) hm h8
  · by_cases e : i = v
    · subst e; rw [Dm.put_same]; exact hb
    · rw [Dm.put_other _ e]; exact h4 i (by omega) hm
theorem Lay.off {B nd : Nat} {d : Nat → Nat} {dp : Int} {ng : Bool} {j v m : Nat} {o : Nat → Nat} {w0 w : World} (h : Lay B d nd dp ng j (v + 1) m o w0 w) (j' b : Nat) (hj : j' ≤ j) (hv : 800 ≤ v) (hb : b ≤ 9) :
    Lay B d nd dp ng j' v m (Dm.put o v b) w0 w := by
  obtain ⟨g, tr, h1, h2, h3, h4, h5⟩ := h
  refine ⟨g, tr, h1, fun i hi => h2 i (by omega), fun i hi hm h8 => by omega, fun i hi hm => ?_, h5⟩
  by_cases e : i = v
  · subst e; rw [Dm.put_same]; exact hb
  · rw [Dm.put_other _ e]; exact h4 i (by omega) hm
theorem Lay.trunc {B nd : Nat} {d : Nat → Nat} {dp : Int} {ng : Bool} {j v m : Nat} {o : Nat → Nat} {w0 w : World} (h : Lay B d nd dp ng j v m o w0 w) (z : Bool) : Lay B d nd dp ng j v m o w0 (w.setCell ⟨B, 803, none⟩ (.bool z)) := by
  obtain ⟨g, tr, h1, h2, h3, h4, h5⟩ := h
  exact ⟨g, z, h1.setT z, h2, h3, h4, h5.trans (Moved.set _ _ _ _)⟩
theorem Lay.nine {B nd : Nat} {d : Nat → Nat} {dp : Int} {ng : Bool} {j v m : Nat} {o : Nat → Nat} {w0 w : World} (h : Lay B d nd dp ng j v m o w0 w) : ∀ i, v ≤ i → i < m → o i ≤ 9 := by
  obtain ⟨g, tr, h1, h2, h3, h4, h5⟩ := h; exact h4
theorem Lay.nd_ {B nd : Nat} {d : Nat → Nat} {dp : Int} {ng : Bool} {j v m : Nat} {o : Nat → Nat} {w0 w : World} (h : Lay B d nd dp ng j v m o w0 w) : w.cell? ⟨B, 800, none⟩ = some (.int .i64 (nd : Int)) := by
  obtain ⟨g, tr, h1, _⟩ := h; exact h1.nd_
theorem Lay.dp_ {B nd : Nat} {d : Nat → Nat} {dp : Int} {ng : Bool} {j v m : Nat} {o : Nat → Nat} {w0 w : World} (h : Lay B d nd dp ng j v m o w0 w) : w.cell? ⟨B, 801, none⟩ = some (.int .i64 dp) := by
  obtain ⟨g, tr, h1, _⟩ := h; exact h1.dp_
theorem Lay.read {B nd : Nat} {d : Nat → Nat} {dp : Int} {ng : Bool} {j v m : Nat} {o : Nat → Nat} {w0 w : World} (h : Lay B d nd dp ng j v m o w0 w) (i : Nat) (hi : i < j) (h8 : i < 800) : w.cell? ⟨B, i, none⟩ = some (.int .u8 (d i : Int)) := by
  obtain ⟨g, tr, h1, h2, _⟩ := h; rw [h1.dig i h8, h2 i hi]
theorem Lay.any_ {B nd : Nat} {d : Nat → Nat} {dp : Int} {ng : Bool} {j v m : Nat} {o : Nat → Nat} {w0 w : World} (h : Lay B d nd dp ng j v m o w0 w) (i : Nat) (h8 : i < 800) : ∃ x : Nat, w.cell? ⟨B, i, none⟩ = some (.int .u8 (x : Int)) := by
  obtain ⟨g, tr, h1, h2, _⟩ := h; exact ⟨_, h1.dig i h8⟩
theorem Lay.tr_ {B nd : Nat} {d : Nat → Nat} {dp : Int} {ng : Bool} {j v m : Nat} {o : Nat → Nat} {w0 w : World} (h : Lay B d nd dp ng j v m o w0 w) : ∃ b : Bool, w.cell? ⟨B, 803, none⟩ = some (.bool b) := by
  obtain ⟨g, tr, h1, h2, _⟩ := h; exact ⟨_, h1.tr_⟩
theorem Lay.frozen {B nd : Nat} {d : Nat → Nat} {dp : Int} {ng : Bool} {j v m : Nat} {o : Nat → Nat} {w0 w : World} (h : Lay B d nd dp ng j v m o w0 w) (i : Nat) : w.frozen? ⟨B, i, none⟩ = false := by
  obtain ⟨g, tr, h1, _⟩ := h; exact h1.frozen i
theorem pow2_le {k : Nat} (h : k ≤ 60) : 2 ^ k ≤ 1152921504606846976 := Nat.le_trans (Nat.pow_le_pow_right (by decide) h) (by decide)
theorem left_all {D : Nat} {o : Nat → Nat} {nd z m : Nat} (h : Dm.Lx D o nd z m 0) (hg : 10 ^ m ≤ 10 * D) (ho : ∀ i, z ≤ i → i < m → o i ≤ 9) (hz : z ≤ m) : z = 0 := by
  rcases Nat.eq_zero_or_pos z with h0 | h0
  · exact h0
  · exfalso
    unfold Dm.Lx at h
    have h1 := Dm.suf_lt (o := o) (w := z) (m - z) fun i a b => ho i a (by omega)
    have h2 : 10 ^ (m - z + 1) ≤ 10 ^ m := Nat.pow_le_pow_right (by decide) (by omega)
    rw [Nat.pow_succ] at h2
    omega
theorem left_end {B nd k delta n' : Nat} {d g o : Nat → Nat} {dp : Int} {ng tr : Bool} {w W W' : World} {e : Ending} (hn0 : 0 < nd) (hn : nd ≤ 800) (hk : 1 ≤ k) (hde : delta ≤ 19) (hn' : min (nd + delta) 800 = n')
    (hx : Dm.Lx (2 ^ k * Dm.num d nd) o nd 0 (nd + delta) 0) (hg : 10 ^ (nd + delta) ≤ 10 * (2 ^ k * Dm.num d nd)) (ho : ∀ i, i < nd + delta → o i ≤ 9) (hgo : ∀ i, i < nd + delta → i < 800 → g i = o i + 48) (hW : Moved B w W) (h : TrimP B g n' (dp + delta) ng tr W e W') : ShP B d nd dp ng w e W' := by
  have hv : 2 ^ k * Dm.num d nd = Dm.suf o 0 (nd + delta) := by unfold Dm.Lx at hx; rw [hx]; simp
  have h8 := Dm.cap8_is
  have hnc : n' = min (nd + delta) Dm.cap8 := by rw [h8]; exact hn'.symm
  have hgn : ∀ i, i < n' → g i = o i + 48 := fun i hi => hgo i (by omega) (by omega)
  have hU := fun hp : -400 ≤ dp => Dm.U_left (d := d) (g := g) (nd := nd) (dp := dp) ho hv hk hg hnc hgn (by have := Dm.top_is; omega)
  obtain ⟨f1, f2⟩ := Dm.left_first (v := 2 ^ k * Dm.num d nd) ho hv (by omega) hg hnc hgn
  obtain ⟨rfl, hd, hm⟩ := h
  have hp1 := Dm.trim_pos (d := g) f1 n' (by omega)
  have hp2 := Dm.trim_le g n'
  rw [if_neg (by omega)] at hd
  refine ⟨rfl, g, _, _, _, hd, f1, fun i hi => f2 i (by omega), hp1, by omega, by omega, by omega, fun hp => ?_, hW.trans hm⟩
  rw [Dm.U_trim _ _ _ (by have := Dm.top_is; omega)]
  exact hU hp
set_option maxRecDepth 100000 in
set_option maxHeartbeats 4000000 in
theorem left_walk (B P off c k : Nat) (d : Nat → Nat) (nd delta m : Nat) (dp : Int) (ng tr : Bool) (w : World) (hT : Cheat w P off c) (hB15 : B ≠ 15) (hBP : B ≠ P) (h : Dz w B d nd dp ng tr) (hd : Dm.Dg d nd) (hn0 : 0 < nd) (hn : nd ≤ 800)
    (hp : -10000000 ≤ dp) (hp2 : dp ≤ 10000000) (h1 : 1 ≤ k) (h2 : k ≤ 60) (r : Bool) (hr : decide (Dm.pz d nd (cheatL k) < 5 ^ k) = r) (hde : delta = (if r = true then (cheatRow k).1 - 1 else (cheatRow k).1)) (hr1 : r = true → 1 ≤ (cheatRow k).1) (hde2 : delta ≤ 19) (hm : m = nd + delta)
    (hlt : 2 ^ k * Dm.num d nd < 10 ^ m) (hge : 10 ^ m ≤ 10 * (2 ^ k * Dm.num d nd)) : Calls Tryz.prog 127 #[.pointer (some ⟨B, 0, none⟩), .int .u64 (k : Int)] w (ShP B d nd dp ng w) := by
  have H := Lib.hid h
  have HD := Lib.hid hd
  have HPC := Lib.hid (fun n => (pre_call B d nd dp ng tr k (w.drewN n) h hn hd h1 h2 r hr))
  have HLT := Lib.hid hlt
  have HGE := Lib.hid hge
  have ct0 := hT.1
  obtain ⟨ct1, ct2⟩ := hT.2 k (by omega)
  have c800 := h.nd_
  obtain ⟨q, hq⟩ : ∃ q, (cheatRow k).1 = q := ⟨_, rfl⟩
  rw [hq] at ct1 hde hr1
  clear hT h hd hr hlt hge hq
  have b15 : (15 == B) = false := by simp; omega
  have bP : (P == B) = false := by simp; omega
  go_enter Tryz.func127, Tryz.ntmps127
  have s1 : (0 : Int) ≤ (nd : Int) := by omega
  have s2 : (nd : Int) ≤ 800 := by omega
  have s3 : ((nd : Int)).toNat = nd := by omega
  go_upto_region 1 with fail
  go_quiet ((go_at_call 134; exact Calls.quiet_of (HPC.out _)))
  go_upto_if 30 with fail
  go_cut [4] (fun s4 wx => s4 = .int .i64 (delta : Int) ∧ ∃ n, wx = w.drewN n)
  case first =>
    cases r with
    | true =>
      have hq1 := hr1 rfl
      have hdd : (q : Int) - 1 = (delta : Int) := by rw [if_pos rfl] at hde; omega
      clear hde hr1
      go_wp2_with fail
      go_meet
      exact ⟨by go_num, _, rfl⟩
    | false =>
      have hdd : q = delta := by rw [if_neg (by decide)] at hde; exact hde.symm
      subst hdd
      clear hde hr1
      go_wp2_with fail
      go_meet
      exact ⟨rfl, _, rfl⟩
  case rest =>
    obtain ⟨rfl, n0, rfl⟩ := hcut
    clear hde hr1 ct0 ct1 ct2 HPC
    have HL0 : Hid (Lay B d nd dp ng nd m m (fun _ => 0) w (w.drewN n0)) := ⟨d, tr, H.out.drewN _, fun i _ => rfl, fun i h1 h2 => by omega, fun i h1 h2 => by omega, (Moved.refl _ _).drewN _⟩
    have HF0 : Hid (Dm.Lf d (fun _ => 0) nd k nd m m 0) := by
      show Dm.Lf d (fun _ => 0) nd k nd m m 0
      unfold Dm.Lf
      simp [Dm.suf]
    have hk2 := pow2_le h2
    obtain ⟨p2, hp2'⟩ : ∃ p2, 2 ^ k = p2 := ⟨_, rfl⟩
    have HP2 := Lib.hid hp2'
    rw [hp2'] at hk2
    have hp2i : ((2 : Int) ^ k) = (p2 : Int) := by rw [← hp2']; exact (Int.natCast_pow 2 k).symm
    clear hp2' c800
    have c800 : (w.drewN n0).cell? ⟨B, 800, none⟩ = some (.int .i64 (nd : Int)) := (H.out.drewN n0).nd_
    obtain ⟨w1, hw1⟩ : ∃ w1, w.drewN n0 = w1 := ⟨_, rfl⟩
    rw [hw1] at HL0 c800
    rw [hw1]
    clear hw1 s3
    go_wp2_with fail
    go_loopg [5, 6, 7] nd (fun g s5 s6 s7 wx => ∃ (j v n : Nat) (r : Int) (o : Nat → Nat), j = g ∧ j ≤ nd ∧ v = j + delta ∧ r = (j : Int) - 1 ∧ s5 = .int .i64 r ∧ s6 = .int .i64 v ∧ s7 = .int .u64 n ∧ n ≤ p2 ∧ Hid (Lay B d nd dp ng j v m o w wx) ∧ Hid (Dm.Lf d o nd k j v m n))
    case atStart => exact ⟨nd, m, 0, _, _, rfl, Nat.le_refl _, hm, rfl, by go_num, by rw [hm]; go_num, rfl, by omega, HL0, HF0⟩
    case round =>
      obtain ⟨j, v, n, r, o, hjg, hj, hv, hr, rfl, rfl, rfl, hnp, HLY, HLF⟩ := hrel
      by_cases hj0 : j = 0
      · subst hj0
        obtain rfl : r = -1 := by omega
        have e0 : m - nd = delta := by omega
        have ev : v = delta := by omega
        subst ev
        have HCA : Hid (n < 10 ^ v) := by
          have := Dm.carry_is (n := n) (by rw [e0]; exact HLF.out) (by omega) (by rw [e0]; exact HLY.out.nine) HLT.out
          rw [e0] at this
          exact this
        have HLX : Hid (Dm.Lx (2 ^ k * Dm.num d nd) o nd v m n) := by
          have := Dm.lf_lx (n := n) (o := o) (by rw [e0]; exact HLF.out) (by omega)
          rw [e0] at this
          exact this
        clear hjg hr hv e0
        have HM := Lib.hid hm
        clear hm
        have hn64 : n ≤ 1152921504606846976 := Nat.le_trans hnp hk2
        have hvm : v ≤ m := by have := HM.out; omega
        go_wp2_with fail
        go_loopg [6, 7] v (fun g s6 s7 wx => ∃ (z n : Nat) (o : Nat → Nat), z = g ∧ z ≤ v ∧ s6 = .int .i64 z ∧ s7 = .int .u64 n ∧ n ≤ 1152921504606846976 ∧ Hid (n < 10 ^ z) ∧ Hid (Lay B d nd dp ng 0 z m o w wx) ∧ Hid (Dm.Lx (2 ^ k * Dm.num d nd) o nd z m n))
        case atStart => exact ⟨v, n, o, rfl, Nat.le_refl _, rfl, rfl, hn64, HCA, HLY, HLX⟩
        case round =>
          clear HCA HLY HLX
          obtain ⟨z, n, o, hzg, hz, rfl, rfl, hn64, HCA, HLY, HLX⟩ := hrel
          by_cases hn00 : n = 0
          · subst hn00
            have hz0 : z = 0 := left_all HLX.out HGE.out HLY.out.nine (by omega)
            subst hz0
            obtain ⟨g, tr', g1, g2, g3, g4, g5⟩ := HLY.out
            have G1 := Lib.hid g1
            have G5 := Lib.hid g5
            have e6 : (nd : Int) + (v : Int) = (m : Int) := by rw [HM.out]; omega
            obtain ⟨n', hn'⟩ : ∃ n', min m 800 = n' := ⟨_, rfl⟩
            have HN := Lib.hid hn'
            have HTR := Lib.hid (fun W (hW : Dz W B g n' (dp + v) ng tr') => trim_any B g n' (dp + v) ng tr' W hW (by omega))
            have HEND := Lib.hid (fun W W' (e : Ending) (hW : Moved B w W) (h : TrimP B g n' (dp + v) ng tr' W e W') => left_end (o := o) hn0 hn h1 hde2 (by rw [← HM.out]; exact hn') (by rw [← HM.out]; exact HLX.out) (by rw [← HM.out]; exact HGE.out) (by rw [← HM.out]; exact fun i hi => g4 i (Nat.zero_le _) hi) (by rw [← HM.out]; exact fun i hi h8 => g3 i (Nat.zero_le _) hi h8) hW h)
            have f1 := g1.frozen 800
            have f2 := g1.frozen 801
            have c1 := g1.nd_
            have c2 := g1.dp_
            clear g1 g2 g3 g4 g5 HCA HLY HLX hn' hzg
            by_cases hm8 : m < 800
            · have hm9 : (m : Int) < 800 := by omega
              have en : n' = m := by have := HN.out; omega
              subst en
              go_wp2_with fail
              refine (HTR.out _ ((G1.out.setN n' _ rfl).setP _)).mono ?_
              rintro e w9 ⟨rfl, ht⟩
              have HT9 := Lib.hid (HEND.out _ _ _ ((G5.out.trans (Moved.set _ _ _ _)).trans (Moved.set _ _ _ _)) ⟨rfl, ht⟩)
              clear ht
              go_wp2_with fail
              go_end0
              exact HT9.out
            · have hm9 : (800 : Int) ≤ (m : Int) := by omega
              have en : n' = 800 := by have := HN.out; omega
              subst en
              go_wp2_with fail
              refine (HTR.out _ (((G1.out.setN m _ rfl).setN 800 800 rfl).setP _)).mono ?_
              rintro e w9 ⟨rfl, ht⟩
              have HT9 := Lib.hid (HEND.out _ _ _ (((G5.out.trans (Moved.set _ _ _ _)).trans (Moved.set _ _ _ _)).trans (Moved.set _ _ _ _)) ⟨rfl, ht⟩)
              clear ht
              go_wp2_with fail
              go_end0
              exact HT9.out
          · have hn1 : (0 : Int) < (n : Int) := by omega
            obtain ⟨u, rfl⟩ : ∃ u, z = u + 1 := ⟨z - 1, by
              rcases Nat.eq_zero_or_pos z with h0 | h0
              · have := HCA.out; rw [h0] at this; omega
              · omega⟩
            have hug : u < gk := by omega
            have hum : u + 1 ≤ m := by omega
            clear hzg
            have HST := Lib.hid (Dm.out_step HLX.out hum)
            obtain ⟨a, ha⟩ : ∃ a, n / 10 = a := ⟨_, rfl⟩
            obtain ⟨b, hb⟩ : ∃ b, n % 10 = b := ⟨_, rfl⟩
            rw [ha, hb] at HST
            have HC2 : Hid (a < 10 ^ u) := by
              have := HCA.out
              rw [Nat.pow_succ] at this
              show a < 10 ^ u
              omega
            have e4 : (n : Int) / 10 = (a : Int) := by omega
            have e5 : (n : Int) - 10 * (a : Int) = (b : Int) := by omega
            have hb9 : b ≤ 9 := by omega
            have ha9 : a ≤ 1152921504606846976 := by omega
            have ev : ((u + 1 : Nat) : Int) - 1 = (u : Int) := by omega
            clear ha hb hn00
            by_cases h8 : u < 800
            · have HL2 := Lib.hid (HLY.out.put 0 b (by omega) (by omega) h8 hb9 ((b : Int) + 48) rfl)
              have fu := HLY.out.frozen u
              obtain ⟨xx, cu⟩ := HLY.out.any_ u h8
              have hu8 : (u : Int) < 800 := by omega
              go_wp2_with fail
              go_roundg u
              case measure => omega
              case rel => exact ⟨u, a, Dm.put o u b, rfl, by omega, by go_num, by go_num, ha9, HC2, HL2, HST⟩
            · omega
      · obtain ⟨q, rfl⟩ : ∃ q, j = q + 1 := ⟨j - 1, by omega⟩
        obtain rfl : r = (q : Int) := by omega
        obtain ⟨u, rfl⟩ : ∃ u, v = u + 1 := ⟨v - 1, by omega⟩
        have hu := Lib.hid (show u = q + delta by omega)
        have hmq : q < gk := by omega
        have hum : u + 1 ≤ m := by omega
        clear hjg hr hv
        have cq := HLY.out.read q (by omega) (by omega)
        obtain ⟨dl, dh⟩ := HD.out q (by omega)
        obtain ⟨y, hy⟩ : ∃ y, Dm.dig d q = y := ⟨_, rfl⟩
        have hy2 : y = d q - 48 := hy.symm
        obtain ⟨x, hx⟩ : ∃ x, y * p2 = x := ⟨_, rfl⟩
        have hxb : x ≤ 9 * p2 := by rw [← hx]; exact Nat.mul_le_mul_right _ (by omega)
        have HST := Lib.hid (Dm.left_step HLF.out (by omega) hum (by have := hu.out; omega))
        rw [hy, HP2.out, hx] at HST
        have e1 : (d q : Int) - 48 = (y : Int) := by omega
        have e2 : (y : Int) * (2 : Int) ^ k = (x : Int) := by rw [hp2i, ← hx]; exact (Int.natCast_mul y p2).symm
        obtain ⟨t, ht⟩ : ∃ t, n + x = t := ⟨_, rfl⟩
        obtain ⟨a, ha⟩ : ∃ a, t / 10 = a := ⟨_, rfl⟩
        obtain ⟨b, hb⟩ : ∃ b, t % 10 = b := ⟨_, rfl⟩
        rw [ht, ha, hb] at HST
        have e3 : (n : Int) + (x : Int) = (t : Int) := by omega
        have e4 : (t : Int) / 10 = (a : Int) := by omega
        have e5 : (t : Int) - 10 * (a : Int) = (b : Int) := by omega
        have hb9 : b ≤ 9 := by omega
        have ha9 : a ≤ p2 := by omega
        have htm : t ≤ 10 * p2 := by omega
        have ev : ((u + 1 : Nat) : Int) - 1 = (u : Int) := by omega
        clear hy hy2 hx ht ha hb hp2i
        by_cases h8 : u < 800
        · have HL2 := Lib.hid (HLY.out.put q b (by omega) (by have := hu.out; omega) h8 hb9 ((b : Int) + 48) rfl)
          have fu := HLY.out.frozen u
          obtain ⟨xx, cu⟩ := HLY.out.any_ u h8
          have hu8 : (u : Int) < 800 := by omega
          go_wp2_with fail
          go_roundg q
          case measure => omega
          case rel => exact ⟨q, u, a, (q : Int) - 1, Dm.put o u b, rfl, by omega, hu.out, rfl, by go_num, by go_num, by go_num, by omega, HL2, HST⟩
        · have HL2 := Lib.hid (HLY.out.off q b (by omega) (by omega) hb9)
          have hu8 : decide ((u : Int) < 800) = false := decide_eq_false (by omega)
          obtain ⟨xx, cu⟩ := HLY.out.tr_
          have fu := HLY.out.frozen 803
          by_cases hb0 : b = 0
          · have hb1 : ((b : Int) != 0) = false := by rw [hb0]; rfl
            clear hb0
            go_wp2_with fail
            go_roundg q
            case measure => omega
            case rel => exact ⟨q, u, a, (q : Int) - 1, Dm.put o u b, rfl, by omega, hu.out, rfl, by go_num, by go_num, by go_num, by omega, HL2, HST⟩
          · have hb1 : ((b : Int) != 0) = true := by simp; omega
            have HL3 := Lib.hid (HL2.out.trunc true)
            clear hb0
            go_wp2_with fail
            go_roundg q
            case measure => omega
            case rel => exact ⟨q, u, a, (q : Int) - 1, Dm.put o u b, rfl, by omega, hu.out, rfl, by go_num, by go_num, by go_num, by omega, HL3, HST⟩
theorem left_any (B P off c k : Nat) (d : Nat → Nat) (nd : Nat) (dp : Int) (ng tr : Bool) (w : World) (hT : Cheat w P off c) (hB15 : B ≠ 15) (hBP : B ≠ P) (h : Dz w B d nd dp ng tr) (hd : Dm.Dg d nd) (h49 : 49 ≤ d 0) (hn0 : 0 < nd) (hn : nd ≤ 800)
    (hp : -10000000 ≤ dp) (hp2 : dp ≤ 10000000) (h1 : 1 ≤ k) (h2 : k ≤ 60) : Calls Tryz.prog 127 #[.pointer (some ⟨B, 0, none⟩), .int .u64 (k : Int)] w (ShP B d nd dp ng w) := by
  have hc := cheat_is k h1 h2
  have a1 := hc.new
  have a2 := hc.few
  by_cases hlt : Dm.pz d nd (cheatL k) < 5 ^ k
  · have := Dm.left_less hd h49 hn0 rfl hc.h1 hc.h2 hc.le hlt
    exact left_walk B P off c k d nd (k - cheatL k) (nd + (k - cheatL k)) dp ng tr w hT hB15 hBP h hd hn0 hn hp hp2 h1 h2 true (decide_eq_true hlt) (by rw [if_pos rfl]; omega) (fun _ => by omega) (by omega) rfl this.1 this.2
  · have := Dm.left_not hd hn0 rfl hc.h1 hc.le (Nat.not_lt.1 hlt)
    exact left_walk B P off c k d nd (k - cheatL k + 1) (nd + (k - cheatL k + 1)) dp ng tr w hT hB15 hBP h hd hn0 hn hp hp2 h1 h2 false (decide_eq_false hlt) (by rw [if_neg (by decide)]; omega) (fun h => by cases h) (by omega) rfl this.1 this.2
end Go.Proofs.YtaggmakaceafgaaGreatDoor

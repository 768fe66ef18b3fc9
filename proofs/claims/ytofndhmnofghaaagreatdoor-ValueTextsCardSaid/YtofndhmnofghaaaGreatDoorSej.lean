/- A decimal, shifted to the left: the relation LeftR. Conditions: it is right, the table lies in memory. -/
import Derived.Test.YtofndhmnofghaaaGreatDoorScj
import Derived.Laws.BitsAllLaws
import Derived.Deep.CutBlock
namespace Go.Proofs.YtofndhmnofghaaaGreatDoor.Sl
open Go.RowKit
set_option linter.unusedVariables false

def ShP (B : Nat) (d : Nat → Nat) (nd : Nat) (dp : Int) (ng tr : Bool) (R : Dc → Dc → Prop) (w : World) (e : Ending) (w' : World) : Prop :=
  e = .returned (.tuple #[]) ∧ ∃ g nd' dp' tr', Dz w' B g nd' dp' ng tr' ∧ 49 ≤ g 0 ∧ Dm.Dg g nd' ∧ 0 < nd' ∧ nd' ≤ 800 ∧ dp ≤ dp' ∧ dp' ≤ dp + 20 ∧ (-400 ≤ dp → 3 * Dm.U d nd dp ≤ 2 * Dm.U g nd' dp') ∧ Moved B w w' ∧ R ⟨d, nd, dp, tr⟩ ⟨g, nd', dp', tr'⟩
/-- on the way: the digits from w on are laid -/
def Lay (B : Nat) (d : Nat → Nat) (nd : Nat) (dp : Int) (ng : Bool) (j v m : Nat) (o g : Nat → Nat) (tr : Bool) (w0 w : World) : Prop :=
  Dz w B g nd dp ng tr ∧ (∀ i, i < j → g i = d i) ∧ (∀ i, v ≤ i → i < m → i < 800 → g i = o i + 48) ∧ (∀ i, v ≤ i → i < m → o i ≤ 9) ∧ Moved B w0 w
section
variable {B nd : Nat} {d : Nat → Nat} {dp : Int} {ng : Bool} {j v m : Nat} {o g : Nat → Nat} {tr : Bool} {w0 w : World}
theorem Lay.put (h : Lay B d nd dp ng j (v + 1) m o g tr w0 w) (j' b : Nat) (hj : j' ≤ j) (hjv : j' ≤ v) (hv : v < 800) (hb : b ≤ 9) (z : Int) (hz : z = (b : Int) + 48) :
    Lay B d nd dp ng j' v m (Dm.put o v b) (Dm.put g v (b + 48)) tr w0 (w.setCell ⟨B, v, none⟩ (.int .u8 z)) := by
  obtain ⟨h1, h2, h3, h4, h5⟩ := h
  refine ⟨h1.setD v (b + 48) z (by omega) hv, fun i hi => ?_, fun i hi hm h8 => ?_, fun i hi hm => ?_, h5.trans (Moved.set _ _ _ _)⟩
  · rw [Dm.put_other _ (by omega)]; exact h2 i (by omega)
  · by_cases e : i = v
    · subst e; rw [Dm.put_same, Dm.put_same]
    · rw [Dm.put_other _ e, Dm.put_other _ e]; exact h3 i (by omega) hm h8
  · by_cases e : i = v
    · subst e; rw [Dm.put_same]; exact hb
    · rw [Dm.put_other _ e]; exact h4 i (by omega) hm
theorem Lay.off (h : Lay B d nd dp ng j (v + 1) m o g tr w0 w) (j' b : Nat) (hj : j' ≤ j) (hv : 800 ≤ v) (hb : b ≤ 9) :
    Lay B d nd dp ng j' v m (Dm.put o v b) g tr w0 w := by
  obtain ⟨h1, h2, h3, h4, h5⟩ := h
  refine ⟨h1, fun i hi => h2 i (by omega), fun i hi hm h8 => by omega, fun i hi hm => ?_, h5⟩
  by_cases e : i = v
  · subst e; rw [Dm.put_same]; exact hb
  · rw [Dm.put_other _ e]; exact h4 i (by omega) hm
theorem Lay.trunc (h : Lay B d nd dp ng j v m o g tr w0 w) (z : Bool) : Lay B d nd dp ng j v m o g z w0 (w.setCell ⟨B, 803, none⟩ (.bool z)) := by
  obtain ⟨h1, h2, h3, h4, h5⟩ := h
  exact ⟨h1.setT z, h2, h3, h4, h5.trans (Moved.set _ _ _ _)⟩
theorem Lay.nine (h : Lay B d nd dp ng j v m o g tr w0 w) : ∀ i, v ≤ i → i < m → o i ≤ 9 := h.2.2.2.1
theorem Lay.read (h : Lay B d nd dp ng j v m o g tr w0 w) (i : Nat) (hi : i < j) (h8 : i < 800) : w.cell? ⟨B, i, none⟩ = some (.int .u8 (d i : Int)) := by
  rw [h.1.dig i h8, h.2.1 i hi]
theorem Lay.any_ (h : Lay B d nd dp ng j v m o g tr w0 w) (i : Nat) (h8 : i < 800) : ∃ x : Nat, w.cell? ⟨B, i, none⟩ = some (.int .u8 (x : Int)) := ⟨_, h.1.dig i h8⟩
theorem Lay.tr_ (h : Lay B d nd dp ng j v m o g tr w0 w) : ∃ b : Bool, w.cell? ⟨B, 803, none⟩ = some (.bool b) := ⟨_, h.1.tr_⟩
theorem Lay.frozen (h : Lay B d nd dp ng j v m o g tr w0 w) (i : Nat) : w.frozen? ⟨B, i, none⟩ = false := h.1.frozen i
end
theorem pow2_le {k : Nat} (h : k ≤ 60) : 2 ^ k ≤ 1152921504606846976 := Nat.le_trans (Nat.pow_le_pow_right (by decide) h) (by decide)
theorem left_all {D : Nat} {o : Nat → Nat} {nd z m : Nat} (h : Dm.Lx D o nd z m 0) (hg : 10 ^ m ≤ 10 * D) (ho : ∀ i, z ≤ i → i < m → o i ≤ 9) (hz : z ≤ m) : z = 0 := by
  rcases Nat.eq_zero_or_pos z with h0 | h0
  · exact h0
  · exfalso
    unfold Dm.Lx at h
    have h1 := Dm.suf_lt (o := o) (w := z) (m - z) fun i a b => ho i a (by omega)
    have h2 : 10 ^ (m - z + 1) ≤ 10 ^ m := Nat.pow_le_pow_right (by decide) (by omega)
    rw [Nat.pow_succ] at h2
    omega
theorem left_end {B nd k delta n' : Nat} {d g o : Nat → Nat} {dp : Int} {ng tr tr0 : Bool} {w W W' : World} {e : Ending} (hn0 : 0 < nd) (hn : nd ≤ 800) (hk : 1 ≤ k) (hde : delta ≤ 19) (hn' : min (nd + delta) 800 = n')
    (hx : Dm.Lx (2 ^ k * Dm.num d nd) o nd 0 (nd + delta) 0) (hg : 10 ^ (nd + delta) ≤ 10 * (2 ^ k * Dm.num d nd)) (ho : ∀ i, i < nd + delta → o i ≤ 9) (hgo : ∀ i, i < nd + delta → i < 800 → g i = o i + 48) (hW : Moved B w W) (h : TrimP B g n' (dp + delta) ng tr W e W')
    (hE : ∃ s t, Ends (left1 d k) ⟨nd, nd + delta, 0, d, tr0⟩ s ∧ Ends left2 s t ∧ t.g = g ∧ t.tr = tr) : ShP B d nd dp ng tr0 (LeftBy k delta) w e W' := by
  have hv : 2 ^ k * Dm.num d nd = Dm.suf o 0 (nd + delta) := by unfold Dm.Lx at hx; rw [hx]; simp
  have h8 := Dm.cap8_is
  have hnc : n' = min (nd + delta) Dm.cap8 := by rw [h8]; exact hn'.symm
  have hgn : ∀ i, i < n' → g i = o i + 48 := fun i hi => hgo i (by omega) (by omega)
  have hU := fun hp : -400 ≤ dp => Dm.U_left (d := d) (g := g) (nd := nd) (dp := dp) ho hv hk hg hnc hgn (by have := Dm.top_is; omega)
  obtain ⟨f1, f2⟩ := Dm.left_first (v := 2 ^ k * Dm.num d nd) ho hv (by omega) hg hnc hgn
  obtain ⟨rfl, hd, hm⟩ := h
  have hp1 := Dm.trim_pos (d := g) f1 n' (by omega)
  have hp2 := Dm.trim_le g n'
  rw [if_neg (by omega)] at hd
  refine ⟨rfl, g, _, _, _, hd, f1, fun i hi => f2 i (by omega), hp1, by omega, by omega, by omega, fun hp => ?_, hW.trans hm, ?_⟩
  rotate_left
  · obtain ⟨s, t, a, b, c1, c2⟩ := hE
    exact ⟨s, t, a, b, by unfold trimD; show _ = Dc.mk t.g (Dm.trimN t.g (min (nd + delta) 800)) (if Dm.trimN t.g (min (nd + delta) 800) = 0 then 0 else dp + delta) t.tr; rw [c1, c2, hn', if_neg (by omega)]⟩
  rw [Dm.U_trim _ _ _ (by have := Dm.top_is; omega)]
  exact hU hp
set_option maxRecDepth 100000 in
set_option maxHeartbeats 4000000 in
theorem left_walk (B P off c k : Nat) (d : Nat → Nat) (nd delta m : Nat) (dp : Int) (ng tr : Bool) (w : World) (hT : Cheat w P off c) (hB15 : B ≠ 10) (hBP : B ≠ P) (h : Dz w B d nd dp ng tr) (hd : Dm.Dg d nd) (hn0 : 0 < nd) (hn : nd ≤ 800)
    (hp : -10000000 ≤ dp) (hp2 : dp ≤ 10000000) (h1 : 1 ≤ k) (h2 : k ≤ 60) (r : Bool) (hr : decide (Dm.pz d nd (cheatL k) < 5 ^ k) = r) (hde : delta = (if r = true then (cheatRow k).1 - 1 else (cheatRow k).1)) (hr1 : r = true → 1 ≤ (cheatRow k).1) (hde2 : delta ≤ 19) (hm : m = nd + delta)
    (hlt : 2 ^ k * Dm.num d nd < 10 ^ m) (hge : 10 ^ m ≤ 10 * (2 ^ k * Dm.num d nd)) : Calls Tryz.prog 89 #[.pointer (some ⟨B, 0, none⟩), .int .u64 (k : Int)] w (ShP B d nd dp ng tr (LeftBy k delta) w) := by
  have H := Lib.hid h
  have HD := Lib.hid hd
  have HPC := Lib.hid (fun n => (pre_call B d nd dp ng tr k (w.drewN n) h hn hd h1 h2 r hr))
  have HLT := Lib.hid hlt
  have HGE := Lib.hid hge
  have ct0 := hT.1
  obtain ⟨ct1, ct2⟩ := hT.2 k (by omega)
  have c800 := h.nd_
  obtain ⟨q, hq⟩ : ∃ q, (cheatRow k).1 = q := ⟨_, rfl⟩
  rw [hq] at ct1 hde hr1
  clear hT h hd hr hlt hge hq
  have b15 : (10 == B) = false := by simp; omega
  have bP : (P == B) = false := by simp; omega
  go_enter Tryz.func89, Tryz.ntmps89
  have s1 : (0 : Int) ≤ (nd : Int) := by omega
  have s2 : (nd : Int) ≤ 800 := by omega
  have s3 : ((nd : Int)).toNat = nd := by omega
  go_upto_region 1 with fail
  go_quiet ((go_at_call 112; exact Calls.quiet_of (HPC.out _)))
  go_upto_if 30 with fail
  go_cut [4] (fun s4 wx => s4 = .int .i64 (delta : Int) ∧ ∃ n, wx = w.drewN n)
  case first =>
    cases r with
    | true =>
      have hq1 := hr1 rfl
      have hdd : (q : Int) - 1 = (delta : Int) := by rw [if_pos rfl] at hde; omega
      clear hde hr1
      go_wp2_with fail
      go_meet
      exact ⟨by go_num, _, rfl⟩
    | false =>
      have hdd : q = delta := by rw [if_neg (by decide)] at hde; exact hde.symm
      subst hdd
      clear hde hr1
      go_wp2_with fail
      go_meet
      exact ⟨rfl, _, rfl⟩
  case rest =>
    obtain ⟨rfl, n0, rfl⟩ := hcut
    clear hde hr1 ct0 ct1 ct2 HPC
    have HL0 : Hid (Lay B d nd dp ng nd m m (fun _ => 0) d tr w (w.drewN n0)) := ⟨H.out.drewN _, fun i _ => rfl, fun i h1 h2 => by omega, fun i h1 h2 => by omega, (Moved.refl _ _).drewN _⟩
    have HF0 : Hid (Dm.Lf d (fun _ => 0) nd k nd m m 0) := by
      show Dm.Lf d (fun _ => 0) nd k nd m m 0
      unfold Dm.Lf
      simp [Dm.suf]
    have hk2 := pow2_le h2
    obtain ⟨p2, hp2'⟩ : ∃ p2, 2 ^ k = p2 := ⟨_, rfl⟩
    have HP2 := Lib.hid hp2'
    rw [hp2'] at hk2
    have hp2i : ((2 : Int) ^ k) = (p2 : Int) := by rw [← hp2']; exact (Int.natCast_pow 2 k).symm
    clear hp2' c800
    have c800 : (w.drewN n0).cell? ⟨B, 800, none⟩ = some (.int .i64 (nd : Int)) := (H.out.drewN n0).nd_
    obtain ⟨w1, hw1⟩ : ∃ w1, w.drewN n0 = w1 := ⟨_, rfl⟩
    rw [hw1] at HL0 c800
    rw [hw1]
    clear hw1 s3
    go_wp2_with fail
    go_loopg [5, 6, 7] nd (fun g s5 s6 s7 wx => ∃ (j v n : Nat) (r : Int) (o g' : Nat → Nat) (tr' : Bool), j = g ∧ j ≤ nd ∧ v = j + delta ∧ r = (j : Int) - 1 ∧ s5 = .int .i64 r ∧ s6 = .int .i64 v ∧ s7 = .int .u64 n ∧ n ≤ p2 ∧ Hid (Lay B d nd dp ng j v m o g' tr' w wx) ∧ Hid (Dm.Lf d o nd k j v m n) ∧ Hid (Rch (left1 d k) ⟨nd, m, 0, d, tr⟩ ⟨j, v, n, g', tr'⟩))
    case atStart => exact ⟨nd, m, 0, _, _, d, tr, rfl, Nat.le_refl _, hm, rfl, by go_num, by rw [hm]; go_num, rfl, by omega, HL0, HF0, Rch.refl⟩
    case round =>
      obtain ⟨j, v, n, r, o, g', tr', hjg, hj, hv, hr, rfl, rfl, rfl, hnp, HLY, HLF, HR⟩ := hrel
      by_cases hj0 : j = 0
      · subst hj0
        obtain rfl : r = -1 := by omega
        have e0 : m - nd = delta := by omega
        have ev : v = delta := by omega
        subst ev
        have HCA : Hid (n < 10 ^ v) := by
          have := Dm.carry_is (n := n) (by rw [e0]; exact HLF.out) (by omega) (by rw [e0]; exact HLY.out.nine) HLT.out
          rw [e0] at this
          exact this
        have HLX : Hid (Dm.Lx (2 ^ k * Dm.num d nd) o nd v m n) := by
          have := Dm.lf_lx (n := n) (o := o) (by rw [e0]; exact HLF.out) (by omega)
          rw [e0] at this
          exact this
        clear hjg hr hv e0
        obtain ⟨S1, hS1⟩ : ∃ S1 : LSt, (⟨0, v, n, g', tr'⟩ : LSt) = S1 := ⟨_, rfl⟩
        have HS1 : Hid (Ends (left1 d k) ⟨nd, m, 0, d, tr⟩ S1) := by
          show Ends _ _ _
          rw [← hS1]; exact left1_end HR.out
        have HR0 : Hid (Rch left2 S1 ⟨0, v, n, g', tr'⟩) := by
          show Rch _ _ _
          rw [hS1]; exact Rch.refl
        clear hS1 HR
        have HM := Lib.hid hm
        clear hm
        have hn64 : n ≤ 1152921504606846976 := Nat.le_trans hnp hk2
        have hvm : v ≤ m := by have := HM.out; omega
        go_wp2_with fail
        go_loopg [6, 7] v (fun g s6 s7 wx => ∃ (z n : Nat) (o g' : Nat → Nat) (tr' : Bool), z = g ∧ z ≤ v ∧ s6 = .int .i64 z ∧ s7 = .int .u64 n ∧ n ≤ 1152921504606846976 ∧ Hid (n < 10 ^ z) ∧ Hid (Lay B d nd dp ng 0 z m o g' tr' w wx) ∧ Hid (Dm.Lx (2 ^ k * Dm.num d nd) o nd z m n) ∧ Hid (Rch left2 S1 ⟨0, z, n, g', tr'⟩))
        case atStart => exact ⟨v, n, o, g', tr', rfl, Nat.le_refl _, rfl, rfl, hn64, HCA, HLY, HLX, HR0⟩
        case round =>
          clear HCA HLY HLX HR0
          obtain ⟨z, n, o, g', tr', hzg, hz, rfl, rfl, hn64, HCA, HLY, HLX, HR⟩ := hrel
          by_cases hn00 : n = 0
          · subst hn00
            have hz0 : z = 0 := left_all HLX.out HGE.out HLY.out.nine (by omega)
            subst hz0
            obtain ⟨g1, g2, g3, g4, g5⟩ := HLY.out
            have G1 := Lib.hid g1
            have G5 := Lib.hid g5
            have e6 : (nd : Int) + (v : Int) = (m : Int) := by rw [HM.out]; omega
            obtain ⟨n', hn'⟩ : ∃ n', min m 800 = n' := ⟨_, rfl⟩
            have HN := Lib.hid hn'
            have HTR := Lib.hid (fun W (hW : Dz W B g' n' (dp + v) ng tr') => trim_any B g' n' (dp + v) ng tr' W hW (by omega))
            have HEND := Lib.hid (fun W W' (e : Ending) (hW : Moved B w W) (h : TrimP B g' n' (dp + v) ng tr' W e W') => left_end (o := o) hn0 hn h1 hde2 (by rw [← HM.out]; exact hn') (by rw [← HM.out]; exact HLX.out) (by rw [← HM.out]; exact HGE.out) (by rw [← HM.out]; exact fun i hi => g4 i (Nat.zero_le _) hi) (by rw [← HM.out]; exact fun i hi h8 => g3 i (Nat.zero_le _) hi h8) hW h ⟨S1, ⟨0, 0, 0, g', tr'⟩, by rw [← HM.out]; exact HS1.out, left2_end HR.out, rfl, rfl⟩)
            have f1 := g1.frozen 800
            have f2 := g1.frozen 801
            have c1 := g1.nd_
            have c2 := g1.dp_
            clear g1 g2 g3 g4 g5 HCA HLY HLX hn' hzg
            by_cases hm8 : m < 800
            · have hm9 : (m : Int) < 800 := by omega
              have en : n' = m := by have := HN.out; omega
              subst en
              go_wp2_with fail
              refine (HTR.out _ ((G1.out.setN n' _ rfl).setP _)).mono ?_
              rintro e w9 ⟨rfl, ht⟩
              have HT9 := Lib.hid (HEND.out _ _ _ ((G5.out.trans (Moved.set _ _ _ _)).trans (Moved.set _ _ _ _)) ⟨rfl, ht⟩)
              clear ht
              go_wp2_with fail
              go_end0
              exact HT9.out
            · have hm9 : (800 : Int) ≤ (m : Int) := by omega
              have en : n' = 800 := by have := HN.out; omega
              subst en
              go_wp2_with fail
              refine (HTR.out _ (((G1.out.setN m _ rfl).setN 800 800 rfl).setP _)).mono ?_
              rintro e w9 ⟨rfl, ht⟩
              have HT9 := Lib.hid (HEND.out _ _ _ (((G5.out.trans (Moved.set _ _ _ _)).trans (Moved.set _ _ _ _)).trans (Moved.set _ _ _ _)) ⟨rfl, ht⟩)
              clear ht
              go_wp2_with fail
              go_end0
              exact HT9.out
          · have hn1 : (0 : Int) < (n : Int) := by omega
            obtain ⟨u, rfl⟩ : ∃ u, z = u + 1 := ⟨z - 1, by
              rcases Nat.eq_zero_or_pos z with h0 | h0
              · have := HCA.out; rw [h0] at this; omega
              · omega⟩
            have hug : u < gk := by omega
            have hum : u + 1 ≤ m := by omega
            clear hzg
            have HST := Lib.hid (Dm.out_step HLX.out hum)
            obtain ⟨a, ha⟩ : ∃ a, n / 10 = a := ⟨_, rfl⟩
            obtain ⟨b, hb⟩ : ∃ b, n % 10 = b := ⟨_, rfl⟩
            have HRP := Lib.hid (fun h8 : u < 800 => left2_put HR.out (by omega) h8)
            rw [ha, hb] at HST HRP
            have HC2 : Hid (a < 10 ^ u) := by
              have := HCA.out
              rw [Nat.pow_succ] at this
              show a < 10 ^ u
              omega
            have e4 : (n : Int) / 10 = (a : Int) := by omega
            have e5 : (n : Int) - 10 * (a : Int) = (b : Int) := by omega
            have hb9 : b ≤ 9 := by omega
            have ha9 : a ≤ 1152921504606846976 := by omega
            have ev : ((u + 1 : Nat) : Int) - 1 = (u : Int) := by omega
            clear ha hb hn00
            by_cases h8 : u < 800
            · have HL2 := Lib.hid (HLY.out.put 0 b (by omega) (by omega) h8 hb9 ((b : Int) + 48) rfl)
              have fu := HLY.out.frozen u
              obtain ⟨xx, cu⟩ := HLY.out.any_ u h8
              have hu8 : (u : Int) < 800 := by omega
              go_wp2_with fail
              go_roundg u
              case measure => omega
              case rel => exact ⟨u, a, Dm.put o u b, _, _, rfl, by omega, by go_num, by go_num, ha9, HC2, HL2, HST, HRP.out h8⟩
            · omega
      · obtain ⟨q, rfl⟩ : ∃ q, j = q + 1 := ⟨j - 1, by omega⟩
        obtain rfl : r = (q : Int) := by omega
        obtain ⟨u, rfl⟩ : ∃ u, v = u + 1 := ⟨v - 1, by omega⟩
        have hu := Lib.hid (show u = q + delta by omega)
        have hmq : q < gk := by omega
        have hum : u + 1 ≤ m := by omega
        clear hjg hr hv
        have cq := HLY.out.read q (by omega) (by omega)
        obtain ⟨dl, dh⟩ := HD.out q (by omega)
        obtain ⟨y, hy⟩ : ∃ y, Dm.dig d q = y := ⟨_, rfl⟩
        have hy2 : y = d q - 48 := hy.symm
        obtain ⟨x, hx⟩ : ∃ x, y * p2 = x := ⟨_, rfl⟩
        have hxb : x ≤ 9 * p2 := by rw [← hx]; exact Nat.mul_le_mul_right _ (by omega)
        have HST := Lib.hid (Dm.left_step HLF.out (by omega) hum (by have := hu.out; omega))
        have HRP := Lib.hid (fun h8 : u < 800 => left1_put HR.out h8)
        have HRO := Lib.hid (fun h8 : ¬ u < 800 => left1_off HR.out h8)
        rw [hy, HP2.out, hx] at HST HRP HRO
        have e1 : (d q : Int) - 48 = (y : Int) := by omega
        have e2 : (y : Int) * (2 : Int) ^ k = (x : Int) := by rw [hp2i, ← hx]; exact (Int.natCast_mul y p2).symm
        obtain ⟨t, ht⟩ : ∃ t, n + x = t := ⟨_, rfl⟩
        obtain ⟨a, ha⟩ : ∃ a, t / 10 = a := ⟨_, rfl⟩
        obtain ⟨b, hb⟩ : ∃ b, t % 10 = b := ⟨_, rfl⟩
        rw [ht, ha, hb] at HST HRP HRO
        have e3 : (n : Int) + (x : Int) = (t : Int) := by omega
        have e4 : (t : Int) / 10 = (a : Int) := by omega
        have e5 : (t : Int) - 10 * (a : Int) = (b : Int) := by omega
        have hb9 : b ≤ 9 := by omega
        have ha9 : a ≤ p2 := by omega
        have htm : t ≤ 10 * p2 := by omega
        have ev : ((u + 1 : Nat) : Int) - 1 = (u : Int) := by omega
        clear hy hy2 hx ht ha hb hp2i
        by_cases h8 : u < 800
        · have HL2 := Lib.hid (HLY.out.put q b (by omega) (by have := hu.out; omega) h8 hb9 ((b : Int) + 48) rfl)
          have fu := HLY.out.frozen u
          obtain ⟨xx, cu⟩ := HLY.out.any_ u h8
          have hu8 : (u : Int) < 800 := by omega
          go_wp2_with fail
          go_roundg q
          case measure => omega
          case rel => exact ⟨q, u, a, (q : Int) - 1, Dm.put o u b, _, _, rfl, by omega, hu.out, rfl, by go_num, by go_num, by go_num, by omega, HL2, HST, HRP.out h8⟩
        · have HL2 := Lib.hid (HLY.out.off q b (by omega) (by omega) hb9)
          have hu8 : decide ((u : Int) < 800) = false := decide_eq_false (by omega)
          obtain ⟨xx, cu⟩ := HLY.out.tr_
          have fu := HLY.out.frozen 803
          by_cases hb0 : b = 0
          · have hb1 : ((b : Int) != 0) = false := by rw [hb0]; rfl
            have HRX := HRO.out h8
            rw [if_pos hb0] at HRX
            have HRX := Lib.hid HRX
            clear hb0
            go_wp2_with fail
            go_roundg q
            case measure => omega
            case rel => exact ⟨q, u, a, (q : Int) - 1, Dm.put o u b, _, _, rfl, by omega, hu.out, rfl, by go_num, by go_num, by go_num, by omega, HL2, HST, HRX⟩
          · have hb1 : ((b : Int) != 0) = true := by simp; omega
            have HRX := HRO.out h8
            rw [if_neg hb0] at HRX
            have HRX := Lib.hid HRX
            have HL3 := Lib.hid (HL2.out.trunc true)
            clear hb0
            go_wp2_with fail
            go_roundg q
            case measure => omega
            case rel => exact ⟨q, u, a, (q : Int) - 1, Dm.put o u b, _, _, rfl, by omega, hu.out, rfl, by go_num, by go_num, by go_num, by omega, HL3, HST, HRX⟩
theorem left_any (B P off c k : Nat) (d : Nat → Nat) (nd : Nat) (dp : Int) (ng tr : Bool) (w : World) (hT : Cheat w P off c) (hB15 : B ≠ 10) (hBP : B ≠ P) (h : Dz w B d nd dp ng tr) (hd : Dm.Dg d nd) (h49 : 49 ≤ d 0) (hn0 : 0 < nd) (hn : nd ≤ 800)
    (hp : -10000000 ≤ dp) (hp2 : dp ≤ 10000000) (h1 : 1 ≤ k) (h2 : k ≤ 60) : Calls Tryz.prog 89 #[.pointer (some ⟨B, 0, none⟩), .int .u64 (k : Int)] w (ShP B d nd dp ng tr (LeftR k) w) := by
  have hc := cheat_is k h1 h2
  have a1 := hc.new
  have a2 := hc.few
  by_cases hlt : Dm.pz d nd (cheatL k) < 5 ^ k
  · have := Dm.left_less hd h49 hn0 rfl hc.h1 hc.h2 hc.le hlt
    refine (left_walk B P off c k d nd (k - cheatL k) (nd + (k - cheatL k)) dp ng tr w hT hB15 hBP h hd hn0 hn hp hp2 h1 h2 true (decide_eq_true hlt) (by rw [if_pos rfl]; omega) (fun _ => by omega) (by omega) rfl this.1 this.2).mono ?_
    rintro e w' ⟨rfl, g, nd', dp', tr', b1, b2, b3, b4, b5, b6, b7, b8, b9, b10⟩
    refine ⟨rfl, g, nd', dp', tr', b1, b2, b3, b4, b5, b6, b7, b8, b9, ?_⟩
    show LeftBy k (dltN d nd k) _ _
    rw [show dltN d nd k = k - cheatL k by unfold dltN; rw [if_pos hlt]; omega]; exact b10
  · have := Dm.left_not hd hn0 rfl hc.h1 hc.le (Nat.not_lt.1 hlt)
    refine (left_walk B P off c k d nd (k - cheatL k + 1) (nd + (k - cheatL k + 1)) dp ng tr w hT hB15 hBP h hd hn0 hn hp hp2 h1 h2 false (decide_eq_false hlt) (by rw [if_neg (by decide)]; omega) (fun h => by cases h) (by omega) rfl this.1 this.2).mono ?_
    rintro e w' ⟨rfl, g, nd', dp', tr', b1, b2, b3, b4, b5, b6, b7, b8, b9, b10⟩
    refine ⟨rfl, g, nd', dp', tr', b1, b2, b3, b4, b5, b6, b7, b8, b9, ?_⟩
    show LeftBy k (dltN d nd k) _ _
    rw [show dltN d nd k = k - cheatL k + 1 by unfold dltN; rw [if_neg hlt]; omega]; exact b10
end Go.Proofs.YtofndhmnofghaaaGreatDoor.Sl

namespace Go.Proofs.YtofndhmnofghaaaGreatDoor.Sl
open Go.RowKit
set_option linter.unusedVariables false

/-! a shift to the right -/
def ShR (B : Nat) (d : Nat → Nat) (nd : Nat) (dp : Int) (ng tr : Bool) (k : Nat) (w : World) (e : Ending) (w' : World) : Prop :=
  e = .returned (.tuple #[]) ∧ ∃ g nd' dp' tr', Dz w' B g nd' dp' ng tr' ∧ 49 ≤ g 0 ∧ Dm.Dg g nd' ∧ 0 < nd' ∧ nd' ≤ 800 ∧ dp - 20 ≤ dp' ∧ dp' ≤ dp ∧ (-370 ≤ dp → 2 ^ k * Dm.U g nd' dp' ≤ Dm.U d nd dp) ∧ Moved B w w' ∧ RightR k ⟨d, nd, dp, tr⟩ ⟨g, nd', dp', tr'⟩
/-- on the way: the digits up to q are laid -/
def RL (B : Nat) (d : Nat → Nat) (nd : Nat) (dp : Int) (ng : Bool) (q : Nat) (g : Nat → Nat) (tr : Bool) (w0 w : World) : Prop :=
  Dz w B g nd dp ng tr ∧ (∀ i, q ≤ i → g i = d i) ∧ Dm.Dg g q ∧ (0 < q → 49 ≤ g 0) ∧ Moved B w0 w
section
variable {B nd q : Nat} {d g : Nat → Nat} {dp : Int} {ng tr : Bool} {w0 w : World}
theorem RL.nd_ (h : RL B d nd dp ng q g tr w0 w) : w.cell? ⟨B, 800, none⟩ = some (.int .i64 (nd : Int)) := h.1.nd_
theorem RL.frozen (h : RL B d nd dp ng q g tr w0 w) (i : Nat) : w.frozen? ⟨B, i, none⟩ = false := h.1.frozen i
theorem RL.any_ (h : RL B d nd dp ng q g tr w0 w) (i : Nat) (hi : i < 800) : ∃ x : Nat, w.cell? ⟨B, i, none⟩ = some (.int .u8 (x : Int)) := ⟨_, h.1.dig i hi⟩
theorem RL.tr_ (h : RL B d nd dp ng q g tr w0 w) : ∃ b : Bool, w.cell? ⟨B, 803, none⟩ = some (.bool b) := ⟨_, h.1.tr_⟩
theorem RL.read (h : RL B d nd dp ng q g tr w0 w) (i : Nat) (hi : q ≤ i) (h8 : i < 800) : w.cell? ⟨B, i, none⟩ = some (.int .u8 (d i : Int)) := by rw [h.1.dig i h8, h.2.1 i hi]
theorem RL.put (h : RL B d nd dp ng q g tr w0 w) (b : Nat) (hb : b ≤ 9) (h1 : q = 0 → 1 ≤ b) (hq : q < 800) (z : Int) (hz : z = (b : Int) + 48) : RL B d nd dp ng (q + 1) (Dm.put g q (b + 48)) tr w0 (w.setCell ⟨B, q, none⟩ (.int .u8 z)) := by
  obtain ⟨a1, a2, a3, a4, a5⟩ := h
  refine ⟨a1.setD q (b + 48) z (by omega) hq, fun i hi => ?_, fun i hi => ?_, fun _ => ?_, a5.trans (Moved.set _ _ _ _)⟩
  · rw [Dm.put_other _ (by omega)]; exact a2 i (by omega)
  · by_cases e : i = q
    · subst e; rw [Dm.put_same]; omega
    · rw [Dm.put_other _ e]; exact a3 i (by omega)
  · by_cases e : 0 = q
    · subst e; rw [Dm.put_same]; have := h1 rfl; omega
    · rw [Dm.put_other _ e]; exact a4 (by omega)
theorem RL.trunc (h : RL B d nd dp ng q g tr w0 w) (z : Bool) : RL B d nd dp ng q g z w0 (w.setCell ⟨B, 803, none⟩ (.bool z)) := by
  obtain ⟨a1, a2, a3, a4, a5⟩ := h
  exact ⟨a1.setT z, a2, a3, a4, a5.trans (Moved.set _ _ _ _)⟩
theorem num_put (g : Nat → Nat) (q x : Nat) : Dm.num (Dm.put g q x) (q + 1) = Dm.num g q * 10 + (x - 48) := by
  have e : Dm.num (Dm.put g q x) (q + 1) = Dm.num (Dm.put g q x) q * 10 + (Dm.put g q x q - 48) := rfl
  rw [e, Dm.put_same, Dm.num_congr (e := g) q fun i hi => Dm.put_other _ (by omega)]
end
theorem mask_is {k p2 n : Nat} (h : 2 ^ k = p2) (hp : p2 ≤ 1152921504606846976) (hn : n < 18446744073709551616) : bits BinOp.and IntKind.u64 (n : Int) ((p2 : Int) - 1) = ((n % p2 : Nat) : Int) := by
  have h0 : 0 < p2 := by rw [← h]; exact Nat.pow_pos (by decide)
  have e : ((p2 : Int) - 1) = ((p2 - 1 : Nat) : Int) := by omega
  rw [e, bits_and_u64_nat n (p2 - 1) hn (by omega), ← h, Nat.and_two_pow_sub_one_eq_mod]
theorem shr_none {n p2 : Nat} (h : n < p2) : ((n : Int) / (p2 : Int) == 0) = true := by
  rw [Int.ediv_eq_zero_of_lt (by omega) (by omega)]; rfl
theorem shr_some {n p2 : Nat} (h0 : 0 < p2) (h : ¬ n < p2) : ((n : Int) / (p2 : Int) == 0) = false := by
  refine beq_eq_false_iff_ne.2 fun e => ?_
  have e2 : ((n / p2 : Nat) : Int) = 0 := e
  have := Nat.div_pos (Nat.not_lt.1 h) h0
  omega
theorem pz_ten {d : Nat → Nat} {nd r : Nat} (h49 : 49 ≤ d 0) (hn : 0 < nd) (h : Dm.pz d nd r < 11529215046068469760) : r ≤ 20 := by
  rcases Nat.lt_or_ge r 21 with h1 | h1
  · omega
  · exfalso
    obtain ⟨j, rfl⟩ : ∃ j, r = j + 1 := ⟨r - 1, by omega⟩
    have h2 := Dm.pz_ge (r := j) h49 hn
    have h3 : 10 ^ 20 ≤ 10 ^ j := Nat.pow_le_pow_right (by decide) (by omega)
    have h4 : (10 : Nat) ^ 20 = 100000000000000000000 := by decide
    omega
theorem right_end {B nd k p2 r0 q : Nat} {d g : Nat → Nat} {dp dp' : Int} {ng tr tr0 : Bool} {w W W' : World} {e : Ending} (hn0 : 0 < nd) (hn : nd ≤ 800) (hr1 : 1 ≤ r0) (hr20 : r0 ≤ 20) (hdp : dp - ((r0 : Int) - 1) = dp') (hk : 2 ^ k = p2)
    (hq1 : 0 < q) (hq8 : q ≤ 800) (h49 : 49 ≤ g 0) (hg : Dm.Dg g q) (hnr : nd ≤ r0 + q) (hle : 10 * p2 * Dm.num g q ≤ Dm.pz d nd (r0 + q)) (hW : Moved B w W) (h : TrimP B g q dp' ng tr W e W')
    (hR : RightR k ⟨d, nd, dp, tr0⟩ (trimD ⟨g, q, dp', tr⟩)) : ShR B d nd dp ng tr0 k w e W' := by
  obtain ⟨rfl, hd, hm⟩ := h
  have hp1 := Dm.trim_pos (d := g) h49 q hq1
  have hp2 := Dm.trim_le g q
  rw [if_neg (by omega)] at hd
  refine ⟨rfl, g, _, _, _, hd, h49, fun i hi => hg i (by omega), hp1, by omega, by omega, by omega, fun hp => ?_, hW.trans hm, ?_⟩
  rotate_left
  · unfold trimD at hR
    dsimp only at hR
    rw [if_neg (by omega)] at hR
    exact hR
  have ht := Dm.top_is
  rw [Dm.U_trim _ _ _ (by omega), hk]
  have := Dm.U_right hnr hr1 hle (dp := dp) (by omega) (by omega)
  rw [show dp - (r0 : Int) + 1 = dp' by omega] at this
  exact this
set_option maxRecDepth 100000 in
set_option maxHeartbeats 4000000 in
theorem right_walk (B k p2 : Nat) (d : Nat → Nat) (nd : Nat) (dp : Int) (ng tr : Bool) (w : World) (h : Dz w B d nd dp ng tr) (hd : Dm.Dg d nd) (h49 : 49 ≤ d 0) (hn0 : 0 < nd) (hn : nd ≤ 800)
    (hp : -10000000 ≤ dp) (hp2 : dp ≤ 10000000) (h1 : 1 ≤ k) (h2 : k ≤ 60) (hk : 2 ^ k = p2) : Calls Tryz.prog 90 #[.pointer (some ⟨B, 0, none⟩), .int .u64 (k : Int)] w (ShR B d nd dp ng tr k w) := by
  have H := Lib.hid h
  have HD := Lib.hid hd
  have H49 := Lib.hid h49
  have c800 := h.nd_
  have hk2 := pow2_le h2
  have hk1 : 2 ≤ p2 := by rw [← hk]; exact Nat.le_trans (by decide) (Nat.pow_le_pow_right (by decide) h1)
  have HK := Lib.hid hk
  have hp2i : ((2 : Int) ^ k) = (p2 : Int) := by rw [← hk]; exact (Int.natCast_pow 2 k).symm
  rw [hk] at hk2
  clear h hd h49 hk
  go_enter Tryz.func90, Tryz.ntmps90
  go_upto_block 0 with fail
  go_cut [4, 6] (fun s4 s6 wx => ∃ r n : Nat, s4 = .int .i64 r ∧ s6 = .int .u64 n ∧ 1 ≤ r ∧ r ≤ 20 ∧ p2 ≤ n ∧ n < 10 * p2 ∧ Hid (n = Dm.pz d nd r) ∧ w = wx)
  case first =>
    go_wp2_with fail
    go_loopg [4, 6] nd (fun g s4 s6 wx => ∃ r n : Nat, r + g = nd ∧ s4 = .int .i64 r ∧ s6 = .int .u64 n ∧ n < 10 * p2 ∧ Hid (n = Dm.num d r) ∧ w = wx)
    case atStart => exact ⟨0, 0, by omega, rfl, rfl, by omega, rfl, rfl⟩
    case round =>
      obtain ⟨r, n, hrg, rfl, rfl, hnb, HN, rfl⟩ := hrel
      by_cases hlt : n < p2
      · have t0 : ((n : Int) / (p2 : Int) == 0) = true := by
          rw [Int.ediv_eq_zero_of_lt (by omega) (by omega)]; rfl
        by_cases hrn : r < nd
        · obtain ⟨g, rfl⟩ : ∃ g, gk = g + 1 := ⟨gk - 1, by omega⟩
          have cr := H.out.dig r (by omega)
          obtain ⟨dl, dh⟩ := HD.out r hrn
          obtain ⟨m, hm⟩ : ∃ m, n * 10 + (d r - 48) = m := ⟨_, rfl⟩
          have HM : Hid (m = Dm.num d (r + 1)) := by
            show m = _
            rw [← hm, HN.out]; rfl
          have e1 : (n : Int) * 10 + (d r : Int) - 48 = (m : Int) := by omega
          have hmb : m < 10 * p2 := by omega
          clear hm
          go_wp2_with fail
          go_roundg g
          case measure => omega
          case rel => exact ⟨r + 1, m, by omega, by go_num, by go_num, hmb, HM, rfl⟩
        · obtain rfl : r = nd := by omega
          have hn1 : 1 ≤ n := by
            rw [HN.out]
            obtain ⟨j, hj⟩ : ∃ j, r = j + 1 := ⟨r - 1, by omega⟩
            rw [hj]
            have := Dm.num_ge H49.out j
            have h10 : 1 ≤ 10 ^ j := Nat.pow_pos (by decide)
            omega
          have t1 : ((n : Int) == 0) = false := beq_eq_false_iff_ne.2 (by omega)
          have HP : Hid (n = Dm.pz d r r) := by
            show n = _
            rw [HN.out, Dm.pz_in (Nat.le_refl _)]
          clear HN
          go_wp2_with fail
          go_loopg [4, 6] (10 * p2 - n) (fun g s4 s6 wx => ∃ q m : Nat, m + g = 10 * p2 ∧ s4 = .int .i64 q ∧ s6 = .int .u64 m ∧ 1 ≤ m ∧ m < 10 * p2 ∧ 1 ≤ q ∧ r ≤ q ∧ Hid (m = Dm.pz d r q) ∧ w = wx)
          case atStart => exact ⟨r, n, by omega, rfl, rfl, hn1, hnb, by omega, Nat.le_refl _, HP, rfl⟩
          case round =>
            clear HP
            obtain ⟨q, m, hmg, rfl, rfl, hm1, hmb, hq, hrq, HP, rfl⟩ := hrel
            have hq20 : q ≤ 20 := pz_ten H49.out hn0 (by rw [← HP.out]; omega)
            by_cases hlt2 : m < p2
            · have t2 : ((m : Int) / (p2 : Int) == 0) = true := by
                rw [Int.ediv_eq_zero_of_lt (by omega) (by omega)]; rfl
              have HP2 : Hid (m * 10 = Dm.pz d r (q + 1)) := by
                show m * 10 = _
                have e := Dm.pz_succ d r q
                rw [show Dm.ext d r q = 48 from if_neg (by omega), ← HP.out] at e
                omega
              go_wp2_with fail
              go_roundg (10 * p2 - m * 10)
              case measure => omega
              case rel => exact ⟨q + 1, m * 10, by omega, by go_num, by go_num, by omega, by omega, by omega, by omega, HP2, rfl⟩
            · have t2 : ((m : Int) / (p2 : Int) == 0) = false := shr_some (by omega) hlt2
              go_wp2_with fail
              go_meet
              exact ⟨q, m, rfl, rfl, hq, hq20, by omega, hmb, HP, rfl⟩
      · have t0 : ((n : Int) / (p2 : Int) == 0) = false := shr_some (by omega) hlt
        have hr1 : 1 ≤ r := by
          rcases Nat.eq_zero_or_pos r with h0 | h0
          · have := HN.out
            rw [h0] at this
            have e : Dm.num d 0 = 0 := rfl
            omega
          · exact h0
        have HP : Hid (n = Dm.pz d nd r) := by
          show n = _
          rw [HN.out, Dm.pz_in (by omega)]
        have hq20 : r ≤ 20 := pz_ten H49.out hn0 (by rw [← HP.out]; omega)
        go_wp2_with fail
        go_meet
        exact ⟨r, n, rfl, rfl, hr1, hq20, by omega, hnb, HP, rfl⟩
  case rest =>
    obtain ⟨r0, n0, rfl, rfl, hr1, hr20, hn1, hnb, HN, rfl⟩ := hcut
    have c801 := H.out.dp_
    have f801 := H.out.frozen 801
    obtain ⟨dp', hdp⟩ : ∃ dp', dp - ((r0 : Int) - 1) = dp' := ⟨_, rfl⟩
    have HDP := Lib.hid hdp
    have HPK : Hid (Pick d nd k r0 n0) := ⟨HN.out, by rw [HK.out]; exact hn1, by rw [HK.out]; exact hnb⟩
    have HL0 : Hid (RL B d nd dp' ng 0 d tr w (w.setCell ⟨B, 801, none⟩ (.int .i64 dp'))) := ⟨H.out.setP _, fun i _ => rfl, fun i hi => by omega, fun h => by omega, Moved.set _ _ _ _⟩
    have HE0 : Hid (Dm.pz d nd (r0 + 0) = 10 * p2 * Dm.num d 0 + n0) := by
      show Dm.pz d nd (r0 + 0) = _
      rw [Nat.add_zero, ← HN.out]
      have e : Dm.num d 0 = 0 := rfl
      rw [e]; omega
    have hdpb : -10000100 ≤ dp' ∧ dp' ≤ 10000100 := by omega
    clear hdp
    go_wp2_with fail
    go_loopg [4, 5, 6] (nd - 0) (fun g s4 s5 s6 wx => ∃ (rr q n : Nat) (g' : Nat → Nat) (tr' : Bool), g = nd - q ∧ Hid (rr = r0 + q) ∧ q ≤ nd ∧ s4 = .int .i64 (rr : Int) ∧ s5 = .int .i64 q ∧ s6 = .int .u64 n ∧ n < 10 * p2 ∧ (q = 0 → p2 ≤ n) ∧ Hid (Dm.pz d nd (r0 + q) = 10 * p2 * Dm.num g' q + n) ∧ Hid (RL B d nd dp' ng q g' tr' w wx) ∧ Hid (Rch (right1 d nd r0 k) ⟨0, n0, d, tr⟩ ⟨q, n, g', tr'⟩))
    case atStart => exact ⟨r0, 0, n0, d, tr, rfl, by show r0 = r0 + 0; omega, Nat.zero_le _, rfl, rfl, rfl, hnb, fun _ => hn1, HE0, by rw [HDP.out]; exact HL0, Rch.refl⟩
    case round =>
      obtain ⟨rr, q, n, g', tr', hgk, HRR, hq, rfl, rfl, rfl, hnb, hqn, HE, HL, HR⟩ := hrel
      have c800 := HL.out.nd_
      have HQN := Lib.hid hqn
      clear hqn
      by_cases hrn : rr < nd
      · have hm1 : nd - (q + 1) < gk := by have := HRR.out; omega
        have hq1 : q + 1 ≤ nd := by have := HRR.out; omega
        have HG := Lib.hid hgk
        clear hgk
        have cr := HL.out.read rr (by have := HRR.out; omega) (by omega)
        obtain ⟨dl, dh⟩ := HD.out rr hrn
        have em := mask_is HK.out hk2 (show n < 18446744073709551616 by omega)
        have HB9 := Lib.hid (Dm.dig_le (n := n) (k2 := p2) (by omega))
        have HKL := Lib.hid (Dm.keep_lt (n := n) (k2 := p2) (c := d rr - 48) (by omega) (by omega))
        have HDS := Lib.hid (Dm.down_step (p := Dm.pz d nd (r0 + q)) (N := Dm.num g' q) (n := n) (c := d rr - 48) (m := n % p2) (k2 := p2) HE.out rfl)
        have HRP : Hid (Rch (right1 d nd r0 k) ⟨0, n0, d, tr⟩ ⟨q + 1, n % p2 * 10 + (d rr - 48), Dm.put g' q (n / p2 + 48), tr'⟩) := by
          have a := right1_put HR.out (by have := HRR.out; omega)
          rw [HK.out, ← HRR.out] at a
          exact a
        have hp0 : 0 < p2 := by omega
        have HMD := Lib.hid (Nat.mod_lt n hp0)
        have e1 : (n : Int) / (p2 : Int) = ((n / p2 : Nat) : Int) := rfl
        have HB1 : Hid (q = 0 → 1 ≤ n / p2) := fun h => Nat.div_pos (HQN.out h) hp0
        obtain ⟨b, hb⟩ : ∃ b, n / p2 = b := ⟨_, rfl⟩
        obtain ⟨x, hx⟩ : ∃ x, n % p2 = x := ⟨_, rfl⟩
        rw [hb] at e1 HB9 HDS HB1 HRP
        rw [hx] at em HKL HDS HMD HRP
        obtain ⟨m, hm⟩ : ∃ m, x * 10 + (d rr - 48) = m := ⟨_, rfl⟩
        rw [hm] at HKL HDS HRP
        have e2 : (x : Int) * 10 + (d rr : Int) - 48 = (m : Int) := by omega
        have hb9 : b ≤ 9 := HB9.out
        have hxb : x < p2 := HMD.out
        have hmb : m < 10 * p2 := HKL.out
        have HE2 : Hid (Dm.pz d nd (r0 + (q + 1)) = 10 * p2 * Dm.num (Dm.put g' q (b + 48)) (q + 1) + m) := by
          show Dm.pz d nd (r0 + (q + 1)) = _
          have e := Dm.pz_succ d nd (r0 + q)
          rw [show Dm.ext d nd (r0 + q) = d rr by rw [← HRR.out]; exact if_pos hrn, HDS.out] at e
          rw [num_put, Nat.add_sub_cancel]
          exact e
        clear hb hx hm
        have hq8 : q < 800 := by omega
        have HL2 := Lib.hid (HL.out.put b hb9 HB1.out hq8 ((b : Int) + 48) rfl)
        have fq := HL.out.frozen q
        obtain ⟨xx, cq⟩ := HL.out.any_ q hq8
        go_wp2_with fail
        go_roundg (nd - (q + 1))
        case measure => omega
        case rel => exact ⟨rr + 1, q + 1, m, Dm.put g' q (b + 48), _, rfl, by show rr + 1 = r0 + (q + 1); have := HRR.out; omega, hq1, by go_num, by go_num, by go_num, hmb, fun h => by omega, HE2, HL2, HRP⟩
      · have HNR : Hid (nd ≤ r0 + q) := by have := HRR.out; show nd ≤ r0 + q; omega
        have HLE : Hid (10 * p2 * Dm.num g' q ≤ Dm.pz d nd (r0 + q)) := by show _ ≤ _; rw [HE.out]; exact Nat.le_add_right _ _
        have HE1 : Hid (q < 800 → Dm.pz d nd (r0 + q) = 10 * p2 * Dm.num g' q + n) := fun _ => HE.out
        have HME : Hid ((n = 0 → (if n = 0 then 0 else k + 1) = 0) ∧ (n ≠ 0 → (if n = 0 then 0 else k + 1) + 0 = k + 1)) := ⟨fun h => if_pos h, fun h => by rw [if_neg h]⟩
        obtain ⟨g0, hg0⟩ : ∃ g0, (if n = 0 then 0 else k + 1) = g0 := ⟨_, rfl⟩
        rw [hg0] at HME
        obtain ⟨S1, hS1⟩ : ∃ S1 : RSt, (⟨q, n, g', tr'⟩ : RSt) = S1 := ⟨_, rfl⟩
        have HS1 : Hid (Ends (right1 d nd r0 k) ⟨0, n0, d, tr⟩ S1) := by
          show Ends _ _ _
          rw [← hS1]; exact right1_end HR.out HNR.out
        have HR0 : Hid (Rch (right2 k) S1 ⟨q, n, g', tr'⟩) := by
          show Rch _ _ _
          rw [hS1]; exact Rch.refl
        clear hS1 HR
        clear hgk hg0
        have hq8 : q ≤ 800 := by omega
        go_wp2_with fail
        go_loopg [5, 6] g0 (fun g s5 s6 wx => ∃ (t q n : Nat) (g' : Nat → Nat) (tr' : Bool), t ≤ k ∧ Hid (2 ^ t ∣ n) ∧ Hid ((n = 0 → g = 0) ∧ (n ≠ 0 → g + t = k + 1)) ∧ q ≤ 800 ∧ s5 = .int .i64 q ∧ s6 = .int .u64 n ∧ n < 10 * p2 ∧ Hid (q = 0 → p2 ≤ n) ∧ Hid (q < 800 → Dm.pz d nd (r0 + q) = 10 * p2 * Dm.num g' q + n) ∧ Hid (10 * p2 * Dm.num g' q ≤ Dm.pz d nd (r0 + q)) ∧ Hid (nd ≤ r0 + q) ∧ Hid (RL B d nd dp' ng q g' tr' w wx) ∧ Hid (Rch (right2 k) S1 ⟨q, n, g', tr'⟩))
        case atStart => exact ⟨0, q, n, g', tr', Nat.zero_le _, by show 2 ^ 0 ∣ n; simp, HME, hq8, rfl, rfl, hnb, HQN, HE1, HLE, HNR, HL, HR0⟩
        case round =>
          clear HME HQN HE1 HLE HNR HL HE HRR HR0
          obtain ⟨t, q, n, g', tr', ht, HTD, HME, hq8, rfl, rfl, hnb, HQN, HE, HLE, HNR, HL, HR⟩ := hrel
          by_cases hn00 : n = 0
          · subst hn00
            have hq1 : 0 < q := by
              rcases Nat.eq_zero_or_pos q with h0 | h0
              · have := HQN.out h0; omega
              · exact h0
            obtain ⟨a1, a2, a3, a4, a5⟩ := HL.out
            have A1 := Lib.hid a1
            have f1 := a1.frozen 800
            have c1 := a1.nd_
            have HTR := Lib.hid (fun W (hW : Dz W B g' q dp' ng tr') => trim_any B g' q dp' ng tr' W hW hq8)
            have HEND := Lib.hid (fun W W' (e : Ending) (hW : Moved B w W) (h : TrimP B g' q dp' ng tr' W e W') => right_end hn0 hn hr1 hr20 HDP.out HK.out hq1 hq8 (a4 hq1) a3 HNR.out HLE.out hW h ⟨r0, n0, S1, ⟨q, 0, g', tr'⟩, HPK.out, HS1.out, right2_end HR.out, by rw [HDP.out]⟩)
            have A5 := Lib.hid a5
            clear a1 a2 a3 a4 a5 HME hq1
            go_wp2_with fail
            refine (HTR.out _ (A1.out.setN q _ rfl)).mono ?_
            rintro e w9 ⟨rfl, ht9⟩
            have HT9 := Lib.hid (HEND.out _ _ _ (A5.out.trans (Moved.set _ _ _ _)) ⟨rfl, ht9⟩)
            clear ht9
            go_wp2_with fail
            go_end0
            exact HT9.out
          · have hn1 : (0 : Int) < (n : Int) := by omega
            have HGK := Lib.hid (HME.out.2 hn00)
            have em := mask_is HK.out hk2 (show n < 18446744073709551616 by omega)
            have hp0 : 0 < p2 := by omega
            have HB9 := Lib.hid (Dm.dig_le (n := n) (k2 := p2) (by omega))
            have HMD := Lib.hid (Nat.mod_lt n hp0)
            have HRP : Hid (∀ h8 : q < 800, Rch (right2 k) S1 ⟨q + 1, n % p2 * 10, Dm.put g' q (n / p2 + 48), tr'⟩) := by
              intro h8
              have a := right2_put HR.out (by omega) h8
              rw [HK.out] at a
              exact a
            have HRO : Hid (q = 800 → Rch (right2 k) S1 ⟨q, n % p2 * 10, g', if n / p2 = 0 then tr' else true⟩) := by
              intro h8
              subst h8
              have a := right2_off HR.out (by omega)
              rw [HK.out] at a
              exact a
            have HDS := Lib.hid (fun h8 : q < 800 => Dm.down_step (p := Dm.pz d nd (r0 + q)) (N := Dm.num g' q) (n := n) (c := 0) (m := n % p2) (k2 := p2) (HE.out h8) rfl)
            have HB1 : Hid (q = 0 → 1 ≤ n / p2) := fun h => Nat.div_pos (HQN.out h) hp0
            have e1 : (n : Int) / (p2 : Int) = ((n / p2 : Nat) : Int) := rfl
            have HT2 : Hid (∃ t', t' ≤ k ∧ 2 ^ t' ∣ n % p2 * 10 ∧ (n % p2 * 10 = 0 ∨ t' = t + 1)) := by
              by_cases htk : t < k
              · exact ⟨t + 1, htk, by rw [← HK.out]; exact Dm.ends_step HTD.out ht, .inr rfl⟩
              · obtain rfl : t = k := by omega
                have e := Dm.ends_all HTD.out
                rw [HK.out] at e
                exact ⟨0, Nat.zero_le _, by rw [e]; exact Nat.dvd_zero _, .inl e⟩
            obtain ⟨b, hb⟩ : ∃ b, n / p2 = b := ⟨_, rfl⟩
            obtain ⟨x, hx⟩ : ∃ x, n % p2 = x := ⟨_, rfl⟩
            rw [hb] at e1 HB9 HDS HB1 HRP HRO
            rw [hx] at em HDS HMD HT2 HRP HRO
            have hb9 : b ≤ 9 := HB9.out
            have hxb : x < p2 := HMD.out
            obtain ⟨g2, hg2⟩ : ∃ g2, (if x * 10 = 0 then 0 else gk - 1) = g2 := ⟨_, rfl⟩
            have HG2 := Lib.hid hg2
            have hg1 : 1 ≤ gk := by have := HGK.out; omega
            have hgl : g2 < gk := by rw [← hg2]; split <;> omega
            have HM2 : Hid (∃ t', t' ≤ k ∧ 2 ^ t' ∣ x * 10 ∧ (x * 10 = 0 → g2 = 0) ∧ (x * 10 ≠ 0 → g2 + t' = k + 1)) := by
              obtain ⟨t', a1, a2, a3⟩ := HT2.out
              refine ⟨t', a1, a2, fun h => by rw [← hg2, if_pos h], fun h => ?_⟩
              rw [← hg2, if_neg h]
              rcases a3 with a3 | a3
              · exact absurd a3 h
              · have := HGK.out; omega
            clear hb hx hg2 hn00
            by_cases h8 : q < 800
            · have HL2 := Lib.hid (HL.out.put b hb9 HB1.out h8 ((b : Int) + 48) rfl)
              have fq := HL.out.frozen q
              obtain ⟨xx, cq⟩ := HL.out.any_ q h8
              have HE2 : Hid (Dm.pz d nd (r0 + (q + 1)) = 10 * p2 * Dm.num (Dm.put g' q (b + 48)) (q + 1) + x * 10) := by
                show Dm.pz d nd (r0 + (q + 1)) = _
                have e := Dm.pz_succ d nd (r0 + q)
                have e5 := HDS.out h8
                rw [show Dm.ext d nd (r0 + q) = 48 from if_neg (by have := HNR.out; omega)] at e
                rw [num_put, Nat.add_sub_cancel]
                have e6 : Dm.pz d nd (r0 + (q + 1)) = Dm.pz d nd (r0 + q + 1) := rfl
                omega
              have h8i : (q : Int) < 800 := by omega
              go_wp2_with fail
              go_roundg g2
              case measure => exact hgl
              case rel =>
                obtain ⟨t', a1, a2, a3, a4⟩ := HM2.out
                exact ⟨t', q + 1, x * 10, Dm.put g' q (b + 48), _, a1, a2, ⟨a3, a4⟩, by omega, by go_num, by go_num, by omega, fun h => by omega, fun _ => HE2.out, by show _ ≤ _; rw [HE2.out]; exact Nat.le_add_right _ _, by show _ ≤ _; have := HNR.out; omega, HL2, HRP.out h8⟩
            · obtain rfl : q = 800 := by omega
              obtain ⟨xx, cu⟩ := HL.out.tr_
              have fu := HL.out.frozen 803
              have HRX := HRO.out rfl
              by_cases hb0 : b = 0
              · have hb1 : decide (0 < b) = false := decide_eq_false (by omega)
                rw [if_pos hb0] at HRX
                have HRX := Lib.hid HRX
                clear hb0
                go_wp2_with fail
                go_roundg g2
                case measure => exact hgl
                case rel =>
                  obtain ⟨t', a1, a2, a3, a4⟩ := HM2.out
                  exact ⟨t', 800, x * 10, g', _, a1, a2, ⟨a3, a4⟩, by omega, by go_num, by go_num, by omega, fun h => by omega, fun h => by omega, HLE, HNR, HL, HRX⟩
              · have hb1 : 0 < b := by omega
                have HL3 := Lib.hid (HL.out.trunc true)
                rw [if_neg hb0] at HRX
                have HRX := Lib.hid HRX
                clear hb0
                go_wp2_with fail
                go_roundg g2
                case measure => exact hgl
                case rel =>
                  obtain ⟨t', a1, a2, a3, a4⟩ := HM2.out
                  exact ⟨t', 800, x * 10, g', _, a1, a2, ⟨a3, a4⟩, by omega, by go_num, by go_num, by omega, fun h => by omega, fun h => by omega, HLE, HNR, HL3, HRX⟩
theorem right_any (B k : Nat) (d : Nat → Nat) (nd : Nat) (dp : Int) (ng tr : Bool) (w : World) (h : Dz w B d nd dp ng tr) (hd : Dm.Dg d nd) (h49 : 49 ≤ d 0) (hn0 : 0 < nd) (hn : nd ≤ 800)
    (hp : -10000000 ≤ dp) (hp2 : dp ≤ 10000000) (h1 : 1 ≤ k) (h2 : k ≤ 60) : Calls Tryz.prog 90 #[.pointer (some ⟨B, 0, none⟩), .int .u64 (k : Int)] w (ShR B d nd dp ng tr k w) :=
  right_walk B k _ d nd dp ng tr w h hd h49 hn0 hn hp hp2 h1 h2 rfl
end Go.Proofs.YtofndhmnofghaaaGreatDoor.Sl

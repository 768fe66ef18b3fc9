/- group.Right of a vector. Conditions: the elements lie in memory, are few and short, and are a vector. -/
import Derived.Test.YtencpjhpedenbaaGreatDoorG5
namespace Go.Proofs.YtencpjhpedenbaaGreatDoor
open Go.RowKit Lb
set_option linter.unusedVariables false
set_option linter.unusedSimpArgs false
set_option maxRecDepth 100000
set_option maxHeartbeats 4000000

theorem vec_at {S : List El} (h : vecB S = true) {k : Nat} (hk : k < S.length) : vecAt S k := of_decide_eq_true h k hk
theorem vec_any (A : Option Addr) (cap : Nat) (S : List El) (w : World) (hE : Els w A S) (hT : Tabs w) (hl : S.length ≤ 60) (hm : ∀ i, i < S.length → (S.getD i z0).1.length ≤ 40) (hv : vecB S = true) :
    Calls Tryz.prog 26 #[.slice A S.length cap] w fun e w' => e = .returned (.bool true) ∧ Below w.heap.size w w' := by
  have HE := Lib.hid hE
  have HT := Lib.hid hT
  have hT3 := hT.size
  have HM := Lib.hid hm
  have HV := Lib.hid (fun k (hk : k < S.length) => vec_at hv hk)
  clear hE hm hT hv
  generalize hn : S.length = n at *
  have HN := Lib.hid hn
  clear hn
  go_enter Tryz.func26, Tryz.ntmps26
  go_wp2
  go_loopw [7] (fun i wr => ∃ k : Nat, k ≤ n ∧ i = .int .i64 k ∧ Hid (Below w.heap.size w wr)) (fun i _ => n - (intOf i).toNat)
  case atStart => exact ⟨0, Nat.zero_le _, rfl, Below.refl _ _⟩
  case round =>
    obtain ⟨k, hk, rfl, HB⟩ := hrel
    by_cases hlt : k < n
    · have hkl : k < S.length := by rw [HN.out]; exact hlt
      obtain ⟨b, off, LA, lc, rfl, hb, c1, c2, hL, _, hbt⟩ := (HE.out.below HB.out).at_ hkl
      have hll := HM.out k hlt
      have HL := Lib.hid hL
      obtain ⟨a1, a2, a3, a4⟩ := HV.out k hlt
      have hprev : 0 < k → ∃ LB cb, (wr.cell? ⟨b, off + (k - 1) * 2, none⟩ = some (.slice LB (S.getD (k - 1) z0).1.length cb)) ∧ Lbs wr LB (S.getD (k - 1) z0).1 ∧ (S.getD (k - 1) z0).1.length ≤ 40 := fun h0 => by
        obtain ⟨b', off', LB, cb, e, _, c3, _, hL3, _⟩ := (HE.out.below HB.out).at_ (show k - 1 < S.length by omega)
        injection e with e; injection e with e1 e2; subst e1; subst e2
        exact ⟨LB, cb, c3, hL3, HM.out (k - 1) (by omega)⟩
      have HPV := Lib.hid hprev
      have hsz := HB.out.size
      have d : decide (k < n) = true := by simpa using hlt
      clear hL hprev
      generalize (S.getD k z0).1 = l at *
      generalize hln : l.length = m at *
      have HLN := Lib.hid hln
      generalize (S.getD k z0).2 = v at *
      generalize (S.getD (k - 1) z0).1 = l' at *
      generalize hnv : Vl.normI v = nv at *
      have HNV := Lib.hid (fun W => norm_q v hbt nv hnv W)
      have h2' : (nv != v) = false := by rw [bne, a2]; rfl
      have HA4 := Lib.hid a4
      have HT2 := Lib.hid (HT.out.below hT3 HB.out)
      have HRT := Lib.hid (fun W (hW : Below wr.heap.size wr W) => right_q LA lc m l true hln a1 W (HL.out.below hW) (HT2.out.below (by omega) hW) (by omega))
      clear hbt hnv hln a1 a2 a4
      have hbr : b < wr.heap.size := hb
      go_upto_region 4 with fail
      have y0 : (wr.alloc (.cells #[.slice LA m lc, .int .u64 v] 36)).cell? ⟨wr.heap.size, 0, none⟩ = some (.slice LA m lc) := by rw [World.cell?_alloc_at _ _ _ _ rfl]; rfl
      have y1 : (wr.alloc (.cells #[.slice LA m lc, .int .u64 v] 36)).cell? ⟨wr.heap.size, 1, none⟩ = some (.int .u64 v) := by rw [World.cell?_alloc_at _ _ _ _ rfl]; rfl
      have HB1 : Hid (Below wr.heap.size wr (wr.alloc (.cells #[.slice LA m lc, .int .u64 v] 36))) := (Below.refl _ _).alloc (Nat.le_refl _) _
      have hs1 : wr.heap.size < (wr.alloc (.cells #[.slice LA m lc, .int .u64 v] 36)).heap.size := by simp
      generalize wr.alloc (.cells #[.slice LA m lc, .int .u64 v] 36) = w1 at *
      go_region_held3 (fun W => W.cell? ⟨wr.heap.size, 0, none⟩ = some (.slice LA m lc) ∧ W.cell? ⟨wr.heap.size, 1, none⟩ = some (.int .u64 v) ∧ Below w1.heap.size w1 W) (first | (exact ⟨y0, y1, (Below.refl _ _).drew⟩) | (exact ⟨(hb4.cell (p := ⟨wr.heap.size, 0, none⟩) (Nat.lt_of_lt_of_le hs1 hS0.2.2.size)).trans hS0.1, (hb4.cell (p := ⟨wr.heap.size, 1, none⟩) (Nat.lt_of_lt_of_le hs1 hS0.2.2.size)).trans hS0.2.1, hS0.2.2.trans (hb4.mono hS0.2.2.size)⟩) | assumption | go_keep) (first | (go_at_call 41; have hS0 := ‹World.cell? _ ⟨wr.heap.size, 0, none⟩ = some (.slice LA m lc) ∧ World.cell? _ ⟨wr.heap.size, 1, none⟩ = some (.int .u64 v) ∧ Below w1.heap.size w1 _›; refine (HRT.out _ (HB1.out.trans (hS0.2.2.mono HB1.out.size))).mono ?_; rintro e w' ⟨rfl, hb4⟩) | (go_at_call 28; refine (HNV.out _).mono ?_; rintro e w' ⟨rfl, rfl⟩))
      have hSE := ‹World.cell? _ ⟨wr.heap.size, 0, none⟩ = some (.slice LA m lc) ∧ World.cell? _ ⟨wr.heap.size, 1, none⟩ = some (.int .u64 v) ∧ Below w1.heap.size w1 _›
      obtain ⟨x0, x1, hb5⟩ := hSE
      have HB5 := Lib.hid (HB1.out.trans (hb5.mono HB1.out.size))
      have HB6 := Lib.hid (HB.out.trans (HB5.out.mono HB.out.size))
      have hs5 := Nat.lt_of_lt_of_le hs1 hb5.size
      clear hS0 hb4 hb5 y0 y1 c1 c2 HRT
      by_cases hk0 : k = 0
      · have dk : decide (0 < k) = false := by simp; omega
        clear hk0
        go_wp2_with fail
        go_quiet (fail)
        go_wp2
        go_roundw
        case rel => exact ⟨k + 1, by omega, by go_num, bel_drawn HB6.out _⟩
        case measure => simp [intOf]; omega
      · have dk : decide (0 < k) = true := by simp; omega
        have dk' : (0 : Int) < (k : Int) := by omega
        have dk1 : (1 : Int) ≤ (k : Int) := by omega
        obtain ⟨LB, cb, c3, hL3, hl3⟩ := HPV.out (by omega)
        obtain ⟨j, hj⟩ : ∃ j, k - 1 = j := ⟨_, rfl⟩
        rw [hj] at c3
        have HJ := Lib.hid hj
        have hcq := HA4.out (by omega)
        obtain ⟨m', hm'⟩ : ∃ m', l'.length = m' := ⟨_, rfl⟩
        rw [hm'] at c3 hl3
        have H5 := Lib.hid (fun W (hW : Below wr.heap.size wr W) => cmp_q LB LA cb lc m' m l' l (-1) hm' HLN.out hcq W (hL3.below hW) (HL.out.below hW) (by omega) (by omega))
        have HC3 := Lib.hid (fun W (hW : Below wr.heap.size wr W) => (hW.cell (p := ⟨b, off + j * 2, none⟩) hbr).trans c3)
        have z0' := HC3.out _ HB5.out
        clear hj hL3 HPV c3 hm' hcq hk0 hll HB
        go_wp2_with fail
        have hwr : IntKind.i64.wrap ((k : Int) - 1) = (j : Int) := by have := HJ.out; rw [IntWalk.i64_in _ (by omega)]; omega
        have hjn : (j : Int) < (n : Int) := by have := HJ.out; omega
        have hj0 : (0 : Int) ≤ (j : Int) := by omega
        clear HJ
        have hbw : b < w'.heap.size := Nat.lt_of_lt_of_le hbr HB5.out.size
        go_region_held3 (fun W => W.cell? ⟨wr.heap.size, 0, none⟩ = some (.slice LA m lc) ∧ W.cell? ⟨b, off + j * 2, none⟩ = some (.slice LB m' cb) ∧ Below w'.heap.size w' W) (first | (exact ⟨x0, z0', (Below.refl _ _).drew⟩) | (exact ⟨(hb7.cell (p := ⟨wr.heap.size, 0, none⟩) (Nat.lt_of_lt_of_le hs5 hS7.2.2.size)).trans hS7.1, (hb7.cell (p := ⟨b, off + j * 2, none⟩) (Nat.lt_of_lt_of_le hbw hS7.2.2.size)).trans hS7.2.1, hS7.2.2.trans (hb7.mono hS7.2.2.size)⟩) | assumption | go_keep) (first | (go_at_call 42; have hS7 := ‹World.cell? _ ⟨wr.heap.size, 0, none⟩ = some (.slice LA m lc) ∧ World.cell? _ ⟨b, off + j * 2, none⟩ = some (.slice LB m' cb) ∧ Below w'.heap.size w' _›; refine (H5.out _ (HB5.out.trans (hS7.2.2.mono HB5.out.size))).mono ?_; rintro e w8 ⟨rfl, hb7⟩))
        have hSF := ‹World.cell? _ ⟨wr.heap.size, 0, none⟩ = some (.slice LA m lc) ∧ World.cell? _ ⟨b, off + j * 2, none⟩ = some (.slice LB m' cb) ∧ Below w'.heap.size w' _›
        have HB8 := Lib.hid (HB6.out.trans (hSF.2.2.mono HB6.out.size))
        clear hSF
        go_wp2
        go_roundw
        case rel => exact ⟨k + 1, by omega, by go_num, HB8.out⟩
        case measure => simp [intOf]; omega
    · have d : decide (k < n) = false := by simpa using hlt
      go_wp2
      go_ret
      exact ⟨rfl, HB.out⟩
end Go.Proofs.YtencpjhpedenbaaGreatDoor

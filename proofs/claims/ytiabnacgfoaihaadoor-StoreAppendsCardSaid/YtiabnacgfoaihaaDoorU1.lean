import Derived.Test.YtiabnacgfoaihaaDoorT7
namespace Go.Proofs.YtiabnacgfoaihaaDoor
open Go.RowKit Lb
set_option linter.unusedVariables false

/-! the document's Norm, Right, Find -/
theorem isnone_any (v : Int) (hv : Bits v) (w : World) : Calls Tryd.prog 47 #[.int .u64 v] w fun e w' => e = .returned (.bool (noneB v)) ∧ w = w' := by
  have h0 := hv.1
  have h1 := hv.2
  clear hv
  unfold noneB
  have f1 : IntKind.u64.wrap (v / 4503599627370496) = v / 4503599627370496 := IntWalk.u64_in _ (by omega)
  cases hq : (v / 4503599627370496 % 2048 == 2047) with
  | false =>
    go_enter Tryd.func47, Tryd.ntmps47
    go_wp2
    go_ret
    exact ⟨by simp, rfl⟩
  | true =>
    go_enter Tryd.func47, Tryd.ntmps47
    go_wp2
    go_ret
    exact ⟨by simp, rfl⟩
theorem refnorm_any (v : Int) (hv : Bits v) (w : World) : Calls Tryd.prog 27 #[.int .u64 v] w fun e w' => e = .returned (.int .u64 (normI v)) ∧ w = w' := by
  have H := Lib.hid (fun w => isnone_any v hv w)
  unfold normI
  clear hv
  cases hn : noneB v with
  | false =>
    rw [hn] at H
    clear hn
    go_enter Tryd.func27, Tryd.ntmps27
    go_wp2_with fail
    refine (H.out _).mono ?_
    rintro e w1 ⟨rfl, rfl⟩
    go_wp2
    go_ret
    exact ⟨rfl, rfl⟩
  | true =>
    rw [hn] at H
    clear hn
    cases hm : (v != 9218868437227405314) with
    | false =>
      go_enter Tryd.func27, Tryd.ntmps27
      go_wp2_with fail
      refine (H.out _).mono ?_
      rintro e w1 ⟨rfl, rfl⟩
      go_wp2
      go_ret
      exact ⟨rfl, rfl⟩
    | true =>
      go_enter Tryd.func27, Tryd.ntmps27
      go_wp2_with fail
      refine (H.out _).mono ?_
      rintro e w1 ⟨rfl, rfl⟩
      go_wp2
      go_ret
      exact ⟨rfl, rfl⟩
theorem refnorm_q (v : Int) (hv : Bits v) (r : Int) (h : normI v = r) (w : World) : Calls Tryd.prog 27 #[.int .u64 v] w fun e w' => e = .returned (.int .u64 r) ∧ w' = w := by
  subst h; exact (refnorm_any v hv w).mono fun e w' ⟨h1, h2⟩ => ⟨h1, h2.symm⟩

set_option maxRecDepth 100000 in
set_option maxHeartbeats 2000000 in
theorem reffind_any (A L : Option Addr) (c cl : Nat) (S : List Ser) (l : List Lab) (w : World) (hS : Srs w A S) (hL : Lbs w L l) (hF : Few S) (hl : l.length ≤ 65536) :
    Calls Tryd.prog 13 #[.slice A S.length c, .slice L l.length cl] w (FindP S l w) := by
  have HS := Lib.hid hS
  have HC := Lib.hid (fun k (hk : k < S.length) LA lc W (h : Lbs W LA (S.getD k s0).1) (hW : Below w.heap.size w W) => refcmp_below LA L lc cl (S.getD k s0).1 l W h (hL.below hW) (hF.2 k hk).1 hl)
  have hn1 := hF.1
  clear hS hL hF hl
  generalize hn : S.length = n at *
  have HN := Lib.hid hn
  clear hn
  generalize l.length = nl at *
  go_enter Tryd.func13, Tryd.ntmps13
  go_wp2
  go_loopw [6, 7] (fun s6 s7 wr => ∃ (z : Int) (f : Nat), s7 = .int .i64 z ∧ s6 = .int .i64 f ∧ -1 ≤ z ∧ z < n ∧ f ≤ n ∧ z < f ∧ Hid ((∀ i : Nat, z < i → i < f → cmpL (S.getD i s0).1 l < 0) ∧ (f < n → 0 ≤ cmpL (S.getD f s0).1 l)) ∧ Hid (Below w.heap.size w wr)) (fun _ s7 _ => (intOf s7 + 1).toNat)
  case atStart => exact ⟨(n : Int) - 1, n, rfl, rfl, by omega, by omega, Nat.le_refl _, by omega, ⟨fun i h1 h2 => by omega, fun h => absurd h (Nat.lt_irrefl _)⟩, Below.refl _ _⟩
  case round =>
    obtain ⟨z, f, rfl, rfl, hz1, hz2, hfn, hzf, HI, HB⟩ := hrel
    by_cases hlt : 0 ≤ z
    · obtain ⟨k, rfl⟩ : ∃ k : Nat, z = (k : Int) := ⟨z.toNat, by omega⟩
      have hk : k < n := by omega
      obtain ⟨b, off, LA, lc, PA, pc, rfl, hlb, hx1, hy1, hL1, _⟩ := (HS.out.below HB.out).at_ (i := k) (by rw [HN.out]; exact hk)
      have H1 := Lib.hid (HC.out k hk LA lc wr hL1 HB.out)
      have f1 : IntKind.i64.wrap ((k : Int) - 1) = (k : Int) - 1 := IntWalk.i64_in _ (by omega)
      obtain ⟨q, hq⟩ : ∃ q, cmpL (S.getD k s0).1 l = q := ⟨_, rfl⟩
      have HQ := Lib.hid hq
      rw [hq] at H1
      clear hL1 hq
      generalize (S.getD k s0).1.length = m1 at *
      generalize (S.getD k s0).2.length = m2 at *
      by_cases hq0 : 0 ≤ q
      · have d1 : decide (0 ≤ q) = true := by simpa using hq0
        go_wp2_with fail
        refine (H1.out).mono ?_
        rintro e w1 ⟨rfl, hb1⟩
        have HB1 := Lib.hid (HB.out.trans (hb1.mono HB.out.size))
        clear hb1
        go_wp2
        go_roundw
        case rel =>
          exact ⟨(k : Int) - 1, k, rfl, rfl, by omega, by omega, by omega, by omega, ⟨fun i h1 h2 => by omega, fun _ => by rw [HQ.out]; exact hq0⟩, HB1⟩
        case measure => simp [intOf]
      · have d1 : decide (0 ≤ q) = false := by simpa using hq0
        go_wp2_with fail
        refine (H1.out).mono ?_
        rintro e w1 ⟨rfl, hb1⟩
        have HB1 := Lib.hid (HB.out.trans (hb1.mono HB.out.size))
        clear hb1
        go_wp2
        go_roundw
        case rel =>
          refine ⟨(k : Int) - 1, f, rfl, rfl, by omega, by omega, hfn, by omega, ⟨fun i h1 h2 => ?_, HI.out.2⟩, HB1⟩
          by_cases e : i = k
          · subst e; rw [HQ.out]; omega
          · exact HI.out.1 i (by omega) h2
        case measure => simp [intOf]
    · have hz : z = -1 := by omega
      subst hz
      have HR : Hid (Reach S l f) := ⟨by rw [HN.out]; exact hfn, fun i hi => HI.out.1 i (by omega) hi, fun h => HI.out.2 (by rw [← HN.out]; exact h)⟩
      have HBo := Lib.hid HB.out
      clear HI HB hz1 hz2 hzf hlt
      go_wp2
      go_loopw [8] (fun s8 wr => ∃ k : Nat, s8 = .int .i64 k ∧ k ≤ n ∧ Hid (∀ i, i < k → cmpL (S.getD i s0).1 l ≠ 0) ∧ Hid (Below w.heap.size w wr)) (fun s8 _ => n - (intOf s8).toNat)
      case atStart => exact ⟨0, rfl, Nat.zero_le _, fun i hi => absurd hi (Nat.not_lt_zero _), HBo⟩
      case round =>
        obtain ⟨k, rfl, hkn, HNe, HB⟩ := hrel
        by_cases hlt : k < n
        · obtain ⟨b, off, LA, lc, PA, pc, rfl, hlb, hx1, hy1, hL1, _⟩ := (HS.out.below HB.out).at_ (i := k) (by rw [HN.out]; exact hlt)
          have H1 := Lib.hid (HC.out k hlt LA lc _ hL1 HB.out)
          obtain ⟨q, hq⟩ : ∃ q, cmpL (S.getD k s0).1 l = q := ⟨_, rfl⟩
          have HQ := Lib.hid hq
          rw [hq] at H1
          clear hL1 hq
          generalize (S.getD k s0).1.length = m1 at *
          generalize (S.getD k s0).2.length = m2 at *
          by_cases hq0 : q = 0
          · have d1 : (q == 0) = true := beq_iff_eq.2 hq0
            have HQ0 := Lib.hid hq0
            clear hq0
            go_wp2_with fail
            refine (H1.out).mono ?_
            rintro e w1 ⟨rfl, hb1⟩
            have HB1 := Lib.hid (HB.out.trans (hb1.mono HB.out.size))
            clear hb1
            go_wp2
            go_ret2
            exact ⟨⟨k, true, rfl, .inl ⟨rfl, by rw [HN.out]; exact hlt, by rw [HQ.out]; exact HQ0.out, HNe.out⟩⟩, HB1.out⟩
          · have d1 : (q == 0) = false := beq_eq_false_iff_ne.2 hq0
            have HQ0 := Lib.hid hq0
            clear hq0
            go_wp2_with fail
            refine (H1.out).mono ?_
            rintro e w1 ⟨rfl, hb1⟩
            have HB1 := Lib.hid (HB.out.trans (hb1.mono HB.out.size))
            clear hb1
            go_wp2
            go_roundw
            case rel =>
              refine ⟨k + 1, by go_num, by omega, fun i hi => ?_, HB1⟩
              rcases Nat.lt_succ_iff_lt_or_eq.1 hi with h1 | rfl
              · exact HNe.out i h1
              · rw [HQ.out]; exact HQ0.out
            case measure => simp [intOf]; omega
        · have hkk : k = n := by omega
          subst hkk
          have HE : Hid (Found S l f false) := .inr ⟨rfl, by rw [HN.out]; exact HNe.out, HR.out⟩
          go_wp2
          go_ret2
          exact ⟨⟨f, false, rfl, HE.out⟩, HB.out⟩
end Go.Proofs.YtiabnacgfoaihaaDoor

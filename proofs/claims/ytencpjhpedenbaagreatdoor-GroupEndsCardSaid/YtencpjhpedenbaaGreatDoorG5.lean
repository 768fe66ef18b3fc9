/- A vector: ref13.Right, group.Right. Conditions: as each says. -/
import Derived.Test.YtencpjhpedenbaaGreatDoorG4
namespace Go.Proofs.YtencpjhpedenbaaGreatDoor
open Go.RowKit Lb
set_option linter.unusedVariables false
set_option linter.unusedSimpArgs false
set_option maxRecDepth 100000
set_option maxHeartbeats 4000000

def vecAt (S : List El) (i : Nat) : Prop := rightB (S.getD i z0).1 = true ∧ (Vl.normI (S.getD i z0).2 == (S.getD i z0).2) = true ∧ ((S.getD i z0).2 == 9218868437227405314) = false ∧ (0 < i → cmpL (S.getD (i - 1) z0).1 (S.getD i z0).1 = -1)
instance (S : List El) (i : Nat) : Decidable (vecAt S i) := by unfold vecAt; infer_instance
def VecTo (S : List El) (k : Nat) : Prop := ∀ i, i < k → vecAt S i
instance (S : List El) (k : Nat) : Decidable (VecTo S k) := inferInstanceAs (Decidable (∀ i, i < k → vecAt S i))
def vecB (S : List El) : Bool := decide (VecTo S S.length)
theorem vec_zero (S : List El) : VecTo S 0 := fun _ h => absurd h (Nat.not_lt_zero _)
theorem vec_succ {S : List El} {k : Nat} (h : VecTo S k) (h1 : vecAt S k) : VecTo S (k + 1) := by
  intro i hi
  rcases Nat.lt_succ_iff_lt_or_eq.1 hi with h2 | rfl
  · exact h i h2
  · exact h1
theorem vec_bad {S : List El} {k : Nat} (hk : k < S.length) (h : ¬ vecAt S k) : vecB S = false := decide_eq_false fun h2 => h (h2 k hk)
theorem vec_all {S : List El} (h : VecTo S S.length) : vecB S = true := decide_eq_true h
theorem cmpL_anti (a b : List Lab) : cmpL b a = - cmpL a b := by rw [cmpL_eq, cmpL_eq, cmpR_anti]
theorem cmpL_in (a b : List Lab) : -1 ≤ cmpL a b ∧ cmpL a b ≤ 1 := by rw [cmpL_eq]; exact cmpR_in a b

theorem refnorm_q (v : Int) (hv : Vl.Bits v) (r : Int) (h : Vl.normI v = r) (w : World) : Calls Tryz.prog 17 #[.int .u64 v] w fun e w' => e = .returned (.int .u64 r) ∧ w' = w := by
  subst h; exact (Vl.refnorm_any v hv w).mono fun e w' ⟨h1, h2⟩ => ⟨h1, h2.symm⟩
theorem norm_q (v : Int) (hv : Vl.Bits v) (r : Int) (h : Vl.normI v = r) (w : World) : Calls Tryz.prog 28 #[.int .u64 v] w fun e w' => e = .returned (.int .u64 r) ∧ w' = w := by
  subst h; exact (Vl.norm_any v hv w).mono fun e w' ⟨h1, h2⟩ => ⟨h1, h2.symm⟩
theorem refright_q (A : Option Addr) (cap n : Nat) (l : List Lab) (r : Bool) (hn : l.length = n) (h : rightB l = r) (w : World) (hL : Lbs w A l) (hs : shortB l = true) :
    Calls Tryz.prog 16 #[.slice A n cap] w fun e w' => e = .returned (.bool r) ∧ ∃ q, w' = w.drewN q := by
  subst hn; subst h
  have hsh := hs
  simp only [shortB, Bool.and_eq_true, decide_eq_true_eq] at hsh
  refine refright_any A cap l w hL (fun i hi => ?_) (by omega)
  have := hsh.1 i hi
  simp only [shB, Bool.and_eq_true, decide_eq_true_eq] at this
  omega
theorem refcmp_q (A B : Option Addr) (ca cb n m : Nat) (a b : List Lab) (r : Int) (hn : a.length = n) (hm : b.length = m) (h : cmpL a b = r) (w : World) (hA : Lbs w A a) (hB : Lbs w B b) (ha : n ≤ 65536) (hb : m ≤ 65536) :
    Calls Tryz.prog 18 #[.slice A n ca, .slice B m cb] w fun e w' => e = .returned (.int .i64 r) ∧ ∃ q, w' = w.drewN q := by
  subst hn; subst hm; subst h
  exact refcmp_any A B ca cb a b w hA hB ha hb
theorem right_q (A : Option Addr) (cap n : Nat) (l : List Lab) (r : Bool) (hn : l.length = n) (h : rightB l = r) (w : World) (hL : Lbs w A l) (hT : Tabs w) (hl : n ≤ 65536) :
    Calls Tryz.prog 41 #[.slice A n cap] w fun e w' => e = .returned (.bool r) ∧ Below w.heap.size w w' := by
  subst hn; subst h
  exact right_any A cap l w hL hT hl
theorem cmp_q (A B : Option Addr) (ca cb n m : Nat) (a b : List Lab) (r : Int) (hn : a.length = n) (hm : b.length = m) (h : cmpL a b = r) (w : World) (hA : Lbs w A a) (hB : Lbs w B b) (ha : n ≤ 65536) (hb : m ≤ 65536) :
    Calls Tryz.prog 42 #[.slice A n ca, .slice B m cb] w fun e w' => e = .returned (.int .i64 r) ∧ Below w.heap.size w w' := by
  subst hn; subst hm; subst h
  exact cmp_any A B ca cb a b w hA hB ha hb
theorem sh_len {S : List El} (h : ∀ i, i < S.length → shortB (S.getD i z0).1 = true) (i : Nat) (hi : i < S.length) : (S.getD i z0).1.length ≤ 40 := by
  have := h i hi
  simp only [shortB, Bool.and_eq_true, decide_eq_true_eq] at this
  exact this.2

theorem refvec_any (A : Option Addr) (cap : Nat) (S : List El) (w : World) (hE : Els w A S) (hl : S.length ≤ 60) (hm : ∀ i, i < S.length → shortB (S.getD i z0).1 = true) :
    Calls Tryz.prog 7 #[.slice A S.length cap] w fun e w' => e = .returned (.bool (vecB S)) ∧ Below w.heap.size w w' := by
  obtain ⟨r, hr⟩ : ∃ r, vecB S = r := ⟨_, rfl⟩
  rw [hr]
  have HR := Lib.hid hr
  have HE := Lib.hid hE
  have HM := Lib.hid hm
  have HML := Lib.hid (sh_len hm)
  clear hr hE hm
  generalize hn : S.length = n at *
  have HN := Lib.hid hn
  clear hn
  go_enter Tryz.func7, Tryz.ntmps7
  go_wp2
  go_loopw [3] (fun i wr => ∃ k : Nat, k ≤ n ∧ i = .int .i64 k ∧ Hid (VecTo S k) ∧ Hid (Below w.heap.size w wr) ∧ Hid (∃ q, wr = w.drewN q)) (fun i _ => n - (intOf i).toNat)
  case atStart => exact ⟨0, Nat.zero_le _, rfl, vec_zero S, Below.refl _ _, ⟨0, rfl⟩⟩
  case round =>
    obtain ⟨k, hk, rfl, HC, HB, HD⟩ := hrel
    by_cases hlt : k < n
    · have hkl : k < S.length := by rw [HN.out]; exact hlt
      obtain ⟨b, off, LA, lc, rfl, hb, c1, c2, hL, _, hbt⟩ := (HE.out.below HB.out).at_ hkl
      have hll := HML.out k hlt
      have HL := Lib.hid hL
      have HBAD := Lib.hid (@vec_bad S k hkl)
      have HGO := Lib.hid (@vec_succ S k HC.out)
      have hat : vecAt S k = (rightB (S.getD k z0).1 = true ∧ (Vl.normI (S.getD k z0).2 == (S.getD k z0).2) = true ∧ ((S.getD k z0).2 == 9218868437227405314) = false ∧ (0 < k → cmpL (S.getD (k - 1) z0).1 (S.getD k z0).1 = -1)) := rfl
      rw [hat] at HBAD HGO
      have hms := HM.out k hlt
      have HRT := Lib.hid (fun W nd r n (hW : W = wr.drewN nd) hn h => refright_q LA lc n (S.getD k z0).1 r hn h W (by rw [hW]; exact hL) hms)
      have hprev : 0 < k → ∃ LB cb, (wr.cell? ⟨b, off + (k - 1) * 2, none⟩ = some (.slice LB (S.getD (k - 1) z0).1.length cb)) ∧ Lbs wr LB (S.getD (k - 1) z0).1 ∧ (S.getD (k - 1) z0).1.length ≤ 40 := fun h0 => by
        obtain ⟨b', off', LB, cb, e, _, c3, _, hL3, _⟩ := (HE.out.below HB.out).at_ (show k - 1 < S.length by omega)
        injection e with e; injection e with e1 e2; subst e1; subst e2
        exact ⟨LB, cb, c3, hL3, HML.out (k - 1) (by omega)⟩
      have HPV := Lib.hid hprev
      have hsz := HB.out.size
      have d : decide (k < n) = true := by simpa using hlt
      clear hL hms hprev hat
      generalize (S.getD k z0).1 = l at *
      generalize hln : l.length = m at *
      have HLN := Lib.hid hln
      generalize (S.getD k z0).2 = v at *
      generalize (S.getD (k - 1) z0).1 = l' at *
      generalize hnv : Vl.normI v = nv at *
      have HNV := Lib.hid (fun W => refnorm_q v hbt nv hnv W)
      clear hbt hnv hln
      cases h1 : rightB l with
      | false =>
        obtain rfl : false = r := by rw [← HR.out]; exact (HBAD.out (by rw [h1]; rintro ⟨h, _⟩; cases h)).symm
        have H1 := Lib.hid (fun nd => HRT.out (wr.drewN nd) nd false m rfl rfl h1)
        clear h1 HRT
        go_wp2_with fail
        go_quiet ((go_at_call 16; exact Calls.quiet_of (H1.out _)))
        go_wp2
        go_ret
        exact ⟨rfl, bel_drawn HB.out _⟩
      | true =>
        have H1 := Lib.hid (fun nd => HRT.out (wr.drewN nd) nd true m rfl rfl h1)
        clear HRT
        cases h2 : (nv == v) with
        | false =>
          obtain rfl : false = r := by rw [← HR.out]; exact (HBAD.out (by rw [h2]; rintro ⟨_, h, _⟩; cases h)).symm
          have h2' : (nv != v) = true := by rw [bne, h2]; rfl
          clear h1 h2
          go_wp2_with fail
          go_quiet (first | (go_at_call 16; exact Calls.quiet_of (H1.out _)) | (go_at_call 17; exact Calls.quiet_of_same (HNV.out _)))
          go_wp2
          go_ret
          exact ⟨rfl, bel_drawn HB.out _⟩
        | true =>
          have h2' : (nv != v) = false := by rw [bne, h2]; rfl
          cases h3 : (v == 9218868437227405314) with
          | true =>
            obtain rfl : false = r := by rw [← HR.out]; exact (HBAD.out (by rw [h3]; rintro ⟨_, _, h, _⟩; cases h)).symm
            clear h1 h2
            go_wp2_with fail
            go_quiet (first | (go_at_call 16; exact Calls.quiet_of (H1.out _)) | (go_at_call 17; exact Calls.quiet_of_same (HNV.out _)))
            go_wp2
            go_ret
            exact ⟨rfl, bel_drawn HB.out _⟩
          | false =>
            by_cases hk0 : k = 0
            · have HS := Lib.hid (HGO.out ⟨h1, h2, h3, fun h => absurd h (by omega)⟩)
              have dk : decide (0 < k) = false := by simp; omega
              clear h1 h2 HGO HBAD hk0
              go_wp2_with fail
              go_quiet (first | (go_at_call 16; exact Calls.quiet_of (H1.out _)) | (go_at_call 17; exact Calls.quiet_of_same (HNV.out _)))
              go_wp2
              go_roundw
              case rel => exact ⟨k + 1, by omega, by go_num, HS, bel_drawn HB.out _, drew_next HD.out _⟩
              case measure => simp [intOf]; omega
            · have dk : decide (0 < k) = true := by simp; omega
              have dk' : (0 : Int) < (k : Int) := by omega
              have dk1 : (1 : Int) ≤ (k : Int) := by omega
              obtain ⟨LB, cb, c3, hL3, hl3⟩ := HPV.out (by omega)
              have hca : cmpL l l' = - cmpL l' l := cmpL_anti l' l
              obtain ⟨q, hq⟩ : ∃ q, cmpL l l' = q := ⟨_, rfl⟩
              have H5 := Lib.hid (fun nd => refcmp_q LA LB lc cb m l'.length l l' q HLN.out rfl hq (wr.drewN nd) HL.out hL3 (by omega) (by omega))
              clear hL3 HPV
              by_cases hq1 : q = 1
              · subst hq1
                have HS := Lib.hid (HGO.out ⟨h1, h2, h3, fun h => by omega⟩)
                clear h1 h2 HGO HBAD hq hca
                generalize l'.length = m' at *
                go_wp2_with fail
                go_quiet (first | (go_at_call 16; exact Calls.quiet_of (H1.out _)) | (go_at_call 17; exact Calls.quiet_of_same (HNV.out _)) | (go_at_call 18; exact Calls.quiet_of (H5.out _)))
                go_wp2
                go_roundw
                case rel => exact ⟨k + 1, by omega, by go_num, HS, bel_drawn HB.out _, drew_next HD.out _⟩
                case measure => simp [intOf]; omega
              · obtain rfl : false = r := by rw [← HR.out]; exact (HBAD.out (by rintro ⟨_, _, _, h⟩; have := h (by omega); omega)).symm
                have q1 : (q == 1) = false := by simpa using hq1
                have q2 : (q != 1) = true := by simpa using hq1
                clear h1 h2 HGO HBAD hq hca
                generalize l'.length = m' at *
                go_wp2_with fail
                go_quiet (first | (go_at_call 16; exact Calls.quiet_of (H1.out _)) | (go_at_call 17; exact Calls.quiet_of_same (HNV.out _)) | (go_at_call 18; exact Calls.quiet_of (H5.out _)))
                go_wp2
                go_ret
                exact ⟨rfl, bel_drawn HB.out _⟩
    · have d : decide (k < n) = false := by simpa using hlt
      obtain rfl : true = r := by rw [← HR.out, vec_all (by rw [HN.out, show n = k by omega]; exact HC.out)]
      go_wp2
      go_ret
      exact ⟨rfl, HB.out⟩
end Go.Proofs.YtencpjhpedenbaaGreatDoor

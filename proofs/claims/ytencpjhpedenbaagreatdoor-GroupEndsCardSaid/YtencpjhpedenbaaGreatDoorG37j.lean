/- GroupEnds: what the law says of a vector. Conditions: what came in, the tables as they are laid. -/
import Derived.Test.YtencpjhpedenbaaGreatDoorG32j
import Derived.Test.YtencpjhpedenbaaGreatDoorG27j
import Derived.Test.YtencpjhpedenbaaGreatDoorG6
import Derived.BigQuiet
namespace Go.Proofs.YtencpjhpedenbaaGreatDoor
open Go.RowKit Lb
set_option linter.unusedVariables false
set_option linter.unusedSimpArgs false
set_option maxRecDepth 100000
set_option maxHeartbeats 2000000

theorem short_s {S : List El} (h : shS S = true) : S.length ≤ 60 ∧ ∀ i, i < S.length → shortB (S.getD i z0).1 = true := by
  unfold shS at h
  simp only [Bool.and_eq_true, decide_eq_true_eq] at h
  exact ⟨h.2, h.1⟩
theorem few_s {ns : List ByteArray} (h : fewS ns = true) : ns.length ≤ 20 := by
  unfold fewS at h
  simp only [Bool.and_eq_true, decide_eq_true_eq] at h
  exact h.2
theorem short_q' (A : Option Addr) (cap n : Nat) (S : List El) (r : Bool) (hn : S.length = n) (hr : shS S = r) (w : World) (hE : Els w A S) (hl : n ≤ 9223372036854775807) (hm : ∀ i, i < S.length → (S.getD i z0).1.length ≤ 9223372036854775807) : Calls Tryz.prog 5 #[.slice A n cap] w fun e w' => e = .returned (.bool r) ∧ w = w' := by
  subst hn; subst hr; exact refshort_any A cap S w hE hl hm
theorem few_q' (A : Option Addr) (cap n : Nat) (S : List ByteArray) (r : Bool) (hn : S.length = n) (hr : fewS S = r) (w : World) (hE : Sts w A S) (hl : n ≤ 9223372036854775807) : Calls Tryz.prog 6 #[.slice A n cap] w fun e w' => e = .returned (.bool r) ∧ w = w' := by
  subst hn; subst hr; exact few_any A cap S w hE hl
theorem vec_q' (A : Option Addr) (cap n : Nat) (S : List El) (r : Bool) (hn : S.length = n) (hr : vecB S = r) (w : World) (hE : Els w A S) (hl : n ≤ 60) (hm : ∀ i, i < S.length → shortB (S.getD i z0).1 = true) : Calls Tryz.prog 7 #[.slice A n cap] w fun e w' => e = .returned (.bool r) ∧ Below w.heap.size w w' := by
  subst hn; subst hr; exact refvec_any A cap S w hE hl hm
/-- what the law comes to where all is as it asks -/
def MainT (how : Int) (ns : List ByteArray) (S : List El) : Prop := shS S = true ∧ fewS ns = true ∧ vecB S = true ∧ 0 ≤ how ∧ how ≤ 2
theorem ends_early (how : Int) (A NA : Option Addr) (cap nc : Nat) (S : List El) (ns : List ByteArray) (w : World) (hE : Els w A S) (hN : Sts w NA ns) (hl : S.length ≤ 9223372036854775807) (hll : ∀ i, i < S.length → (S.getD i z0).1.length ≤ 9223372036854775807) (hns : ns.length ≤ 9223372036854775807) (hT : Tabs w) (hP : PT w) (h4 : 4 ≤ w.heap.size) (hno : ¬ MainT how ns S) :
    Calls Tryz.prog 3 #[.int .i64 how, .slice NA ns.length nc, .slice A S.length cap] w fun e w' => e = .returned (.bool true) ∧ Below w.heap.size w w' := by
  have HA := Lib.hid (awake_any w hT hP h4)
  have HE := Lib.hid hE
  have HN := Lib.hid hN
  have HLL := Lib.hid hll
  clear hE hN hll hT hP
  have HSS := Lib.hid (@short_s S)
  have HNO := Lib.hid hno
  unfold MainT at HNO
  clear hno
  generalize hn : S.length = n at *
  have HSL := Lib.hid hn
  generalize hm : ns.length = m at *
  have HNL := Lib.hid hm
  clear hn hm
  have HQ5 := Lib.hid (fun W (hW : Below w.heap.size w W) r hr => short_q' A cap n S r HSL.out hr W (HE.out.below hW) hl (fun i hi => HLL.out i (by rw [← HSL.out]; exact hi)))
  have HQ6 := Lib.hid (fun W (hW : Below w.heap.size w W) r hr => few_q' NA nc m ns r HNL.out hr W (HN.out.below hW) hns)
  have HQ7 := Lib.hid (fun W (hW : Below w.heap.size w W) (hs : shS S = true) r hr => vec_q' A cap n S r HSL.out hr W (HE.out.below hW) (by have := (short_s hs).1; rw [HSL.out] at this; exact this) (short_s hs).2)
  go_enter Tryz.func3, Tryz.ntmps3
  go_wp2_with fail
  refine HA.out.mono ?_
  rintro e w1 ⟨rfl, hb1⟩
  have HB1 := Lib.hid hb1
  clear hb1
  cases h5 : shS S with
  | false =>
    have H5 := Lib.hid h5
    clear h5
    go_wp2_with fail
    refine (HQ5.out w1 HB1.out false H5.out).mono ?_
    rintro e w2 ⟨rfl, rfl⟩
    go_wp2
    go_ret
    exact ⟨rfl, HB1.out⟩
  | true =>
    have H5 := Lib.hid h5
    clear h5
    go_wp2_with fail
    refine (HQ5.out w1 HB1.out true H5.out).mono ?_
    rintro e w2 ⟨rfl, rfl⟩
    cases h6 : fewS ns with
    | false =>
      have H6 := Lib.hid h6
      clear h6
      go_wp2_with fail
      refine (HQ6.out w1 HB1.out false H6.out).mono ?_
      rintro e w2 ⟨rfl, rfl⟩
      go_wp2
      go_ret
      exact ⟨rfl, HB1.out⟩
    | true =>
      have H6 := Lib.hid h6
      clear h6
      go_wp2_with fail
      refine (HQ6.out w1 HB1.out true H6.out).mono ?_
      rintro e w2 ⟨rfl, rfl⟩
      cases h7 : vecB S with
      | false =>
        have H7 := Lib.hid h7
        clear h7
        go_wp2_with fail
        refine (HQ7.out w1 HB1.out H5.out false H7.out).mono ?_
        rintro e w2 ⟨rfl, hb2⟩
        have HB2 := Lib.hid (HB1.out.trans (hb2.mono HB1.out.size))
        clear hb2
        go_wp2
        go_ret
        exact ⟨rfl, HB2.out⟩
      | true =>
        have H7 := Lib.hid h7
        clear h7
        go_wp2_with fail
        refine (HQ7.out w1 HB1.out H5.out true H7.out).mono ?_
        rintro e w2 ⟨rfl, hb2⟩
        have HB2 := Lib.hid (HB1.out.trans (hb2.mono HB1.out.size))
        clear hb2
        by_cases hh : how < 0
        · have d : decide (how < 0) = true := decide_eq_true hh
          go_wp2
          go_ret
          exact ⟨rfl, HB2.out⟩
        · have d : decide (how < 0) = false := decide_eq_false hh
          have d2 : decide (2 < how) = true := decide_eq_true (by
            rcases Int.lt_or_le 2 how with h | h
            · exact h
            · exact absurd ⟨H5.out, H6.out, H7.out, by omega, h⟩ HNO.out)
          go_wp2
          go_ret
          exact ⟨rfl, HB2.out⟩
end Go.Proofs.YtencpjhpedenbaaGreatDoor

namespace Go.Proofs.YtencpjhpedenbaaGreatDoor
open Go.RowKit Lb
set_option linter.unusedVariables false
set_option linter.unusedSimpArgs false
set_option maxRecDepth 100000
set_option maxHeartbeats 2000000

def CntP (n : Nat) (w : World) (e : Ending) (w' : World) : Prop := ∃ (τ : List Pl) (A : Option Addr) (m c : Nat), e = .returned (.tuple #[.slice A m c, .nilIface]) ∧ τ.length = m ∧ m ≤ n ∧ sizeS τ = n ∧ Els w' A (τ.map (finN cntF)) ∧ Below w.heap.size w w'
def OneP (k : Nat) (v : Int) (w : World) (e : Ending) (w' : World) : Prop := ∃ b off LA lc c, e = .returned (.tuple #[.slice (some ⟨b, off, none⟩) 1 c, .nilIface]) ∧ b < w'.heap.size ∧ w'.cell? ⟨b, off, none⟩ = some (.slice LA k lc) ∧ w'.cell? ⟨b, off + 1, none⟩ = some (.int .u64 v) ∧ Below w.heap.size w w'
def NoneP (w : World) (e : Ending) (w' : World) : Prop := ∃ A c, e = .returned (.tuple #[.slice A 0 c, .nilIface]) ∧ Below w.heap.size w w'
theorem count_is {how : Int} {ns : List ByteArray} {S : List El} {w : World} {e : Ending} {w' : World} (h : AppP how ns S (finN cntF) w e w') : CntP S.length w e w' := by
  obtain ⟨σ, hI, S', A, c, hp, rfl, hE, hb⟩ := h
  obtain ⟨τ, h1, rfl⟩ := perm_pull hp σ rfl
  refine ⟨τ, A, τ.length, c, by rw [List.length_map], rfl, ?_, ?_, hE, hb⟩
  · rw [h1.length_eq]; exact hI.few
  · rw [size_perm h1]; exact hI.size
theorem none_is {fin : Pl → El} {S : List El} {w : World} {e : Ending} {w' : World} (h : AppP 0 [] S fin w e w') (h0 : S.length = 0) : NoneP w e w' := by
  obtain ⟨σ, hI, S', A, c, hp, rfl, hE, hb⟩ := h
  have hσ := one_pile hI
  rw [if_pos h0] at hσ
  subst hσ
  have : S' = [] := List.perm_nil.1 hp
  subst this
  exact ⟨A, c, rfl, hb⟩
theorem one_is {fin : Pl → El} {S : List El} {w : World} {e : Ending} {w' : World} (h : AppP 0 [] S fin w e w') (h0 : 0 < S.length) (x : El) (hx : fin ([], S) = x) : OneP x.1.length x.2 w e w' := by
  obtain ⟨σ, hI, S', A, c, hp, rfl, hE, hb⟩ := h
  have hσ := one_pile hI
  rw [if_neg (by omega)] at hσ
  subst hσ
  have hs : S' = [x] := List.perm_singleton.1 (hp.trans (by rw [List.map_singleton, hx]))
  subst hs
  obtain ⟨b, off, LA, lc, rfl, hbl, h1, h2, _⟩ := hE.at_ (i := 0) (show 0 < 1 from Nat.zero_lt_one)
  rw [Nat.zero_mul, Nat.add_zero] at h1 h2
  exact ⟨b, off, LA, lc, c, rfl, hbl, h1, h2, hb⟩

/-! what the numbers are -/
def hiV (S : List El) : Int := Vl.normI (maxF S : Nat)
def loV (S : List El) : Int := Vl.normI (minF S : Nat)
theorem vec_norm {S : List El} (h : vecB S = true) {i : Nat} (hi : i < S.length) : Vl.normI (valI S i) = valI S i := by
  unfold vecB at h
  have := (of_decide_eq_true h i hi).2.1
  exact eq_of_beq this
theorem key_cmp {a b : Int} (h : Vl.key a ≤ Vl.key b) : decide (0 < Vl.cmpI a b) = false ∧ decide (Vl.cmpI b a < 0) = false := by
  unfold Vl.cmpI
  constructor
  · apply decide_eq_false
    split
    · omega
    · rw [if_neg (by omega)]; omega
  · apply decide_eq_false
    rw [if_neg (by omega)]
    split <;> omega
theorem key_eq {a b : Int} (h : Vl.key a = Vl.key b) : Vl.cmpI a b = 0 := by
  unfold Vl.cmpI
  rw [if_neg (by omega), if_neg (by omega)]
theorem top_val (B : Int → Int → Bool) (S : List El) : (S.getD (bestAt B S (S.length - 1)).2 z0).2 = (bestAt B S (S.length - 1)).1 := (best_in B S (S.length - 1)).2.symm
theorem high_is {S : List El} (h0 : 0 < S.length) (hb : ∀ i, i < S.length → Vl.Bits (valI S i)) (hv : vecB S = true) (hn : ∀ i, i < S.length → Vl.noneB (valI S i) = false) :
    Vl.Bits (hiV S) ∧ (∀ i, i < S.length → Vl.key (valI S i) ≤ Vl.key (hiV S)) ∧ Vl.cmpI (topX S).2 (hiV S) = 0 := by
  obtain ⟨j, hj, e, hm⟩ := ch_max S hb hn (S.length - 1) (by omega)
  have hjl : j < S.length := by omega
  have hbj := hb j hjl
  have e1 : maxF S = (valI S j).toNat := by
    unfold maxF
    rw [e]
    exact Nat.mod_eq_of_lt (by unfold Vl.Bits at hbj; omega)
  have eV : hiV S = valI S j := by
    unfold hiV
    rw [e1, Int.toNat_of_nonneg hbj.1, vec_norm hv hjl]
  refine ⟨by rw [eV]; exact hbj, fun i hi => by rw [eV]; exact hm i (by omega), ?_⟩
  have ht := top_max S hn (S.length - 1) (by omega) j hj
  have hin := best_in gtI S (S.length - 1)
  have eT : (topX S).2 = (bestAt gtI S (S.length - 1)).1 := top_val gtI S
  have h2 := hm (bestAt gtI S (S.length - 1)).2 (by omega)
  rw [← hin.2] at h2
  rw [eV, eT]
  exact key_eq (by omega)
theorem low_is {S : List El} (h0 : 0 < S.length) (hb : ∀ i, i < S.length → Vl.Bits (valI S i)) (hv : vecB S = true) (hn : ∀ i, i < S.length → Vl.noneB (valI S i) = false) :
    Vl.Bits (loV S) ∧ (∀ i, i < S.length → Vl.key (loV S) ≤ Vl.key (valI S i)) ∧ Vl.cmpI (botX S).2 (loV S) = 0 := by
  obtain ⟨j, hj, e, hm⟩ := ch_min S hb hn (S.length - 1) (by omega)
  have hjl : j < S.length := by omega
  have hbj := hb j hjl
  have e1 : minF S = (valI S j).toNat := by
    unfold minF
    rw [e]
    exact Nat.mod_eq_of_lt (by unfold Vl.Bits at hbj; omega)
  have eV : loV S = valI S j := by
    unfold loV
    rw [e1, Int.toNat_of_nonneg hbj.1, vec_norm hv hjl]
  refine ⟨by rw [eV]; exact hbj, fun i hi => by rw [eV]; exact hm i (by omega), ?_⟩
  have ht := top_min S hn (S.length - 1) (by omega) j hj
  have hin := best_in ltI S (S.length - 1)
  have eT : (botX S).2 = (bestAt ltI S (S.length - 1)).1 := top_val ltI S
  have h2 := hm (bestAt ltI S (S.length - 1)).2 (by omega)
  rw [← hin.2] at h2
  rw [eV, eT]
  exact key_eq (by omega)
end Go.Proofs.YtencpjhpedenbaaGreatDoor

namespace Go.Proofs.YtencpjhpedenbaaGreatDoor
open Go.RowKit Lb
set_option linter.unusedVariables false
set_option linter.unusedSimpArgs false
set_option maxRecDepth 100000
set_option maxHeartbeats 1000000

theorem nil_sts (w : World) : Sts w none [] := fun h => absurd h (by simp)
theorem ends_none (how : Int) (A NA : Option Addr) (cap nc : Nat) (S : List El) (ns : List ByteArray) (w : World) (hE : Els w A S) (hN : Sts w NA ns) (hT : Tabs w) (hP : PT w) (h4 : 4 ≤ w.heap.size) (hM : MainT how ns S) (hz : S.length = 0) :
    Calls Tryz.prog 3 #[.int .i64 how, .slice NA ns.length nc, .slice A S.length cap] w fun e w' => e = .returned (.bool true) ∧ Below w.heap.size w w' := by
  obtain ⟨h5, h6, h7, hh0, hh2⟩ := hM
  obtain ⟨hl, hsb⟩ := short_s h5
  have hns := few_s h6
  have HA := Lib.hid (awake_any w hT hP h4)
  have HE := Lib.hid hE
  have HSH := Lib.hid (fun i hi => short_L (hsb i hi) : ∀ i, i < S.length → ShortL (S.getD i z0).1)
  have HSB := Lib.hid hsb
  have HV := Lib.hid h7
  have HQ5 := Lib.hid (fun W (hW : Below w.heap.size w W) => short_q' A cap S.length S true rfl h5 W (hE.below hW) (by omega) (fun i hi => by have := (short_L (hsb i hi)).1; omega))
  have HQ6 := Lib.hid (fun W (hW : Below w.heap.size w W) => few_q' NA nc ns.length ns true rfl h6 W (hN.below hW) (by omega))
  have HQ7 := Lib.hid (fun W (hW : Below w.heap.size w W) => vec_q' A cap S.length S true rfl h7 W (hE.below hW) hl hsb)
  have HQC := Lib.hid (fun W (hW : Below w.heap.size w W) => (apply_count how A NA cap nc 0 S ns W (hE.below hW) (hN.below hW) hl (by omega) (fun i hi => short_L (hsb i hi)) h7 (hT.below (by omega) hW) (hP.below h4 hW) (by have := hW.size; omega) hh0 hh2).mono fun e w' h => count_is h)
  unfold CntP at HQC
  have HQM := Lib.hid (fun W (hW : Below w.heap.size w W) => (apply_max 0 A none cap 0 0 S [] W (hE.below hW) (nil_sts W) hl (by decide) (fun i hi => short_L (hsb i hi)) h7 (hT.below (by omega) hW) (hP.below h4 hW) (by have := hW.size; omega) (by omega) (by omega)).mono fun e w' h => none_is h hz)
  unfold NoneP at HQM
  have HQN := Lib.hid (fun W (hW : Below w.heap.size w W) => (apply_min 0 A none cap 0 0 S [] W (hE.below hW) (nil_sts W) hl (by decide) (fun i hi => short_L (hsb i hi)) h7 (hT.below (by omega) hW) (hP.below h4 hW) (by have := hW.size; omega) (by omega) (by omega)).mono fun e w' h => none_is h hz)
  unfold NoneP at HQN
  have HQT := Lib.hid (fun W (hW : Below w.heap.size w W) => (apply_topk A none cap 0 S [] W (hE.below hW) (nil_sts W) hl (by decide) (fun i hi => short_L (hsb i hi)) h7 (hT.below (by omega) hW) (hP.below h4 hW) (by have := hW.size; omega) ).mono fun e w' h => none_is h hz)
  unfold NoneP at HQT
  have HQB := Lib.hid (fun W (hW : Below w.heap.size w W) => (apply_bottomk A none cap 0 S [] W (hE.below hW) (nil_sts W) hl (by decide) (fun i hi => short_L (hsb i hi)) h7 (hT.below (by omega) hW) (hP.below h4 hW) (by have := hW.size; omega) ).mono fun e w' h => none_is h hz)
  unfold NoneP at HQB
  clear hE hN hT hP h5 h6 h7 hsb
  have d1 : decide (how < 0) = false := decide_eq_false (by omega)
  have d2 : decide (2 < how) = false := decide_eq_false (by omega)
  generalize hn : S.length = n at *
  have HSL := Lib.hid hn
  clear hn
  generalize ns.length = m0 at *
  subst hz
  go_enter Tryz.func3, Tryz.ntmps3
  go_wp2_with fail
  refine HA.out.mono ?_
  rintro e w1 ⟨rfl, hb1⟩
  have HB1 := Lib.hid hb1
  clear hb1
  go_wp2_with fail
  refine (HQ5.out w1 HB1.out).mono ?_
  rintro e w2 ⟨rfl, rfl⟩
  go_wp2_with fail
  refine (HQ6.out w1 HB1.out).mono ?_
  rintro e w2 ⟨rfl, rfl⟩
  go_wp2_with fail
  refine (HQ7.out w1 HB1.out).mono ?_
  rintro e w2 ⟨rfl, hb2⟩
  have HB2 := Lib.hid (HB1.out.trans (hb2.mono HB1.out.size))
  clear hb2
  go_wp2_with fail
  refine (HQC.out w2 HB2.out).mono ?_
  rintro e w3 ⟨τ, CA, m, cc, rfl, hτ, hmn, hsz, hce, hb3⟩
  have HB3 := Lib.hid (HB2.out.trans (hb3.mono HB2.out.size))
  have HTL := Lib.hid hτ
  have HSZ := Lib.hid hsz
  have HCE := Lib.hid hce
  clear hb3 hτ hsz hce
  obtain rfl : m = 0 := by omega
  have hf0 : floatOfInt .f64 0 = 0 := by decide
  have ho0 : (FloatKind.f64.format.order 0 0 != some .eq) = false := by decide
  go_upto_region 8 with fail
  go_wp2
  go_loopw [9, 10] (fun s9 s10 wr => s9 = .float .f64 0 ∧ s10 = .int .i64 0 ∧ Hid (Below w.heap.size w wr)) (fun _ _ _ => 0)
  case atStart => exact ⟨rfl, rfl, HB3⟩
  case round =>
    obtain ⟨rfl, rfl, HBR⟩ := hrel
    go_wp2_with fail
    refine (HQM.out _ HBR.out).mono ?_
    rintro e w4 ⟨MA, mc, rfl, hb4⟩
    have HB4 := Lib.hid (HBR.out.trans (hb4.mono HBR.out.size))
    clear hb4
    go_wp2_with fail
    refine (HQN.out _ HB4.out).mono ?_
    rintro e w5 ⟨NA', nc', rfl, hb5⟩
    have HB5 := Lib.hid (HB4.out.trans (hb5.mono HB4.out.size))
    clear hb5
    have htb := tobits
    go_wp2_with fail
    refine (HQT.out _ HB5.out).mono ?_
    rintro e w6 ⟨TA, tc, rfl, hb6⟩
    have HB6 := Lib.hid (HB5.out.trans (hb6.mono HB5.out.size))
    clear hb6
    go_wp2_with fail
    refine (HQB.out _ HB6.out).mono ?_
    rintro e w7 ⟨BA, bc, rfl, hb7⟩
    have HB7 := Lib.hid (HB6.out.trans (hb7.mono HB6.out.size))
    clear hb7
    go_wp2
    go_ret
    exact ⟨rfl, HB7.out⟩
end Go.Proofs.YtencpjhpedenbaaGreatDoor

namespace Go.Proofs.YtencpjhpedenbaaGreatDoor
open Go.RowKit Lb
set_option linter.unusedVariables false
set_option linter.unusedSimpArgs false
set_option maxRecDepth 100000
set_option maxHeartbeats 1000000

theorem topX_bits {S : List El} (h0 : 0 < S.length) (hb : ∀ i, i < S.length → Vl.Bits (valI S i)) : Vl.Bits (topX S).2 := by
  have hin := best_in gtI S (S.length - 1)
  rw [show (topX S).2 = (bestAt gtI S (S.length - 1)).1 from top_val gtI S, hin.2]
  exact hb _ (by have := hin.1; omega)
theorem botX_bits {S : List El} (h0 : 0 < S.length) (hb : ∀ i, i < S.length → Vl.Bits (valI S i)) : Vl.Bits (botX S).2 := by
  have hin := best_in ltI S (S.length - 1)
  rw [show (botX S).2 = (bestAt ltI S (S.length - 1)).1 from top_val ltI S, hin.2]
  exact hb _ (by have := hin.1; omega)
theorem val_cell {w w' : World} {S : List El} {ab ao i : Nat} (hE : Els w (some ⟨ab, ao, none⟩) S) (hb : Below w.heap.size w w') (hi : i < S.length) : w'.cell? ⟨ab, ao + i * 2 + 1, none⟩ = some (.int .u64 (valI S i)) := by
  obtain ⟨b, off, LA, lc, e, _, _, c, _⟩ := (hE.below hb).at_ hi
  injection e with e
  injection e with e1 e2
  subst e1; subst e2
  exact c
theorem ends_main (how : Int) (A NA : Option Addr) (cap nc : Nat) (S : List El) (ns : List ByteArray) (w : World) (hE : Els w A S) (hN : Sts w NA ns) (hT : Tabs w) (hP : PT w) (h4 : 4 ≤ w.heap.size) (hM : MainT how ns S) (hz : 0 < S.length) :
    Calls Tryz.prog 3 #[.int .i64 how, .slice NA ns.length nc, .slice A S.length cap] w fun e w' => e = .returned (.bool true) ∧ Below w.heap.size w w' := by
  obtain ⟨h5, h6, h7, hh0, hh2⟩ := hM
  obtain ⟨hl, hsb⟩ := short_s h5
  have hns := few_s h6
  have HA := Lib.hid (awake_any w hT hP h4)
  have HE := Lib.hid hE
  have HSH := Lib.hid (fun i hi => short_L (hsb i hi) : ∀ i, i < S.length → ShortL (S.getD i z0).1)
  have HSB := Lib.hid hsb
  have HV := Lib.hid h7
  have HQ5 := Lib.hid (fun W (hW : Below w.heap.size w W) => short_q' A cap S.length S true rfl h5 W (hE.below hW) (by omega) (fun i hi => by have := (short_L (hsb i hi)).1; omega))
  have HQ6 := Lib.hid (fun W (hW : Below w.heap.size w W) => few_q' NA nc ns.length ns true rfl h6 W (hN.below hW) (by omega))
  have HQ7 := Lib.hid (fun W (hW : Below w.heap.size w W) => vec_q' A cap S.length S true rfl h7 W (hE.below hW) hl hsb)
  have HQC := Lib.hid (fun W (hW : Below w.heap.size w W) => (apply_count how A NA cap nc 0 S ns W (hE.below hW) (hN.below hW) hl (by omega) (fun i hi => short_L (hsb i hi)) h7 (hT.below (by omega) hW) (hP.below h4 hW) (by have := hW.size; omega) hh0 hh2).mono fun e w' h => count_is h)
  unfold CntP at HQC
  have HQM := Lib.hid (fun W (hW : Below w.heap.size w W) => (apply_max 0 A none cap 0 0 S [] W (hE.below hW) (nil_sts W) hl (by decide) (fun i hi => short_L (hsb i hi)) h7 (hT.below (by omega) hW) (hP.below h4 hW) (by have := hW.size; omega) (by omega) (by omega)).mono fun e w' h => one_is h hz (([], hiV S) : El) rfl)
  unfold OneP at HQM
  have HQN := Lib.hid (fun W (hW : Below w.heap.size w W) => (apply_min 0 A none cap 0 0 S [] W (hE.below hW) (nil_sts W) hl (by decide) (fun i hi => short_L (hsb i hi)) h7 (hT.below (by omega) hW) (hP.below h4 hW) (by have := hW.size; omega) (by omega) (by omega)).mono fun e w' h => one_is h hz (([], loV S) : El) rfl)
  unfold OneP at HQN
  have HQT := Lib.hid (fun W (hW : Below w.heap.size w W) => (apply_topk A none cap 0 S [] W (hE.below hW) (nil_sts W) hl (by decide) (fun i hi => short_L (hsb i hi)) h7 (hT.below (by omega) hW) (hP.below h4 hW) (by have := hW.size; omega) ).mono fun e w' h => one_is h hz (topX S) rfl)
  unfold OneP at HQT
  have HQB := Lib.hid (fun W (hW : Below w.heap.size w W) => (apply_bottomk A none cap 0 S [] W (hE.below hW) (nil_sts W) hl (by decide) (fun i hi => short_L (hsb i hi)) h7 (hT.below (by omega) hW) (hP.below h4 hW) (by have := hW.size; omega) ).mono fun e w' h => one_is h hz (botX S) rfl)
  unfold OneP at HQB
  obtain ⟨ab, ao, rfl, hab⟩ := hE.addr hz
  have HTB := Lib.hid (topX_bits hz (fun i hi => els_bits HE.out hi))
  have HBB := Lib.hid (botX_bits hz (fun i hi => els_bits HE.out hi))
  clear hE hN hT hP h5 h6 h7 hsb
  have HHI := Lib.hid (fun hb hn => high_is (S := S) hz hb HV.out hn)
  have HLO := Lib.hid (fun hb hn => low_is (S := S) hz hb HV.out hn)
  have HBT := Lib.hid (fun i (hi : i < S.length) => els_bits HE.out hi)
  have d1 : decide (how < 0) = false := decide_eq_false (by omega)
  have d2 : decide (2 < how) = false := decide_eq_false (by omega)
  generalize hn : S.length = n at *
  have HSL := Lib.hid hn
  clear hn
  generalize ns.length = m0 at *
  go_enter Tryz.func3, Tryz.ntmps3
  go_wp2_with fail
  refine HA.out.mono ?_
  rintro e w1 ⟨rfl, hb1⟩
  have HB1 := Lib.hid hb1
  clear hb1
  go_wp2_with fail
  refine (HQ5.out w1 HB1.out).mono ?_
  rintro e w2 ⟨rfl, rfl⟩
  go_wp2_with fail
  refine (HQ6.out w1 HB1.out).mono ?_
  rintro e w2 ⟨rfl, rfl⟩
  go_wp2_with fail
  refine (HQ7.out w1 HB1.out).mono ?_
  rintro e w2 ⟨rfl, hb2⟩
  have HB2 := Lib.hid (HB1.out.trans (hb2.mono HB1.out.size))
  clear hb2
  go_wp2_with fail
  refine (HQC.out w2 HB2.out).mono ?_
  rintro e w3 ⟨τ, CA, m, cc, rfl, hτ, hmn, hsz, hce, hb3⟩
  have HB3 := Lib.hid (HB2.out.trans (hb3.mono HB2.out.size))
  have HTL := Lib.hid hτ
  have HSZ := Lib.hid hsz
  have HCE := Lib.hid hce
  clear hb3 hτ hsz hce
  obtain ⟨hi, hhi⟩ : ∃ x, hiV S = x := ⟨_, rfl⟩
  obtain ⟨lo, hlo⟩ : ∃ x, loV S = x := ⟨_, rfl⟩
  rw [hhi] at HQM HHI
  rw [hlo] at HQN HLO
  clear hhi hlo
  obtain ⟨tv, htv⟩ : ∃ x, (topX S).2 = x := ⟨_, rfl⟩
  obtain ⟨bv, hbv⟩ : ∃ x, (botX S).2 = x := ⟨_, rfl⟩
  rw [htv] at HQT HHI HTB
  rw [hbv] at HQB HLO HBB
  clear htv hbv
  simp only [List.length_nil] at HQM HQN
  generalize (topX S).1.length = tl at *
  generalize (botX S).1.length = bl at *
  go_upto_region 8 with fail
  go_wp2
  go_loopw [9, 10] (fun s9 s10 wr => ∃ k : Nat, k ≤ m ∧ s9 = .float .f64 (fl (sizeS (τ.take k))) ∧ s10 = .int .i64 k ∧ Hid (Below w3.heap.size w3 wr)) (fun _ s10 _ => m - (intOf s10).toNat)
  case atStart => exact ⟨0, Nat.zero_le _, by rw [List.take_zero]; show _ = Value.float .f64 (fl 0); rw [fl_zero], rfl, Below.refl _ _⟩
  case round =>
    obtain ⟨k, hk, rfl, rfl, HBR⟩ := hrel
    have HBW := Lib.hid (HB3.out.trans (HBR.out.mono HB3.out.size))
    by_cases hlt : k < m
    · have hkt : k < τ.length := by rw [HTL.out]; exact hlt
      obtain ⟨b, off, LA, lc, rfl, hb, c1, c2, _, _, _⟩ := (HCE.out.below HBR.out).at_ (i := k) (by rw [List.length_map]; exact hkt)
      have hst := size_take τ k hkt
      have hsn := size_le τ (k + 1)
      rw [HSZ.out] at hsn
      obtain ⟨q, hq⟩ : ∃ q, (τ.getD k q0).2.length = q := ⟨_, rfl⟩
      rw [hq] at hst
      have hq60 : q ≤ 60 := by omega
      have e2 : ((τ.map (finN cntF)).getD k z0).2 = ((fl q : Nat) : Int) := by
        rw [show (τ.map (finN cntF)).getD k z0 = finN cntF (τ.getD k q0) by simp [hkt]]
        show Vl.normI (cntF (τ.getD k q0).2 : Nat) = _
        unfold cntF
        rw [hq, if_pos hq60]
        exact (fl_norm hq60).1
      rw [e2] at c2
      have hadd : Ieee.double.add (fl (sizeS (τ.take k))) (fl q) = some (fl (sizeS (τ.take (k + 1)))) := by
        rw [hst]; exact fl_add (by omega)
      have hrun := fun (w : World) => run_float_arith (P := Tryz.prog) (w := w) .add 32 .f64 _ _ _ hadd
      have d : decide (k < m) = true := by simpa using hlt
      clear c1 hst hsn hq e2 hadd hkt
      obtain ⟨z, hz'⟩ : ∃ z, fl (sizeS (τ.take (k + 1))) = z := ⟨_, rfl⟩
      have HZ := Lib.hid hz'
      rw [hz'] at hrun
      clear hz'
      generalize fl (sizeS (τ.take k)) = a at *
      generalize fl q = x at *
      have HF9 := Lib.hid (fun W => Vl.float_any x W)
      go_wp2_with fail
      refine (HF9.out _).mono ?_
      rintro e w4 ⟨rfl, rfl⟩
      go_wp2
      go_roundw
      case rel => exact ⟨k + 1, by omega, by rw [HZ.out], by go_num, HBR⟩
      case measure => simp [intOf]; omega
    · have d : decide (k < m) = false := by simpa using hlt
      obtain rfl : m = k := by omega
      have hfull : sizeS (τ.take m) = n := by rw [← HTL.out, List.take_length]; exact HSZ.out
      have hf : floatOfInt .f64 (n : Int) = fl n := fl_of n
      have ho : (FloatKind.f64.format.order (fl n) (fl n) != some .eq) = false := by
        have := (fl_norm hl).2.2
        show (Ieee.double.order (fl n) (fl n) != some .eq) = false
        rw [this]; rfl
      rw [hfull]
      clear hfull
      generalize fl n = x at *
      have hn0 : ((n : Int) == 0) = false := by simp; omega
      have htb := tobits
      go_wp2_with fail
      refine (HQM.out _ HBW.out).mono ?_
      rintro e w4 ⟨bM, oM, LM, lM, cM, rfl, hbM, m0', m1, hb4⟩
      have HB4 := Lib.hid (HBW.out.trans (hb4.mono HBW.out.size))
      have HM0 := Lib.hid m0'
      have HM1 := Lib.hid m1
      clear hb4 m0' m1 hbM
      go_wp2_with fail
      refine (HQN.out _ HB4.out).mono ?_
      rintro e w5 ⟨bN, oN, LN, lN, cN, rfl, hbN, n0, n1, hb5⟩
      have HB5 := Lib.hid (HB4.out.trans (hb5.mono HB4.out.size))
      have HM0' := Lib.hid (cell_far hb5 HM0.out)
      have HM1' := Lib.hid (cell_far hb5 HM1.out)
      have HN1 := Lib.hid n1
      clear hb5 n0 n1 hbN HM0 HM1
      go_wp2_with fail
      refine (HQT.out _ HB5.out).mono ?_
      rintro e w6 ⟨bT, oT, LT, lT, cT, rfl, hbT, t0, t1, hb6⟩
      have HB6 := Lib.hid (HB5.out.trans (hb6.mono HB5.out.size))
      have HM0 := Lib.hid (cell_far hb6 HM0'.out)
      have HM1 := Lib.hid (cell_far hb6 HM1'.out)
      have HN1' := Lib.hid (cell_far hb6 HN1.out)
      have HT1 := Lib.hid t1
      clear hb6 t0 t1 hbT HM0' HM1' HN1
      go_wp2_with fail
      refine (HQB.out _ HB6.out).mono ?_
      rintro e w7 ⟨bB, oB, LB, lB, cB, rfl, hbB, b0, b1, hb7⟩
      have HB7 := Lib.hid (HB6.out.trans (hb7.mono HB6.out.size))
      have HM0' := Lib.hid (cell_far hb7 HM0.out)
      have HM1' := Lib.hid (cell_far hb7 HM1.out)
      have HN1 := Lib.hid (cell_far hb7 HN1'.out)
      have HT1' := Lib.hid (cell_far hb7 HT1.out)
      have HO1 := Lib.hid b1
      clear hb7 b0 b1 hbB HM0 HM1 HN1' HT1
      clear HQM HQN HQT HQB HQC HCE HSZ HTL
      have HSA := Lib.hid (fun i (hi : i < n) => val_cell HE.out (HB7.out) (by rw [HSL.out]; exact hi) : ∀ i, i < n → w7.cell? ⟨ab, ao + i * 2 + 1, none⟩ = some (.int .u64 (valI S i)))
      have HBI := HBT
      have hd1 : decide ((0 : Int) < 1) = true := by decide
      go_upto_region 22 with fail
      go_loopw [19] (fun s19 wr => ∃ k : Nat, k ≤ n ∧ s19 = .int .i64 k ∧ Hid (w7 = wr) ∧ Hid (∀ i, i < k → Vl.noneB (valI S i) = false)) (fun s19 _ => n - (intOf s19).toNat)
      case atStart => exact ⟨0, Nat.zero_le _, rfl, rfl, fun i hi => absurd hi (Nat.not_lt_zero _)⟩
      case round =>
        obtain ⟨k, hk, rfl, HW, HNO⟩ := hrel
        obtain rfl : w7 = wr := HW
        by_cases hlt : k < n
        · have c2 := HSA.out k hlt
          have hbk := HBI.out k hlt
          have d : decide (k < n) = true := by simpa using hlt
          have HNK : Hid (∀ r, Vl.noneB (valI S k) = r → ∀ i, i < k + 1 → r = false → Vl.noneB (valI S i) = false) := fun r hr i hi hf => by
            by_cases hik : i = k
            · rw [hik, hr]; exact hf
            · exact HNO.out i (by omega)
          have HI := Lib.hid (fun W => Vl.isnone_any (valI S k) hbk W)
          generalize hvk : valI S k = v at *
          clear hvk
          cases hno : Vl.noneB v with
          | true =>
            rw [hno] at HI
            clear hno
            go_wp2_with fail
            refine (HI.out _).mono ?_
            rintro e w8 ⟨rfl, rfl⟩
            go_wp2
            go_ret
            exact ⟨rfl, HB7.out⟩
          | false =>
            have HNK2 := Lib.hid (fun i hi => HNK.out false hno i hi rfl)
            rw [hno] at HI
            clear hno HNK
            go_wp2_with fail
            refine (HI.out _).mono ?_
            rintro e w8 ⟨rfl, rfl⟩
            go_wp2
            go_roundw
            case rel => exact ⟨k + 1, by omega, by go_num, Lib.hid True.intro, HNK2⟩
            case measure => simp [intOf]; omega
        · have d : decide (k < n) = false := by simpa using hlt
          obtain rfl : n = k := by omega
          obtain ⟨hbH, hmax, hcmpH⟩ := HHI.out HBI.out HNO.out
          obtain ⟨hbL, hmin, hcmpL⟩ := HLO.out HBI.out HNO.out
          have HKH := Lib.hid (fun i hi' => (key_cmp (hmax i hi')).1)
          have HKL := Lib.hid (fun i hi' => (key_cmp (hmin i hi')).2)
          have HCT := Lib.hid (fun W => Vl.refcmp_any _ _ HTB.out hbH W)
          have HCB := Lib.hid (fun W => Vl.refcmp_any _ _ HBB.out hbL W)
          rw [hcmpH] at HCT
          rw [hcmpL] at HCB
          have HCH := Lib.hid (fun i hi' W => Vl.refcmp_any _ _ (HBI.out i hi') hbH W)
          have HCL := Lib.hid (fun i hi' W => Vl.refcmp_any _ _ (HBI.out i hi') hbL W)
          clear hmax hmin hcmpH hcmpL hbH hbL HHI HLO HBI HTB HBB HNO d hlt hk
          go_wp2
          go_loopw [20] (fun s20 wr => ∃ k : Nat, k ≤ n ∧ s20 = .int .i64 k ∧ Hid (Below w7.heap.size w7 wr)) (fun s20 _ => n - (intOf s20).toNat)
          case atStart => exact ⟨0, Nat.zero_le _, rfl, Below.refl _ _⟩
          case round =>
            obtain ⟨k, hk, rfl, HB8⟩ := hrel
            by_cases hlt : k < n
            · have c2 := cell_far HB8.out (HSA.out k hlt)
              have cM := cell_far HB8.out HM1'.out
              have cN := cell_far HB8.out HN1.out
              have HX := Lib.hid (HCH.out k hlt)
              have HY := Lib.hid (HCL.out k hlt)
              have f1 := HKH.out k hlt
              have f2 := HKL.out k hlt
              have d : decide (k < n) = true := by simpa using hlt
              generalize valI S k = v at *
              generalize Vl.cmpI v hi = q1 at *
              generalize Vl.cmpI v lo = q2 at *
              go_wp2_with fail
              have hd1 : decide ((0 : Int) < 1) = true := by decide
              go_region_held3 (fun W => W.cell? ⟨ab, ao + k * 2 + 1, none⟩ = some (.int .u64 v) ∧ W.cell? ⟨bM, oM + 1, none⟩ = some (.int .u64 hi) ∧ W.cell? ⟨bN, oN + 1, none⟩ = some (.int .u64 lo) ∧ Below wr.heap.size wr W) (first | (exact ⟨c2, cM, cN, (Below.refl _ _).drew⟩) | assumption | go_keep) (first | (go_at_call 12; (first | (with_reducible refine (HX.out _).mono ?_) | (with_reducible refine (HY.out _).mono ?_)); rintro e w8 ⟨rfl, rfl⟩))
              have hSE := ‹World.cell? _ ⟨ab, ao + k * 2 + 1, none⟩ = some (.int .u64 v) ∧ World.cell? _ ⟨bM, oM + 1, none⟩ = some (.int .u64 hi) ∧ World.cell? _ ⟨bN, oN + 1, none⟩ = some (.int .u64 lo) ∧ Below wr.heap.size wr _›
              have HB9 := Lib.hid (HB8.out.trans (hSE.2.2.2.mono HB8.out.size))
              clear hSE
              go_wp2
              go_roundw
              case rel => exact ⟨k + 1, by omega, by go_num, HB9⟩
              case measure => simp [intOf]; omega
            · have d : decide (k < n) = false := by simpa using hlt
              have cM := cell_far HB8.out HM1'.out
              have cM0 := cell_far HB8.out HM0'.out
              have cN := cell_far HB8.out HN1.out
              have cT := cell_far HB8.out HT1'.out
              have cB := cell_far HB8.out HO1.out
              have HPN := Lib.hid (fun W => part_none LM lM W)
              go_wp2_with fail
              have hd1 : decide ((0 : Int) < 1) = true := by decide
              go_region_held3 (fun W => W.cell? ⟨bT, oT + 1, none⟩ = some (.int .u64 tv) ∧ W.cell? ⟨bB, oB + 1, none⟩ = some (.int .u64 bv) ∧ W.cell? ⟨bM, oM, none⟩ = some (.slice LM 0 lM) ∧ W.cell? ⟨bM, oM + 1, none⟩ = some (.int .u64 hi) ∧ W.cell? ⟨bN, oN + 1, none⟩ = some (.int .u64 lo) ∧ Below wr.heap.size wr W) (first | (exact ⟨cT, cB, cM0, cM, cN, (Below.refl _ _).drew⟩) | assumption | go_keep) (first | (go_at_call 12; (first | (with_reducible refine (HCT.out _).mono ?_) | (with_reducible refine (HCB.out _).mono ?_)); rintro e w8 ⟨rfl, rfl⟩) | (go_at_call 13; refine (HPN.out _).mono ?_; rintro e w8 ⟨rfl, rfl⟩))
              have hSE := ‹World.cell? _ ⟨bT, oT + 1, none⟩ = some (.int .u64 tv) ∧ World.cell? _ ⟨bB, oB + 1, none⟩ = some (.int .u64 bv) ∧ World.cell? _ ⟨bM, oM, none⟩ = some (.slice LM 0 lM) ∧ World.cell? _ ⟨bM, oM + 1, none⟩ = some (.int .u64 hi) ∧ World.cell? _ ⟨bN, oN + 1, none⟩ = some (.int .u64 lo) ∧ Below wr.heap.size wr _›
              have HB9 := Lib.hid (HB7.out.trans ((HB8.out.trans (hSE.2.2.2.2.2.mono HB8.out.size)).mono HB7.out.size))
              clear hSE
              go_wp2
              go_ret
              exact ⟨rfl, HB9.out⟩
end Go.Proofs.YtencpjhpedenbaaGreatDoor

namespace Go.Proofs.YtencpjhpedenbaaGreatDoor
open Go.RowKit Lb

theorem ends_law (how : Int) (A NA : Option Addr) (cap nc : Nat) (S : List El) (ns : List ByteArray) (w : World) (hE : Els w A S) (hN : Sts w NA ns) (hl : S.length ≤ 9223372036854775807) (hll : ∀ i, i < S.length → (S.getD i z0).1.length ≤ 9223372036854775807) (hns : ns.length ≤ 9223372036854775807) (hT : Tabs w) (hP : PT w) (h4 : 4 ≤ w.heap.size) :
    Calls Tryz.prog 3 #[.int .i64 how, .slice NA ns.length nc, .slice A S.length cap] w fun e w' => e = .returned (.bool true) ∧ Below w.heap.size w w' := by
  by_cases hM : MainT how ns S
  · by_cases hz : S.length = 0
    · exact ends_none how A NA cap nc S ns w hE hN hT hP h4 hM hz
    · exact ends_main how A NA cap nc S ns w hE hN hT hP h4 hM (by omega)
  · exact ends_early how A NA cap nc S ns w hE hN hl hll hns hT hP h4 hM
end Go.Proofs.YtencpjhpedenbaaGreatDoor

/- A decimal text has digits, points, signs, letters e alone. No condition. -/
import Derived.Lib.IndexAny
import Derived.Test.YtofndhmnofghaaaGreatDoorD2j
import Derived.Test.YtofndhmnofghaaaGreatDoorSkj
namespace Go.Proofs.YtofndhmnofghaaaGreatDoor.Sl
open Go.RowKit
set_option linter.unusedVariables false

def Alk (b : UInt8) : Prop := (48 ≤ b.toNat ∧ b.toNat ≤ 57) ∨ b.toNat = 46 ∨ b.toNat = 43 ∨ b.toNat = 45 ∨ b.toNat = 101 ∨ b.toNat = 69
theorem take_mem {g : List UInt8} {s : ByteArray} {k : Nat} (h : takeB g s k = true) : ∃ hk : k < s.size, s[k] ∈ g := by
  unfold takeB at h
  split at h
  · rename_i hk
    refine ⟨hk, ?_⟩
    rw [← Lib.contains_iff_indexByte] at h
    simpa using h
  · cases h
theorem digs_all (s : ByteArray) : ∀ (f k i : Nat), s.size - k ≤ f → k ≤ i → i < k + digs s k → takeB [48, 49, 50, 51, 52, 53, 54, 55, 56, 57] s i = true
  | f, k, i, hf, h1, h2 => by
    cases ht : takeB [48, 49, 50, 51, 52, 53, 54, 55, 56, 57] s k with
    | false => rw [digs_no ht] at h2; omega
    | true =>
      by_cases e : i = k
      · subst e; exact ht
      · rw [digs_yes ht] at h2
        have hl := take_lt ht
        match f with
        | 0 => omega
        | f + 1 => exact digs_all s f (k + 1) i (by omega) (by omega) (by omega)
def AlTo (s : ByteArray) (n : Nat) : Prop := ∀ i (h : i < s.size), i < n → Alk s[i]
theorem alto_take {s : ByteArray} {k : Nat} {g : List UInt8} (h : AlTo s k) (hg : ∀ b ∈ g, Alk b) : AlTo s (nxt (takeB g s k) k) := by
  intro i hi hk
  cases ht : takeB g s k with
  | false => rw [ht] at hk; exact h i hi hk
  | true =>
    rw [ht] at hk
    have hk : i < k + 1 := hk
    by_cases e : i = k
    · subst e
      obtain ⟨_, hm⟩ := take_mem ht
      exact hg _ hm
    · exact h i hi (by omega)
theorem al_tens : ∀ b ∈ ([48, 49, 50, 51, 52, 53, 54, 55, 56, 57] : List UInt8), Alk b := by
  intro b hb
  have : ∀ b ∈ ([48, 49, 50, 51, 52, 53, 54, 55, 56, 57] : List UInt8), 48 ≤ b.toNat ∧ b.toNat ≤ 57 := by decide
  exact .inl (this b hb)
theorem alto_digs {s : ByteArray} {k : Nat} (h : AlTo s k) : AlTo s (k + digs s k) := by
  intro i hi hk
  by_cases e : i < k
  · exact h i hi e
  · obtain ⟨_, hm⟩ := take_mem (digs_all s _ k i (Nat.le_refl _) (by omega) hk)
    exact al_tens _ hm
theorem alto_size {s : ByteArray} {n : Nat} (h : AlTo s n) (hn : n = s.size) : Al s := by
  subst hn; exact fun i hi => h i hi hi
theorem endB_al {s : ByteArray} {c : Nat} (h : AlTo s c) (he : endB s c = true) : Al s := by
  unfold endB at he
  split at he
  · exact alto_size h (Int.ofNat.inj (beq_iff_eq.1 he))
  · rename_i ht
    split at he
    · cases he
    · have h1 : AlTo s (c + 1) := by
        have := alto_take (g := [101, 69]) h (by intro b hb; simp at hb; rcases hb with rfl | rfl <;> (unfold Alk; decide))
        rw [ht] at this; exact this
      have h2 := alto_take (g := [43, 45]) h1 (by intro b hb; simp at hb; rcases hb with rfl | rfl <;> (unfold Alk; decide))
      exact alto_size (alto_digs h2) (by
        have he := beq_iff_eq.1 he
        exact Int.ofNat.inj he)
theorem decB_al {s : ByteArray} (h : decB s = true) : Al s := by
  have h0 : AlTo s 0 := fun i _ hi => absurd hi (Nat.not_lt_zero _)
  have h1 := alto_digs (alto_take (g := [45]) h0 (by intro b hb; simp at hb; subst hb; unfold Alk; decide))
  unfold decB at h
  split at h
  · split at h
    · cases h
    · exact endB_al h1 h
  · rename_i ht
    split at h
    · cases h
    · have h2 := alto_take (g := [46]) h1 (by intro b hb; simp at hb; subst hb; unfold Alk; decide)
      rw [ht] at h2
      exact endB_al (alto_digs h2) h
end Go.Proofs.YtofndhmnofghaaaGreatDoor.Sl

namespace Go.Proofs.YtofndhmnofghaaaGreatDoor.Sl
open Go.RowKit
set_option linter.unusedVariables false

theorem ret_nat {a b : Nat} (h : a = b) : Ending.returned (.int .i64 (a : Int)) = .returned (.int .i64 (b : Int)) := by rw [h]
theorem byte_is (c : UInt8) (n : Nat) (h : n < 256) (hc : c = UInt8.ofNat n) : (c.toNat : Int) = (n : Int) := by
  subst hc; simp [Nat.mod_eq_of_lt h]
theorem byte_not (c : UInt8) (n : Nat) (h : n < 256) (hc : c ≠ UInt8.ofNat n) : ((c.toNat : Int) == (n : Int)) = false := by
  refine beq_eq_false_iff_ne.2 fun e => hc ?_
  rw [← UInt8.toNat_inj]
  simp [Nat.mod_eq_of_lt h]; omega
def isD (c : UInt8) : Bool := decide (48 ≤ c.toNat) && decide (c.toNat ≤ 57)
theorem take_tens (s : ByteArray) (k : Nat) (h : k < s.size) : takeB [48, 49, 50, 51, 52, 53, 54, 55, 56, 57] s k = isD s[k] := by
  have h0 : ∀ n : Nat, n < 256 → decide (0 ≤ Lib.indexByte [48, 49, 50, 51, 52, 53, 54, 55, 56, 57] (UInt8.ofNat n)) = isD (UInt8.ofNat n) := by decide +kernel
  have h1 := h0 s[k].toNat s[k].toNat_lt
  rw [UInt8.ofNat_toNat] at h1
  unfold takeB
  rw [dif_pos h]
  exact h1
theorem take_out (g : List UInt8) (s : ByteArray) (k : Nat) (h : s.size ≤ k) : takeB g s k = false := by
  unfold takeB; rw [dif_neg (by omega)]
theorem take_in (g : List UInt8) (s : ByteArray) (k : Nat) (h : k < s.size) : takeB g s k = g.contains s[k] := by
  unfold takeB; rw [dif_pos h, ← Lib.contains_iff_indexByte]
theorem refdig_any (c : UInt8) (w : World) : Calls Tryz.prog 48 #[.int .u8 (c.toNat : Int)] w fun e w' => e = .returned (.bool (isD c)) ∧ w = w' := by
  unfold isD
  generalize c.toNat = n
  by_cases h1 : 48 ≤ n
  · have d : (48 : Int) ≤ (n : Int) := by omega
    have hr : (decide (48 ≤ n) && decide (n ≤ 57)) = decide ((n : Int) ≤ 57) := by rw [decide_eq_true h1, Bool.true_and]; exact decide_eq_decide.2 (by omega)
    rw [hr]
    clear hr
    go_enter Tryz.func48, Tryz.ntmps48
    go_wp2
    go_ret
    exact ⟨rfl, rfl⟩
  · have d : ¬ (48 : Int) ≤ (n : Int) := by omega
    have hr : (decide (48 ≤ n) && decide (n ≤ 57)) = false := by rw [decide_eq_false h1, Bool.false_and]
    rw [hr]
    clear hr
    go_enter Tryz.func48, Tryz.ntmps48
    go_wp2
    go_ret
    exact ⟨rfl, rfl⟩
theorem refdigs_any (s : ByteArray) (k : Nat) (w : World) (hs : s.size ≤ 65536) (hk : k ≤ s.size) : Calls Tryz.prog 35 #[.string s, .int .i64 (k : Int)] w fun e w' => e = .returned (.int .i64 (digs s k : Int)) ∧ w = w' := by
  have HD := Lib.hid refdig_any
  have HT := Lib.hid (take_tens s)
  generalize hr : digs s k = r
  have HR := Lib.hid hr
  clear hr
  go_enter Tryz.func35, Tryz.ntmps35
  go_wp2_with fail
  go_loopg [5] s.size (fun g s5 wx => ∃ j : Nat, k + j ≤ s.size ∧ s.size ≤ g + (k + j) ∧ s5 = .int .i64 (j : Int) ∧ Hid (j + digs s (k + j) = r) ∧ w = wx)
  case atStart => exact ⟨0, by omega, by omega, rfl, by show _ = _; rw [Nat.zero_add]; exact HR.out, rfl⟩
  case round =>
    obtain ⟨j, hj, hg, rfl, HJ, rfl⟩ := hrel
    by_cases hlt : k + j < s.size
    · have d : (k : Int) + (j : Int) < (s.size : Int) := by omega
      have ht := HT.out (k + j) hlt
      have HDJ := Lib.hid (HD.out (s[k + j]'hlt))
      cases hd : isD s[k + j] with
      | true =>
        rw [hd] at HDJ ht
        have hjj := HJ.out
        rw [digs_yes ht] at hjj
        have HK : Hid (j + 1 + digs s (k + (j + 1)) = r) := by show _ = _; rw [← hjj, ← Nat.add_assoc k j 1]; omega
        obtain ⟨g, rfl⟩ : ∃ g, gk = g + 1 := ⟨gk - 1, by omega⟩
        clear ht hd hjj HJ
        go_wp2_with fail
        refine (HDJ.out _).mono ?_
        rintro e w1 ⟨rfl, rfl⟩
        go_wp2_with fail
        go_roundg g
        case measure => omega
        case rel => exact ⟨j + 1, by omega, by omega, by go_num, HK, rfl⟩
      | false =>
        rw [hd] at HDJ ht
        have hjj := HJ.out
        rw [digs_no ht] at hjj
        have HX : Hid (j = r) := hjj
        clear ht hd hjj HJ
        go_wp2_with fail
        refine (HDJ.out _).mono ?_
        rintro e w1 ⟨rfl, rfl⟩
        go_wp2_with fail
        go_ret
        exact ⟨ret_nat HX.out, rfl⟩
    · have d : ¬ (k : Int) + (j : Int) < (s.size : Int) := by omega
      have hjj := HJ.out
      rw [digs_no (take_out _ s (k + j) (by omega))] at hjj
      have HX : Hid (j = r) := hjj
      clear hjj HJ
      go_wp2_with fail
      go_ret
      exact ⟨ret_nat HX.out, rfl⟩
theorem take_one (b : UInt8) (s : ByteArray) (k : Nat) : takeB [b] s k = true → ∃ h : k < s.size, s[k] = b := fun h => by
  obtain ⟨hk, hm⟩ := take_mem h
  exact ⟨hk, by simpa using hm⟩
theorem take_two (b d : UInt8) (s : ByteArray) (k : Nat) : takeB [b, d] s k = true → ∃ h : k < s.size, s[k] = b ∨ s[k] = d := fun h => by
  obtain ⟨hk, hm⟩ := take_mem h
  exact ⟨hk, by simpa using hm⟩
theorem take_one_no (b : UInt8) (s : ByteArray) (k : Nat) (h : takeB [b] s k = false) : s.size ≤ k ∨ ∃ h : k < s.size, s[k] ≠ b := by
  rcases Nat.lt_or_ge k s.size with hk | hk
  · right
    refine ⟨hk, fun e => ?_⟩
    rw [take_in _ _ _ hk] at h
    simp [e] at h
  · exact .inl hk
theorem take_two_no (b d : UInt8) (s : ByteArray) (k : Nat) (h : takeB [b, d] s k = false) : s.size ≤ k ∨ ∃ h : k < s.size, s[k] ≠ b ∧ s[k] ≠ d := by
  rcases Nat.lt_or_ge k s.size with hk | hk
  · right
    rw [take_in _ _ _ hk] at h
    simp at h
    exact ⟨hk, h.1, h.2⟩
  · exact .inl hk
theorem decB_end (s : ByteArray) (a n1 : Nat) (ha : nxt (takeB [45] s 0) 0 = a) (h1 : digs s a = n1) :
    decB s = if (if takeB [46] s (a + n1) = true then n1 + digs s (a + n1 + 1) else n1) = 0 then false else endB s (if takeB [46] s (a + n1) = true then a + n1 + 1 + digs s (a + n1 + 1) else a + n1) := by
  unfold decB
  rw [ha, h1]
  cases h : takeB [46] s (a + n1) with
  | false => simp
  | true => simp
theorem endB_no {s : ByteArray} {c : Nat} (h : takeB [101, 69] s c = false) : endB s c = ((c : Int) == (s.size : Int)) := by
  unfold endB; rw [h]
theorem endB_yes {s : ByteArray} {c d m : Nat} (h : takeB [101, 69] s c = true) (hd : nxt (takeB [43, 45] s (c + 1)) (c + 1) = d) (hm : digs s d = m) : endB s c = if m = 0 then false else ((d + m : Nat) : Int) == (s.size : Int) := by
  unfold endB; rw [h]; simp only [hd, hm]
set_option maxRecDepth 100000 in
set_option maxHeartbeats 2000000 in
theorem plain04_any (s : ByteArray) (w : World) (hs : s.size ≤ 65536) : Calls Tryz.prog 26 #[.string s] w fun e w' => e = .returned (.bool (decB s)) ∧ w = w' := by
  have HDG := Lib.hid (fun k W hk => refdigs_any s k W hs hk)
  obtain ⟨a, ha⟩ : ∃ a, nxt (takeB [45] s 0) 0 = a := ⟨_, rfl⟩
  obtain ⟨n1, hn1⟩ : ∃ n1, digs s a = n1 := ⟨_, rfl⟩
  have hde := decB_end s a n1 ha hn1
  have haz : a ≤ s.size ∧ a ≤ 1 := by
    cases ht : takeB [45] s 0 with
    | false => rw [ht] at ha; have : a = 0 := ha.symm; omega
    | true => rw [ht] at ha; have := take_lt ht; have : a = 1 := ha.symm; omega
  have hn1z : a + n1 ≤ s.size := by rw [← hn1]; exact digs_le s a haz.1
  obtain ⟨n, hn⟩ : ∃ n, (if takeB [46] s (a + n1) = true then n1 + digs s (a + n1 + 1) else n1) = n := ⟨_, rfl⟩
  obtain ⟨c, hc⟩ : ∃ c, (if takeB [46] s (a + n1) = true then a + n1 + 1 + digs s (a + n1 + 1) else a + n1) = c := ⟨_, rfl⟩
  rw [hn, hc] at hde
  have hcz : c ≤ s.size := by
    rw [← hc]
    split
    · rename_i h
      have := take_lt h
      exact digs_le s (a + n1 + 1) (by omega)
    · exact hn1z
  have hnz : n ≤ s.size := by
    rw [← hn]
    split
    · rename_i h
      have := take_lt h
      have := digs_le s (a + n1 + 1) (by omega)
      omega
    · omega
  obtain ⟨r, hr⟩ : ∃ r, decB s = r := ⟨_, rfl⟩
  rw [hr] at hde ⊢
  have HDE := Lib.hid hde
  have HA := Lib.hid ha
  have HN1 := Lib.hid hn1
  have HN := Lib.hid hn
  have HC := Lib.hid hc
  obtain ⟨haz1, haz2⟩ := haz
  clear hr hde ha hn1 hn hc
  go_enter Tryz.func26, Tryz.ntmps26
  go_upto_region 2 with fail
  go_cut [14] (fun s14 wx => s14 = .bool (takeB [45] s 0) ∧ w = wx)
  case first =>
    cases ht : takeB [45] s 0 with
    | true =>
      obtain ⟨h0, h45⟩ := take_one _ _ _ ht
      have e45 : (s[0].toNat : Int) = 45 := byte_is _ 45 (by omega) h45
      have HTT := Lib.hid ht
      clear ht h45
      go_wp2_with fail
      go_meet
      exact ⟨by rw [HTT.out], rfl⟩
    | false =>
      rcases take_one_no _ _ _ ht with h0 | ⟨h0, h45⟩
      · have e0 : ¬ (0 : Int) < (s.size : Int) := by omega
        have HTT := Lib.hid ht
        clear ht
        go_wp2_with fail
        go_meet
        exact ⟨by rw [HTT.out], rfl⟩
      · have e45 : ((s[0].toNat : Int) == 45) = false := byte_not _ 45 (by omega) h45
        have HTT := Lib.hid ht
        clear ht h45
        go_wp2_with fail
        go_meet
        exact ⟨by rw [HTT.out], rfl⟩
  case rest =>
  obtain ⟨rfl, rfl⟩ := hcut
  go_upto_if 14 with fail
  go_cut [3] (fun s3 wx => s3 = .int .i64 (a : Int) ∧ w = wx)
  case first =>
    have hA := HA.out
    cases ht : takeB [45] s 0 with
    | true =>
      rw [ht] at hA
      have hA : 1 = a := hA
      subst hA
      go_wp2_with fail
      go_meet
      exact ⟨rfl, rfl⟩
    | false =>
      rw [ht] at hA
      have hA : 0 = a := hA
      subst hA
      go_wp2_with fail
      go_meet
      exact ⟨rfl, rfl⟩
  case rest =>
  obtain ⟨rfl, rfl⟩ := hcut
  have HG1 := Lib.hid (fun W => HDG.out a W haz1)
  rw [HN1.out] at HG1
  go_wp2_with fail
  refine (HG1.out _).mono ?_
  rintro e w1 ⟨rfl, rfl⟩
  have h3i : (a : Int) + (n1 : Int) ≤ (s.size : Int) := by omega
  go_upto_region 6 with fail
  go_cut [30] (fun s30 wx => s30 = .bool (takeB [46] s (a + n1)) ∧ w = wx)
  case first =>
    cases ht : takeB [46] s (a + n1) with
    | true =>
      obtain ⟨h0, h46⟩ := take_one _ _ _ ht
      have e0 : (a : Int) + (n1 : Int) < (s.size : Int) := by omega
      have e46 : ((s[a + n1]'h0).toNat : Int) = 46 := byte_is _ 46 (by omega) h46
      have HTT := Lib.hid ht
      clear ht h46
      go_wp2_with fail
      go_meet
      exact ⟨by rw [HTT.out], rfl⟩
    | false =>
      rcases take_one_no _ _ _ ht with h0 | ⟨h0, h46⟩
      · have e0 : ¬ (a : Int) + (n1 : Int) < (s.size : Int) := by omega
        have HTT := Lib.hid ht
        clear ht
        go_wp2_with fail
        go_meet
        exact ⟨by rw [HTT.out], rfl⟩
      · have e0 : (a : Int) + (n1 : Int) < (s.size : Int) := by omega
        have e46 : (((s[a + n1]'h0).toNat : Int) == 46) = false := byte_not _ 46 (by omega) h46
        have HTT := Lib.hid ht
        clear ht h46
        go_wp2_with fail
        go_meet
        exact ⟨by rw [HTT.out], rfl⟩
  case rest =>
  obtain ⟨rfl, rfl⟩ := hcut
  go_upto_if 30 with fail
  go_cut [3, 4] (fun s3 s4 wx => s3 = .int .i64 (c : Int) ∧ s4 = .int .i64 (n : Int) ∧ w = wx)
  case first =>
    have hC := HC.out
    have hNN := HN.out
    cases ht : takeB [46] s (a + n1) with
    | true =>
      have h0 := take_lt ht
      rw [ht, if_pos rfl] at hC hNN
      obtain ⟨n2, hn2⟩ : ∃ n2, digs s (a + n1 + 1) = n2 := ⟨_, rfl⟩
      have HG2 := Lib.hid (fun W => HDG.out (a + n1 + 1) W (by omega))
      rw [hn2] at hC hNN HG2
      have g1 : ((a + n1 + 1 : Nat) : Int) = (a : Int) + (n1 : Int) + 1 := by omega
      rw [g1] at HG2
      have hci : (a : Int) + (n1 : Int) + 1 + (n2 : Int) = (c : Int) := by omega
      have hni : (n1 : Int) + (n2 : Int) = (n : Int) := by omega
      have HCI := Lib.hid hci
      have HNI := Lib.hid hni
      have e1 : (a : Int) + (n1 : Int) + 1 ≤ (s.size : Int) := by omega
      have e2 : (n2 : Int) ≤ 65536 := by omega
      have e3 : (n1 : Int) ≤ 65536 := by omega
      clear hC hNN hn2 g1 hci hni ht h0
      go_wp2_with fail
      refine (HG2.out _).mono ?_
      rintro e w1 ⟨rfl, rfl⟩
      go_wp2_with fail
      go_meet
      exact ⟨by rw [← HCI.out], by rw [← HNI.out], rfl⟩
    | false =>
      rw [ht, if_neg (by decide)] at hC hNN
      have hci : (a : Int) + (n1 : Int) = (c : Int) := by omega
      have hni : (n1 : Int) = (n : Int) := by omega
      have HCI := Lib.hid hci
      have HNI := Lib.hid hni
      clear hC hNN hci hni ht
      go_wp2_with fail
      go_meet
      exact ⟨by rw [← HCI.out], by rw [← HNI.out], rfl⟩
  case rest =>
  obtain ⟨rfl, rfl, rfl⟩ := hcut
  have hde := HDE.out
  by_cases hz : n = 0
  · subst hz
    rw [if_pos rfl] at hde
    subst hde
    go_wp2_with fail
    go_ret
    exact ⟨rfl, rfl⟩
  · rw [if_neg hz] at hde
    have hzi : (0 : Int) < (n : Int) := by omega
    cases ht : takeB [101, 69] s c with
    | false =>
      rw [endB_no ht] at hde
      subst hde
      rcases take_two_no _ _ _ _ ht with h0 | ⟨h0, h1, h2⟩
      · have e0 : ¬ (c : Int) < (s.size : Int) := by omega
        clear ht hz HDE
        go_wp2_with fail
        go_ret
        exact ⟨rfl, rfl⟩
      · have e0 : (c : Int) < (s.size : Int) := by omega
        have e1 : ((s[c].toNat : Int) == 101) = false := byte_not _ 101 (by omega) h1
        have e2 : ((s[c].toNat : Int) == 69) = false := byte_not _ 69 (by omega) h2
        clear ht h1 h2 hz HDE
        go_wp2_with fail
        go_ret
        exact ⟨rfl, rfl⟩
    | true =>
      obtain ⟨d, hd⟩ : ∃ d, nxt (takeB [43, 45] s (c + 1)) (c + 1) = d := ⟨_, rfl⟩
      obtain ⟨m, hm⟩ : ∃ m, digs s d = m := ⟨_, rfl⟩
      rw [endB_yes ht hd hm] at hde
      obtain ⟨h0, h1⟩ := take_two _ _ _ _ ht
      have hdz : d ≤ s.size := by
        rw [← hd]
        cases h : takeB [43, 45] s (c + 1) with
        | false => exact h0
        | true => have := take_lt h; exact this
      have hmz : d + m ≤ s.size := by rw [← hm]; exact digs_le s d hdz
      have HDD := Lib.hid hd
      have HG3 := Lib.hid (fun W => HDG.out d W hdz)
      rw [hm] at HG3
      have HDE2 := Lib.hid hde
      have hc1 : ((c + 1 : Nat) : Int) = (c : Int) + 1 := by omega
      have HC1 := Lib.hid hc1
      clear hd hm hde ht HDE hc1
      have h1i : ((s[c].toNat : Int) == 101) = true ∨ ((s[c].toNat : Int) == 101) = false ∧ ((s[c].toNat : Int) == 69) = true := by
        rcases h1 with h | h
        · left; rw [byte_is _ 101 (by omega) h]; rfl
        · right; rw [byte_is _ 69 (by omega) h]; exact ⟨rfl, rfl⟩
      have e0 : (c : Int) < (s.size : Int) := by omega
      go_upto_region 10 with fail
      go_cut [61] (fun s61 wx => s61 = .bool true ∧ w = wx)
      case first =>
        rcases h1i with h | ⟨h, h'⟩
        · go_wp2_with fail
          go_meet
          exact ⟨rfl, rfl⟩
        · go_wp2_with fail
          go_meet
          exact ⟨rfl, rfl⟩
      case rest =>
      obtain ⟨rfl, rfl⟩ := hcut
      clear h1i h1
      go_upto_region 12 with fail
      go_cut [79] (fun s79 wx => s79 = .bool (takeB [43, 45] s (c + 1)) ∧ w = wx)
      case first =>
        cases ht : takeB [43, 45] s (c + 1) with
        | true =>
          obtain ⟨k0, k1⟩ := take_two _ _ _ _ ht
          have f0 : (c : Int) + 1 < (s.size : Int) := by omega
          have k1i : (((s[c + 1]'k0).toNat : Int) == 43) = true ∨ (((s[c + 1]'k0).toNat : Int) == 43) = false ∧ (((s[c + 1]'k0).toNat : Int) == 45) = true := by
            rcases k1 with h | h
            · left; rw [byte_is _ 43 (by omega) h]; rfl
            · right; rw [byte_is _ 45 (by omega) h]; exact ⟨rfl, rfl⟩
          have HTT := Lib.hid ht
          clear ht k1
          rcases k1i with h | ⟨h, h'⟩
          · go_wp2_with fail
            go_meet
            exact ⟨by rw [HTT.out], rfl⟩
          · go_wp2_with fail
            go_meet
            exact ⟨by rw [HTT.out], rfl⟩
        | false =>
          rcases take_two_no _ _ _ _ ht with k0 | ⟨k0, k1, k2⟩
          · have f0 : ¬ (c : Int) + 1 < (s.size : Int) := by omega
            have HTT := Lib.hid ht
            clear ht
            go_wp2_with fail
            go_meet
            exact ⟨by rw [HTT.out], rfl⟩
          · have f0 : (c : Int) + 1 < (s.size : Int) := by omega
            have f1 : (((s[c + 1]'k0).toNat : Int) == 43) = false := byte_not _ 43 (by omega) k1
            have f2 : (((s[c + 1]'k0).toNat : Int) == 45) = false := byte_not _ 45 (by omega) k2
            have HTT := Lib.hid ht
            clear ht k1 k2
            go_wp2_with fail
            go_meet
            exact ⟨by rw [HTT.out], rfl⟩
      case rest =>
      obtain ⟨rfl, rfl⟩ := hcut
      go_upto_if 79 with fail
      go_cut [3] (fun s3 wx => s3 = .int .i64 (d : Int) ∧ w = wx)
      case first =>
        have hD := HDD.out
        cases ht : takeB [43, 45] s (c + 1) with
        | true =>
          rw [ht] at hD
          have hdi : (c : Int) + 1 + 1 = (d : Int) := by have : c + 1 + 1 = d := hD; omega
          have HDI := Lib.hid hdi
          clear hD hdi ht
          go_wp2_with fail
          go_meet
          exact ⟨by rw [← HDI.out], rfl⟩
        | false =>
          rw [ht] at hD
          have hdi : (c : Int) + 1 = (d : Int) := by have : c + 1 = d := hD; omega
          have HDI := Lib.hid hdi
          clear hD hdi ht
          go_wp2_with fail
          go_meet
          exact ⟨by rw [← HDI.out], rfl⟩
      case rest =>
      obtain ⟨rfl, rfl⟩ := hcut
      have e5 : (d : Int) + (m : Int) ≤ 65536 := by omega
      have hde := HDE2.out
      by_cases hm0 : m = 0
      · subst hm0
        rw [if_pos rfl] at hde
        subst hde
        go_wp2_with fail
        refine (HG3.out _).mono ?_
        rintro e w1 ⟨rfl, rfl⟩
        go_wp2_with fail
        go_ret
        exact ⟨rfl, rfl⟩
      · rw [if_neg hm0] at hde
        have hm1 : ((m : Int) == 0) = false := beq_eq_false_iff_ne.2 (by omega)
        have hdm : ((d + m : Nat) : Int) = (d : Int) + (m : Int) := by omega
        rw [hdm] at hde
        have HE := Lib.hid hde
        clear hm0 hdm hde
        go_wp2_with fail
        refine (HG3.out _).mono ?_
        rintro e w1 ⟨rfl, rfl⟩
        go_wp2_with fail
        go_ret
        exact ⟨by rw [← HE.out]; rfl, rfl⟩
end Go.Proofs.YtofndhmnofghaaaGreatDoor.Sl

/- Lemmas. No condition. -/
import Derived.Test.YtaggmakaceafgaaGreatDoorC6
import Derived.Test.YtaggmakaceafgaaGreatDoorC5
namespace Go.Proofs.YtaggmakaceafgaaGreatDoor
open Go.RowKit Lx
set_option linter.unusedVariables false

/-! the document's kinds of bytes -/
def kindN (c : UInt8) : Int := if Lx.isL c = true then 97 else if Lx.isD c = true then 48 else if isB c = true then 32 else (c.toNat : Int)
theorem isL_nat (c : UInt8) : Lx.isL c = (decide (97 ≤ c.toNat) && decide (c.toNat ≤ 122) || decide (65 ≤ c.toNat) && decide (c.toNat ≤ 90) || decide (c.toNat = 95) || decide (c.toNat = 58)) := by
  have h95 : (c == 95) = decide (c.toNat = 95) := by rw [Bool.eq_iff_iff]; simp [← UInt8.toNat_inj]
  have h58 : (c == 58) = decide (c.toNat = 58) := by rw [Bool.eq_iff_iff]; simp [← UInt8.toNat_inj]
  unfold Lx.isL
  rw [h95, h58]
theorem isB_nat (c : UInt8) : isB c = (decide (c.toNat = 32) || decide (c.toNat = 9) || decide (c.toNat = 10) || decide (c.toNat = 13)) := by
  have h : ∀ n : Nat, n < 256 → (c == UInt8.ofNat n) = decide (c.toNat = n) := fun n hn => by rw [Bool.eq_iff_iff]; simp [← UInt8.toNat_inj, Nat.mod_eq_of_lt hn]
  have h1 := h 32 (by omega)
  have h2 := h 9 (by omega)
  have h3 := h 10 (by omega)
  have h4 := h 13 (by omega)
  unfold isB
  rw [← h1, ← h2, ← h3, ← h4]
  rfl
theorem kind_any (c : UInt8) (w : World) : Calls Tryz.prog 14 #[.int .u8 (c.toNat : Int)] w fun e w' => e = .returned (.int .u8 (kindN c)) ∧ w = w' := by
  generalize hk : kindN c = k
  unfold kindN Lx.isD at hk
  rw [isL_nat, isB_nat] at hk
  generalize c.toNat = n at *
  by_cases h1 : 97 ≤ n ∧ n ≤ 122
  · have e : k = 97 := by rw [← hk]; simp [h1]
    subst e
    clear hk
    have a1 : (97 : Int) ≤ (n : Int) := by omega
    have a2 : (n : Int) ≤ 122 := by omega
    clear h1
    go_enter Tryz.func14, Tryz.ntmps14
    go_wp2
    go_ret
    exact ⟨rfl, rfl⟩
  by_cases h2 : 65 ≤ n ∧ n ≤ 90
  · have e : k = 97 := by rw [← hk]; simp [h2]
    subst e
    clear hk
    have a1 : ¬ (97 : Int) ≤ (n : Int) := by omega
    have a2 : (65 : Int) ≤ (n : Int) := by omega
    have a3 : (n : Int) ≤ 90 := by omega
    clear h1 h2
    go_enter Tryz.func14, Tryz.ntmps14
    go_wp2
    go_ret
    exact ⟨rfl, rfl⟩
  by_cases h3 : n = 95
  · subst h3
    have e : k = 97 := by rw [← hk]; rfl
    subst e
    clear hk h1 h2
    go_enter Tryz.func14, Tryz.ntmps14
    go_wp2
    go_ret
    exact ⟨rfl, rfl⟩
  by_cases h4 : n = 58
  · subst h4
    have e : k = 97 := by rw [← hk]; rfl
    subst e
    clear hk h1 h2
    go_enter Tryz.func14, Tryz.ntmps14
    go_wp2
    go_ret
    exact ⟨rfl, rfl⟩
  have hl : (decide (97 ≤ n) && decide (n ≤ 122) || decide (65 ≤ n) && decide (n ≤ 90) || decide (n = 95) || decide (n = 58)) = false := by
    simp only [Bool.or_eq_false_iff, Bool.and_eq_false_imp, decide_eq_true_eq, decide_eq_false_iff_not]
    omega
  rw [hl] at hk
  have b95 : ((n : Int) == 95) = false := beq_eq_false_iff_ne.2 (by omega)
  have b58 : ((n : Int) == 58) = false := beq_eq_false_iff_ne.2 (by omega)
  clear hl
  by_cases h5 : 48 ≤ n ∧ n ≤ 57
  · have e : k = 48 := by rw [← hk]; simp [h5]
    subst e
    clear hk
    have a1 : ¬ (97 : Int) ≤ (n : Int) := by omega
    have a2 : ¬ (65 : Int) ≤ (n : Int) := by omega
    have a3 : (48 : Int) ≤ (n : Int) := by omega
    have a4 : (n : Int) ≤ 57 := by omega
    clear h1 h2 h3 h4 h5
    go_enter Tryz.func14, Tryz.ntmps14
    go_wp2
    go_ret
    exact ⟨rfl, rfl⟩
  have hd : (decide (48 ≤ n) && decide (n ≤ 57)) = false := by
    simp only [Bool.and_eq_false_imp, decide_eq_true_eq, decide_eq_false_iff_not]
    omega
  rw [hd] at hk
  clear hd
  by_cases h6 : n = 32 ∨ n = 9 ∨ n = 10 ∨ n = 13
  · rcases h6 with rfl | rfl | rfl | rfl
    all_goals
      have e : k = 32 := by rw [← hk]; rfl
      subst e
      clear hk h1 h2 h3 h4 h5
      go_enter Tryz.func14, Tryz.ntmps14
      go_wp2
      go_ret
      exact ⟨rfl, rfl⟩
  · have c1 : ((n : Int) == 32) = false := beq_eq_false_iff_ne.2 (by omega)
    have c2 : ((n : Int) == 9) = false := beq_eq_false_iff_ne.2 (by omega)
    have c3 : ((n : Int) == 10) = false := beq_eq_false_iff_ne.2 (by omega)
    have c4 : ((n : Int) == 13) = false := beq_eq_false_iff_ne.2 (by omega)
    have e : k = (n : Int) := by
      rw [← hk, decide_eq_false (p := n = 32) (by omega), decide_eq_false (p := n = 9) (by omega), decide_eq_false (p := n = 10) (by omega), decide_eq_false (p := n = 13) (by omega)]
      rfl
    subst e
    clear hk
    by_cases k1 : 97 ≤ n
    · have a1 : (97 : Int) ≤ (n : Int) := by omega
      have a2 : ¬ (n : Int) ≤ 122 := by omega
      have a3 : (65 : Int) ≤ (n : Int) := by omega
      have a4 : ¬ (n : Int) ≤ 90 := by omega
      have a5 : (48 : Int) ≤ (n : Int) := by omega
      have a6 : ¬ (n : Int) ≤ 57 := by omega
      clear h1 h2 h3 h4 h5 h6 k1
      go_enter Tryz.func14, Tryz.ntmps14
      go_wp2
      go_ret
      exact ⟨rfl, rfl⟩
    · have a1 : ¬ (97 : Int) ≤ (n : Int) := by omega
      by_cases k2 : 65 ≤ n
      · have a3 : (65 : Int) ≤ (n : Int) := by omega
        have a4 : ¬ (n : Int) ≤ 90 := by omega
        have a5 : (48 : Int) ≤ (n : Int) := by omega
        have a6 : ¬ (n : Int) ≤ 57 := by omega
        clear h1 h2 h3 h4 h5 h6 k1 k2
        go_enter Tryz.func14, Tryz.ntmps14
        go_wp2
        go_ret
        exact ⟨rfl, rfl⟩
      · have a3 : ¬ (65 : Int) ≤ (n : Int) := by omega
        by_cases k3 : 48 ≤ n
        · have a5 : (48 : Int) ≤ (n : Int) := by omega
          have a6 : ¬ (n : Int) ≤ 57 := by omega
          clear h1 h2 h3 h4 h5 h6 k1 k2 k3
          go_enter Tryz.func14, Tryz.ntmps14
          go_wp2
          go_ret
          exact ⟨rfl, rfl⟩
        · have a5 : ¬ (48 : Int) ≤ (n : Int) := by omega
          clear h1 h2 h3 h4 h5 h6 k1 k2 k3
          go_enter Tryz.func14, Tryz.ntmps14
          go_wp2
          go_ret
          exact ⟨rfl, rfl⟩
/-- plain: digits and points alone -/
def plainB (l : List UInt8) : Bool := l.all fun c => Lx.isD c || c == 46
theorem kind_48 (c : UInt8) : (kindN c != 48) = !(Lx.isD c) := by
  have : ∀ n : Nat, n < 256 → (kindN (UInt8.ofNat n) != 48) = !(Lx.isD (UInt8.ofNat n)) := by decide +kernel
  have h := this c.toNat c.toNat_lt
  rwa [UInt8.ofNat_toNat] at h
theorem plain_any (s : ByteArray) (w : World) (hs : s.size ≤ 65536) : Calls Tryz.prog 46 #[.string s] w fun e w' => e = .returned (.bool (plainB s.data.toList)) ∧ w = w' := by
  have HK := Lib.hid kind_any
  have HD := Lib.hid (drop_byte s)
  have HN := Lib.hid (drop_none s)
  have HK48 := Lib.hid kind_48
  generalize hr : plainB s.data.toList = r
  have HR := Lib.hid hr
  clear hr
  go_enter Tryz.func46, Tryz.ntmps46
  go_wp2_with fail
  go_loopg [3] s.size (fun g s3 wx => ∃ j : Nat, j + g = s.size ∧ s3 = .int .i64 (j : Int) ∧ Hid (plainB (s.data.toList.drop j) = r) ∧ w = wx)
  case atStart => exact ⟨0, by omega, rfl, HR, rfl⟩
  case round =>
    obtain ⟨j, hjg, rfl, HJ, rfl⟩ := hrel
    by_cases hlt : j < s.size
    · obtain ⟨g, rfl⟩ : ∃ g, gk = g + 1 := ⟨gk - 1, by omega⟩
      have d : decide (j < s.size) = true := decide_eq_true hlt
      have hj := HJ.out
      rw [HD.out j hlt] at hj
      have hk := HK48.out s[j]
      have hq : plainB (s[j] :: s.data.toList.drop (j + 1)) = ((Lx.isD s[j] || s[j] == 46) && plainB (s.data.toList.drop (j + 1))) := rfl
      have hb46 : (s[j] == (46 : UInt8)) = ((s[j].toNat : Int) == 46) := byte_eq s[j] 46 (by omega)
      rw [hq, hb46] at hj
      clear hb46
      have HKJ := Lib.hid (HK.out s[j])
      cases hd : Lx.isD s[j] with
      | true =>
        rw [hd] at hk hj
        have HK2 : Hid (plainB (s.data.toList.drop (j + 1)) = r) := by show _ = _; simpa using hj
        generalize kindN s[j] = kk at *
        have hk2 : (kk != 48) = false := hk
        clear hj hq hd hk HJ
        go_wp2_with fail
        refine (HKJ.out _).mono ?_
        rintro e w1 ⟨rfl, rfl⟩
        go_wp2_with fail
        go_roundg g
        case measure => omega
        case rel => exact ⟨j + 1, by omega, by go_num, HK2, rfl⟩
      | false =>
        rw [hd] at hk hj
        generalize kindN s[j] = kk at *
        have hk2 : (kk != 48) = true := hk
        by_cases h46 : ((s[j].toNat : Int) == 46) = true
        · have HK2 : Hid (plainB (s.data.toList.drop (j + 1)) = r) := by
            rw [h46] at hj
            show _ = _
            simpa using hj
          have hne : ((s[j].toNat : Int) != 46) = false := by simpa using h46
          clear hj hq hd hk HJ h46
          go_wp2_with fail
          refine (HKJ.out _).mono ?_
          rintro e w1 ⟨rfl, rfl⟩
          go_wp2_with fail
          go_roundg g
          case measure => omega
          case rel => exact ⟨j + 1, by omega, by go_num, HK2, rfl⟩
        · have hrf : r = false := by
            rw [Bool.eq_false_iff.2 h46] at hj
            exact hj.symm
          subst hrf
          have hne : ((s[j].toNat : Int) != 46) = true := by simpa using h46
          clear hj hq hd hk HJ h46
          go_wp2_with fail
          refine (HKJ.out _).mono ?_
          rintro e w1 ⟨rfl, rfl⟩
          go_wp2_with fail
          go_ret
          exact ⟨rfl, rfl⟩
    · have hrf : r = true := by
        have hj := HJ.out
        rw [HN.out j (by omega)] at hj
        exact hj.symm
      subst hrf
      have d : decide (j < s.size) = false := decide_eq_false hlt
      clear HJ
      go_wp2_with fail
      go_ret
      exact ⟨rfl, rfl⟩
end Go.Proofs.YtaggmakaceafgaaGreatDoor

namespace Go.Proofs.YtaggmakaceafgaaGreatDoor
open Go.RowKit Lx
set_option linter.unusedVariables false

/-! the document's numbers -/
theorem take_tens (s : ByteArray) (k : Nat) (h : k < s.size) : takeB [48, 49, 50, 51, 52, 53, 54, 55, 56, 57] s k = Lx.isD s[k] := by
  have h0 : ∀ n : Nat, n < 256 → decide (0 ≤ Lib.indexByte [48, 49, 50, 51, 52, 53, 54, 55, 56, 57] (UInt8.ofNat n)) = Lx.isD (UInt8.ofNat n) := by decide +kernel
  have h1 := h0 s[k].toNat s[k].toNat_lt
  rw [UInt8.ofNat_toNat] at h1
  unfold takeB
  rw [dif_pos h]
  exact h1
theorem take_out (g : List UInt8) (s : ByteArray) (k : Nat) (h : s.size ≤ k) : takeB g s k = false := by
  unfold takeB; rw [dif_neg (by omega)]
theorem take_in (g : List UInt8) (s : ByteArray) (k : Nat) (h : k < s.size) : takeB g s k = g.contains s[k] := by
  unfold takeB; rw [dif_pos h, ← Lib.contains_iff_indexByte]
theorem refdig_any (c : UInt8) (w : World) : Calls Tryz.prog 76 #[.int .u8 (c.toNat : Int)] w fun e w' => e = .returned (.bool (Lx.isD c)) ∧ w = w' := by
  unfold Lx.isD
  generalize c.toNat = n
  by_cases h1 : 48 ≤ n
  · have d : (48 : Int) ≤ (n : Int) := by omega
    have hr : (decide (48 ≤ n) && decide (n ≤ 57)) = decide ((n : Int) ≤ 57) := by rw [decide_eq_true h1, Bool.true_and]; exact decide_eq_decide.2 (by omega)
    rw [hr]
    clear hr
    go_enter Tryz.func76, Tryz.ntmps76
    go_wp2
    go_ret
    exact ⟨rfl, rfl⟩
  · have d : ¬ (48 : Int) ≤ (n : Int) := by omega
    have hr : (decide (48 ≤ n) && decide (n ≤ 57)) = false := by rw [decide_eq_false h1, Bool.false_and]
    rw [hr]
    clear hr
    go_enter Tryz.func76, Tryz.ntmps76
    go_wp2
    go_ret
    exact ⟨rfl, rfl⟩
theorem refdigs_any (s : ByteArray) (k : Nat) (w : World) (hs : s.size ≤ 65536) (hk : k ≤ s.size) : Calls Tryz.prog 66 #[.string s, .int .i64 (k : Int)] w fun e w' => e = .returned (.int .i64 (digs s k : Int)) ∧ w = w' := by
  have HD := Lib.hid refdig_any
  have HT := Lib.hid (take_tens s)
  generalize hr : digs s k = r
  have HR := Lib.hid hr
  clear hr
  go_enter Tryz.func66, Tryz.ntmps66
  go_wp2_with fail
  go_loopg [5] s.size (fun g s5 wx => ∃ j : Nat, k + j ≤ s.size ∧ s.size ≤ g + (k + j) ∧ s5 = .int .i64 (j : Int) ∧ Hid (j + digs s (k + j) = r) ∧ w = wx)
  case atStart => exact ⟨0, by omega, by omega, rfl, by show _ = _; rw [Nat.zero_add]; exact HR.out, rfl⟩
  case round =>
    obtain ⟨j, hj, hg, rfl, HJ, rfl⟩ := hrel
    by_cases hlt : k + j < s.size
    · have d : (k : Int) + (j : Int) < (s.size : Int) := by omega
      have ht := HT.out (k + j) hlt
      have HDJ := Lib.hid (HD.out (s[k + j]'hlt))
      cases hd : Lx.isD s[k + j] with
      | true =>
        rw [hd] at HDJ ht
        have hjj := HJ.out
        rw [digs_yes ht] at hjj
        have HK : Hid (j + 1 + digs s (k + (j + 1)) = r) := by show _ = _; rw [← hjj, ← Nat.add_assoc k j 1]; omega
        obtain ⟨g, rfl⟩ : ∃ g, gk = g + 1 := ⟨gk - 1, by omega⟩
        clear ht hd hjj HJ
        go_wp2_with fail
        refine (HDJ.out _).mono ?_
        rintro e w1 ⟨rfl, rfl⟩
        go_wp2_with fail
        go_roundg g
        case measure => omega
        case rel => exact ⟨j + 1, by omega, by omega, by go_num, HK, rfl⟩
      | false =>
        rw [hd] at HDJ ht
        have hjj := HJ.out
        rw [digs_no ht] at hjj
        have HX : Hid (j = r) := hjj
        clear ht hd hjj HJ
        go_wp2_with fail
        refine (HDJ.out _).mono ?_
        rintro e w1 ⟨rfl, rfl⟩
        go_wp2_with fail
        go_ret
        exact ⟨ret_nat HX.out, rfl⟩
    · have d : ¬ (k : Int) + (j : Int) < (s.size : Int) := by omega
      have hjj := HJ.out
      rw [digs_no (take_out _ s (k + j) (by omega))] at hjj
      have HX : Hid (j = r) := hjj
      clear hjj HJ
      go_wp2_with fail
      go_ret
      exact ⟨ret_nat HX.out, rfl⟩
end Go.Proofs.YtaggmakaceafgaaGreatDoor

namespace Go.Proofs.YtaggmakaceafgaaGreatDoor
open Go.RowKit Lx
set_option linter.unusedVariables false

/-! is a text a number's, as the document goes -/
/-- what a test of one byte at a place comes to -/
theorem take_one (b : UInt8) (s : ByteArray) (k : Nat) : takeB [b] s k = true → ∃ h : k < s.size, s[k] = b := fun h => by
  obtain ⟨hk, hm⟩ := take_mem h
  exact ⟨hk, by simpa using hm⟩
theorem take_two (b d : UInt8) (s : ByteArray) (k : Nat) : takeB [b, d] s k = true → ∃ h : k < s.size, s[k] = b ∨ s[k] = d := fun h => by
  obtain ⟨hk, hm⟩ := take_mem h
  exact ⟨hk, by simpa using hm⟩
theorem take_one_no (b : UInt8) (s : ByteArray) (k : Nat) (h : takeB [b] s k = false) : s.size ≤ k ∨ ∃ h : k < s.size, s[k] ≠ b := by
  rcases Nat.lt_or_ge k s.size with hk | hk
  · right
    refine ⟨hk, fun e => ?_⟩
    rw [take_in _ _ _ hk] at h
    simp [e] at h
  · exact .inl hk
theorem take_two_no (b d : UInt8) (s : ByteArray) (k : Nat) (h : takeB [b, d] s k = false) : s.size ≤ k ∨ ∃ h : k < s.size, s[k] ≠ b ∧ s[k] ≠ d := by
  rcases Nat.lt_or_ge k s.size with hk | hk
  · right
    rw [take_in _ _ _ hk] at h
    simp at h
    exact ⟨hk, h.1, h.2⟩
  · exact .inl hk
theorem decB_end (s : ByteArray) (a n1 : Nat) (ha : nxt (takeB [45] s 0) 0 = a) (h1 : digs s a = n1) :
    decB s = if (if takeB [46] s (a + n1) = true then n1 + digs s (a + n1 + 1) else n1) = 0 then false else endB s (if takeB [46] s (a + n1) = true then a + n1 + 1 + digs s (a + n1 + 1) else a + n1) := by
  unfold decB
  rw [ha, h1]
  cases h : takeB [46] s (a + n1) with
  | false => simp
  | true => simp
theorem endB_no {s : ByteArray} {c : Nat} (h : takeB [101, 69] s c = false) : endB s c = ((c : Int) == (s.size : Int)) := by
  unfold endB; rw [h]
theorem endB_yes {s : ByteArray} {c d m : Nat} (h : takeB [101, 69] s c = true) (hd : nxt (takeB [43, 45] s (c + 1)) (c + 1) = d) (hm : digs s d = m) : endB s c = if m = 0 then false else ((d + m : Nat) : Int) == (s.size : Int) := by
  unfold endB; rw [h]; simp only [hd, hm]
set_option maxRecDepth 100000 in
set_option maxHeartbeats 2000000 in
theorem plain04_any (s : ByteArray) (w : World) (hs : s.size ≤ 65536) : Calls Tryz.prog 47 #[.string s] w fun e w' => e = .returned (.bool (decB s)) ∧ w = w' := by
  have HDG := Lib.hid (fun k W hk => refdigs_any s k W hs hk)
  obtain ⟨a, ha⟩ : ∃ a, nxt (takeB [45] s 0) 0 = a := ⟨_, rfl⟩
  obtain ⟨n1, hn1⟩ : ∃ n1, digs s a = n1 := ⟨_, rfl⟩
  have hde := decB_end s a n1 ha hn1
  have haz : a ≤ s.size ∧ a ≤ 1 := by
    cases ht : takeB [45] s 0 with
    | false => rw [ht] at ha; have : a = 0 := ha.symm; omega
    | true => rw [ht] at ha; have := take_lt ht; have : a = 1 := ha.symm; omega
  have hn1z : a + n1 ≤ s.size := by rw [← hn1]; exact digs_le s a haz.1
  obtain ⟨n, hn⟩ : ∃ n, (if takeB [46] s (a + n1) = true then n1 + digs s (a + n1 + 1) else n1) = n := ⟨_, rfl⟩
  obtain ⟨c, hc⟩ : ∃ c, (if takeB [46] s (a + n1) = true then a + n1 + 1 + digs s (a + n1 + 1) else a + n1) = c := ⟨_, rfl⟩
  rw [hn, hc] at hde
  have hcz : c ≤ s.size := by
    rw [← hc]
    split
    · rename_i h
      have := take_lt h
      exact digs_le s (a + n1 + 1) (by omega)
    · exact hn1z
  have hnz : n ≤ s.size := by
    rw [← hn]
    split
    · rename_i h
      have := take_lt h
      have := digs_le s (a + n1 + 1) (by omega)
      omega
    · omega
  obtain ⟨r, hr⟩ : ∃ r, decB s = r := ⟨_, rfl⟩
  rw [hr] at hde ⊢
  have HDE := Lib.hid hde
  have HA := Lib.hid ha
  have HN1 := Lib.hid hn1
  have HN := Lib.hid hn
  have HC := Lib.hid hc
  obtain ⟨haz1, haz2⟩ := haz
  clear hr hde ha hn1 hn hc
  go_enter Tryz.func47, Tryz.ntmps47
  go_upto_region 2 with fail
  go_cut [14] (fun s14 wx => s14 = .bool (takeB [45] s 0) ∧ w = wx)
  case first =>
    cases ht : takeB [45] s 0 with
    | true =>
      obtain ⟨h0, h45⟩ := take_one _ _ _ ht
      have e45 : (s[0].toNat : Int) = 45 := byte_is _ 45 (by omega) h45
      have HTT := Lib.hid ht
      clear ht h45
      go_wp2_with fail
      go_meet
      exact ⟨by rw [HTT.out], rfl⟩
    | false =>
      rcases take_one_no _ _ _ ht with h0 | ⟨h0, h45⟩
      · have e0 : ¬ (0 : Int) < (s.size : Int) := by omega
        have HTT := Lib.hid ht
        clear ht
        go_wp2_with fail
        go_meet
        exact ⟨by rw [HTT.out], rfl⟩
      · have e45 : ((s[0].toNat : Int) == 45) = false := byte_not _ 45 (by omega) h45
        have HTT := Lib.hid ht
        clear ht h45
        go_wp2_with fail
        go_meet
        exact ⟨by rw [HTT.out], rfl⟩
  case rest =>
  obtain ⟨rfl, rfl⟩ := hcut
  go_upto_if 14 with fail
  go_cut [3] (fun s3 wx => s3 = .int .i64 (a : Int) ∧ w = wx)
  case first =>
    have hA := HA.out
    cases ht : takeB [45] s 0 with
    | true =>
      rw [ht] at hA
      have hA : 1 = a := hA
      subst hA
      go_wp2_with fail
      go_meet
      exact ⟨rfl, rfl⟩
    | false =>
      rw [ht] at hA
      have hA : 0 = a := hA
      subst hA
      go_wp2_with fail
      go_meet
      exact ⟨rfl, rfl⟩
  case rest =>
  obtain ⟨rfl, rfl⟩ := hcut
  have HG1 := Lib.hid (fun W => HDG.out a W haz1)
  rw [HN1.out] at HG1
  go_wp2_with fail
  refine (HG1.out _).mono ?_
  rintro e w1 ⟨rfl, rfl⟩
  have h3i : (a : Int) + (n1 : Int) ≤ (s.size : Int) := by omega
  go_upto_region 6 with fail
  go_cut [30] (fun s30 wx => s30 = .bool (takeB [46] s (a + n1)) ∧ w = wx)
  case first =>
    cases ht : takeB [46] s (a + n1) with
    | true =>
      obtain ⟨h0, h46⟩ := take_one _ _ _ ht
      have e0 : (a : Int) + (n1 : Int) < (s.size : Int) := by omega
      have e46 : ((s[a + n1]'h0).toNat : Int) = 46 := byte_is _ 46 (by omega) h46
      have HTT := Lib.hid ht
      clear ht h46
      go_wp2_with fail
      go_meet
      exact ⟨by rw [HTT.out], rfl⟩
    | false =>
      rcases take_one_no _ _ _ ht with h0 | ⟨h0, h46⟩
      · have e0 : ¬ (a : Int) + (n1 : Int) < (s.size : Int) := by omega
        have HTT := Lib.hid ht
        clear ht
        go_wp2_with fail
        go_meet
        exact ⟨by rw [HTT.out], rfl⟩
      · have e0 : (a : Int) + (n1 : Int) < (s.size : Int) := by omega
        have e46 : (((s[a + n1]'h0).toNat : Int) == 46) = false := byte_not _ 46 (by omega) h46
        have HTT := Lib.hid ht
        clear ht h46
        go_wp2_with fail
        go_meet
        exact ⟨by rw [HTT.out], rfl⟩
  case rest =>
  obtain ⟨rfl, rfl⟩ := hcut
  go_upto_if 30 with fail
  go_cut [3, 4] (fun s3 s4 wx => s3 = .int .i64 (c : Int) ∧ s4 = .int .i64 (n : Int) ∧ w = wx)
  case first =>
    have hC := HC.out
    have hNN := HN.out
    cases ht : takeB [46] s (a + n1) with
    | true =>
      have h0 := take_lt ht
      rw [ht, if_pos rfl] at hC hNN
      obtain ⟨n2, hn2⟩ : ∃ n2, digs s (a + n1 + 1) = n2 := ⟨_, rfl⟩
      have HG2 := Lib.hid (fun W => HDG.out (a + n1 + 1) W (by omega))
      rw [hn2] at hC hNN HG2
      have g1 : ((a + n1 + 1 : Nat) : Int) = (a : Int) + (n1 : Int) + 1 := by omega
      rw [g1] at HG2
      have hci : (a : Int) + (n1 : Int) + 1 + (n2 : Int) = (c : Int) := by omega
      have hni : (n1 : Int) + (n2 : Int) = (n : Int) := by omega
      have HCI := Lib.hid hci
      have HNI := Lib.hid hni
      have e1 : (a : Int) + (n1 : Int) + 1 ≤ (s.size : Int) := by omega
      have e2 : (n2 : Int) ≤ 65536 := by omega
      have e3 : (n1 : Int) ≤ 65536 := by omega
      clear hC hNN hn2 g1 hci hni ht h0
      go_wp2_with fail
      refine (HG2.out _).mono ?_
      rintro e w1 ⟨rfl, rfl⟩
      go_wp2_with fail
      go_meet
      exact ⟨by rw [← HCI.out], by rw [← HNI.out], rfl⟩
    | false =>
      rw [ht, if_neg (by decide)] at hC hNN
      have hci : (a : Int) + (n1 : Int) = (c : Int) := by omega
      have hni : (n1 : Int) = (n : Int) := by omega
      have HCI := Lib.hid hci
      have HNI := Lib.hid hni
      clear hC hNN hci hni ht
      go_wp2_with fail
      go_meet
      exact ⟨by rw [← HCI.out], by rw [← HNI.out], rfl⟩
  case rest =>
  obtain ⟨rfl, rfl, rfl⟩ := hcut
  have hde := HDE.out
  by_cases hz : n = 0
  · subst hz
    rw [if_pos rfl] at hde
    subst hde
    go_wp2_with fail
    go_ret
    exact ⟨rfl, rfl⟩
  · rw [if_neg hz] at hde
    have hzi : (0 : Int) < (n : Int) := by omega
    cases ht : takeB [101, 69] s c with
    | false =>
      rw [endB_no ht] at hde
      subst hde
      rcases take_two_no _ _ _ _ ht with h0 | ⟨h0, h1, h2⟩
      · have e0 : ¬ (c : Int) < (s.size : Int) := by omega
        clear ht hz HDE
        go_wp2_with fail
        go_ret
        exact ⟨rfl, rfl⟩
      · have e0 : (c : Int) < (s.size : Int) := by omega
        have e1 : ((s[c].toNat : Int) == 101) = false := byte_not _ 101 (by omega) h1
        have e2 : ((s[c].toNat : Int) == 69) = false := byte_not _ 69 (by omega) h2
        clear ht h1 h2 hz HDE
        go_wp2_with fail
        go_ret
        exact ⟨rfl, rfl⟩
    | true =>
      obtain ⟨d, hd⟩ : ∃ d, nxt (takeB [43, 45] s (c + 1)) (c + 1) = d := ⟨_, rfl⟩
      obtain ⟨m, hm⟩ : ∃ m, digs s d = m := ⟨_, rfl⟩
      rw [endB_yes ht hd hm] at hde
      obtain ⟨h0, h1⟩ := take_two _ _ _ _ ht
      have hdz : d ≤ s.size := by
        rw [← hd]
        cases h : takeB [43, 45] s (c + 1) with
        | false => exact h0
        | true => have := take_lt h; exact this
      have hmz : d + m ≤ s.size := by rw [← hm]; exact digs_le s d hdz
      have HDD := Lib.hid hd
      have HG3 := Lib.hid (fun W => HDG.out d W hdz)
      rw [hm] at HG3
      have HDE2 := Lib.hid hde
      have hc1 : ((c + 1 : Nat) : Int) = (c : Int) + 1 := by omega
      have HC1 := Lib.hid hc1
      clear hd hm hde ht HDE hc1
      have h1i : ((s[c].toNat : Int) == 101) = true ∨ ((s[c].toNat : Int) == 101) = false ∧ ((s[c].toNat : Int) == 69) = true := by
        rcases h1 with h | h
        · left; rw [byte_is _ 101 (by omega) h]; rfl
        · right; rw [byte_is _ 69 (by omega) h]; exact ⟨rfl, rfl⟩
      have e0 : (c : Int) < (s.size : Int) := by omega
      go_upto_region 10 with fail
      go_cut [61] (fun s61 wx => s61 = .bool true ∧ w = wx)
      case first =>
        rcases h1i with h | ⟨h, h'⟩
        · go_wp2_with fail
          go_meet
          exact ⟨rfl, rfl⟩
        · go_wp2_with fail
          go_meet
          exact ⟨rfl, rfl⟩
      case rest =>
      obtain ⟨rfl, rfl⟩ := hcut
      clear h1i h1
      go_upto_region 12 with fail
      go_cut [79] (fun s79 wx => s79 = .bool (takeB [43, 45] s (c + 1)) ∧ w = wx)
      case first =>
        cases ht : takeB [43, 45] s (c + 1) with
        | true =>
          obtain ⟨k0, k1⟩ := take_two _ _ _ _ ht
          have f0 : (c : Int) + 1 < (s.size : Int) := by omega
          have k1i : (((s[c + 1]'k0).toNat : Int) == 43) = true ∨ (((s[c + 1]'k0).toNat : Int) == 43) = false ∧ (((s[c + 1]'k0).toNat : Int) == 45) = true := by
            rcases k1 with h | h
            · left; rw [byte_is _ 43 (by omega) h]; rfl
            · right; rw [byte_is _ 45 (by omega) h]; exact ⟨rfl, rfl⟩
          have HTT := Lib.hid ht
          clear ht k1
          rcases k1i with h | ⟨h, h'⟩
          · go_wp2_with fail
            go_meet
            exact ⟨by rw [HTT.out], rfl⟩
          · go_wp2_with fail
            go_meet
            exact ⟨by rw [HTT.out], rfl⟩
        | false =>
          rcases take_two_no _ _ _ _ ht with k0 | ⟨k0, k1, k2⟩
          · have f0 : ¬ (c : Int) + 1 < (s.size : Int) := by omega
            have HTT := Lib.hid ht
            clear ht
            go_wp2_with fail
            go_meet
            exact ⟨by rw [HTT.out], rfl⟩
          · have f0 : (c : Int) + 1 < (s.size : Int) := by omega
            have f1 : (((s[c + 1]'k0).toNat : Int) == 43) = false := byte_not _ 43 (by omega) k1
            have f2 : (((s[c + 1]'k0).toNat : Int) == 45) = false := byte_not _ 45 (by omega) k2
            have HTT := Lib.hid ht
            clear ht k1 k2
            go_wp2_with fail
            go_meet
            exact ⟨by rw [HTT.out], rfl⟩
      case rest =>
      obtain ⟨rfl, rfl⟩ := hcut
      go_upto_if 79 with fail
      go_cut [3] (fun s3 wx => s3 = .int .i64 (d : Int) ∧ w = wx)
      case first =>
        have hD := HDD.out
        cases ht : takeB [43, 45] s (c + 1) with
        | true =>
          rw [ht] at hD
          have hdi : (c : Int) + 1 + 1 = (d : Int) := by have : c + 1 + 1 = d := hD; omega
          have HDI := Lib.hid hdi
          clear hD hdi ht
          go_wp2_with fail
          go_meet
          exact ⟨by rw [← HDI.out], rfl⟩
        | false =>
          rw [ht] at hD
          have hdi : (c : Int) + 1 = (d : Int) := by have : c + 1 = d := hD; omega
          have HDI := Lib.hid hdi
          clear hD hdi ht
          go_wp2_with fail
          go_meet
          exact ⟨by rw [← HDI.out], rfl⟩
      case rest =>
      obtain ⟨rfl, rfl⟩ := hcut
      have e5 : (d : Int) + (m : Int) ≤ 65536 := by omega
      have hde := HDE2.out
      by_cases hm0 : m = 0
      · subst hm0
        rw [if_pos rfl] at hde
        subst hde
        go_wp2_with fail
        refine (HG3.out _).mono ?_
        rintro e w1 ⟨rfl, rfl⟩
        go_wp2_with fail
        go_ret
        exact ⟨rfl, rfl⟩
      · rw [if_neg hm0] at hde
        have hm1 : ((m : Int) == 0) = false := beq_eq_false_iff_ne.2 (by omega)
        have hdm : ((d + m : Nat) : Int) = (d : Int) + (m : Int) := by omega
        rw [hdm] at hde
        have HE := Lib.hid hde
        clear hm0 hdm hde
        go_wp2_with fail
        refine (HG3.out _).mono ?_
        rintro e w1 ⟨rfl, rfl⟩
        go_wp2_with fail
        go_ret
        exact ⟨by rw [← HE.out]; rfl, rfl⟩
end Go.Proofs.YtaggmakaceafgaaGreatDoor

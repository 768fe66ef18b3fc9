import Derived.Test.YtaggmakaceafgaaGreatDoorC1
import Derived.Test.YtaggmakaceafgaaGreatDoorShelf
namespace Go.Proofs.YtaggmakaceafgaaGreatDoor
open Go.RowKit Lx
set_option linter.unusedVariables false

/-! runs of bytes that belong together -/
theorem drop_byte (s : ByteArray) (k : Nat) (h : k < s.size) : s.data.toList.drop k = s[k] :: s.data.toList.drop (k + 1) := by
  have h1 : k < s.data.toList.length := by rw [← Lib.size_eq]; exact h
  rw [List.drop_eq_getElem_cons h1]
  congr 1
theorem drop_none (s : ByteArray) (k : Nat) (h : s.size ≤ k) : s.data.toList.drop k = [] := List.drop_eq_nil_of_le (by rw [← Lib.size_eq]; exact h)
theorem ret_nat {a b : Nat} (h : a = b) : Ending.returned (.int .i64 (a : Int)) = .returned (.int .i64 (b : Int)) := by rw [h]
/-- while of word -/
theorem whileW_any (s : ByteArray) (p : Nat) (w : World) (hp : p ≤ s.size) (hs : s.size ≤ 65536) :
    Calls Tryz.prog 18 #[.string s, .int .i64 (p : Int), .func (.func 36) #[] #[]] w fun e w' => e = .returned (.int .i64 ((p + ((s.data.toList.drop p).takeWhile isW).length : Nat) : Int)) ∧ w = w' := by
  have HC := Lib.hid wordc_any
  have HD := Lib.hid (drop_byte s)
  have HN := Lib.hid (drop_none s)
  generalize hr : ((s.data.toList.drop p).takeWhile isW).length = r
  have HR := Lib.hid hr
  clear hr
  go_enter Tryz.func18, Tryz.ntmps18
  go_wp2_with fail
  go_loopg [1] s.size (fun g s1 wx => ∃ j : Nat, p ≤ j ∧ j ≤ s.size ∧ s.size ≤ g + j ∧ s1 = .int .i64 (j : Int) ∧ Hid (((s.data.toList.drop j).takeWhile isW).length + j = p + r) ∧ w = wx)
  case atStart => exact ⟨p, Nat.le_refl _, hp, by omega, rfl, by show _ = _; rw [HR.out]; omega, rfl⟩
  case round =>
    obtain ⟨j, hpj, hj, hg, rfl, HJ, rfl⟩ := hrel
    by_cases hlt : j < s.size
    · have d : decide (j < s.size) = true := decide_eq_true hlt
      have HDJ := HJ.out
      rw [HD.out j hlt, List.takeWhile_cons] at HDJ
      have HCJ := Lib.hid (HC.out s[j])
      cases hw : isW s[j] with
      | true =>
        rw [hw] at HDJ HCJ
        simp only [if_true, List.length_cons] at HDJ
        have HK := Lib.hid (show ((s.data.toList.drop (j + 1)).takeWhile isW).length + (j + 1) = p + r by omega)
        clear HDJ hw HJ
        obtain ⟨g, rfl⟩ : ∃ g, gk = g + 1 := ⟨gk - 1, by omega⟩
        go_wp2_with fail
        refine (HCJ.out _).mono ?_
        rintro e w1 ⟨rfl, rfl⟩
        go_wp2_with fail
        go_roundg g
        case measure => omega
        case rel => exact ⟨j + 1, by omega, by omega, by omega, by go_num, HK, rfl⟩
      | false =>
        rw [hw] at HDJ HCJ
        have hjr : j = p + r := by simpa using HDJ
        have HX := Lib.hid hjr
        clear HDJ hw HJ hjr
        go_wp2_with fail
        refine (HCJ.out _).mono ?_
        rintro e w1 ⟨rfl, rfl⟩
        go_wp2_with fail
        go_ret
        exact ⟨ret_nat HX.out, rfl⟩
    · have d : decide (j < s.size) = false := decide_eq_false hlt
      have HDJ := HJ.out
      rw [HN.out j (by omega)] at HDJ
      have hjr : j = p + r := by simpa using HDJ
      have HX := Lib.hid hjr
      clear HDJ HJ hjr
      go_wp2_with fail
      go_ret
      exact ⟨ret_nat HX.out, rfl⟩
/-! blank -/
theorem blankc_any (R : Nat) (c : UInt8) (r : Bool) (w : World) (h : Blk w R 4 #[.bool r]) :
    Calls Tryz.prog 19 #[.int .u8 (c.toNat : Int), .pointer (some ⟨R, 0, none⟩)] w fun e w' => e = .returned (.bool (rem1 r c || isB c)) ∧ w' = w.setCell ⟨R, 0, none⟩ (.bool (rem1 r c)) := by
  have c0 := h.cell 0
  have c1 := h.frozen 0
  simp at c0
  have HI := Lib.hid (fun W => (Tryz.strings_IndexByte ⟨#[32, 9, 10, 13]⟩ (c.toNat : Int) W))
  have hcc : ((c.toNat : Int)).toNat.toUInt8 = c := by simp
  rw [hcc] at HI
  have HB := Lib.hid (isB_index c)
  have e0 : (⟨#[32, 9, 10, 13]⟩ : ByteArray).data.toList = [32, 9, 10, 13] := rfl
  rw [e0] at HI
  clear hcc e0 h
  generalize Lib.indexByte [32, 9, 10, 13] c = z at *
  have h35 := byte_eq c 35 (by omega)
  have h10 := byte_eq c 10 (by omega)
  have hr1 : rem1 r c = ((c == UInt8.ofNat 35) || (r && !(c == UInt8.ofNat 10))) := rfl
  rw [h35, h10] at hr1
  clear h35 h10
  generalize rem1 r c = q at *
  generalize isB c = b at *
  have hq : ∃ n : Int, (c.toNat : Int) = n := ⟨_, rfl⟩
  generalize (c.toNat : Int) = n at *
  clear hq
  have HQ := Lib.hid hr1
  clear hr1
  by_cases h35 : n = 35
  · subst h35
    have hqt : q = true := by rw [HQ.out]; rfl
    subst hqt
    clear HQ
    go_enter Tryz.func19, Tryz.ntmps19
    go_wp2_with fail
    go_ret
    exact ⟨rfl, rfl⟩
  · have d35 : (n == 35) = false := beq_eq_false_iff_ne.2 h35
    cases r with
    | true =>
      by_cases h10 : n = 10
      · subst h10
        have hqt : q = false := by rw [HQ.out]; rfl
        subst hqt
        clear HQ h35
        go_enter Tryz.func19, Tryz.ntmps19
        go_wp2_with fail
        refine (HI.out _).mono ?_
        rintro e w1 ⟨rfl, rfl⟩
        go_wp2_with fail
        go_ret
        exact ⟨by rw [← HB.out]; rfl, rfl⟩
      · have d10 : (n != 10) = true := by simp [h10]
        have hqt : q = true := by rw [HQ.out]; simp [h10]
        subst hqt
        clear HQ h35 h10
        go_enter Tryz.func19, Tryz.ntmps19
        go_wp2_with fail
        go_ret
        exact ⟨rfl, rfl⟩
    | false =>
      have hqt : q = false := by rw [HQ.out]; simp [h35]
      subst hqt
      clear HQ h35
      go_enter Tryz.func19, Tryz.ntmps19
      go_wp2_with fail
      refine (HI.out _).mono ?_
      rintro e w1 ⟨rfl, rfl⟩
      go_wp2_with fail
      go_ret
      exact ⟨by rw [← HB.out]; rfl, rfl⟩
theorem whileB_any (s : ByteArray) (p R : Nat) (w : World) (hR : Blk w R 4 #[.bool false]) (hp : p ≤ s.size) (hs : s.size ≤ 65536) :
    Calls Tryz.prog 18 #[.string s, .int .i64 (p : Int), .func (.func 19) #[] #[.pointer (some ⟨R, 0, none⟩)]] w fun e w' => e = .returned (.int .i64 ((p + blankN false (s.data.toList.drop p) : Nat) : Int)) ∧ Moved R w w' := by
  have HC := Lib.hid (blankc_any R)
  have HD := Lib.hid (drop_byte s)
  have HN := Lib.hid (drop_none s)
  have HBR := Lib.hid hR
  generalize hr : blankN false (s.data.toList.drop p) = r
  have HR := Lib.hid hr
  clear hr hR
  go_enter Tryz.func18, Tryz.ntmps18
  go_wp2_with fail
  go_loopg [1] s.size (fun g s1 wx => ∃ (j : Nat) (q : Bool), p ≤ j ∧ j ≤ s.size ∧ s.size ≤ g + j ∧ s1 = .int .i64 (j : Int) ∧ Hid (blankN q (s.data.toList.drop j) + j = p + r) ∧ Hid (Blk wx R 4 #[.bool q]) ∧ Hid (Moved R w wx))
  case atStart => exact ⟨p, false, Nat.le_refl _, hp, by omega, rfl, by show _ = _; rw [HR.out]; omega, HBR, Moved.refl _ _⟩
  case round =>
    obtain ⟨j, q, hpj, hj, hg, rfl, HJ, HB, HM⟩ := hrel
    by_cases hlt : j < s.size
    · have d : decide (j < s.size) = true := decide_eq_true hlt
      have HDJ := HJ.out
      rw [HD.out j hlt, blankN] at HDJ
      have HCJ := Lib.hid (HC.out s[j] q _ HB.out)
      have HB2 := Lib.hid (HB.out.set_ 0 (.bool (rem1 q s[j])))
      have HM2 := Lib.hid (HM.out.trans (Moved.set R 0 _ (.bool (rem1 q s[j]))))
      cases hw : (rem1 q s[j] || isB s[j]) with
      | true =>
        rw [hw] at HDJ HCJ
        simp only [if_true] at HDJ
        generalize rem1 q s[j] = q2 at *
        have HK := Lib.hid (show blankN q2 (s.data.toList.drop (j + 1)) + (j + 1) = p + r by omega)
        clear HDJ hw HJ
        obtain ⟨g, rfl⟩ : ∃ g, gk = g + 1 := ⟨gk - 1, by omega⟩
        go_wp2_with fail
        refine (HCJ.out).mono ?_
        rintro e w1 ⟨rfl, hw1⟩
        rw [← hw1] at HB2 HM2
        clear hw1
        go_wp2_with fail
        go_roundg g
        case measure => omega
        case rel => exact ⟨j + 1, q2, by omega, by omega, by omega, by go_num, HK, HB2, HM2⟩
      | false =>
        rw [hw] at HDJ HCJ
        generalize rem1 q s[j] = q2 at *
        have hjr : j = p + r := by simpa using HDJ
        have HX := Lib.hid hjr
        clear HDJ hw HJ hjr
        go_wp2_with fail
        refine (HCJ.out).mono ?_
        rintro e w1 ⟨rfl, hw1⟩
        rw [← hw1] at HB2 HM2
        clear hw1
        go_wp2_with fail
        go_ret
        exact ⟨ret_nat HX.out, HM2.out⟩
    · have d : decide (j < s.size) = false := decide_eq_false hlt
      have HDJ := HJ.out
      rw [HN.out j (by omega), blankN] at HDJ
      have hjr : j = p + r := by simpa using HDJ
      have HX := Lib.hid hjr
      clear HDJ HJ hjr
      go_wp2_with fail
      go_ret
      exact ⟨ret_nat HX.out, HM.out⟩
theorem blank_any (s : ByteArray) (p : Nat) (w : World) (hp : p ≤ s.size) (hs : s.size ≤ 65536) :
    Calls Tryz.prog 12 #[.string s, .int .i64 (p : Int)] w fun e w' => e = .returned (.int .i64 ((p + blankN false (s.data.toList.drop p) : Nat) : Int)) ∧ Below w.heap.size w w' := by
  have H := Lib.hid (whileB_any s p w.heap.size (w.alloc (.cells #[.bool false] 4)) (Blk.new _ _ _) hp hs)
  have HB := Lib.hid ((Below.refl w.heap.size w).alloc (Nat.le_refl _) (.cells #[.bool false] 4))
  go_enter Tryz.func12, Tryz.ntmps12
  go_wp2_with fail
  refine (H.out).mono ?_
  rintro e w1 ⟨rfl, hm⟩
  have HM := Lib.hid (hm.below HB.out)
  clear hm
  go_wp2_with fail
  go_ret
  exact ⟨rfl, HM.out⟩
end Go.Proofs.YtaggmakaceafgaaGreatDoor

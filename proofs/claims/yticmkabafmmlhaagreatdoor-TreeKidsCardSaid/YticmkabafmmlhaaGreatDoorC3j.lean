/- Lemmas. No condition. -/
import Derived.Lib.ValidU
import Derived.Test.YticmkabafmmlhaaGreatDoorA1j
import Derived.Lib.IndexBytes
import Derived.Test.YticmkabafmmlhaaGreatDoorShelfj
namespace Go.Proofs.YticmkabafmmlhaaGreatDoor.Lx
open Go
def isD (c : UInt8) : Bool := decide (48 ≤ c.toNat) && decide (c.toNat ≤ 57)
def isL (c : UInt8) : Bool := (decide (97 ≤ c.toNat) && decide (c.toNat ≤ 122)) || (decide (65 ≤ c.toNat) && decide (c.toNat ≤ 90)) || c == 95 || c == 58
def isW (c : UInt8) : Bool := isL c || isD c
def isB (c : UInt8) : Bool := c == 32 || c == 9 || c == 10 || c == 13
def rem1 (r : Bool) (c : UInt8) : Bool := c == 35 || (r && c != 10)
def blankN : Bool → List UInt8 → Nat
 | _, [] => 0
 | r, c :: l => if (rem1 r c || isB c) = true then 1 + blankN (rem1 r c) l else 0
theorem blank_letter (c : UInt8) (r : List UInt8) (h : isL c = true) : blankN false (c :: r) = 0 := by
 unfold blankN
 cases hx : (rem1 false c || isB c) with
 | false => rfl
 | true =>
   exfalso
   simp [rem1, isB] at hx
   rcases hx with hx | ((hx | hx) | hx) | hx <;> subst hx <;> exact absurd h (by decide)
end Go.Proofs.YticmkabafmmlhaaGreatDoor.Lx

set_option linter.unusedVariables false
namespace Go.Proofs.YticmkabafmmlhaaGreatDoor
open Go.RowKit Lx
open Lib (hid)
theorem digit_any (c : UInt8) (w : World) : Calls Tryz.prog 190 #[.int .u8 (c.toNat : Int)] w fun e w' => e = .returned (.bool (Lx.isD c)) ∧ w = w' := by
 unfold Lx.isD
 generalize c.toNat = n
 by_cases h1 : 48 ≤ n
 · have d : (48 : Int) ≤ (n : Int) := by omega
   have d2 : decide (48 ≤ n) = true := decide_eq_true h1
   have hr : (decide (48 ≤ n) && decide (n ≤ 57)) = decide ((n : Int) ≤ 57) := by rw [d2, Bool.true_and]; exact decide_eq_decide.2 (by omega)
   rw [hr]
   clear hr
   go_enter Tryz.func190, Tryz.ntmps190
   go_wp2
   go_ret
   exact ⟨rfl, rfl⟩
 · have d : ¬ (48 : Int) ≤ (n : Int) := by omega
   have hr : (decide (48 ≤ n) && decide (n ≤ 57)) = false := by rw [decide_eq_false h1, Bool.false_and]
   rw [hr]
   clear hr
   go_enter Tryz.func190, Tryz.ntmps190
   go_wp2
   go_ret
   exact ⟨rfl, rfl⟩
theorem letter_any (c : UInt8) (w : World) : Calls Tryz.prog 188 #[.int .u8 (c.toNat : Int)] w fun e w' => e = .returned (.bool (Lx.isL c)) ∧ w = w' := by
 generalize hr : Lx.isL c = r
 have h95 : (c == 95) = ((c.toNat : Int) == 95) := by
  have : (c == 95) = decide (c.toNat = 95) := by rw [Bool.eq_iff_iff]; simp [← UInt8.toNat_inj]
  rw [this, Bool.eq_iff_iff]; simp; omega
 have h58 : (c == 58) = ((c.toNat : Int) == 58) := by
  have : (c == 58) = decide (c.toNat = 58) := by rw [Bool.eq_iff_iff]; simp [← UInt8.toNat_inj]
  rw [this, Bool.eq_iff_iff]; simp; omega
 unfold Lx.isL at hr
 rw [h95, h58] at hr
 clear h95 h58
 generalize c.toNat = n at *
 have HR := hid hr
 clear hr
 by_cases h1 : 97 ≤ n ∧ n ≤ 122
 · have hf : r = true := by rw [← HR.out]; simp [h1]
   subst hf
   have d1 : (97 : Int) ≤ (n : Int) := by omega
   have d2 : (n : Int) ≤ 122 := by omega
   clear h1
   go_enter Tryz.func188, Tryz.ntmps188
   go_wp2
   go_ret
   exact ⟨rfl, rfl⟩
 · by_cases h2 : 65 ≤ n ∧ n ≤ 90
   · have hf : r = true := by rw [← HR.out]; simp [h2]
     subst hf
     have d1 : ¬ (97 : Int) ≤ (n : Int) := by omega
     have d2 : (65 : Int) ≤ (n : Int) := by omega
     have d3 : (n : Int) ≤ 90 := by omega
     clear h1 h2
     go_enter Tryz.func188, Tryz.ntmps188
     go_wp2
     go_ret
     exact ⟨rfl, rfl⟩
   · have hf : r = (((n : Int) == 95) || ((n : Int) == 58)) := by
      rw [← HR.out]
      have e1 : (decide (97 ≤ n) && decide (n ≤ 122)) = false := by simp; omega
      have e2 : (decide (65 ≤ n) && decide (n ≤ 90)) = false := by simp; omega
      rw [e1, e2]; simp
     clear HR
     by_cases h3 : n = 95
     · subst h3
       have hf2 : r = true := by rw [hf]; rfl
       subst hf2
       clear hf h1 h2
       go_enter Tryz.func188, Tryz.ntmps188
       go_wp2
       go_ret
       exact ⟨rfl, rfl⟩
     · have d95 : ((n : Int) == 95) = false := beq_eq_false_iff_ne.2 (by omega)
       rw [d95, Bool.false_or] at hf
       subst hf
       by_cases k1 : 97 ≤ n
       · have k0 : (97 : Int) ≤ (n : Int) := by omega
         have k2 : ¬ (n : Int) ≤ 122 := by omega
         have k3 : ¬ (n : Int) ≤ 90 := by omega
         have k4 : (65 : Int) ≤ (n : Int) := by omega
         clear h1 h2 h3 k1
         go_enter Tryz.func188, Tryz.ntmps188
         go_wp2
         go_ret
         exact ⟨rfl, rfl⟩
       · have k0 : ¬ (97 : Int) ≤ (n : Int) := by omega
         by_cases k2 : 65 ≤ n
         · have k4 : (65 : Int) ≤ (n : Int) := by omega
           have k3 : ¬ (n : Int) ≤ 90 := by omega
           clear h1 h2 h3 k1 k2
           go_enter Tryz.func188, Tryz.ntmps188
           go_wp2
           go_ret
           exact ⟨rfl, rfl⟩
         · have k4 : ¬ (65 : Int) ≤ (n : Int) := by omega
           clear h1 h2 h3 k1 k2
           go_enter Tryz.func188, Tryz.ntmps188
           go_wp2
           go_ret
           exact ⟨rfl, rfl⟩
theorem wordc_any (c : UInt8) (w : World) : Calls Tryz.prog 189 #[.int .u8 (c.toNat : Int)] w fun e w' => e = .returned (.bool (isW c)) ∧ w = w' := by
 have HL := hid (letter_any c)
 have HD := hid (digit_any c)
 unfold isW
 cases hl : Lx.isL c with
 | true =>
   rw [hl] at HL
   clear hl
   go_enter Tryz.func189, Tryz.ntmps189
   go_wp2_with fail
   refine (HL.out _).mono ?_
   rintro e w1 ⟨rfl, rfl⟩
   go_wp2_with fail
   go_ret
   exact ⟨rfl, rfl⟩
 | false =>
   rw [hl] at HL
   clear hl
   go_enter Tryz.func189, Tryz.ntmps189
   go_wp2_with fail
   refine (HL.out _).mono ?_
   rintro e w1 ⟨rfl, rfl⟩
   go_wp2_with fail
   refine (HD.out _).mono ?_
   rintro e w1 ⟨rfl, rfl⟩
   go_wp2_with fail
   go_ret
   exact ⟨rfl, rfl⟩
theorem byte_eq (c : UInt8) (n : Nat) (h : n < 256) : (c == UInt8.ofNat n) = ((c.toNat : Int) == (n : Int)) := by
 have : (c == UInt8.ofNat n) = decide (c.toNat = n) := by
  rw [Bool.eq_iff_iff]; simp [← UInt8.toNat_inj, Nat.mod_eq_of_lt h]
 rw [this, Bool.eq_iff_iff]; simp; omega
theorem isB_index (c : UInt8) : decide (0 ≤ Lib.indexByte [32, 9, 10, 13] c) = isB c := by
 have : ∀ n : Nat, n < 256 → decide (0 ≤ Lib.indexByte [32, 9, 10, 13] (UInt8.ofNat n)) = isB (UInt8.ofNat n) := by decide +kernel
 have h := this c.toNat c.toNat_lt
 rwa [UInt8.ofNat_toNat] at h
theorem drop_byte (s : ByteArray) (k : Nat) (h : k < s.size) : s.data.toList.drop k = s[k] :: s.data.toList.drop (k + 1) := by
 have h1 : k < s.data.toList.length := by rw [← Lib.size_eq]; exact h
 rw [List.drop_eq_getElem_cons h1]
 congr 1
theorem drop_none (s : ByteArray) (k : Nat) (h : s.size ≤ k) : s.data.toList.drop k = [] := List.drop_eq_nil_of_le (by rw [← Lib.size_eq]; exact h)
theorem ret_nat {a b : Nat} (h : a = b) : Ending.returned (.int .i64 (a : Int)) = .returned (.int .i64 (b : Int)) := by rw [h]
theorem whileW_any (s : ByteArray) (p : Nat) (w : World) (hp : p ≤ s.size) (hs : s.size ≤ 65536) :
 Calls Tryz.prog 153 #[.string s, .int .i64 (p : Int), .func (.func 189) #[] #[]] w fun e w' => e = .returned (.int .i64 ((p + ((s.data.toList.drop p).takeWhile isW).length : Nat) : Int)) ∧ w = w' := by
 have HC := hid wordc_any
 have HD := hid (drop_byte s)
 have HN := hid (drop_none s)
 generalize hr : ((s.data.toList.drop p).takeWhile isW).length = r
 have HR := hid hr
 clear hr
 go_enter Tryz.func153, Tryz.ntmps153
 go_wp2_with fail
 go_loopg [1] s.size (fun g s1 wx => ∃ j : Nat, p ≤ j ∧ j ≤ s.size ∧ s.size ≤ g + j ∧ s1 = .int .i64 (j : Int) ∧ Hid (((s.data.toList.drop j).takeWhile isW).length + j = p + r) ∧ w = wx)
 case atStart => exact ⟨p, Nat.le_refl _, hp, by omega, rfl, by show _ = _; rw [HR.out]; omega, rfl⟩
 case round =>
  obtain ⟨j, hpj, hj, hg, rfl, HJ, rfl⟩ := hrel
  by_cases hlt : j < s.size
  · have d : decide (j < s.size) = true := decide_eq_true hlt
    have HDJ := HJ.out
    rw [HD.out j hlt, List.takeWhile_cons] at HDJ
    have HCJ := hid (HC.out s[j])
    cases hw : isW s[j] with
    | true =>
      rw [hw] at HDJ HCJ
      simp only [if_true, List.length_cons] at HDJ
      have HK := hid (show ((s.data.toList.drop (j + 1)).takeWhile isW).length + (j + 1) = p + r by omega)
      clear HDJ hw HJ
      obtain ⟨g, rfl⟩ : ∃ g, gk = g + 1 := ⟨gk - 1, by omega⟩
      go_wp2_with fail
      refine (HCJ.out _).mono ?_
      rintro e w1 ⟨rfl, rfl⟩
      go_wp2_with fail
      go_roundg g
      case measure => omega
      case rel => exact ⟨j + 1, by omega, by omega, by omega, by go_num, HK, rfl⟩
    | false =>
      rw [hw] at HDJ HCJ
      have hjr : j = p + r := by simpa using HDJ
      have HX := hid hjr
      clear HDJ hw HJ hjr
      go_wp2_with fail
      refine (HCJ.out _).mono ?_
      rintro e w1 ⟨rfl, rfl⟩
      go_wp2_with fail
      go_ret
      exact ⟨ret_nat HX.out, rfl⟩
  · have d : decide (j < s.size) = false := decide_eq_false hlt
    have HDJ := HJ.out
    rw [HN.out j (by omega)] at HDJ
    have hjr : j = p + r := by simpa using HDJ
    have HX := hid hjr
    clear HDJ HJ hjr
    go_wp2_with fail
    go_ret
    exact ⟨ret_nat HX.out, rfl⟩
theorem blankc_any (R : Nat) (c : UInt8) (r : Bool) (w : World) (h : Blk w R 4 #[.bool r]) :
 Calls Tryz.prog 154 #[.int .u8 (c.toNat : Int), .pointer (some ⟨R, 0, none⟩)] w fun e w' => e = .returned (.bool (rem1 r c || isB c)) ∧ w' = w.setCell ⟨R, 0, none⟩ (.bool (rem1 r c)) := by
 have c0 := h.cell 0
 have c1 := h.frozen 0
 simp at c0
 have HI := hid (fun W => (Tryz.strings_IndexByte ⟨#[32, 9, 10, 13]⟩ (c.toNat : Int) W))
 have hcc : ((c.toNat : Int)).toNat.toUInt8 = c := by simp
 rw [hcc] at HI
 have HB := hid (isB_index c)
 have e0 : (⟨#[32, 9, 10, 13]⟩ : ByteArray).data.toList = [32, 9, 10, 13] := rfl
 rw [e0] at HI
 clear hcc e0 h
 generalize Lib.indexByte [32, 9, 10, 13] c = z at *
 have h35 := byte_eq c 35 (by omega)
 have h10 := byte_eq c 10 (by omega)
 have hr1 : rem1 r c = ((c == UInt8.ofNat 35) || (r && !(c == UInt8.ofNat 10))) := rfl
 rw [h35, h10] at hr1
 clear h35 h10
 generalize rem1 r c = q at *
 generalize isB c = b at *
 have hq : ∃ n : Int, (c.toNat : Int) = n := ⟨_, rfl⟩
 generalize (c.toNat : Int) = n at *
 clear hq
 have HQ := hid hr1
 clear hr1
 by_cases h35 : n = 35
 · subst h35
   have hqt : q = true := by rw [HQ.out]; rfl
   subst hqt
   clear HQ
   go_enter Tryz.func154, Tryz.ntmps154
   go_wp2_with fail
   go_ret
   exact ⟨rfl, rfl⟩
 · have d35 : (n == 35) = false := beq_eq_false_iff_ne.2 h35
   cases r with
   | true =>
     by_cases h10 : n = 10
     · subst h10
       have hqt : q = false := by rw [HQ.out]; rfl
       subst hqt
       clear HQ h35
       go_enter Tryz.func154, Tryz.ntmps154
       go_wp2_with fail
       refine (HI.out _).mono ?_
       rintro e w1 ⟨rfl, rfl⟩
       go_wp2_with fail
       go_ret
       exact ⟨by rw [← HB.out]; rfl, rfl⟩
     · have d10 : (n != 10) = true := by simp [h10]
       have hqt : q = true := by rw [HQ.out]; simp [h10]
       subst hqt
       clear HQ h35 h10
       go_enter Tryz.func154, Tryz.ntmps154
       go_wp2_with fail
       go_ret
       exact ⟨rfl, rfl⟩
   | false =>
     have hqt : q = false := by rw [HQ.out]; simp [h35]
     subst hqt
     clear HQ h35
     go_enter Tryz.func154, Tryz.ntmps154
     go_wp2_with fail
     refine (HI.out _).mono ?_
     rintro e w1 ⟨rfl, rfl⟩
     go_wp2_with fail
     go_ret
     exact ⟨by rw [← HB.out]; rfl, rfl⟩
theorem whileB_any (s : ByteArray) (p R : Nat) (w : World) (hR : Blk w R 4 #[.bool false]) (hp : p ≤ s.size) (hs : s.size ≤ 65536) :
 Calls Tryz.prog 153 #[.string s, .int .i64 (p : Int), .func (.func 154) #[] #[.pointer (some ⟨R, 0, none⟩)]] w fun e w' => e = .returned (.int .i64 ((p + blankN false (s.data.toList.drop p) : Nat) : Int)) ∧ Moved R w w' := by
 have HC := hid (blankc_any R)
 have HD := hid (drop_byte s)
 have HN := hid (drop_none s)
 have HBR := hid hR
 generalize hr : blankN false (s.data.toList.drop p) = r
 have HR := hid hr
 clear hr hR
 go_enter Tryz.func153, Tryz.ntmps153
 go_wp2_with fail
 go_loopg [1] s.size (fun g s1 wx => ∃ (j : Nat) (q : Bool), p ≤ j ∧ j ≤ s.size ∧ s.size ≤ g + j ∧ s1 = .int .i64 (j : Int) ∧ Hid (blankN q (s.data.toList.drop j) + j = p + r) ∧ Hid (Blk wx R 4 #[.bool q]) ∧ Hid (Moved R w wx))
 case atStart => exact ⟨p, false, Nat.le_refl _, hp, by omega, rfl, by show _ = _; rw [HR.out]; omega, HBR, Moved.refl _ _⟩
 case round =>
  obtain ⟨j, q, hpj, hj, hg, rfl, HJ, HB, HM⟩ := hrel
  by_cases hlt : j < s.size
  · have d : decide (j < s.size) = true := decide_eq_true hlt
    have HDJ := HJ.out
    rw [HD.out j hlt, blankN] at HDJ
    have HCJ := hid (HC.out s[j] q _ HB.out)
    have HB2 := hid (HB.out.set_ 0 (.bool (rem1 q s[j])))
    have HM2 := hid (HM.out.trans (Moved.set R 0 _ (.bool (rem1 q s[j]))))
    cases hw : (rem1 q s[j] || isB s[j]) with
    | true =>
      rw [hw] at HDJ HCJ
      simp only [if_true] at HDJ
      generalize rem1 q s[j] = q2 at *
      have HK := hid (show blankN q2 (s.data.toList.drop (j + 1)) + (j + 1) = p + r by omega)
      clear HDJ hw HJ
      obtain ⟨g, rfl⟩ : ∃ g, gk = g + 1 := ⟨gk - 1, by omega⟩
      go_wp2_with fail
      refine (HCJ.out).mono ?_
      rintro e w1 ⟨rfl, hw1⟩
      rw [← hw1] at HB2 HM2
      clear hw1
      go_wp2_with fail
      go_roundg g
      case measure => omega
      case rel => exact ⟨j + 1, q2, by omega, by omega, by omega, by go_num, HK, HB2, HM2⟩
    | false =>
      rw [hw] at HDJ HCJ
      generalize rem1 q s[j] = q2 at *
      have hjr : j = p + r := by simpa using HDJ
      have HX := hid hjr
      clear HDJ hw HJ hjr
      go_wp2_with fail
      refine (HCJ.out).mono ?_
      rintro e w1 ⟨rfl, hw1⟩
      rw [← hw1] at HB2 HM2
      clear hw1
      go_wp2_with fail
      go_ret
      exact ⟨ret_nat HX.out, HM2.out⟩
  · have d : decide (j < s.size) = false := decide_eq_false hlt
    have HDJ := HJ.out
    rw [HN.out j (by omega), blankN] at HDJ
    have hjr : j = p + r := by simpa using HDJ
    have HX := hid hjr
    clear HDJ HJ hjr
    go_wp2_with fail
    go_ret
    exact ⟨ret_nat HX.out, HM.out⟩
theorem blank_any (s : ByteArray) (p : Nat) (w : World) (hp : p ≤ s.size) (hs : s.size ≤ 65536) :
 Calls Tryz.prog 124 #[.string s, .int .i64 (p : Int)] w fun e w' => e = .returned (.int .i64 ((p + blankN false (s.data.toList.drop p) : Nat) : Int)) ∧ Below w.heap.size w w' := by
 have H := hid (whileB_any s p w.heap.size (w.alloc (.cells #[.bool false] 4)) (Blk.new _ _ _) hp hs)
 have HB := hid ((Below.refl w.heap.size w).alloc (Nat.le_refl _) (.cells #[.bool false] 4))
 go_enter Tryz.func124, Tryz.ntmps124
 go_wp2_with fail
 refine (H.out).mono ?_
 rintro e w1 ⟨rfl, hm⟩
 have HM := hid (hm.below HB.out)
 clear hm
 go_wp2_with fail
 go_ret
 exact ⟨rfl, HM.out⟩
end Go.Proofs.YticmkabafmmlhaaGreatDoor

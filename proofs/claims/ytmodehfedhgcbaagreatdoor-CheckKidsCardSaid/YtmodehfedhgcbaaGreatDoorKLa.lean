/- Plain facts on bytes, names and the order of strings, of labels and of lists of labels. No condition. -/
import GoSem.Op.String
import Derived.Laws.Strings
import Derived.Test.YtmodehfedhgcbaaGreatDoorRows
import Derived.WalkKit
import Derived.WalkLawsBesides
import Derived.WalkSpells
import Derived.RegionTactic
import Derived.Deep.QuietTactic
import Derived.BigQuiet
import Derived.Deep.LoopGhost
import Derived.Lib.Hide
import Derived.Handy
import Derived.Test.YtmodehfedhgcbaaGreatDoorShelfV
namespace Go.Proofs.YtmodehfedhgcbaaGreatDoor.Lb
open Go

abbrev Lab := ByteArray × ByteArray
def e0 : Lab := (ByteArray.empty, ByteArray.empty)

def isDig (c : Int) : Bool := decide (48 ≤ c) && decide (c ≤ 57)
def isLet (c : Int) : Bool := (decide (97 ≤ c) && decide (c ≤ 122)) || (decide (65 ≤ c) && decide (c ≤ 90)) || c == 95

/-- the byte at a place, as a number -/
def by_ (s : ByteArray) (k : Nat) : Int := if h : k < s.size then ((s[k]'h).toNat : Int) else 0
theorem by_eq (s : ByteArray) (k : Nat) (h : k < s.size) : ((s[k]'h).toNat : Int) = by_ s k := by unfold by_; rw [dif_pos h]

def Named (s : ByteArray) (k : Nat) : Prop := ∀ i, i < k → (isLet (by_ s i) || isDig (by_ s i)) = true
instance (s : ByteArray) (k : Nat) : Decidable (Named s k) := by unfold Named; infer_instance
def nameB (s : ByteArray) : Bool := decide (0 < s.size) && (decide (s.size ≤ 200) && (!isDig (by_ s 0) && decide (Named s s.size)))

theorem named_zero (s : ByteArray) : Named s 0 := fun _ h => absurd h (Nat.not_lt_zero _)
theorem named_succ {s : ByteArray} {k : Nat} (h : Named s k) (h1 : (isLet (by_ s k) || isDig (by_ s k)) = true) : Named s (k + 1) := by
  intro i hi
  by_cases e : i = k
  · subst e; exact h1
  · exact h i (by omega)
theorem name_yes {s : ByteArray} (h1 : 0 < s.size) (h2 : s.size ≤ 200) (h3 : isDig (by_ s 0) = false) (h4 : Named s s.size) : nameB s = true := by
  simp [nameB, h1, h2, h3, h4]
theorem name_no {s : ByteArray} (h : s.size = 0 ∨ 200 < s.size ∨ isDig (by_ s 0) = true ∨ ∃ i, i < s.size ∧ (isLet (by_ s i) || isDig (by_ s i)) = false) : nameB s = false := by
  cases hn : nameB s with
  | false => rfl
  | true =>
    simp only [nameB, Bool.and_eq_true, decide_eq_true_eq, Bool.not_eq_true'] at hn
    obtain ⟨h1, h2, h3, h4⟩ := hn
    rcases h with h | h | h | ⟨i, hi, h⟩
    · omega
    · omega
    · rw [h3] at h; cases h
    · rw [h4 i hi] at h; cases h

/-! the order of strings -/
theorem less_irrefl : ∀ x : List UInt8, Op.bytesLess x x = false
  | [] => rfl
  | a :: x => by simp [Op.bytesLess, less_irrefl x]
theorem less_trans : ∀ x y z : List UInt8, Op.bytesLess x y = true → Op.bytesLess y z = true → Op.bytesLess x z = true
  | _, [], _, h, _ => by cases ‹List UInt8› <;> simp [Op.bytesLess] at h
  | _, _ :: _, [], _, h => by simp [Op.bytesLess] at h
  | [], _ :: _, _ :: _, _, _ => rfl
  | a :: x, b :: y, c :: z, h1, h2 => by
    simp only [Op.bytesLess, Bool.or_eq_true, decide_eq_true_eq, Bool.and_eq_true, beq_iff_eq] at h1 h2 ⊢
    rcases h1 with h1 | ⟨rfl, h1⟩
    · rcases h2 with h2 | ⟨rfl, h2⟩
      · exact .inl (UInt8.lt_trans h1 h2)
      · exact .inl h1
    · rcases h2 with h2 | ⟨rfl, h2⟩
      · exact .inl h2
      · exact .inr ⟨rfl, less_trans x y z h1 h2⟩
theorem less_tri : ∀ x y : List UInt8, Op.bytesLess x y = false → Op.bytesLess y x = false → x = y
  | [], [], _, _ => rfl
  | [], _ :: _, h, _ => by simp [Op.bytesLess] at h
  | _ :: _, [], _, h => by simp [Op.bytesLess] at h
  | a :: x, b :: y, h1, h2 => by
    simp only [Op.bytesLess, Bool.or_eq_false_iff, decide_eq_false_iff_not] at h1 h2
    have e : a = b := UInt8.le_antisymm (UInt8.not_lt.1 h2.1) (UInt8.not_lt.1 h1.1)
    subst e
    have i1 : Op.bytesLess x y = false := by simpa using h1.2
    have i2 : Op.bytesLess y x = false := by simpa using h2.2
    rw [less_tri x y i1 i2]

def sl (x y : ByteArray) : Bool := Op.bytesLess x.toList y.toList
theorem toList_inj {x y : ByteArray} (h : x.toList = y.toList) : x = y := by
  rw [ByteArray.toList_eq, ByteArray.toList_eq] at h
  cases x; cases y
  simp only [ByteArray.mk.injEq]
  exact Array.toList_inj.1 h
def cmpS (x y : ByteArray) : Int := if sl x y = true then -1 else if x.toList = y.toList then 0 else 1
theorem cmpS_lt {x y : ByteArray} (h : sl x y = true) : cmpS x y = -1 := by unfold cmpS; rw [if_pos h]
theorem cmpS_eq (x : ByteArray) : cmpS x x = 0 := by unfold cmpS sl; rw [if_neg (by rw [less_irrefl]; simp), if_pos rfl]
theorem cmpS_gt {x y : ByteArray} (h : sl y x = true) : cmpS x y = 1 := by
  have h1 : ¬ sl x y = true := fun h2 => by
    have := less_trans _ _ _ h h2
    rw [less_irrefl] at this; cases this
  have h2 : ¬ x.toList = y.toList := fun e => by
    unfold sl at h; rw [e, less_irrefl] at h; cases h
  unfold cmpS; rw [if_neg h1, if_neg h2]
theorem cmpS_cases (x y : ByteArray) : (sl x y = true ∧ cmpS x y = -1) ∨ (x = y ∧ cmpS x y = 0) ∨ (sl y x = true ∧ cmpS x y = 1) := by
  cases h1 : sl x y with
  | true => exact .inl ⟨rfl, cmpS_lt h1⟩
  | false =>
    cases h2 : sl y x with
    | true => exact .inr (.inr ⟨rfl, cmpS_gt h2⟩)
    | false =>
      have := toList_inj (less_tri _ _ h1 h2)
      subst this
      exact .inr (.inl ⟨rfl, cmpS_eq x⟩)
end Go.Proofs.YtmodehfedhgcbaaGreatDoor.Lb

namespace Go.Proofs.YtmodehfedhgcbaaGreatDoor.Rg
open Go.RowKit Lb
set_option linter.unusedVariables false


theorem digit_any (c : Int) (w : World) : Calls Tryz.prog 75 #[.int .u8 c] w fun e w' => e = .returned (.bool (isDig c)) ∧ w = w' := by
  unfold isDig
  by_cases h1 : 48 ≤ c
  · go_enter Tryz.func75, Tryz.ntmps75
    go_wp2
    go_ret
    exact ⟨by simp [h1], rfl⟩
  · go_enter Tryz.func75, Tryz.ntmps75
    go_wp2
    go_ret
    exact ⟨by simp; omega, rfl⟩

theorem islet_any (c : Int) (w : World) : Calls Tryz.prog 76 #[.int .u8 c] w fun e w' => e = .returned (.bool (isLet c)) ∧ w = w' := by
  generalize hr : isLet c = r
  have HR := Lib.hid hr
  clear hr
  by_cases h1 : 97 ≤ c ∧ c ≤ 122
  · have hf : r = true := by rw [← HR.out]; simp [isLet, h1]
    subst hf
    obtain ⟨h1, h2⟩ := h1
    go_enter Tryz.func76, Tryz.ntmps76
    go_wp2
    go_ret
    exact ⟨rfl, rfl⟩
  · by_cases h2 : 65 ≤ c ∧ c ≤ 90
    · have hf : r = true := by rw [← HR.out]; simp [isLet, h2]
      subst hf
      have d1 : decide (97 ≤ c) = false := by simp; omega
      obtain ⟨h2, h3⟩ := h2
      go_enter Tryz.func76, Tryz.ntmps76
      go_wp2
      go_ret
      exact ⟨rfl, rfl⟩
    · have hf : r = (c == 95) := by
        rw [← HR.out]; unfold isLet
        have e1 : (decide (97 ≤ c) && decide (c ≤ 122)) = false := by
          by_cases k : 97 ≤ c
          · rw [decide_eq_false (p := c ≤ 122) (by omega), Bool.and_false]
          · rw [decide_eq_false k, Bool.false_and]
        have e2 : (decide (65 ≤ c) && decide (c ≤ 90)) = false := by
          by_cases k : 65 ≤ c
          · rw [decide_eq_false (p := c ≤ 90) (by omega), Bool.and_false]
          · rw [decide_eq_false k, Bool.false_and]
        rw [e1, e2]; simp
      subst hf
      clear HR
      by_cases k1 : 97 ≤ c
      · have k2 : ¬ c ≤ 122 := by omega
        have k3 : ¬ c ≤ 90 := by omega
        have k4 : 65 ≤ c := by omega
        go_enter Tryz.func76, Tryz.ntmps76
        go_wp2
        go_ret
        exact ⟨rfl, rfl⟩
      · by_cases k2 : 65 ≤ c
        · have k3 : ¬ c ≤ 90 := by omega
          go_enter Tryz.func76, Tryz.ntmps76
          go_wp2
          go_ret
          exact ⟨rfl, rfl⟩
        · go_enter Tryz.func76, Tryz.ntmps76
          go_wp2
          go_ret
          exact ⟨rfl, rfl⟩



theorem digit_is (c : Int) (r : Bool) (h : isDig c = r) (w : World) : Calls Tryz.prog 75 #[.int .u8 c] w fun e w' => e = .returned (.bool r) ∧ w = w' := by
  subst h; exact digit_any c w
theorem letter_is (c : Int) (r : Bool) (h : isLet c = r) (w : World) : Calls Tryz.prog 76 #[.int .u8 c] w fun e w' => e = .returned (.bool r) ∧ w = w' := by
  subst h; exact islet_any c w

set_option maxHeartbeats 1000000 in
theorem name_any (s : ByteArray) (w : World) : Calls Tryz.prog 69 #[.string s] w fun e w' => e = .returned (.bool (nameB s)) ∧ w = w' := by
  generalize hr : nameB s = r
  have HR := Lib.hid hr
  clear hr
  by_cases h0 : s.size = 0
  · have hf : r = false := by rw [← HR.out]; exact name_no (.inl h0)
    subst hf
    have he : s.toList.isEmpty = true := by
      rw [ByteArray.toList_eq]
      have : s.data.size = 0 := h0
      simp [Array.eq_empty_of_size_eq_zero this]
    clear h0 HR
    go_enter Tryz.func69, Tryz.ntmps69
    go_wp2
    go_ret
    exact ⟨rfl, rfl⟩
  · have he : s.toList.isEmpty = false := by
      rw [ByteArray.toList_eq]
      cases hs : s.data.toList with
      | nil =>
        exfalso; apply h0
        have : s.data.toList.length = 0 := by rw [hs]; rfl
        simpa using this
      | cons => rfl
    have hp : 0 < s.size := by omega
    by_cases h1 : 200 < s.size
    · have hf : r = false := by rw [← HR.out]; exact name_no (.inr (.inl h1))
      subst hf
      have h1' : (200 : Int) < (s.size : Int) := by omega
      clear HR h0
      go_enter Tryz.func69, Tryz.ntmps69
      go_wp2
      go_ret
      exact ⟨rfl, rfl⟩
    · have d1 : decide (200 < s.size) = false := by simp; omega
      have hb := by_eq s 0 hp
      cases h2 : isDig (by_ s 0) with
      | true =>
        have hf : r = false := by rw [← HR.out]; exact name_no (.inr (.inr (.inl h2)))
        subst hf
        rw [← hb] at h2
        have H2 := Lib.hid h2
        clear HR h0 h2 hb
        go_enter Tryz.func69, Tryz.ntmps69
        go_wp2_with (go_at_call 75; refine (digit_is _ true H2.out _).mono ?_; rintro e w' ⟨rfl, rfl⟩)
        go_ret
        exact ⟨rfl, rfl⟩
      | false =>
        have h2' := h2
        rw [← hb] at h2
        have H2 := Lib.hid h2
        have H2' := Lib.hid h2'
        clear h0 h2 h2' hb
        go_enter Tryz.func69, Tryz.ntmps69
        go_wp2_with (go_at_call 75; refine (digit_is _ false H2.out _).mono ?_; rintro e w' ⟨rfl, rfl⟩)
        go_loop [18] (fun i => ∃ k : Nat, k ≤ s.size ∧ i = .int .i64 k ∧ Hid (Named s k)) (fun i => s.size - (intOf i).toNat)
        case atStart => exact ⟨0, Nat.zero_le _, rfl, named_zero s⟩
        case round =>
          obtain ⟨k, hk, rfl, hn⟩ := hrel
          by_cases hlt : k < s.size
          · have hbk := by_eq s k hlt
            cases h3 : isLet (by_ s k) with
            | true =>
              have HN : Hid (Named s (k + 1)) := named_succ hn.out (by rw [h3]; rfl)
              rw [← hbk] at h3
              have H3 := Lib.hid h3
              clear h3 hbk
              go_wp2_with (go_at_call 76; refine (letter_is _ true H3.out _).mono ?_; rintro e w' ⟨rfl, rfl⟩)
              go_round
              case rel => exact ⟨k + 1, by omega, by go_num, HN⟩
              case measure => simp [intOf]; omega
            | false =>
              cases h4 : isDig (by_ s k) with
              | true =>
                have HN : Hid (Named s (k + 1)) := named_succ hn.out (by rw [h3, h4]; rfl)
                rw [← hbk] at h3 h4
                have H3 := Lib.hid h3
                have H4 := Lib.hid h4
                clear h3 h4 hbk
                go_wp2_with (first | (go_at_call 76; refine (letter_is _ false H3.out _).mono ?_; rintro e w' ⟨rfl, rfl⟩) | (go_at_call 75; refine (digit_is _ true H4.out _).mono ?_; rintro e w' ⟨rfl, rfl⟩))
                go_round
                case rel => exact ⟨k + 1, by omega, by go_num, HN⟩
                case measure => simp [intOf]; omega
              | false =>
                have hf : r = false := by rw [← HR.out]; exact name_no (.inr (.inr (.inr ⟨k, hlt, by rw [h3, h4]; rfl⟩)))
                subst hf
                rw [← hbk] at h3 h4
                have H3 := Lib.hid h3
                have H4 := Lib.hid h4
                clear h3 h4 hbk
                go_wp2_with (first | (go_at_call 76; refine (letter_is _ false H3.out _).mono ?_; rintro e w' ⟨rfl, rfl⟩) | (go_at_call 75; refine (digit_is _ false H4.out _).mono ?_; rintro e w' ⟨rfl, rfl⟩))
                go_ret
                exact ⟨rfl, rfl⟩
          · have hf : r = true := by
              rw [← HR.out]
              exact name_yes hp (by omega) H2'.out (by rw [show s.size = k by omega]; exact hn.out)
            subst hf
            go_wp2
            go_ret
            exact ⟨rfl, rfl⟩



end Go.Proofs.YtmodehfedhgcbaaGreatDoor.Rg

namespace Go.Proofs.YtmodehfedhgcbaaGreatDoor.Rg
open Go.RowKit Lb
set_option linter.unusedVariables false


/-- the tables of utf8, as they are laid -/
def Tabs (w : World) : Prop := Lib.Utf8Tabs 2 3 w
theorem Tabs.below {w w' : World} {B : Nat} (h : Tabs w) (hB : 4 ≤ B) (hb : Below B w w') : Tabs w' :=
  ⟨fun c hc => (hb.cell (p := ⟨2, c, none⟩) (by show 2 < B; omega)).trans (h.1 c hc), fun i hi => ⟨(hb.cell (p := ⟨3, 2 * i, none⟩) (by show 3 < B; omega)).trans (h.2 i hi).1, (hb.cell (p := ⟨3, 2 * i + 1, none⟩) (by show 3 < B; omega)).trans (h.2 i hi).2⟩⟩
theorem Tabs.size {w : World} (h : Tabs w) : 4 ≤ w.heap.size := World.block_lt_of_cell? _ _ (h.2 0 (by omega)).1

theorem valid_any (s : ByteArray) (w : World) (hs : s.size ≤ 9223372036854775807) (hT : Tabs w) : Calls Tryz.prog 101 #[.string s] w fun e w' => e = .returned (.bool (Lib.validD s.data.toList)) ∧ Below w.heap.size w w' :=
  Any.utf8_ValidString Tryz.laysValid s w hs hT

def valB (s : ByteArray) : Bool := decide (s.size ≤ 200) && Lib.validD s.data.toList

theorem value_any (s : ByteArray) (w : World) (hT : Tabs w) : Calls Tryz.prog 86 #[.string s] w fun e w' => e = .returned (.bool (valB s)) ∧ Below w.heap.size w w' := by
  unfold valB
  by_cases h : s.size ≤ 200
  · have H := Lib.hid (valid_any s w (by omega) hT)
    clear hT
    generalize Lib.validD s.data.toList = r at *
    rw [decide_eq_true h, Bool.true_and]
    have hi : (s.size : Int) ≤ 200 := by omega
    go_enter Tryz.func86, Tryz.ntmps86
    go_wp2_with fail
    refine (H.out).mono ?_
    rintro e w1 ⟨rfl, hb⟩
    go_wp2
    go_ret
    exact ⟨rfl, hb⟩
  · rw [decide_eq_false h, Bool.false_and]
    clear hT
    have hi : ¬ (s.size : Int) ≤ 200 := by omega
    go_enter Tryz.func86, Tryz.ntmps86
    go_wp2_with fail
    go_ret
    exact ⟨rfl, Below.refl _ _⟩


end Go.Proofs.YtmodehfedhgcbaaGreatDoor.Rg

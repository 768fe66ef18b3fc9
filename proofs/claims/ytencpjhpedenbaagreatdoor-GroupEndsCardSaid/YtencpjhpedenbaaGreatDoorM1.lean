/- Plain facts on bytes, names and the order of strings, of labels and of lists of labels. No condition. -/
import GoSem.Op.String
import Derived.Laws.Strings
namespace Go.Proofs.YtencpjhpedenbaaGreatDoor.Lb
open Go

abbrev Lab := ByteArray × ByteArray
def e0 : Lab := (ByteArray.empty, ByteArray.empty)

def isDig (c : Int) : Bool := decide (48 ≤ c) && decide (c ≤ 57)
def isLet (c : Int) : Bool := (decide (97 ≤ c) && decide (c ≤ 122)) || (decide (65 ≤ c) && decide (c ≤ 90)) || c == 95

/-- the byte at a place, as a number -/
def by_ (s : ByteArray) (k : Nat) : Int := if h : k < s.size then ((s[k]'h).toNat : Int) else 0
theorem by_eq (s : ByteArray) (k : Nat) (h : k < s.size) : ((s[k]'h).toNat : Int) = by_ s k := by unfold by_; rw [dif_pos h]

def Named (s : ByteArray) (k : Nat) : Prop := ∀ i, i < k → (isLet (by_ s i) || isDig (by_ s i)) = true
instance (s : ByteArray) (k : Nat) : Decidable (Named s k) := by unfold Named; infer_instance
def nameB (s : ByteArray) : Bool := decide (0 < s.size) && (decide (s.size ≤ 200) && (!isDig (by_ s 0) && decide (Named s s.size)))

theorem named_zero (s : ByteArray) : Named s 0 := fun _ h => absurd h (Nat.not_lt_zero _)
theorem named_succ {s : ByteArray} {k : Nat} (h : Named s k) (h1 : (isLet (by_ s k) || isDig (by_ s k)) = true) : Named s (k + 1) := by
  intro i hi
  by_cases e : i = k
  · subst e; exact h1
  · exact h i (by omega)
theorem name_yes {s : ByteArray} (h1 : 0 < s.size) (h2 : s.size ≤ 200) (h3 : isDig (by_ s 0) = false) (h4 : Named s s.size) : nameB s = true := by
  simp [nameB, h1, h2, h3, h4]
theorem name_no {s : ByteArray} (h : s.size = 0 ∨ 200 < s.size ∨ isDig (by_ s 0) = true ∨ ∃ i, i < s.size ∧ (isLet (by_ s i) || isDig (by_ s i)) = false) : nameB s = false := by
  cases hn : nameB s with
  | false => rfl
  | true =>
    simp only [nameB, Bool.and_eq_true, decide_eq_true_eq, Bool.not_eq_true'] at hn
    obtain ⟨h1, h2, h3, h4⟩ := hn
    rcases h with h | h | h | ⟨i, hi, h⟩
    · omega
    · omega
    · rw [h3] at h; cases h
    · rw [h4 i hi] at h; cases h

/-! the order of strings -/
theorem less_irrefl : ∀ x : List UInt8, Op.bytesLess x x = false
  | [] => rfl
  | a :: x => by simp [Op.bytesLess, less_irrefl x]
theorem less_trans : ∀ x y z : List UInt8, Op.bytesLess x y = true → Op.bytesLess y z = true → Op.bytesLess x z = true
  | _, [], _, h, _ => by cases ‹List UInt8› <;> simp [Op.bytesLess] at h
  | _, _ :: _, [], _, h => by simp [Op.bytesLess] at h
  | [], _ :: _, _ :: _, _, _ => rfl
  | a :: x, b :: y, c :: z, h1, h2 => by
    simp only [Op.bytesLess, Bool.or_eq_true, decide_eq_true_eq, Bool.and_eq_true, beq_iff_eq] at h1 h2 ⊢
    rcases h1 with h1 | ⟨rfl, h1⟩
    · rcases h2 with h2 | ⟨rfl, h2⟩
      · exact .inl (UInt8.lt_trans h1 h2)
      · exact .inl h1
    · rcases h2 with h2 | ⟨rfl, h2⟩
      · exact .inl h2
      · exact .inr ⟨rfl, less_trans x y z h1 h2⟩
theorem less_tri : ∀ x y : List UInt8, Op.bytesLess x y = false → Op.bytesLess y x = false → x = y
  | [], [], _, _ => rfl
  | [], _ :: _, h, _ => by simp [Op.bytesLess] at h
  | _ :: _, [], _, h => by simp [Op.bytesLess] at h
  | a :: x, b :: y, h1, h2 => by
    simp only [Op.bytesLess, Bool.or_eq_false_iff, decide_eq_false_iff_not] at h1 h2
    have e : a = b := UInt8.le_antisymm (UInt8.not_lt.1 h2.1) (UInt8.not_lt.1 h1.1)
    subst e
    have i1 : Op.bytesLess x y = false := by simpa using h1.2
    have i2 : Op.bytesLess y x = false := by simpa using h2.2
    rw [less_tri x y i1 i2]

def sl (x y : ByteArray) : Bool := Op.bytesLess x.toList y.toList
theorem toList_inj {x y : ByteArray} (h : x.toList = y.toList) : x = y := by
  rw [ByteArray.toList_eq, ByteArray.toList_eq] at h
  cases x; cases y
  simp only [ByteArray.mk.injEq]
  exact Array.toList_inj.1 h
def cmpS (x y : ByteArray) : Int := if sl x y = true then -1 else if x.toList = y.toList then 0 else 1
theorem cmpS_lt {x y : ByteArray} (h : sl x y = true) : cmpS x y = -1 := by unfold cmpS; rw [if_pos h]
theorem cmpS_eq (x : ByteArray) : cmpS x x = 0 := by unfold cmpS sl; rw [if_neg (by rw [less_irrefl]; simp), if_pos rfl]
theorem cmpS_gt {x y : ByteArray} (h : sl y x = true) : cmpS x y = 1 := by
  have h1 : ¬ sl x y = true := fun h2 => by
    have := less_trans _ _ _ h h2
    rw [less_irrefl] at this; cases this
  have h2 : ¬ x.toList = y.toList := fun e => by
    unfold sl at h; rw [e, less_irrefl] at h; cases h
  unfold cmpS; rw [if_neg h1, if_neg h2]
theorem cmpS_cases (x y : ByteArray) : (sl x y = true ∧ cmpS x y = -1) ∨ (x = y ∧ cmpS x y = 0) ∨ (sl y x = true ∧ cmpS x y = 1) := by
  cases h1 : sl x y with
  | true => exact .inl ⟨rfl, cmpS_lt h1⟩
  | false =>
    cases h2 : sl y x with
    | true => exact .inr (.inr ⟨rfl, cmpS_gt h2⟩)
    | false =>
      have := toList_inj (less_tri _ _ h1 h2)
      subst this
      exact .inr (.inl ⟨rfl, cmpS_eq x⟩)
end Go.Proofs.YtencpjhpedenbaaGreatDoor.Lb

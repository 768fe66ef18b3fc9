import Derived.Test.YtencpjhpedenbaaGreatDoorN3
import Derived.Test.YtencpjhpedenbaaGreatDoorShelf
namespace Go.Proofs.YtencpjhpedenbaaGreatDoor
open Go.RowKit Lb
set_option linter.unusedVariables false

/-- the tables of utf8, as they are laid -/
def Tabs (w : World) : Prop := Lib.Utf8Tabs 1 2 w
theorem Tabs.below {w w' : World} {B : Nat} (h : Tabs w) (hB : 3 ≤ B) (hb : Below B w w') : Tabs w' :=
  ⟨fun c hc => (hb.cell (p := ⟨1, c, none⟩) (by show 1 < B; omega)).trans (h.1 c hc), fun i hi => ⟨(hb.cell (p := ⟨2, 2 * i, none⟩) (by show 2 < B; omega)).trans (h.2 i hi).1, (hb.cell (p := ⟨2, 2 * i + 1, none⟩) (by show 2 < B; omega)).trans (h.2 i hi).2⟩⟩
theorem Tabs.size {w : World} (h : Tabs w) : 3 ≤ w.heap.size := World.block_lt_of_cell? _ _ (h.2 0 (by omega)).1

theorem valid_any (s : ByteArray) (w : World) (hs : s.size ≤ 9223372036854775807) (hT : Tabs w) : Calls Tryz.prog 69 #[.string s] w fun e w' => e = .returned (.bool (Lib.validD s.data.toList)) ∧ Below w.heap.size w w' :=
  Any.utf8_ValidString Tryz.laysValid s w hs hT

def valB (s : ByteArray) : Bool := decide (s.size ≤ 200) && Lib.validD s.data.toList

theorem value_any (s : ByteArray) (w : World) (hT : Tabs w) : Calls Tryz.prog 54 #[.string s] w fun e w' => e = .returned (.bool (valB s)) ∧ Below w.heap.size w w' := by
  unfold valB
  by_cases h : s.size ≤ 200
  · have H := Lib.hid (valid_any s w (by omega) hT)
    clear hT
    generalize Lib.validD s.data.toList = r at *
    rw [decide_eq_true h, Bool.true_and]
    have hi : (s.size : Int) ≤ 200 := by omega
    go_enter Tryz.func54, Tryz.ntmps54
    go_wp2_with fail
    refine (H.out).mono ?_
    rintro e w1 ⟨rfl, hb⟩
    go_wp2
    go_ret
    exact ⟨rfl, hb⟩
  · rw [decide_eq_false h, Bool.false_and]
    clear hT
    have hi : ¬ (s.size : Int) ≤ 200 := by omega
    go_enter Tryz.func54, Tryz.ntmps54
    go_wp2_with fail
    go_ret
    exact ⟨rfl, Below.refl _ _⟩

/-! sorting -/
def encT (x : Lab) : List Value := [.string x.1, .string x.2]
theorem ltT_lt (x y : Lab) : ltOf cmpT x y = true ↔ cmpT x y < 0 := by unfold ltOf; simp
theorem cmpT_eq (x : Lab) : cmpT x x = 0 := by unfold cmpT; rw [cmpS_eq, if_pos rfl, cmpS_eq]
/-- how two labels may lie -/
theorem cmpT_cases (x y : Lab) : (cmpT x y = -1 ∧ (sl x.1 y.1 = true ∨ (x.1 = y.1 ∧ sl x.2 y.2 = true))) ∨ (cmpT x y = 0 ∧ x = y) ∨ (cmpT x y = 1 ∧ (sl y.1 x.1 = true ∨ (x.1 = y.1 ∧ sl y.2 x.2 = true))) := by
  unfold cmpT
  rcases cmpS_cases x.1 y.1 with ⟨h1, e1⟩ | ⟨h1, e1⟩ | ⟨h1, e1⟩
  · rw [e1]; exact .inl ⟨rfl, .inl h1⟩
  · rw [e1, if_pos rfl]
    rcases cmpS_cases x.2 y.2 with ⟨h2, e2⟩ | ⟨h2, e2⟩ | ⟨h2, e2⟩
    · exact .inl ⟨e2, .inr ⟨h1, h2⟩⟩
    · exact .inr (.inl ⟨e2, Prod.ext h1 h2⟩)
    · exact .inr (.inr ⟨e2, .inr ⟨h1, h2⟩⟩)
  · rw [e1]; exact .inr (.inr ⟨rfl, .inl h1⟩)
theorem sl_irrefl (x : ByteArray) : sl x x = false := less_irrefl _
theorem sl_trans {x y z : ByteArray} (h1 : sl x y = true) (h2 : sl y z = true) : sl x z = true := less_trans _ _ _ h1 h2
def ltT (x y : Lab) : Prop := sl x.1 y.1 = true ∨ (x.1 = y.1 ∧ sl x.2 y.2 = true)
theorem ltT_irrefl (x : Lab) : ¬ ltT x x := by
  rintro (h | ⟨_, h⟩) <;> rw [sl_irrefl] at h <;> cases h
theorem ltT_trans {x y z : Lab} (h1 : ltT x y) (h2 : ltT y z) : ltT x z := by
  rcases h1 with h1 | ⟨e1, h1⟩ <;> rcases h2 with h2 | ⟨e2, h2⟩
  · exact .inl (sl_trans h1 h2)
  · exact .inl (e2 ▸ h1)
  · exact .inl (e1 ▸ h2)
  · exact .inr ⟨e1.trans e2, sl_trans h1 h2⟩
theorem cmpT_neg {x y : Lab} : cmpT x y = -1 ↔ ltT x y := by
  constructor
  · intro h
    rcases cmpT_cases x y with ⟨_, k⟩ | ⟨k, _⟩ | ⟨k, _⟩
    · exact k
    · omega
    · omega
  · intro h
    rcases cmpT_cases x y with ⟨k, _⟩ | ⟨_, rfl⟩ | ⟨_, k⟩
    · exact k
    · exact absurd h (ltT_irrefl _)
    · have : ltT y x := by
        rcases k with k | ⟨e, k⟩
        · exact .inl k
        · exact .inr ⟨e.symm, k⟩
      exact absurd (ltT_trans h this) (ltT_irrefl _)
theorem cmpT_zero {x y : Lab} : cmpT x y = 0 ↔ x = y := by
  constructor
  · intro h
    rcases cmpT_cases x y with ⟨k, _⟩ | ⟨_, k⟩ | ⟨k, _⟩
    · omega
    · exact k
    · omega
  · rintro rfl; exact cmpT_eq x
theorem cmpT_pos {x y : Lab} : cmpT x y = 1 ↔ ltT y x := by
  constructor
  · intro h
    rcases cmpT_cases x y with ⟨k, _⟩ | ⟨k, _⟩ | ⟨_, k⟩
    · omega
    · omega
    · rcases k with k | ⟨e, k⟩
      · exact .inl k
      · exact .inr ⟨e.symm, k⟩
  · intro h
    rcases cmpT_cases x y with ⟨_, k⟩ | ⟨_, rfl⟩ | ⟨k, _⟩
    · exact absurd (ltT_trans h k) (ltT_irrefl _)
    · exact absurd h (ltT_irrefl _)
    · exact k
theorem ltOf_iff (x y : Lab) : ltOf cmpT x y = true ↔ ltT x y := by
  rw [ltT_lt]
  rcases cmpT_cases x y with ⟨k, h⟩ | ⟨k, rfl⟩ | ⟨k, h⟩
  · exact ⟨fun _ => h, fun _ => by omega⟩
  · exact ⟨fun h => by omega, fun h => absurd h (ltT_irrefl _)⟩
  · exact ⟨fun h => by omega, fun h => by have := cmpT_neg.2 h; omega⟩
theorem ltT_tri (x y : Lab) : ltT x y ∨ x = y ∨ ltT y x := by
  rcases cmpT_cases x y with ⟨k, _⟩ | ⟨_, k⟩ | ⟨k, _⟩
  · exact .inl (cmpT_neg.1 k)
  · exact .inr (.inl k)
  · exact .inr (.inr (cmpT_pos.1 k))
theorem swoT : Sort.SWO (ltOf cmpT) where
  irrefl x := by
    cases h : ltOf cmpT x x with
    | false => rfl
    | true => exact absurd ((ltOf_iff x x).1 h) (ltT_irrefl _)
  trans x y z h1 h2 := by
    rw [ltOf_iff] at *
    exact ltT_trans h1 h2
  ntrans x y z h1 h2 := by
    have n1 : ¬ ltT x y := fun h => by rw [← ltOf_iff] at h; rw [h] at h1; cases h1
    have n2 : ¬ ltT y z := fun h => by rw [← ltOf_iff] at h; rw [h] at h2; cases h2
    cases h : ltOf cmpT x z with
    | false => rfl
    | true =>
      have k := (ltOf_iff x z).1 h
      rcases ltT_tri x y with a | a | a
      · exact absurd a n1
      · subst a; exact absurd k n2
      · exact absurd (ltT_trans a k) n2
theorem totT (x y : Lab) (h1 : ltOf cmpT x y = false) (h2 : ltOf cmpT y x = false) : x = y := by
  rcases ltT_tri x y with a | a | a
  · rw [← ltOf_iff] at a; rw [a] at h1; cases h1
  · exact a
  · rw [← ltOf_iff] at a; rw [a] at h2; cases h2
end Go.Proofs.YtencpjhpedenbaaGreatDoor

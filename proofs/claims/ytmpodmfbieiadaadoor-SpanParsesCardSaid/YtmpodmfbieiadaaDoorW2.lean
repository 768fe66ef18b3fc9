import Derived.Test.YtmpodmfbieiadaaDoorW1
import Derived.Test.YtmpodmfbieiadaaDoorShelf
import Derived.Laws.RangeAny
import Derived.Laws.RangeString
namespace Go.Proofs.YtmpodmfbieiadaaDoor
open Go.RowKit Sp
set_option linter.unusedVariables false

/-! what is laid in span.units -/
def Units (w : World) : Prop := ∀ k, k < 7 → w.cell? ⟨0, k * 2, none⟩ = some (.string ⟨(nameAt k).toArray⟩) ∧ w.cell? ⟨0, k * 2 + 1, none⟩ = some (.int .i64 (sizeAt k : Nat))

def NoneTo (nm : List UInt8) (a k : Nat) : Prop := ∀ i, a ≤ i → i < k → nameAt i ≠ nm
theorem findGo_none {nm : List UInt8} : ∀ (f k : Nat), k + f = 7 → NoneTo nm k 7 → findGo nm f k = 7
  | 0, _, _, _ => rfl
  | f + 1, k, h, hn => by
    unfold findGo
    rw [if_neg (hn k (Nat.le_refl _) (by omega))]
    exact findGo_none f (k + 1) (by omega) fun i h1 h2 => hn i (by omega) h2
theorem findGo_at {nm : List UInt8} : ∀ (f k j : Nat), k + f = 7 → k ≤ j → j < 7 → NoneTo nm k j → nameAt j = nm → findGo nm f k = j
  | 0, _, _, _, _, _, _, _ => by omega
  | f + 1, k, j, h, h1, h2, hn, he => by
    unfold findGo
    by_cases e : k = j
    · subst e; rw [if_pos he]
    · rw [if_neg (hn k (Nat.le_refl _) (by omega))]
      exact findGo_at f (k + 1) j (by omega) (by omega) h2 (fun i a b => hn i (by omega) b) he

theorem str_data (a : ByteArray) : (⟨a.data.toList.toArray⟩ : ByteArray) = a := rfl

set_option maxHeartbeats 1000000 in
theorem find_any (nm : ByteArray) (a : Nat) (w : World) (hU : Units w) (ha : a ≤ 7) :
    Calls Tryd.prog 14 #[.string nm, .int .i64 a] w fun e w' => e = .returned (.int .i64 (findF nm.data.toList a)) ∧ w = w' := by
  have HU := Lib.hid hU
  clear hU
  generalize hr : findF nm.data.toList a = r
  have HR := Lib.hid hr
  clear hr
  go_enter Tryd.func14, Tryd.ntmps14
  go_wp2
  go_loop [5] (fun i => ∃ k : Nat, a ≤ k ∧ k ≤ 7 ∧ i = .int .i64 k ∧ Hid (NoneTo nm.data.toList a k)) (fun i => 7 - (intOf i).toNat)
  case atStart => exact ⟨a, Nat.le_refl _, ha, rfl, fun i h1 h2 => absurd h2 (by omega)⟩
  case round =>
    obtain ⟨k, hak, hk, rfl, HN⟩ := hrel
    by_cases hlt : k < 7
    · have hc := (HU.out k hlt).1
      by_cases he : nameAt k = nm.data.toList
      · have hf : findF nm.data.toList a = k := findGo_at _ _ k (by omega) hak hlt HN.out he
        obtain rfl : r = k := by rw [← HR.out]; exact hf
        have e1 : (({ data := (nameAt r).toArray } : ByteArray).toList == nm.toList) = true := by rw [Lib.toList_data, Lib.toList_data]; simp [he]
        have HE := Lib.hid he
        clear he hf HR
        generalize (nameAt r).toArray = q at *
        go_wp2
        go_ret
        exact ⟨rfl, rfl⟩
      · have e1 : (({ data := (nameAt k).toArray } : ByteArray).toList == nm.toList) = false := by rw [Lib.toList_data, Lib.toList_data]; simp [he]
        have HS : Hid (NoneTo nm.data.toList a (k + 1)) := fun i h1 h2 => by
          by_cases e : i = k
          · subst e; exact he
          · exact HN.out i h1 (by omega)
        clear he
        generalize (nameAt k).toArray = q at *
        go_wp2
        go_round
        case rel => exact ⟨k + 1, by omega, by omega, by go_num, HS⟩
        case measure => simp [intOf]; omega
    · have hf : findF nm.data.toList a = 7 := findGo_none _ _ (by omega) (by have := HN.out; rwa [show k = 7 by omega] at this)
      obtain rfl : r = 7 := by rw [← HR.out]; exact hf
      clear hf HR
      go_wp2
      go_ret
      exact ⟨rfl, rfl⟩
end Go.Proofs.YtmpodmfbieiadaaDoor

import Derived.Test.YtmpodmfbieiadaaDoorW5
namespace Go.Proofs.YtmpodmfbieiadaaDoor
open Go.RowKit Sp Go.Shelf
set_option linter.unusedVariables false

theorem zero72 (w : World) : (zeroValue 72).run Tryd.prog w = .ok (.agg (Array.replicate 256 (.bool false))) w := by kernel_rfl
theorem info72 : (Tryd.prog.info? 72).map (·.size) = some 256 := by kernel_rfl
theorem index_any (s : ByteArray) (w : World) (hs : s.size ≤ 65536) :
    Calls Tryd.prog 21 #[.string s, .string D10] w fun e w' => e = .returned (.int .i64 (Lib.indexAny s.data.toList d10)) ∧ Below w.heap.size w w' := by
  by_cases h8 : s.size ≤ 8
  · exact any_short s w h8
  · refine (Any.strings_IndexAny_long (ρ := Tryd.laysAny_ren) Tryd.laysAny zero72 info72 s D10 w (by decide) (by omega) (by omega) (by decide) (fun j b hb => ?_)).mono fun e w' ⟨h1, h2⟩ => ⟨h1, ?_⟩
    · have : ∀ b ∈ D10.data.toList, b.toNat < 128 := by decide
      exact this b (List.mem_of_getElem? hb)
    · rw [h2]
      exact ((Below.refl _ _).alloc (Nat.le_refl _) _).alloc (by simp) _

theorem lets_none : ∀ l : List UInt8, Lib.indexAny l d10 = -1 → lets l = l
  | [], _ => rfl
  | b :: l, h => by
    unfold Lib.indexAny at h
    rw [d10_isD] at h
    have hge := Lib.indexAny_ge d10 l
    cases hb : isD b with
    | true => rw [hb] at h; simp at h
    | false =>
      rw [hb] at h
      simp only [Bool.false_eq_true, if_false] at h
      have ih : Lib.indexAny l d10 = -1 := by
        by_cases e : Lib.indexAny l d10 = -1
        · exact e
        · rw [if_neg (by simpa using e)] at h; omega
      unfold lets
      rw [List.takeWhile_cons, show isL b = true by simp [isL, hb]]
      exact congrArg _ (lets_none l ih)
theorem lets_at : ∀ (l : List UInt8) (k : Nat), Lib.indexAny l d10 = (k : Int) → lets l = l.take k ∧ k < l.length
  | [], k, h => by simp [Lib.indexAny] at h
  | b :: l, k, h => by
    unfold Lib.indexAny at h
    rw [d10_isD] at h
    have hge := Lib.indexAny_ge d10 l
    cases hb : isD b with
    | true =>
      rw [hb] at h
      simp at h
      have hk : k = 0 := by omega
      subst hk
      unfold lets
      rw [List.takeWhile_cons, show isL b = false by simp [isL, hb]]
      exact ⟨rfl, by simp⟩
    | false =>
      rw [hb] at h
      simp only [Bool.false_eq_true, if_false] at h
      by_cases e : Lib.indexAny l d10 = -1
      · rw [if_pos (by simpa using e)] at h; omega
      · rw [if_neg (by simpa using e)] at h
        obtain ⟨j, hj⟩ : ∃ j : Nat, Lib.indexAny l d10 = (j : Int) := ⟨(Lib.indexAny l d10).toNat, by omega⟩
        have hk : k = j + 1 := by omega
        subst hk
        obtain ⟨h1, h2⟩ := lets_at l j hj
        unfold lets at h1 ⊢
        rw [List.takeWhile_cons, show isL b = true by simp [isL, hb], if_pos rfl, h1]
        exact ⟨rfl, by simp; omega⟩

set_option maxHeartbeats 1000000 in
theorem letters_any (s : ByteArray) (w : World) (hs : s.size ≤ 65536) :
    Calls Tryd.prog 13 #[.string s] w fun e w' => e = .returned (.string ⟨(lets s.data.toList).toArray⟩) ∧ Below w.heap.size w w' := by
  have hge := Lib.indexAny_ge d10 s.data.toList
  have H := Lib.hid (index_any s w hs)
  have hd : (D10 : ByteArray) = ⟨#[48, 49, 50, 51, 52, 53, 54, 55, 56, 57]⟩ := rfl
  by_cases h : Lib.indexAny s.data.toList d10 = -1
  · have HL := Lib.hid (lets_none _ h)
    rw [h, hd] at H
    clear h hge hd
    go_enter Tryd.func13, Tryd.ntmps13
    go_wp2_with fail
    refine (H.out).mono ?_
    rintro e w1 ⟨rfl, hb1⟩
    go_wp2
    go_ret
    exact ⟨by rw [HL.out]; rfl, hb1⟩
  · obtain ⟨k, hk⟩ : ∃ k : Nat, Lib.indexAny s.data.toList d10 = (k : Int) := ⟨(Lib.indexAny s.data.toList d10).toNat, by omega⟩
    obtain ⟨h1, h2⟩ := lets_at _ k hk
    have HL := Lib.hid h1
    rw [hk, hd] at H
    have h3 : k < s.size := by rw [Lib.size_eq]; exact h2
    have HE := Lib.hid (str_ext (a := s.extract 0 k) (l := s.data.toList.take k) (by rw [Lib.extract_data]; simp))
    clear h1 h2 hk hge h hd
    go_enter Tryd.func13, Tryd.ntmps13
    go_wp2_with fail
    refine (H.out).mono ?_
    rintro e w1 ⟨rfl, hb1⟩
    go_wp2
    go_ret
    exact ⟨by rw [HL.out, ← HE.out]; rfl, hb1⟩
end Go.Proofs.YtmpodmfbieiadaaDoor

import Derived.Test.YtiabnacgfoaihaaDoorU5
namespace Go.Proofs.YtiabnacgfoaihaaDoor
open Go.RowKit Lb
set_option linter.unusedVariables false

/-- Append's code is no less than nothing -/
theorem app_pos (S : List Ser) (l : List Lab) (p : Pt) : (appF S l p).1 = 0 ∨ 0 < (appF S l p).1 := by
  cases h : storeB S with
  | false => rw [app_1 h]; omega
  | true =>
    cases hm : makeF l with
    | none => rw [app_2 h hm]; omega
    | some m =>
      rw [app_0 h hm]
      split
      · exact .inr (by decide)
      · split
        · exact .inr (by decide)
        · split
          · exact .inr (by decide)
          · exact .inl rfl
/-- what is refused holds nothing -/
theorem app_empty (S : List Ser) (l : List Lab) (p : Pt) (h0 : (appF S l p).1 ≠ 0) : (appF S l p).2 = [] := by
  revert h0
  unfold appF
  split
  · intro _; rfl
  · split
    · intro _; rfl
    · split
      · intro _; rfl
      · split
        · intro _; rfl
        · split
          · intro _; rfl
          · intro h; exact absurd rfl h
end Go.Proofs.YtiabnacgfoaihaaDoor

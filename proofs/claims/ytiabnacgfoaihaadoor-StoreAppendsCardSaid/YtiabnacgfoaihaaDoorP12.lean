import Derived.Test.YtiabnacgfoaihaaDoorP11
import Derived.Deep.Slices
namespace Go.Proofs.YtiabnacgfoaihaaDoor
open Go.RowKit Lb
set_option linter.unusedVariables false

theorem nil_cap {H : Type} {enc : TypeId × Value → H} {w : World} {base : Nat} {spare : Nat → Bool} {held : Bool} {fuel : Nat} {a : Option Addr} {len cap : Nat} {x : DataW H × List MemPlace}
    (h : DataW.trod enc Tryd.prog w base spare held fuel 23 [.slice a len cap] = some x) : a = none → cap = 0 := by
  rintro rfl
  rcases Go.Deep.open_slice Tryd.underlying23 h with ⟨hcs, _⟩ | ⟨ad, n, c, m, k, D, Pl, hcs, _⟩
  · simp at hcs; exact hcs.2
  · simp at hcs
end Go.Proofs.YtiabnacgfoaihaaDoor

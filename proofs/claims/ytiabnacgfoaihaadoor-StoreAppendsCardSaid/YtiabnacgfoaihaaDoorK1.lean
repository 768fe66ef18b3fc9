import Derived.Test.YtiabnacgfoaihaaDoorM3
namespace Go.Proofs.YtiabnacgfoaihaaDoor
open Go.RowKit Lb
set_option linter.unusedVariables false

theorem make_yes {l o : List Lab} (h : makeF l = some o) (A : Option Addr) (cap : Nat) (w : World) (hL : Lbs w A l) (hT : Tabs w) (hl : l.length ≤ 65536) :
    Calls Tryd.prog 22 #[.slice A l.length cap] w fun e w' => ∃ A' c, e = .returned (.tuple #[.slice A' o.length c, .nilIface]) ∧ OwnL w' A' c o ∧ Below w.heap.size w w' :=
  (make_any A cap l w hL hT hl).mono fun e w' ⟨hb, hc⟩ => by
    rcases hc with ⟨h1, _⟩ | ⟨o', A', c, h1, he, ho⟩
    · rw [h] at h1; cases h1
    · rw [h] at h1
      injection h1 with h1
      subst h1
      exact ⟨A', c, he, ho, hb⟩
theorem make_no {l : List Lab} (h : makeF l = none) (A : Option Addr) (cap : Nat) (w : World) (hL : Lbs w A l) (hT : Tabs w) (hl : l.length ≤ 65536) :
    Calls Tryd.prog 22 #[.slice A l.length cap] w fun e w' => e = .returned (.tuple #[.slice none 0 0, .iface 53 (.int .i64 1)]) ∧ Below w.heap.size w w' :=
  (make_any A cap l w hL hT hl).mono fun e w' ⟨hb, hc⟩ => by
    rcases hc with ⟨_, he⟩ | ⟨o', A', c, h1, _⟩
    · exact ⟨he, hb⟩
    · rw [h] at h1; cases h1

/-- what is laid: the tables of utf8, and errors.errorType -/
def Laid (w : World) : Prop := Tabs w ∧ ErrT w
theorem Laid.below {w w' : World} {B : Nat} (h : Laid w) (hB : 4 ≤ B) (hb : Below B w w') : Laid w' :=
  ⟨h.1.below hB hb, (hb.cell (p := ⟨0, 0, none⟩) (by show 0 < B; omega)).trans h.2⟩
end Go.Proofs.YtiabnacgfoaihaaDoor

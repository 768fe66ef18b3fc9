import Derived.Test.YtmnhoafhoaklcaaRows
import Derived.Test.YtmnhoafhoaklcaaMath
import Derived.WalkKit
import Derived.WalkLawsBesides
import Derived.WalkSpells
import Derived.RegionTactic
import Derived.Deep.QuietTactic
import Derived.BigQuiet
import Derived.Deep.LoopGhost
import Derived.Lib.Hide
import Derived.Handy
namespace Go.Proofs.Ytmnhoafhoaklcaa
open Go.RowKit Pk
set_option linter.unusedVariables false

theorem near_any (t : Int) (w : World) : Calls Try.prog 17 #[.int .i64 t] w fun e w' => e = .returned (.bool (nearB t)) ∧ w = w' := by
  unfold nearB far
  by_cases h1 : -2305843009213693952 ≤ t
  · by_cases h2 : t ≤ 2305843009213693952
    · go_enter Try.func17, Try.ntmps17
      go_wp2
      go_ret
      exact ⟨by simp [h1, h2], rfl⟩
    · go_enter Try.func17, Try.ntmps17
      go_wp2
      go_ret
      exact ⟨by simp; omega, rfl⟩
  · go_enter Try.func17, Try.ntmps17
    go_wp2
    go_ret
    exact ⟨by simp; omega, rfl⟩

theorem stale_any (t v : Int) (w : World) : Calls Try.prog 15 #[.agg #[.int .i64 t, .int .u64 v]] w fun e w' => e = .returned (.bool (v == stale)) ∧ w' = w.alloc (.cells #[.int .i64 t, .int .u64 v] 34) := by
  unfold stale
  go_enter Try.func15, Try.ntmps15
  go_wp2
  go_ret
  exact ⟨rfl, rfl⟩

/-- a slice of points reads as a list: its length, and each point's two cells -/
def Pts (w : World) (A : Option Addr) (l : List Pt) : Prop :=
  0 < l.length → ∃ b off, A = some ⟨b, off, none⟩ ∧ b < w.heap.size ∧ ∀ i, i < l.length → w.cell? ⟨b, off + i * 2, none⟩ = some (.int .i64 (l.getD i d0).1) ∧ w.cell? ⟨b, off + i * 2 + 1, none⟩ = some (.int .u64 (l.getD i d0).2)

theorem Pts.below {w w' : World} {A : Option Addr} {l : List Pt} (h : Pts w A l) (hb : Below w.heap.size w w') : Pts w' A l := by
  intro hn
  obtain ⟨b, off, rfl, hlt, hc⟩ := h hn
  exact ⟨b, off, rfl, by have := hb.size; omega, fun i hi => ⟨(hb.cell (p := ⟨b, off + i * 2, none⟩) hlt).trans (hc i hi).1, (hb.cell (p := ⟨b, off + i * 2 + 1, none⟩) hlt).trans (hc i hi).2⟩⟩

end Go.Proofs.Ytmnhoafhoaklcaa

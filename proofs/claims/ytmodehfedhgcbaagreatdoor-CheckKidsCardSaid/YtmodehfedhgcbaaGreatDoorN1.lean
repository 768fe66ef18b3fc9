/- Small functions of check and tree: what they answer, as functions. No condition. -/
import Derived.Test.YtmodehfedhgcbaaGreatDoorRows
import Derived.WalkKit
import Derived.WalkLawsBesides
import Derived.WalkSpells
import Derived.RegionTactic
import Derived.Deep.QuietTactic
import Derived.BigQuiet
import Derived.Lib.Hide
import Derived.Handy
namespace Go.Proofs.YtmodehfedhgcbaaGreatDoor.Ck
open Go.RowKit
set_option linter.unusedVariables false

/-- a part's value: the kind, the sign, and so on, as api.Expr has them -/
def exV (k o : Int) (v : Nat) (s : ByteArray) (ms : Value) (wd off : Int) (ha : Bool) (tm how : Int) (ns : Value) (bo : Bool) (ks : Value) : Value :=
  .agg #[.int .i64 k, .int .i64 o, .int .u64 (v : Int), .string s, ms, .int .i64 wd, .int .i64 off, .bool ha, .int .i64 tm, .int .i64 how, ns, .bool bo, ks]
/-- a type that numbers have, or none -/
def numberF (t : Int) : Int := if t = 3 ∨ t = 4 then 0 else t
theorem number_any (t : Int) (w : World) : Calls Tryz.prog 22 #[.int .i64 t] w fun e w' => e = .returned (.int .i64 (numberF t)) ∧ w = w' := by
  by_cases h3 : t = 3
  · subst h3
    go_enter Tryz.func22, Tryz.ntmps22
    go_wp2
    go_ret
    exact ⟨rfl, rfl⟩
  · by_cases h4 : t = 4
    · subst h4
      go_enter Tryz.func22, Tryz.ntmps22
      go_wp2
      go_ret
      exact ⟨rfl, rfl⟩
    · have e3 : (t == 3) = false := by simp; omega
      have e4 : (t == 4) = false := by simp; omega
      have e : numberF t = t := by unfold numberF; rw [if_neg (by omega)]
      rw [e]
      go_enter Tryz.func22, Tryz.ntmps22
      go_wp2
      go_ret
      exact ⟨rfl, rfl⟩
end Go.Proofs.YtmodehfedhgcbaaGreatDoor.Ck

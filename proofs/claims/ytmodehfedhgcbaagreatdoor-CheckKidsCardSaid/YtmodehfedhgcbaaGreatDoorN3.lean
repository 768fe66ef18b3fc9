/- isBare: is all zero, but the kind. No condition. -/
import Derived.Test.YtmodehfedhgcbaaGreatDoorN2
namespace Go.Proofs.YtmodehfedhgcbaaGreatDoor.Ck
open Go.RowKit
set_option linter.unusedVariables false
set_option linter.unusedSimpArgs false

def bareF (o : Int) (v : Nat) (s : ByteArray) (nm : Nat) (wd off : Int) (ha : Bool) (tm how : Int) (nn : Nat) (bo : Bool) (nk : Nat) : Bool :=
  decide (o = 0 ∧ v = 0 ∧ s.toList = [] ∧ nm = 0 ∧ wd = 0 ∧ off = 0 ∧ ha = false ∧ tm = 0 ∧ how = 0 ∧ nn = 0 ∧ bo = false ∧ nk = 0)
set_option maxRecDepth 100000 in
set_option maxHeartbeats 4000000 in
theorem bare_any (k o : Int) (v : Nat) (s : ByteArray) (mp : Option Addr) (nm mc : Nat) (wd off : Int) (ha : Bool) (tm how : Int) (np : Option Addr) (nn nc : Nat) (bo : Bool) (kp : Option Addr) (nk kc : Nat) (w : World) :
    Calls Tryz.prog 55 #[exV k o v s (.slice mp nm mc) wd off ha tm how (.slice np nn nc) bo (.slice kp nk kc)] w fun e w' =>
      e = .returned (.bool (bareF o v s nm wd off ha tm how nn bo nk)) ∧ Below w.heap.size w w' := by
  obtain ⟨r, hr⟩ : ∃ r, bareF o v s nm wd off ha tm how nn bo nk = r := ⟨_, rfl⟩
  rw [hr]
  unfold exV
  have HR := Lib.hid hr
  clear hr
  go_enter Tryz.func55, Tryz.ntmps55
  go_wp2
  all_goals
    go_ret
    refine ⟨congrArg (fun x => Ending.returned (Value.bool x)) ?_, by go_grown⟩
    have hr := HR.out
    unfold bareF at hr
    clear HR
    rw [← hr]
    clear hr
    first
      | (rw [Bool.eq_iff_iff]; simp_all; done)
      | (simp_all; done)
      | (simp_all; omega)
end Go.Proofs.YtmodehfedhgcbaaGreatDoor.Ck

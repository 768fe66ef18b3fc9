/- A part's strength, whether it has kids, held. No condition. -/
import Derived.Test.YtmodehfedhgcbaaGreatDoorN1
namespace Go.Proofs.YtmodehfedhgcbaaGreatDoor.Ck
open Go.RowKit
set_option linter.unusedVariables false
set_option linter.unusedSimpArgs false

def strengthF (k o : Int) : Int := if k = 6 then (if o ≤ 6 then 1 else if o ≤ 8 then 2 else 3) else 4
set_option maxRecDepth 100000 in
set_option maxHeartbeats 2000000 in
theorem strength_any (k o : Int) (v : Nat) (s : ByteArray) (ms : Value) (wd off : Int) (ha : Bool) (tm how : Int) (ns : Value) (bo : Bool) (ks : Value) (w : World) :
    Calls Tryz.prog 64 #[exV k o v s ms wd off ha tm how ns bo ks] w fun e w' => e = .returned (.int .i64 (strengthF k o)) ∧ Below w.heap.size w w' := by
  obtain ⟨r, hr⟩ : ∃ r, strengthF k o = r := ⟨_, rfl⟩
  rw [hr]
  unfold exV
  have HR := Lib.hid hr
  clear hr
  go_enter Tryz.func64, Tryz.ntmps64
  go_wp2
  all_goals
    go_ret
    refine ⟨congrArg (fun x => Ending.returned (Value.int .i64 x)) ?_, by go_grown⟩
    have hr := HR.out
    unfold strengthF at hr
    clear HR
    simp only [bne_iff_ne, ne_eq, bne_eq_false_iff_eq] at *
    (split at hr) <;> (try split at hr) <;> (try split at hr) <;> omega
def hasKidsF (k : Int) : Bool := decide (4 ≤ k ∧ k ≤ 7)
set_option maxRecDepth 100000 in
set_option maxHeartbeats 2000000 in
theorem hasKids_any (k o : Int) (v : Nat) (s : ByteArray) (ms : Value) (wd off : Int) (ha : Bool) (tm how : Int) (ns : Value) (bo : Bool) (ks : Value) (w : World) :
    Calls Tryz.prog 31 #[exV k o v s ms wd off ha tm how ns bo ks] w fun e w' => e = .returned (.bool (hasKidsF k)) ∧ Below w.heap.size w w' := by
  obtain ⟨r, hr⟩ : ∃ r, hasKidsF k = r := ⟨_, rfl⟩
  rw [hr]
  unfold exV
  have HR := Lib.hid hr
  clear hr
  go_enter Tryz.func31, Tryz.ntmps31
  go_wp2
  all_goals
    go_ret
    refine ⟨congrArg (fun x => Ending.returned (Value.bool x)) ?_, by go_grown⟩
    have hr := HR.out
    unfold hasKidsF at hr
    clear HR
    rw [← hr]
    (try simp) <;> (try omega) <;> simp <;> omega
def heldF (o : Int) (bo : Bool) (how a b : Int) : Int :=
  if a = 0 ∨ b = 0 then 0 else if bo = true ∧ 6 < o then 0 else if how ≠ 0 ∧ (a ≠ 2 ∨ b ≠ 2) then 0 else if a = 2 ∨ b = 2 then 2 else if o ≤ 6 ∧ bo = false then 0 else 1
set_option maxRecDepth 100000 in
set_option maxHeartbeats 4000000 in
theorem held_any (k o : Int) (v : Nat) (s : ByteArray) (ms : Value) (wd off : Int) (ha : Bool) (tm how : Int) (ns : Value) (bo : Bool) (ks : Value) (a b : Int) (w : World) :
    Calls Tryz.prog 40 #[exV k o v s ms wd off ha tm how ns bo ks, .int .i64 a, .int .i64 b] w fun e w' => e = .returned (.int .i64 (heldF o bo how a b)) ∧ Below w.heap.size w w' := by
  obtain ⟨r, hr⟩ : ∃ r, heldF o bo how a b = r := ⟨_, rfl⟩
  rw [hr]
  unfold exV
  have HR := Lib.hid hr
  clear hr
  cases bo
  all_goals
    go_enter Tryz.func40, Tryz.ntmps40
    go_wp2
  all_goals
    go_ret
    refine ⟨congrArg (fun x => Ending.returned (Value.int .i64 x)) ?_, by go_grown⟩
    have hr := HR.out
    unfold heldF at hr
    clear HR
    simp only [bne_iff_ne, ne_eq, bne_eq_false_iff_eq, beq_iff_eq, beq_eq_false_iff_ne, Bool.or_eq_true, Bool.or_eq_false_iff, Bool.and_eq_true, Bool.and_eq_false_iff, Bool.not_eq_true', Bool.not_eq_false', decide_eq_true_eq, decide_eq_false_iff_not, reduceCtorEq, false_and, and_false, true_and, and_true, if_false, Bool.false_eq_true, Int.not_le, Int.not_lt, eq_self] at *
    (repeat' split at hr) <;> omega
end Go.Proofs.YtmodehfedhgcbaaGreatDoor.Ck

/- Small functions of check and tree: what they answer, as functions. No condition. -/
import Derived.Test.YticmkabafmmlhaaGreatDoorRows
import Derived.WalkKit
import Derived.WalkLawsBesides
import Derived.WalkSpells
import Derived.RegionTactic
import Derived.Deep.QuietTactic
import Derived.BigQuiet
import Derived.Lib.Hide
import Derived.Handy
set_option linter.unusedVariables false
namespace Go.Proofs.YticmkabafmmlhaaGreatDoor.Ck
open Go.RowKit
def exV (k o : Int) (v : Nat) (s : ByteArray) (ms : Value) (wd off : Int) (ha : Bool) (tm how : Int) (ns : Value) (bo : Bool) (ks : Value) : Value :=
 .agg #[.int .i64 k, .int .i64 o, .int .u64 (v : Int), .string s, ms, .int .i64 wd, .int .i64 off, .bool ha, .int .i64 tm, .int .i64 how, ns, .bool bo, ks]
def numberF (t : Int) : Int := if t = 3 ∨ t = 4 then 0 else t
end Go.Proofs.YticmkabafmmlhaaGreatDoor.Ck

set_option linter.unusedVariables false
set_option linter.unusedSimpArgs false
set_option maxRecDepth 100000
set_option maxHeartbeats 2000000
namespace Go.Proofs.YticmkabafmmlhaaGreatDoor.Ck
open Go.RowKit
def strengthF (k o : Int) : Int := if k = 6 then (if o ≤ 6 then 1 else if o ≤ 8 then 2 else 3) else 4
def hasKidsF (k : Int) : Bool := decide (4 ≤ k ∧ k ≤ 7)
theorem hasKids_any (k o : Int) (v : Nat) (s : ByteArray) (ms : Value) (wd off : Int) (ha : Bool) (tm how : Int) (ns : Value) (bo : Bool) (ks : Value) (w : World) :
 Calls Tryz.prog 18 #[exV k o v s ms wd off ha tm how ns bo ks] w fun e w' => e = .returned (.bool (hasKidsF k)) ∧ Below w.heap.size w w' := by
 obtain ⟨r, hr⟩ : ∃ r, hasKidsF k = r := ⟨_, rfl⟩
 rw [hr]
 unfold exV
 have HR := Lib.hid hr
 clear hr
 go_enter Tryz.func18, Tryz.ntmps18
 go_wp2
 all_goals
  go_ret
  refine ⟨congrArg (fun x => Ending.returned (Value.bool x)) ?_, by go_grown⟩
  have hr := HR.out
  unfold hasKidsF at hr
  clear HR
  rw [← hr]
  (try simp) <;> (try omega) <;> simp <;> omega
def heldF (o : Int) (bo : Bool) (how a b : Int) : Int :=
 if a = 0 ∨ b = 0 then 0 else if bo = true ∧ 6 < o then 0 else if how ≠ 0 ∧ (a ≠ 2 ∨ b ≠ 2) then 0 else if a = 2 ∨ b = 2 then 2 else if o ≤ 6 ∧ bo = false then 0 else 1
end Go.Proofs.YticmkabafmmlhaaGreatDoor.Ck

set_option linter.unusedVariables false
set_option linter.unusedSimpArgs false
set_option maxRecDepth 100000
set_option maxHeartbeats 4000000
namespace Go.Proofs.YticmkabafmmlhaaGreatDoor.Ck
open Go.RowKit
def bareF (o : Int) (v : Nat) (s : ByteArray) (nm : Nat) (wd off : Int) (ha : Bool) (tm how : Int) (nn : Nat) (bo : Bool) (nk : Nat) : Bool :=
 decide (o = 0 ∧ v = 0 ∧ s.toList = [] ∧ nm = 0 ∧ wd = 0 ∧ off = 0 ∧ ha = false ∧ tm = 0 ∧ how = 0 ∧ nn = 0 ∧ bo = false ∧ nk = 0)
theorem bare_any (k o : Int) (v : Nat) (s : ByteArray) (mp : Option Addr) (nm mc : Nat) (wd off : Int) (ha : Bool) (tm how : Int) (np : Option Addr) (nn nc : Nat) (bo : Bool) (kp : Option Addr) (nk kc : Nat) (w : World) :
 Calls Tryz.prog 67 #[exV k o v s (.slice mp nm mc) wd off ha tm how (.slice np nn nc) bo (.slice kp nk kc)] w fun e w' =>
  e = .returned (.bool (bareF o v s nm wd off ha tm how nn bo nk)) ∧ Below w.heap.size w w' := by
 obtain ⟨r, hr⟩ : ∃ r, bareF o v s nm wd off ha tm how nn bo nk = r := ⟨_, rfl⟩
 rw [hr]
 unfold exV
 have HR := Lib.hid hr
 clear hr
 go_enter Tryz.func67, Tryz.ntmps67
 go_wp2
 all_goals
  go_ret
  refine ⟨congrArg (fun x => Ending.returned (Value.bool x)) ?_, by go_grown⟩
  have hr := HR.out
  unfold bareF at hr
  clear HR
  rw [← hr]
  clear hr
  first
   | (rw [Bool.eq_iff_iff]; simp_all; done)
   | (simp_all; done)
   | (simp_all; omega)
end Go.Proofs.YticmkabafmmlhaaGreatDoor.Ck

/- What is left of a pattern behind a byte, and a whole text. No condition. -/
import Derived.Test.YtahphjaelpgjdaaDoorX5
namespace Go.Proofs.YtahphjaelpgjdaaDoor.Rx
open Go

/-- behind a byte: of the places that may come next those below j are gone through -/
def behP (m : Mach) (lst nx c : Nat) : Nat → Nat × Bool
  | 0 => (0, false)
  | j + 1 => if nx.testBit j = true ∧ (m.takes.getD j 0).testBit c = true then ((behP m lst nx c j).1 ||| m.follow.getD j 0, (behP m lst nx c j).2 || lst.testBit j) else behP m lst nx c j
def behF (m : Mach) (lst nx c : Nat) : Nat × Bool := behP m lst nx c 256
theorem behP_lt {m : Mach} (h : Good m) (lst nx c : Nat) : ∀ j, (behP m lst nx c j).1 < 2 ^ m.takes.length
  | 0 => two_pos _
  | j + 1 => by
    unfold behP
    split
    · refine Nat.or_lt_two_pow (behP_lt h lst nx c j) ?_
      rw [List.getD_eq_getElem?_getD]
      cases hf : m.follow[j]? with
      | none => exact two_pos _
      | some f => exact h.2.1 f (List.mem_of_getElem? hf)
    · exact behP_lt h lst nx c j
theorem behF_lt {m : Mach} (h : Good m) (lst nx c : Nat) : (behF m lst nx c).1 < 2 ^ m.takes.length := behP_lt h lst nx c 256
theorem behP_in {m : Mach} {lst nx c j : Nat} (h1 : nx.testBit j = true) (h2 : (m.takes.getD j 0).testBit c = true) : behP m lst nx c (j + 1) = ((behP m lst nx c j).1 ||| m.follow.getD j 0, (behP m lst nx c j).2 || lst.testBit j) := by
  conv => lhs; unfold behP
  rw [if_pos ⟨h1, h2⟩]
theorem behP_skip {m : Mach} {lst nx c j : Nat} (h1 : nx.testBit j = false) : behP m lst nx c (j + 1) = behP m lst nx c j := by
  conv => lhs; unfold behP
  rw [if_neg (by rw [h1]; simp)]
theorem behP_out {m : Mach} {lst nx c j : Nat} (h2 : (m.takes.getD j 0).testBit c = false) : behP m lst nx c (j + 1) = behP m lst nx c j := by
  conv => lhs; unfold behP
  rw [if_neg (by rw [h2]; simp)]
/-- a text, from a place on, so many bytes of it -/
def runL (m : Mach) (lst : Nat) (s : ByteArray) : Nat → Nat → Nat × Bool → Bool
  | 0, _, now => now.2
  | n + 1, k, now => if now.1 = 0 then false else runL m lst s n (k + 1) (behF m lst now.1 (by_ s k))
def runF (m : Mach) (p : Pc) (s : ByteArray) : Bool := runL m p.last s s.size 0 (p.first, p.empty)
end Go.Proofs.YtahphjaelpgjdaaDoor.Rx

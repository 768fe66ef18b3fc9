import Derived.Test.YticmkabafmmlhaaGreatDoorRows
import Derived.WalkKit
import Derived.WalkLawsBesides
import Derived.WalkSpells
import Derived.RegionTactic
import Derived.Deep.QuietTactic
import Derived.BigQuiet
import Derived.Deep.LoopGhost
import Derived.Lib.Hide
import Derived.Handy
import Derived.WalkMore
import Derived.Lib.ItoaNum
import Derived.Lib.IndexBytes
import Derived.Laws.RangeAny
import Derived.Laws.RangeString
set_option linter.unusedVariables false
namespace Go.Proofs.YticmkabafmmlhaaGreatDoor.Sp
open Go.RowKit
def isD (b : UInt8) : Bool := decide (48 ≤ b.toNat) && decide (b.toNat ≤ 57)
def isL (b : UInt8) : Bool := !isD b
abbrev M : Nat := 35184372088832
def stepN (n : Nat) (b : UInt8) : Nat := min (10 * n + (b.toNat - 48)) 35184372088833
def digs (l : List UInt8) : List UInt8 := l.takeWhile isD
def rest (l : List UInt8) : List UInt8 := l.dropWhile isD
def numN (l : List UInt8) : Nat := (digs l).foldl stepN 0
def lets (l : List UInt8) : List UInt8 := l.takeWhile isL
def tail (l : List UInt8) : List UInt8 := l.dropWhile isL
def names : List (List UInt8) := [[121], [119], [100], [104], [109], [115], [109, 115]]
def sizes : List Nat := [31536000000, 604800000, 86400000, 3600000, 60000, 1000, 1]
def nameAt (k : Nat) : List UInt8 := names.getD k []
def sizeAt (k : Nat) : Nat := sizes.getD k 1
def findGo (nm : List UInt8) : Nat → Nat → Nat
 | 0, _ => 7
 | f + 1, k => if nameAt k = nm then k else findGo nm f (k + 1)
def findF (nm : List UInt8) (from_ : Nat) : Nat := findGo nm (7 - from_) from_
def parseL : Nat → List UInt8 → Nat → Nat → Option Nat
 | 0, l, _, sum => if l = [] then some sum else none
 | f + 1, l, from_, sum =>
   if l = [] then some sum
   else if (rest l).length = l.length ∨ findF (lets (rest l)) from_ = 7 ∨ M / sizeAt (findF (lets (rest l)) from_) < numN l then none
   else if M < sum + numN l * sizeAt (findF (lets (rest l)) from_) then none
   else parseL f (tail (rest l)) (findF (lets (rest l)) from_ + 1) (sum + numN l * sizeAt (findF (lets (rest l)) from_))
def parseP (l : List UInt8) (from_ sum : Nat) : Option Nat := parseL l.length l from_ sum
def spanF (l : List UInt8) : Option Nat := if l.length = 0 ∨ 200 < l.length then none else parseP l 0 0
theorem sizes_pos : ∀ k, k < 7 → 0 < sizeAt k := by decide
def numTo (l : List UInt8) (k : Nat) : Nat := (l.take k).foldl stepN 0
def AllD (l : List UInt8) (k : Nat) : Prop := ∀ i (hi : i < l.length), i < k → isD l[i] = true
theorem str_ext {a : ByteArray} {l : List UInt8} (h : a.data.toList = l) : a = ⟨l.toArray⟩ := by
 subst h; rfl
end Go.Proofs.YticmkabafmmlhaaGreatDoor.Sp

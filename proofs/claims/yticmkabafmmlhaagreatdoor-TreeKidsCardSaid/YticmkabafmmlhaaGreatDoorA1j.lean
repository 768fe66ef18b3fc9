/- Decimal digits in a row of bytes, and how a shift to the right or to the left turns them. No condition. -/
import Derived.Test.YticmkabafmmlhaaGreatDoorRows
import Derived.WalkKit
import Derived.WalkLawsBesides
import Derived.WalkSpells
import Derived.RegionTactic
import Derived.Deep.QuietTactic
import Derived.BigQuiet
import Derived.Deep.LoopGhost
import Derived.Lib.Hide
import Derived.Handy
import Derived.Laws.Rows
import Derived.Laws.Closers25b
import Derived.Below
import Derived.WalkSmall
set_option linter.unusedVariables false
namespace Dm
def num (d : Nat → Nat) : Nat → Nat
 | 0 => 0
 | n + 1 => num d n * 10 + (d n - 48)
def Dg (d : Nat → Nat) (n : Nat) : Prop := ∀ i, i < n → 48 ≤ d i ∧ d i ≤ 57
def trimN (d : Nat → Nat) : Nat → Nat
 | 0 => 0
 | n + 1 => if d n = 48 then trimN d n else n + 1
def ext (d : Nat → Nat) (nd : Nat) (i : Nat) : Nat := if i < nd then d i else 48
def pz (d : Nat → Nat) (nd r : Nat) : Nat := num (ext d nd) r
def top : Nat := 1200
def U (d : Nat → Nat) (nd : Nat) (dp : Int) : Nat := num d nd * 10 ^ ((top : Int) + dp - nd).toNat
def suf (o : Nat → Nat) (w : Nat) : Nat → Nat
 | 0 => 0
 | n + 1 => suf o w n * 10 + o (w + n)
def dig (d : Nat → Nat) (i : Nat) : Nat := d i - 48
def put (o : Nat → Nat) (i x : Nat) (j : Nat) : Nat := if j = i then x else o j
def Lf (d o : Nat → Nat) (nd k r w m n : Nat) : Prop := 2 ^ k * suf (dig d) r (nd - r) = n * 10 ^ (nd - r) + suf o w (m - w)
def Lx (v : Nat) (o : Nat → Nat) (nd w m n : Nat) : Prop := v = n * 10 ^ (m - w) + suf o w (m - w)
def cap8 : Nat := 800
def many : Nat := 7000
end Dm

set_option linter.unusedVariables false
namespace Go.Proofs.YticmkabafmmlhaaGreatDoor
open Go.RowKit
def Blk (w : World) (g : Nat) (t : TypeId) (cs : Array Value) : Prop := w.heap[g]? = some (.cells cs t (0, 0))
theorem Blk.lt {w : World} {g : Nat} {t : TypeId} {cs : Array Value} (h : Blk w g t cs) : g < w.heap.size := by
 rcases Nat.lt_or_ge g w.heap.size with hlt | hge
 · exact hlt
 · unfold Blk at h; rw [Array.getElem?_eq_none hge] at h; cases h
theorem Blk.cell {w : World} {g : Nat} {t : TypeId} {cs : Array Value} (h : Blk w g t cs) (i : Nat) : w.cell? ⟨g, i, none⟩ = cs[i]? := cell_of_row w g i cs t (0, 0) h
theorem Blk.frozen {w : World} {g : Nat} {t : TypeId} {cs : Array Value} (h : Blk w g t cs) (i : Nat) : w.frozen? ⟨g, i, none⟩ = false := by
 unfold Blk at h
 simp [World.frozen?, h]
theorem Blk.new (w : World) (t : TypeId) (cs : Array Value) : Blk (w.alloc (.cells cs t)) w.heap.size t cs := heap_alloc_new w _
theorem Blk.set_ {w : World} {g : Nat} {t : TypeId} {cs : Array Value} (h : Blk w g t cs) (i : Nat) (u : Value) : Blk (w.setCell ⟨g, i, none⟩ u) g t (cs.setIfInBounds i u) := by
 unfold Blk at h ⊢
 simp [World.setCell, Array.getElem?_modify, h]
theorem Blk.alloc {w : World} {g : Nat} {t : TypeId} {cs : Array Value} (h : Blk w g t cs) (o : Obj) : Blk (w.alloc o) g t cs := (Below.heap_alloc w o g h.lt).trans h
theorem Blk.below {w w' : World} {g : Nat} {t : TypeId} {cs : Array Value} (h : Blk w g t cs) (hb : Below w.heap.size w w') : Blk w' g t cs := (hb.block g h.lt).trans h
structure Moved (B : Nat) (w w' : World) : Prop where
 os : w'.os = w.os
 tape : w'.tape = w.tape
 output : w'.output = w.output
 size : w'.heap.size = w.heap.size
 block : ∀ k, k ≠ B → w'.heap[k]? = w.heap[k]?
theorem Moved.refl (B : Nat) (w : World) : Moved B w w := ⟨rfl, rfl, rfl, rfl, fun _ _ => rfl⟩
theorem Moved.trans {B : Nat} {a b c : World} (h : Moved B a b) (g : Moved B b c) : Moved B a c :=
 ⟨g.os.trans h.os, g.tape.trans h.tape, g.output.trans h.output, g.size.trans h.size, fun k hk => (g.block k hk).trans (h.block k hk)⟩
theorem Moved.set (B i : Nat) (w : World) (v : Value) : Moved B w (w.setCell ⟨B, i, none⟩ v) := by
 refine ⟨rfl, rfl, rfl, by simp, fun k hk => ?_⟩
 simp [World.setCell, Array.getElem?_modify, Ne.symm hk]
theorem Moved.below {B : Nat} {w0 w w' : World} (h : Moved B w w') (hb : Below B w0 w) : Below B w0 w' :=
 hb.trans ⟨h.os, h.tape, h.output, by rw [h.size]; exact Nat.le_refl _, fun k hk => h.block k (by omega)⟩
def DzC (cs : Array Value) (f : Nat → Nat) (nd : Nat) (dp : Int) (ng tr : Bool) : Prop :=
 cs.size = 804 ∧ (∀ i, i < 800 → cs[i]? = some (.int .u8 (f i : Int))) ∧ cs[800]? = some (.int .i64 (nd : Int)) ∧ cs[801]? = some (.int .i64 dp) ∧ cs[802]? = some (.bool ng) ∧ cs[803]? = some (.bool tr)
def Dz (w : World) (B : Nat) (f : Nat → Nat) (nd : Nat) (dp : Int) (ng tr : Bool) : Prop := ∃ cs, Blk w B 193 cs ∧ DzC cs f nd dp ng tr
section
variable {w : World} {B : Nat} {f : Nat → Nat} {nd : Nat} {dp : Int} {ng tr : Bool}
end
def TrimP (B : Nat) (f : Nat → Nat) (nd : Nat) (dp : Int) (ng tr : Bool) (w : World) (e : Ending) (w' : World) : Prop :=
 e = .returned (.tuple #[]) ∧ Dz w' B f (Dm.trimN f nd) (if Dm.trimN f nd = 0 then 0 else dp) ng tr ∧ Moved B w w'
end Go.Proofs.YticmkabafmmlhaaGreatDoor

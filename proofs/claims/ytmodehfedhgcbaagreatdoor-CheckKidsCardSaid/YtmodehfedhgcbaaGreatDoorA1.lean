import Derived.Test.YtmodehfedhgcbaaGreatDoorRows
import Derived.Test.YtmodehfedhgcbaaGreatDoorDa
import Derived.WalkKit
import Derived.WalkLawsBesides
import Derived.WalkSpells
import Derived.RegionTactic
import Derived.Deep.QuietTactic
import Derived.BigQuiet
import Derived.Deep.LoopGhost
import Derived.Lib.Hide
import Derived.Handy
import Derived.Laws.Rows
import Derived.Laws.Closers25b
import Derived.Below
import Derived.WalkSmall
namespace Go.Proofs.YtmodehfedhgcbaaGreatDoor
open Go.RowKit
set_option linter.unusedVariables false

/-! memory: a block that is known whole; one block alone is changed -/
def Blk (w : World) (g : Nat) (t : TypeId) (cs : Array Value) : Prop := w.heap[g]? = some (.cells cs t (0, 0))
theorem Blk.lt {w : World} {g : Nat} {t : TypeId} {cs : Array Value} (h : Blk w g t cs) : g < w.heap.size := by
  rcases Nat.lt_or_ge g w.heap.size with hlt | hge
  · exact hlt
  · unfold Blk at h; rw [Array.getElem?_eq_none hge] at h; cases h
theorem Blk.cell {w : World} {g : Nat} {t : TypeId} {cs : Array Value} (h : Blk w g t cs) (i : Nat) : w.cell? ⟨g, i, none⟩ = cs[i]? := cell_of_row w g i cs t (0, 0) h
theorem Blk.frozen {w : World} {g : Nat} {t : TypeId} {cs : Array Value} (h : Blk w g t cs) (i : Nat) : w.frozen? ⟨g, i, none⟩ = false := by
  unfold Blk at h
  simp [World.frozen?, h]
theorem Blk.new (w : World) (t : TypeId) (cs : Array Value) : Blk (w.alloc (.cells cs t)) w.heap.size t cs := heap_alloc_new w _
theorem Blk.drewN {w : World} {g : Nat} {t : TypeId} {cs : Array Value} (h : Blk w g t cs) (n : Nat) : Blk (w.drewN n) g t cs := h
theorem Blk.set_ {w : World} {g : Nat} {t : TypeId} {cs : Array Value} (h : Blk w g t cs) (i : Nat) (u : Value) : Blk (w.setCell ⟨g, i, none⟩ u) g t (cs.setIfInBounds i u) := by
  unfold Blk at h ⊢
  simp [World.setCell, Array.getElem?_modify, h]
theorem Blk.alloc {w : World} {g : Nat} {t : TypeId} {cs : Array Value} (h : Blk w g t cs) (o : Obj) : Blk (w.alloc o) g t cs := (Below.heap_alloc w o g h.lt).trans h
theorem Blk.below {w w' : World} {g : Nat} {t : TypeId} {cs : Array Value} (h : Blk w g t cs) (hb : Below w.heap.size w w') : Blk w' g t cs := (hb.block g h.lt).trans h
structure Moved (B : Nat) (w w' : World) : Prop where
  os : w'.os = w.os
  tape : w'.tape = w.tape
  output : w'.output = w.output
  size : w'.heap.size = w.heap.size
  block : ∀ k, k ≠ B → w'.heap[k]? = w.heap[k]?
theorem Moved.refl (B : Nat) (w : World) : Moved B w w := ⟨rfl, rfl, rfl, rfl, fun _ _ => rfl⟩
theorem Moved.trans {B : Nat} {a b c : World} (h : Moved B a b) (g : Moved B b c) : Moved B a c :=
  ⟨g.os.trans h.os, g.tape.trans h.tape, g.output.trans h.output, g.size.trans h.size, fun k hk => (g.block k hk).trans (h.block k hk)⟩
theorem Moved.set (B i : Nat) (w : World) (v : Value) : Moved B w (w.setCell ⟨B, i, none⟩ v) := by
  refine ⟨rfl, rfl, rfl, by simp, fun k hk => ?_⟩
  simp [World.setCell, Array.getElem?_modify, Ne.symm hk]
theorem Moved.drewN {B : Nat} {a b : World} (h : Moved B a b) (n : Nat) : Moved B a (b.drewN n) := ⟨h.os, h.tape, h.output, h.size, h.block⟩
theorem Moved.cell {B : Nat} {w w' : World} (h : Moved B w w') {S o : Nat} (hS : S ≠ B) : w'.cell? ⟨S, o, none⟩ = w.cell? ⟨S, o, none⟩ := World.cell?_of_block (a := ⟨S, o, none⟩) (h.block S hS)
theorem Moved.below {B : Nat} {w0 w w' : World} (h : Moved B w w') (hb : Below B w0 w) : Below B w0 w' :=
  hb.trans ⟨h.os, h.tape, h.output, by rw [h.size]; exact Nat.le_refl _, fun k hk => h.block k (by omega)⟩
/-! a decimal in memory: its digits, how many, where the point stands -/
def DzC (cs : Array Value) (f : Nat → Nat) (nd : Nat) (dp : Int) (ng tr : Bool) : Prop :=
  cs.size = 804 ∧ (∀ i, i < 800 → cs[i]? = some (.int .u8 (f i : Int))) ∧ cs[800]? = some (.int .i64 (nd : Int)) ∧ cs[801]? = some (.int .i64 dp) ∧ cs[802]? = some (.bool ng) ∧ cs[803]? = some (.bool tr)
def Dz (w : World) (B : Nat) (f : Nat → Nat) (nd : Nat) (dp : Int) (ng tr : Bool) : Prop := ∃ cs, Blk w B 236 cs ∧ DzC cs f nd dp ng tr
section
variable {w : World} {B : Nat} {f : Nat → Nat} {nd : Nat} {dp : Int} {ng tr : Bool}
theorem Dz.dig (h : Dz w B f nd dp ng tr) (i : Nat) (hi : i < 800) : w.cell? ⟨B, i, none⟩ = some (.int .u8 (f i : Int)) := by
  obtain ⟨cs, hb, h0, h1, _⟩ := h; rw [hb.cell]; exact h1 i hi
theorem Dz.nd_ (h : Dz w B f nd dp ng tr) : w.cell? ⟨B, 800, none⟩ = some (.int .i64 (nd : Int)) := by
  obtain ⟨cs, hb, h0, h1, h2, _⟩ := h; rw [hb.cell]; exact h2
theorem Dz.dp_ (h : Dz w B f nd dp ng tr) : w.cell? ⟨B, 801, none⟩ = some (.int .i64 dp) := by
  obtain ⟨cs, hb, h0, h1, _, h2, _⟩ := h; rw [hb.cell]; exact h2
theorem Dz.ng_ (h : Dz w B f nd dp ng tr) : w.cell? ⟨B, 802, none⟩ = some (.bool ng) := by
  obtain ⟨cs, hb, h0, h1, _, _, h2, _⟩ := h; rw [hb.cell]; exact h2
theorem Dz.tr_ (h : Dz w B f nd dp ng tr) : w.cell? ⟨B, 803, none⟩ = some (.bool tr) := by
  obtain ⟨cs, hb, h0, h1, _, _, _, h2⟩ := h; rw [hb.cell]; exact h2
theorem Dz.frozen (h : Dz w B f nd dp ng tr) (i : Nat) : w.frozen? ⟨B, i, none⟩ = false := by
  obtain ⟨cs, hb, _⟩ := h; exact hb.frozen i
theorem Dz.drewN (h : Dz w B f nd dp ng tr) (n : Nat) : Dz (w.drewN n) B f nd dp ng tr := h
theorem Dz.lt (h : Dz w B f nd dp ng tr) : B < w.heap.size := by
  obtain ⟨cs, hb, _⟩ := h; exact hb.lt
theorem set_some {cs : Array Value} {i : Nat} {u : Value} (hi : i < cs.size) : (cs.setIfInBounds i u)[i]? = some u := by simp [hi]
theorem set_none {cs : Array Value} {i j : Nat} {u : Value} (hij : i ≠ j) : (cs.setIfInBounds i u)[j]? = cs[j]? := by simp [hij]
theorem Dz.setD (h : Dz w B f nd dp ng tr) (i x : Nat) (z : Int) (hz : z = (x : Int)) (hi : i < 800) : Dz (w.setCell ⟨B, i, none⟩ (.int .u8 z)) B (Dm.put f i x) nd dp ng tr := by
  subst hz
  obtain ⟨cs, hb, h0, h1, h2, h3, h4, h5⟩ := h
  refine ⟨_, hb.set_ i _, by simp [h0], fun j hj => ?_, (set_none (by omega)).trans h2, (set_none (by omega)).trans h3, (set_none (by omega)).trans h4, (set_none (by omega)).trans h5⟩
  by_cases hij : i = j
  · subst hij; rw [set_some (by omega), Dm.put_same]
  · rw [set_none hij, Dm.put_other _ (Ne.symm hij)]; exact h1 j hj
theorem Dz.setN (h : Dz w B f nd dp ng tr) (n : Nat) (z : Int) (hz : z = (n : Int)) : Dz (w.setCell ⟨B, 800, none⟩ (.int .i64 z)) B f n dp ng tr := by
  subst hz
  obtain ⟨cs, hb, h0, h1, h2, h3, h4, h5⟩ := h
  exact ⟨_, hb.set_ 800 _, by simp [h0], fun j hj => (set_none (by omega)).trans (h1 j hj), set_some (by omega), (set_none (by omega)).trans h3, (set_none (by omega)).trans h4, (set_none (by omega)).trans h5⟩
theorem Dz.setP (h : Dz w B f nd dp ng tr) (z : Int) : Dz (w.setCell ⟨B, 801, none⟩ (.int .i64 z)) B f nd z ng tr := by
  obtain ⟨cs, hb, h0, h1, h2, h3, h4, h5⟩ := h
  exact ⟨_, hb.set_ 801 _, by simp [h0], fun j hj => (set_none (by omega)).trans (h1 j hj), (set_none (by omega)).trans h2, set_some (by omega), (set_none (by omega)).trans h4, (set_none (by omega)).trans h5⟩
theorem Dz.setG (h : Dz w B f nd dp ng tr) (z : Bool) : Dz (w.setCell ⟨B, 802, none⟩ (.bool z)) B f nd dp z tr := by
  obtain ⟨cs, hb, h0, h1, h2, h3, h4, h5⟩ := h
  exact ⟨_, hb.set_ 802 _, by simp [h0], fun j hj => (set_none (by omega)).trans (h1 j hj), (set_none (by omega)).trans h2, (set_none (by omega)).trans h3, set_some (by omega), (set_none (by omega)).trans h5⟩
theorem Dz.setT (h : Dz w B f nd dp ng tr) (z : Bool) : Dz (w.setCell ⟨B, 803, none⟩ (.bool z)) B f nd dp ng z := by
  obtain ⟨cs, hb, h0, h1, h2, h3, h4, h5⟩ := h
  exact ⟨_, hb.set_ 803 _, by simp [h0], fun j hj => (set_none (by omega)).trans (h1 j hj), (set_none (by omega)).trans h2, (set_none (by omega)).trans h3, (set_none (by omega)).trans h4, set_some (by omega)⟩
end
theorem trim_down {f : Nat → Nat} {k : Nat} (h : f k = 48) : Dm.trimN f (k + 1) = Dm.trimN f k := by
  conv => lhs; unfold Dm.trimN
  rw [if_pos h]
theorem trim_stay {f : Nat → Nat} {k : Nat} (h : ¬ f k = 48) : Dm.trimN f (k + 1) = k + 1 := by
  unfold Dm.trimN; rw [if_neg h]
def TrimP (B : Nat) (f : Nat → Nat) (nd : Nat) (dp : Int) (ng tr : Bool) (w : World) (e : Ending) (w' : World) : Prop :=
  e = .returned (.tuple #[]) ∧ Dz w' B f (Dm.trimN f nd) (if Dm.trimN f nd = 0 then 0 else dp) ng tr ∧ Moved B w w'
set_option maxRecDepth 100000 in
theorem trim_any (B : Nat) (f : Nat → Nat) (nd : Nat) (dp : Int) (ng tr : Bool) (w : World) (h : Dz w B f nd dp ng tr) (hn : nd ≤ 800) :
    Calls Tryz.prog 208 #[.pointer (some ⟨B, 0, none⟩)] w (TrimP B f nd dp ng tr w) := by
  have H := Lib.hid h
  clear h
  obtain ⟨z, hz⟩ : ∃ z, Dm.trimN f nd = z := ⟨_, rfl⟩
  have HZ := Lib.hid hz
  unfold TrimP
  rw [hz]
  clear hz
  obtain ⟨p, hp⟩ : ∃ p, (if z = 0 then 0 else dp) = p := ⟨_, rfl⟩
  rw [hp]
  have HP := Lib.hid hp
  clear hp
  go_enter Tryz.func208, Tryz.ntmps208
  go_wp2_with fail
  go_loopg [] nd (fun g wx => ∃ k : Nat, k = g ∧ k ≤ nd ∧ Hid (Dm.trimN f k = z) ∧ Hid (Dz wx B f k dp ng tr) ∧ Hid (Moved B w wx))
  case atStart => exact ⟨nd, rfl, Nat.le_refl _, HZ, H, Moved.refl _ _⟩
  case round =>
    obtain ⟨k, hkg, hk, HK, HD, HM⟩ := hrel
    have c1 := HD.out.nd_
    by_cases h0 : k = 0
    · subst h0
      clear hkg
      have c2 := HD.out.frozen 801
      have c3 := HD.out.dp_
      have hf : decide ((0 : Int) < ((0 : Nat) : Int)) = false := by decide
      go_wp2_with fail
      go_quiet (fail)
      go_wp2_with fail
      go_end0
      have e1 : z = 0 := HK.out.symm
      have e2 : p = 0 := by rw [← HP.out, if_pos e1]
      refine ⟨rfl, ?_, HM.out.trans ((Moved.set _ _ _ _).drewN _)⟩
      rw [e1, e2]
      exact (HD.out.setP 0).drewN _
    · obtain ⟨q, rfl⟩ : ∃ q, k = q + 1 := ⟨k - 1, by omega⟩
      have c2 := HD.out.dig q (by omega)
      have c3 := HD.out.frozen 800
      have hq1 : ((q + 1 : Nat) : Int) - 1 = (q : Int) := by omega
      have hf : decide ((0 : Int) < ((q + 1 : Nat) : Int)) = true := by simp
      have hm : q < gk := by omega
      clear hkg
      by_cases h48 : f q = 48
      · have h49 : ((f q : Int) == 48) = true := by rw [h48]; rfl
        have HK2 := Lib.hid ((trim_down h48).symm.trans HK.out)
        clear h48
        go_wp2_with fail
        go_quiet (fail)
        go_wp2_with fail
        go_roundg q
        case measure => omega
        case rel => exact ⟨q, rfl, by omega, HK2, (HD.out.drewN nq).setN q _ rfl, (HM.out.drewN nq).trans (Moved.set _ _ _ _)⟩
      · have h49 : ((f q : Int) == 48) = false := beq_eq_false_iff_ne.2 (by omega)
        have hz0 : ((q : Int) + 1 == 0) = false := beq_eq_false_iff_ne.2 (by omega)
        have HK2 := Lib.hid ((trim_stay h48).symm.trans HK.out)
        clear h48
        go_wp2_with fail
        go_quiet (fail)
        go_wp2_with fail
        go_end0
        have e2 : p = dp := by rw [← HP.out, if_neg (by have := HK2.out; omega)]
        refine ⟨rfl, ?_, HM.out.drewN _⟩
        rw [e2, ← HK2.out]
        exact HD.out.drewN _
end Go.Proofs.YtmodehfedhgcbaaGreatDoor

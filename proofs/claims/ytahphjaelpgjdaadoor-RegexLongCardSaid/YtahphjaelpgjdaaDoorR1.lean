/- The document's reader of patterns: its small ones. Condition: a text of at most 200 bytes. -/
import Derived.Test.YtahphjaelpgjdaaDoorW2
namespace Go.Proofs.YtahphjaelpgjdaaDoor
open Go.RowKit Rx
set_option linter.unusedVariables false

abbrev prC (l : ByteArray) (a o c : Nat) : Array Value := #[.string l, .int .i64 a, .int .i64 o, .int .i64 c]
def Par (w : World) (b : Nat) (l : ByteArray) (a o c : Nat) : Prop := Blk w b 68 (prC l a o c)
theorem Par.cells {w : World} {b : Nat} {l : ByteArray} {a o c : Nat} (h : Par w b l a o c) :
    w.cell? ⟨b, 0, none⟩ = some (.string l) ∧ w.cell? ⟨b, 1, none⟩ = some (.int .i64 a) ∧ w.cell? ⟨b, 2, none⟩ = some (.int .i64 o) ∧ w.cell? ⟨b, 3, none⟩ = some (.int .i64 c) :=
  ⟨Blk.cell h 0, Blk.cell h 1, Blk.cell h 2, Blk.cell h 3⟩
theorem Par.drewN {w : World} {b : Nat} {l : ByteArray} {a o c : Nat} (h : Par w b l a o c) (n : Nat) : Par (w.drewN n) b l a o c := h
theorem Par.below {w w' : World} {b : Nat} {l : ByteArray} {a o c : Nat} (h : Par w b l a o c) (hb : Below w.heap.size w w') : Par w' b l a o c := Blk.below h hb
theorem Par.alloc {w : World} {b : Nat} {l : ByteArray} {a o c : Nat} (h : Par w b l a o c) (ob : Obj) : Par (w.alloc ob) b l a o c := Blk.alloc h ob
theorem Par.other {w : World} {b k : Nat} {l : ByteArray} {a o c : Nat} (h : Par w b l a o c) (hk : b ≠ k) (i : Nat) (u : Value) : Par (w.setCell ⟨k, i, none⟩ u) b l a o c := Blk.other h hk i u
theorem Par.at_ {w : World} {b : Nat} {l : ByteArray} {a o c : Nat} (h : Par w b l a o c) (a' : Nat) (u : Value) (hu : u = .int .i64 a') : Par (w.setCell ⟨b, 1, none⟩ u) b l a' o c := by
  subst hu; exact Blk.set_ h 1 _
theorem Par.op_ {w : World} {b : Nat} {l : ByteArray} {a o c : Nat} (h : Par w b l a o c) (o' : Nat) (u : Value) (hu : u = .int .i64 o') : Par (w.setCell ⟨b, 2, none⟩ u) b l a o' c := by
  subst hu; exact Blk.set_ h 2 _
theorem Par.wr_ {w : World} {b : Nat} {l : ByteArray} {a o c : Nat} (h : Par w b l a o c) (c' : Nat) (u : Value) (hu : u = .int .i64 c') : Par (w.setCell ⟨b, 3, none⟩ u) b l a o c' := by
  subst hu; exact Blk.set_ h 3 _

set_option maxRecDepth 100000 in
set_option maxHeartbeats 2000000 in
theorem peek_in (b a o : Nat) (l : ByteArray) (w : World) (hp : Par w b l a o 0) (hl : l.size ≤ 200) (ha : a < l.size) :
    Calls Tryd.prog 54 #[.pointer (some ⟨b, 0, none⟩)] w fun e w' => e = .returned (.tuple #[.int .u8 (by_ l a), .bool true]) ∧ ∃ n, w' = w.drewN n := by
  obtain ⟨c0, c1, c2, c3⟩ := hp.cells
  have hge : decide ((l.size : Int) ≤ (a : Int)) = false := by simp; omega
  have h0 : (0 : Int) ≤ (a : Int) := by omega
  have h1 : (a : Int) < (l.size : Int) := by omega
  have HB := Lib.hid (by_eq l a ha)
  clear hp
  go_enter Tryd.func54, Tryd.ntmps54
  go_wp2
  go_quiet (fail)
  go_wp2
  go_quiet (fail)
  go_wp2
  go_ret2
  refine ⟨by rw [HB.out]; rfl, ?_⟩
  first | exact ⟨_, rfl⟩ | exact ⟨_, World.drewN_drewN _ _ _⟩ | exact ⟨_, World.drewN_drewN⟩
set_option maxRecDepth 100000 in
set_option maxHeartbeats 2000000 in
theorem peek_out (b o : Nat) (l : ByteArray) (w : World) (hp : Par w b l l.size o 0) (hl : l.size ≤ 200) :
    Calls Tryd.prog 54 #[.pointer (some ⟨b, 0, none⟩)] w fun e w' => e = .returned (.tuple #[.int .u8 0, .bool false]) ∧ ∃ n, w' = w.drewN n := by
  obtain ⟨c0, c1, c2, c3⟩ := hp.cells
  have hge : decide ((l.size : Int) ≤ (l.size : Int)) = true := by simp
  clear hp
  go_enter Tryd.func54, Tryd.ntmps54
  go_wp2
  go_quiet (fail)
  go_wp2
  go_ret2
  exact ⟨rfl, _, rfl⟩
set_option maxRecDepth 100000 in
set_option maxHeartbeats 2000000 in
theorem peek_bad (b a o c : Nat) (l : ByteArray) (w : World) (hp : Par w b l a o c) (hc : c = 2 ∨ c = 12) :
    Calls Tryd.prog 54 #[.pointer (some ⟨b, 0, none⟩)] w fun e w' => e = .returned (.tuple #[.int .u8 0, .bool false]) ∧ ∃ n, w' = w.drewN n := by
  rcases hc with rfl | rfl
  all_goals
    obtain ⟨c0, c1, c2, c3⟩ := hp.cells
    clear hp
    go_enter Tryd.func54, Tryd.ntmps54
    go_wp2
    go_quiet (fail)
    go_wp2
    go_ret2
    exact ⟨rfl, _, rfl⟩
end Go.Proofs.YtahphjaelpgjdaaDoor

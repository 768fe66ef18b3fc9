import Derived.Test.YtaggmakaceafgaaGreatDoorA2
import Derived.Deep.DeepCutAuto
namespace Go.Proofs.YtaggmakaceafgaaGreatDoor
open Go.RowKit
set_option linter.unusedVariables false

/-! a shift to the left -/
def cheatRow (k : Nat) : Nat × List UInt8 := Go.Pinned.cheatRows.getD k (0, [])
def cheatS (k : Nat) : ByteArray := ⟨(cheatRow k).2.toArray⟩
def cheatD (k i : Nat) : Nat := ((cheatRow k).2.getD i 0).toNat
def cheatL (k : Nat) : Nat := (cheatRow k).2.length
def cheatB (k : Nat) : Bool :=
  decide (Dm.num (cheatD k) (cheatL k) = 5 ^ k) && decide (10 ^ cheatL k ≤ 10 * 5 ^ k) && decide (5 ^ k < 10 ^ cheatL k) && decide (cheatL k ≤ k) && decide ((cheatRow k).1 = k - cheatL k + 1)
  && (List.range (cheatL k)).all (fun i => decide (48 ≤ cheatD k i) && decide (cheatD k i ≤ 57)) && decide (0 < cheatL k) && decide (49 ≤ cheatD k (cheatL k - 1)) && decide (k - cheatL k ≤ 18)
theorem cheat_all : (List.range 60).all (fun k => cheatB (k + 1)) = true := by decide +kernel
structure CheatIs (k : Nat) : Prop where
  num : Dm.num (cheatD k) (cheatL k) = 5 ^ k
  h1 : 10 ^ cheatL k ≤ 10 * 5 ^ k
  h2 : 5 ^ k < 10 ^ cheatL k
  le : cheatL k ≤ k
  new : (cheatRow k).1 = k - cheatL k + 1
  dg : Dm.Dg (cheatD k) (cheatL k)
  pos : 0 < cheatL k
  last : 49 ≤ cheatD k (cheatL k - 1)
  few : k - cheatL k ≤ 18
theorem cheat_is (k : Nat) (h1 : 1 ≤ k) (h2 : k ≤ 60) : CheatIs k := by
  obtain ⟨j, rfl⟩ : ∃ j, k = j + 1 := ⟨k - 1, by omega⟩
  have := List.all_eq_true.1 cheat_all j (List.mem_range.2 (by omega))
  unfold cheatB at this
  simp only [Bool.and_eq_true, decide_eq_true_eq, List.all_eq_true, List.mem_range] at this
  obtain ⟨⟨⟨⟨⟨⟨⟨⟨a, b⟩, c⟩, d⟩, e⟩, f⟩, g⟩, h⟩, i⟩ := this
  exact ⟨a, b, c, d, e, f, g, h, i⟩
theorem cheat_size (k : Nat) : (cheatS k).size = cheatL k := rfl
theorem cheat_byte (k : Nat) : ∀ i (h : i < (cheatS k).size), (cheatS k)[i].toNat = cheatD k i := by
  intro i h
  have hl : i < (cheatRow k).2.length := h
  unfold cheatD
  rw [List.getD_eq_getElem?_getD, List.getElem?_eq_getElem hl]
  rfl
/-- the table in memory -/
def Cheat (w : World) (P off c : Nat) : Prop := w.cell? ⟨15, 0, none⟩ = some (.slice (some ⟨P, off, none⟩) 61 c) ∧
  ∀ k, k < 61 → w.cell? ⟨P, off + k * 2, none⟩ = some (.int .i64 ((cheatRow k).1 : Int)) ∧ w.cell? ⟨P, off + k * 2 + 1, none⟩ = some (.string (cheatS k))
theorem Cheat.moved {w w' : World} {P off c B : Nat} (h : Cheat w P off c) (hm : Moved B w w') (h1 : B ≠ 15) (h2 : B ≠ P) : Cheat w' P off c :=
  ⟨(hm.cell (Ne.symm h1)).trans h.1, fun k hk => ⟨(hm.cell (Ne.symm h2)).trans (h.2 k hk).1, (hm.cell (Ne.symm h2)).trans (h.2 k hk).2⟩⟩
theorem pre_call (B : Nat) (f : Nat → Nat) (nd : Nat) (dp : Int) (ng tr : Bool) (k : Nat) (w : World) (h : Dz w B f nd dp ng tr) (hn : nd ≤ 800) (hd : Dm.Dg f nd) (h1 : 1 ≤ k) (h2 : k ≤ 60) (r : Bool) (hr : decide (Dm.pz f nd (cheatL k) < 5 ^ k) = r) :
    Calls Tryz.prog 134 #[.slice (some ⟨B, 0, none⟩) nd 800, .string (cheatS k)] w fun e w' => e = .returned (.bool r) ∧ ∃ n, w' = w.drewN n := by
  have hc := cheat_is k h1 h2
  have hle := hc.le
  refine (prefix_any B f nd dp ng tr (cheatS k) (cheatD k) w h hn hd (cheat_byte k) hc.dg (fun _ => hc.last) (by rw [cheat_size]; omega)).mono ?_
  rintro e w' ⟨r', rfl, hw, hr'⟩
  refine ⟨?_, hw⟩
  rw [cheat_size, hc.num] at hr'
  have : r' = r := by
    rw [← hr]
    cases r' with
    | true => exact (decide_eq_true (hr'.1 rfl)).symm
    | false => exact (decide_eq_false fun hh => by have := hr'.2 hh; cases this).symm
  rw [this]
end Go.Proofs.YtaggmakaceafgaaGreatDoor

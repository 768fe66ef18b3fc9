import Derived.Test.YthgcjolpcccolaaDoorM3
namespace Go.Proofs.YthgcjolpcccolaaDoor
open Go.RowKit Lb
set_option linter.unusedVariables false

theorem make_yes {l o : List Lab} (h : makeF l = some o) (A : Option Addr) (cap : Nat) (w : World) (hL : Lbs w A l) (hT : Tabs w) (hl : l.length ≤ 65536) :
    Calls Tryd.prog 9 #[.slice A l.length cap] w fun e w' => ∃ A' c, e = .returned (.tuple #[.slice A' o.length c, .nilIface]) ∧ OwnL w' A' c o ∧ Below w.heap.size w w' :=
  (make_any A cap l w hL hT hl).mono fun e w' ⟨hb, hc⟩ => by
    rcases hc with ⟨h1, _⟩ | ⟨o', A', c, h1, he, ho⟩
    · rw [h] at h1; cases h1
    · rw [h] at h1
      injection h1 with h1
      subst h1
      exact ⟨A', c, he, ho, hb⟩
theorem make_no {l : List Lab} (h : makeF l = none) (A : Option Addr) (cap : Nat) (w : World) (hL : Lbs w A l) (hT : Tabs w) (hl : l.length ≤ 65536) :
    Calls Tryd.prog 9 #[.slice A l.length cap] w fun e w' => e = .returned (.tuple #[.slice none 0 0, .iface 44 (.int .i64 1)]) ∧ Below w.heap.size w w' :=
  (make_any A cap l w hL hT hl).mono fun e w' ⟨hb, hc⟩ => by
    rcases hc with ⟨_, he⟩ | ⟨o', A', c, h1, _⟩
    · exact ⟨he, hb⟩
    · rw [h] at h1; cases h1

/-- what is laid: the tables of utf8, and errors.errorType -/
def Laid (w : World) : Prop := Tabs w ∧ ErrT w
theorem Laid.below {w w' : World} {B : Nat} (h : Laid w) (hB : 3 ≤ B) (hb : Below B w w') : Laid w' :=
  ⟨h.1.below hB hb, (hb.cell (p := ⟨0, 0, none⟩) (by show 0 < B; omega)).trans h.2⟩

theorem lits_cells (w : World) : Lbs (w.alloc (.cells #[.string ⟨#[98]⟩, .string ⟨#[50]⟩, .string ⟨#[97]⟩, .string ⟨#[49]⟩, .string ⟨#[99]⟩, .string ⟨#[]⟩] 41)) (some ⟨w.heap.size, 0, none⟩) [b2, a1, c0] := by
  intro _
  refine ⟨w.heap.size, 0, rfl, by simp, fun i hi => ?_⟩
  match i, hi with
  | 0, _ => exact ⟨by rw [World.cell?_alloc_at _ _ _ _ rfl]; rfl, by rw [World.cell?_alloc_at _ _ _ _ rfl]; rfl⟩
  | 1, _ => exact ⟨by rw [World.cell?_alloc_at _ _ _ _ rfl]; rfl, by rw [World.cell?_alloc_at _ _ _ _ rfl]; rfl⟩
  | 2, _ => exact ⟨by rw [World.cell?_alloc_at _ _ _ _ rfl]; rfl, by rw [World.cell?_alloc_at _ _ _ _ rfl]; rfl⟩
theorem lit_cells (w : World) : Lbs (w.alloc (.cells #[.string ⟨#[50, 98]⟩, .string ⟨#[50]⟩] 41)) (some ⟨w.heap.size, 0, none⟩) [n2] := by
  intro _
  refine ⟨w.heap.size, 0, rfl, by simp, fun i hi => ?_⟩
  match i, hi with
  | 0, _ => exact ⟨by rw [World.cell?_alloc_at _ _ _ _ rfl]; rfl, by rw [World.cell?_alloc_at _ _ _ _ rfl]; rfl⟩

set_option maxRecDepth 100000 in
set_option maxHeartbeats 2000000 in
theorem awake_any (w : World) (hL : Laid w) : Calls Tryd.prog 7 #[] w fun e w' => e = .returned (.bool true) ∧ Below w.heap.size w w' := by
  have h3 : 3 ≤ w.heap.size := hL.1.size
  have H1 := Lib.hid (fun W (hW : Below w.heap.size w W) => make_yes three_made (some ⟨W.heap.size, 0, none⟩) 3 (W.alloc (.cells #[.string ⟨#[98]⟩, .string ⟨#[50]⟩, .string ⟨#[97]⟩, .string ⟨#[49]⟩, .string ⟨#[99]⟩, .string ⟨#[]⟩] 41)) (lits_cells W) ((hL.below h3 hW).1.below (B := W.heap.size) (by have := hW.size; omega) ((Below.refl _ _).alloc (Nat.le_refl _) _)) (by decide))
  have H2 := Lib.hid (fun W (hW : Below w.heap.size w W) => make_no one_refused (some ⟨W.heap.size, 0, none⟩) 1 (W.alloc (.cells #[.string ⟨#[50, 98]⟩, .string ⟨#[50]⟩] 41)) (lit_cells W) ((hL.below h3 hW).1.below (B := W.heap.size) (by have := hW.size; omega) ((Below.refl _ _).alloc (Nat.le_refl _) _)) (by decide))
  have H3 := Lib.hid (fun W (hW : Below w.heap.size w W) => code_is 1 (by decide) W (hL.below h3 hW).2)
  have H4 := Lib.hid (fun W => name_is ⟨#[95, 49]⟩ true (by decide +kernel) W)
  have H5 := Lib.hid (fun W => name_is ⟨#[49, 95]⟩ false (by decide +kernel) W)
  clear hL
  go_enter Tryd.func7, Tryd.ntmps7
  go_wp2_with fail
  refine (H1.out w (Below.refl _ _)).mono ?_
  rintro e w1 ⟨A1, c1, rfl, o1, hb1⟩
  have k1 : Below w.heap.size w w1 := ((Below.refl _ _).alloc (Nat.le_refl _) _).trans (hb1.mono (by simp))
  obtain ⟨b, off, rfl, hlt, hc⟩ := o1.1 (by decide)
  have q1 := (hc 0 (by decide)).1
  have q2 := (hc 0 (by decide)).2
  simp only [Nat.zero_mul, Nat.add_zero] at q1 q2
  clear hc hb1 o1
  go_wp2_with fail
  refine (H2.out w1 k1).mono ?_
  rintro e w2 ⟨rfl, hb2⟩
  have k2' : Below w1.heap.size w1 w2 := ((Below.refl _ _).alloc (Nat.le_refl _) _).trans (hb2.mono (by simp))
  have k2 := k1.trans (k2'.mono k1.size)
  have r1 : w2.cell? ⟨b, off, none⟩ = some (.string ⟨#[97]⟩) := (k2'.cell (p := ⟨b, off, none⟩) hlt).trans q1
  have r2 : w2.cell? ⟨b, off + 1, none⟩ = some (.string ⟨#[49]⟩) := (k2'.cell (p := ⟨b, off + 1, none⟩) hlt).trans q2
  clear hb2 q1 q2
  go_wp2_with fail
  refine (H3.out w2 k2).mono ?_
  rintro e w3 ⟨rfl, hb3⟩
  go_wp2_with fail
  refine (H4.out _).mono ?_
  rintro e w4 ⟨rfl, rfl⟩
  go_wp2_with fail
  refine (H5.out _).mono ?_
  rintro e w5 ⟨rfl, rfl⟩
  go_wp2
  go_ret
  exact ⟨rfl, k2.trans (hb3.mono k2.size)⟩
end Go.Proofs.YthgcjolpcccolaaDoor

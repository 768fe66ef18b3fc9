import Derived.Test.YtiabnacgfoaihaaDoorT1
import Derived.Test.YtiabnacgfoaihaaDoorS8
namespace Go.Proofs.YtiabnacgfoaihaaDoor
open Go.RowKit Lb
set_option linter.unusedVariables false

/-- a store in memory, with room told -/
def Own (w : World) (A : Option Addr) (c : Nat) (S : List Ser) : Prop := Srs w A S ∧ (A = none → c = 0) ∧ S.length ≤ c ∧ c ≤ 9223372036854775807
theorem Own.below {w w' : World} {A : Option Addr} {c : Nat} {S : List Ser} (h : Own w A c S) (hb : Below w.heap.size w w') : Own w' A c S := ⟨h.1.below hb, h.2⟩
theorem append_yes {S R : List Ser} {l : List Lab} {t v : Int} (h : appF S l (t, v) = (0, R)) (A L : Option Addr) (c cl : Nat) (w : World) (hS : Own w A c S) (hL : Lbs w L l) (hF : Few S) (hl : l.length ≤ 65536) (hT : Tabs w) (hv : Bits v) :
    Calls Tryd.prog 10 #[.slice A S.length c, .slice L l.length cl, .agg #[.int .i64 t, .int .u64 v]] w fun e w' => ∃ A' c', e = .returned (.tuple #[.slice A' R.length c', .nilIface]) ∧ Own w' A' c' R ∧ Below w.heap.size w w' :=
  (append_any A L c cl S l t v w hS.1 hS.2.1 hS.2.2.1 hS.2.2.2 hL hF hl hT hv).mono fun e w' ⟨hb, hc⟩ => by
    rw [h] at hc
    rcases hc with ⟨h1, _⟩ | ⟨_, A', c', he, ho⟩
    · exact absurd rfl h1
    · exact ⟨A', c', he, ho, hb⟩
theorem append_no {S : List Ser} {l : List Lab} {t v k : Int} (h : (appF S l (t, v)).1 = k) (hk : k ≠ 0) (A L : Option Addr) (c cl : Nat) (w : World) (hS : Own w A c S) (hL : Lbs w L l) (hF : Few S) (hl : l.length ≤ 65536) (hT : Tabs w) (hv : Bits v) :
    Calls Tryd.prog 10 #[.slice A S.length c, .slice L l.length cl, .agg #[.int .i64 t, .int .u64 v]] w fun e w' => e = .returned (.tuple #[.slice none 0 0, .iface 53 (.int .i64 k)]) ∧ Below w.heap.size w w' :=
  (append_any A L c cl S l t v w hS.1 hS.2.1 hS.2.2.1 hS.2.2.2 hL hF hl hT hv).mono fun e w' ⟨hb, hc⟩ => by
    rw [h] at hc
    rcases hc with ⟨_, he⟩ | ⟨h1, _⟩
    · exact ⟨he, hb⟩
    · exact absurd h1 hk

/-! awake -/
def la : Lab := (⟨#[97]⟩, ⟨#[49]⟩)
theorem first_app : appF [] [la] (5, 7) = (0, [([la], [(5, 7)])]) := by decide +kernel
theorem second_app : (appF [([la], [(5, 7)])] [la] (5, 0)).1 = 3 := by decide +kernel
theorem lab_lit (w : World) : Lbs (w.alloc (.cells #[.string ⟨#[97]⟩, .string ⟨#[49]⟩] 52)) (some ⟨w.heap.size, 0, none⟩) [la] := by
  intro _
  refine ⟨w.heap.size, 0, rfl, by simp, fun i hi => ?_⟩
  match i, hi with
  | 0, _ => exact ⟨by rw [World.cell?_alloc_at _ _ _ _ rfl]; rfl, by rw [World.cell?_alloc_at _ _ _ _ rfl]; rfl⟩
theorem own_nil (w : World) : Own w none 0 [] := ⟨⟨[], fun h => absurd h (Nat.lt_irrefl _), rfl, fun i hi => absurd hi (Nat.not_lt_zero _)⟩, fun _ => rfl, Nat.le_refl _, by omega⟩
theorem few_nil : Few [] := ⟨by simp, fun i hi => absurd hi (Nat.not_lt_zero _)⟩
theorem few_one : Few [([la], [(5, 7)])] := ⟨by simp, fun i hi => by
  have : i = 0 := by simp at hi; omega
  subst this; simp⟩

set_option maxRecDepth 100000 in
set_option maxHeartbeats 2000000 in
theorem awake_any (w : World) (hL : Laid w) : Calls Tryd.prog 6 #[] w fun e w' => e = .returned (.bool true) ∧ Below w.heap.size w w' := by
  have h4 : 4 ≤ w.heap.size := hL.1.size
  have k0 : Below w.heap.size w (w.alloc (.cells #[.string ⟨#[97]⟩, .string ⟨#[49]⟩] 52)) := (Below.refl _ _).alloc (Nat.le_refl _) _
  have K0 := Lib.hid k0
  have hl0 := lab_lit w
  have HL0 := Lib.hid hl0
  have H1 := Lib.hid (append_yes first_app none (some ⟨w.heap.size, 0, none⟩) 0 1 _ (own_nil _) hl0 few_nil (by simp) (hL.1.below h4 k0) ⟨by omega, by omega⟩)
  have H2 := Lib.hid (fun A c W (hW : Below (w.alloc (.cells #[.string ⟨#[97]⟩, .string ⟨#[49]⟩] 52)).heap.size (w.alloc (.cells #[.string ⟨#[97]⟩, .string ⟨#[49]⟩] 52)) W) (hO : Own W A c [([la], [(5, 7)])]) => append_no second_app (by omega) A (some ⟨w.heap.size, 0, none⟩) c 1 W hO (hl0.below hW) few_one (by simp) (hL.1.below h4 (k0.trans (hW.mono (by simp)))) ⟨by omega, by omega⟩)
  have H3 := Lib.hid (fun W (hW : Below w.heap.size w W) => code_is 3 (by decide) W (hL.below h4 hW).2)
  clear hL hl0 k0
  go_enter Tryd.func6, Tryd.ntmps6
  go_wp2_with fail
  refine (H1.out).mono ?_
  rintro e w1 ⟨A1, c1, rfl, o1, hb1⟩
  have K1 := Lib.hid hb1
  have O1 := Lib.hid o1
  obtain ⟨b, off, LA, lc, PA, pc, rfl, hlt, hx, hy, _, _, hP, _⟩ := o1.1.at_ (i := 0) (by decide)
  obtain ⟨pb, poff, rfl, hpl, hpc⟩ := hP (by decide)
  have q1 := (hpc 0 (by decide)).1
  have q2 := (hpc 0 (by decide)).2.1
  simp only [Nat.zero_mul, Nat.add_zero] at hx hy q1 q2
  clear hpc hP o1 hb1
  go_wp2_with fail
  refine (H2.out _ _ w1 K1.out O1.out).mono ?_
  rintro e w2 ⟨rfl, hb2⟩
  have r1 := (hb2.cell (p := ⟨b, off, none⟩) hlt).trans hx
  have r2 := (hb2.cell (p := ⟨b, off + 1, none⟩) hlt).trans hy
  have r3 := (hb2.cell (p := ⟨pb, poff, none⟩) hpl).trans q1
  have r4 := (hb2.cell (p := ⟨pb, poff + 1, none⟩) hpl).trans q2
  have K2 := Lib.hid (K0.out.trans ((K1.out.trans (hb2.mono K1.out.size)).mono (by simp)))
  clear hb2 hx hy q1 q2
  go_wp2_with fail
  refine (H3.out w2 K2.out).mono ?_
  rintro e w3 ⟨rfl, hb3⟩
  go_wp2
  go_ret
  exact ⟨rfl, K2.out.trans (hb3.mono K2.out.size)⟩
end Go.Proofs.YtiabnacgfoaihaaDoor

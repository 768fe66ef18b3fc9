import Derived.Test.YtencpjhpedenbaaGreatDoorN2
import Derived.StillTailTactics
namespace Go.Proofs.YtencpjhpedenbaaGreatDoor
open Go.RowKit Lb
set_option linter.unusedVariables false

/-- a slice of labels reads as a list -/
def Lbs (w : World) (A : Option Addr) (l : List Lab) : Prop :=
  0 < l.length → ∃ b off, A = some ⟨b, off, none⟩ ∧ b < w.heap.size ∧ ∀ i, i < l.length → w.cell? ⟨b, off + i * 2, none⟩ = some (.string (l.getD i e0).1) ∧ w.cell? ⟨b, off + i * 2 + 1, none⟩ = some (.string (l.getD i e0).2)
theorem Lbs.below {w w' : World} {A : Option Addr} {l : List Lab} (h : Lbs w A l) (hb : Below w.heap.size w w') : Lbs w' A l := by
  intro hn
  obtain ⟨b, off, rfl, hlt, hc⟩ := h hn
  exact ⟨b, off, rfl, by have := hb.size; omega, fun i hi => ⟨(hb.cell (p := ⟨b, off + i * 2, none⟩) hlt).trans (hc i hi).1, (hb.cell (p := ⟨b, off + i * 2 + 1, none⟩) hlt).trans (hc i hi).2⟩⟩
theorem bel_drawn {B : Nat} {w wr : World} (h : Below B w wr) (n : Nat) : Below B w (wr.drewN n) := ⟨h.os, h.tape, h.output, h.size, h.block⟩

/-- lists of labels, one against another: from a place on -/
def cmpFrom (a b : List Lab) : Nat → Nat → Int
  | 0, _ => cmpI a.length b.length
  | n + 1, k => if cmpT (a.getD k e0) (b.getD k e0) = 0 then cmpFrom a b n (k + 1) else cmpT (a.getD k e0) (b.getD k e0)
def cmpL (a b : List Lab) : Int := cmpFrom a b (min a.length b.length) 0

theorem tag_is (a b c d : ByteArray) (r : Int) (h : cmpT (a, b) (c, d) = r) (w : World) : Calls Tryz.prog 55 #[.agg #[.string a, .string b], .agg #[.string c, .string d]] w fun e w' => e = .returned (.int .i64 r) ∧ Below w.heap.size w w' := by
  subst h
  exact (tag_any a b c d w).mono fun e w' ⟨he, o, o', hw⟩ => ⟨he, by subst hw; exact ((Below.refl _ _).alloc (Nat.le_refl _) _).alloc (by simp) _⟩

set_option maxRecDepth 100000 in
set_option maxHeartbeats 2000000 in
theorem cmp_any (A B : Option Addr) (ca cb : Nat) (a b : List Lab) (w : World) (hA : Lbs w A a) (hB : Lbs w B b) (ha : a.length ≤ 65536) (hb : b.length ≤ 65536) :
    Calls Tryz.prog 42 #[.slice A a.length ca, .slice B b.length cb] w fun e w' => e = .returned (.int .i64 (cmpL a b)) ∧ Below w.heap.size w w' := by
  generalize hr : cmpL a b = r
  have HR := Lib.hid hr
  have HA := Lib.hid hA
  have HB := Lib.hid hB
  have HI := Lib.hid (fun w => compare_int (a.length : Int) (b.length : Int) w)
  clear hr hA hB
  generalize hna : a.length = na at *
  generalize hnb : b.length = nb at *
  have HNA := Lib.hid hna
  have HNB := Lib.hid hnb
  clear hna hnb
  have HR0 : Hid (cmpFrom a b (min na nb - 0) 0 = r) := by
    have := HR.out
    unfold cmpL at this
    rw [HNA.out, HNB.out] at this
    exact this
  clear HR
  go_enter Tryz.func42, Tryz.ntmps42
  go_wp2
  all_goals
    go_loopw [12] (fun i wr => ∃ k : Nat, k ≤ min na nb ∧ i = .int .i64 k ∧ Hid (Below w.heap.size w wr) ∧ Hid (cmpFrom a b (min na nb - k) k = r)) (fun i _ => min na nb - (intOf i).toNat)
    case atStart => exact ⟨0, Nat.zero_le _, rfl, Below.refl _ _, HR0⟩
    case round =>
      obtain ⟨k, hk, rfl, HBel, HC⟩ := hrel
      by_cases hlt : k < min na nb
      · have hka : k < a.length := by rw [HNA.out]; omega
        have hkb : k < b.length := by rw [HNB.out]; omega
        have hna : (k : Int) < (na : Int) := by omega
        have hnb : (k : Int) < (nb : Int) := by omega
        obtain ⟨ba, oa, rfl, hla, ga⟩ := HA.out (by omega)
        obtain ⟨bb, ob, rfl, hlb, gb⟩ := HB.out (by omega)
        have ha1 : wr.cell? ⟨ba, oa + k * 2, none⟩ = some (.string (a.getD k e0).1) := (HBel.out.cell (p := ⟨ba, oa + k * 2, none⟩) hla).trans (ga k hka).1
        have ha2 : wr.cell? ⟨ba, oa + k * 2 + 1, none⟩ = some (.string (a.getD k e0).2) := (HBel.out.cell (p := ⟨ba, oa + k * 2 + 1, none⟩) hla).trans (ga k hka).2
        have hb1 : wr.cell? ⟨bb, ob + k * 2, none⟩ = some (.string (b.getD k e0).1) := (HBel.out.cell (p := ⟨bb, ob + k * 2, none⟩) hlb).trans (gb k hkb).1
        have hb2 : wr.cell? ⟨bb, ob + k * 2 + 1, none⟩ = some (.string (b.getD k e0).2) := (HBel.out.cell (p := ⟨bb, ob + k * 2 + 1, none⟩) hlb).trans (gb k hkb).2
        clear ga gb
        have hstep := HC.out
        rw [show min na nb - k = (min na nb - (k + 1)) + 1 by omega, cmpFrom] at hstep
        generalize hcT : cmpT (a.getD k e0) (b.getD k e0) = c at hstep
        have HT2 := Lib.hid (fun w => tag_is (a.getD k e0).1 (a.getD k e0).2 (b.getD k e0).1 (b.getD k e0).2 c hcT w)
        clear hcT
        generalize (a.getD k e0).1 = x1 at *
        generalize (a.getD k e0).2 = x2 at *
        generalize (b.getD k e0).1 = y1 at *
        generalize (b.getD k e0).2 = y2 at *
        by_cases hc : c = 0
        · subst hc
          rw [if_pos rfl] at hstep
          have HS := Lib.hid hstep
          clear hstep
          go_wp2_with fail
          go_still_tail 8, (by kernel_rfl)
          go_wp2_with fail
          refine (HT2.out _).mono ?_
          rintro e w1 ⟨rfl, hb3⟩
          go_wp2
          go_roundw
          case rel => exact ⟨k + 1, by omega, by go_num, (HBel.out.drew).trans (hb3.mono (by exact HBel.out.size)), HS⟩
          case measure => simp [intOf]; omega
        · rw [if_neg hc] at hstep
          subst hstep
          have hcb : (c != 0) = true := by simpa using hc
          go_wp2_with fail
          go_still_tail 8, (by kernel_rfl)
          go_wp2_with fail
          refine (HT2.out _).mono ?_
          rintro e w1 ⟨rfl, hb3⟩
          go_wp2
          go_ret
          exact ⟨rfl, (HBel.out.drew).trans (hb3.mono (by exact HBel.out.size))⟩
      · have hf : r = cmpI na nb := by
          have := HC.out
          rw [show min na nb - k = 0 by omega, cmpFrom, HNA.out, HNB.out] at this
          exact this.symm
        subst hf
        clear HC HR0
        go_wp2_with fail
        refine (HI.out _).mono ?_
        rintro e w1 ⟨rfl, rfl⟩
        go_wp2
        go_ret
        exact ⟨rfl, HBel.out⟩
end Go.Proofs.YtencpjhpedenbaaGreatDoor

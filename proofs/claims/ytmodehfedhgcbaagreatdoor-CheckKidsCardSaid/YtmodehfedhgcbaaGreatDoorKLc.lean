/- Labels that are right, by the program. Condition: the tables of utf8 as they are laid. -/
import Derived.Test.YtmodehfedhgcbaaGreatDoorKLa
import Derived.StillTailTactics
namespace Go.Proofs.YtmodehfedhgcbaaGreatDoor.Rg
open Go.RowKit Lb
set_option linter.unusedVariables false
/-- a slice of labels reads as a list -/
def Lbs (w : World) (A : Option Addr) (l : List Lab) : Prop :=
  0 < l.length → ∃ b off, A = some ⟨b, off, none⟩ ∧ b < w.heap.size ∧ ∀ i, i < l.length → w.cell? ⟨b, off + i * 2, none⟩ = some (.string (l.getD i e0).1) ∧ w.cell? ⟨b, off + i * 2 + 1, none⟩ = some (.string (l.getD i e0).2)
theorem Lbs.below {w w' : World} {A : Option Addr} {l : List Lab} (h : Lbs w A l) (hb : Below w.heap.size w w') : Lbs w' A l := by
  intro hn
  obtain ⟨b, off, rfl, hlt, hc⟩ := h hn
  exact ⟨b, off, rfl, by have := hb.size; omega, fun i hi => ⟨(hb.cell (p := ⟨b, off + i * 2, none⟩) hlt).trans (hc i hi).1, (hb.cell (p := ⟨b, off + i * 2 + 1, none⟩) hlt).trans (hc i hi).2⟩⟩
theorem bel_drawn {B : Nat} {w wr : World} (h : Below B w wr) (n : Nat) : Below B w (wr.drewN n) := ⟨h.os, h.tape, h.output, h.size, h.block⟩

/-- a label that may be -/
def okB (x : Lab) : Bool := nameB x.1 && valB x.2
def fullL (x : Lab) : Bool := !x.2.toList.isEmpty
theorem name_is (s : ByteArray) (r : Bool) (h : nameB s = r) (w : World) : Calls Tryz.prog 69 #[.string s] w fun e w' => e = .returned (.bool r) ∧ w = w' := by
  subst h; exact name_any s w
theorem value_is (s : ByteArray) (r : Bool) (h : valB s = r) (w : World) (hT : Tabs w) : Calls Tryz.prog 86 #[.string s] w fun e w' => e = .returned (.bool r) ∧ Below w.heap.size w w' := by
  subst h; exact value_any s w hT


/-! labels that are right -/
def rightAt (l : List Lab) (i : Nat) : Prop := okB (l.getD i e0) = true ∧ fullL (l.getD i e0) = true ∧ (0 < i → sl (l.getD (i - 1) e0).1 (l.getD i e0).1 = true)
def RightTo (l : List Lab) (k : Nat) : Prop := ∀ i, i < k → rightAt l i
instance (l : List Lab) (i : Nat) : Decidable (rightAt l i) := by unfold rightAt; infer_instance
instance (l : List Lab) (k : Nat) : Decidable (RightTo l k) := by unfold RightTo; infer_instance
def rightB (l : List Lab) : Bool := decide (l.length ≤ 16 ∧ RightTo l l.length)
theorem right_zero (l : List Lab) : RightTo l 0 := fun _ h => absurd h (Nat.not_lt_zero _)
theorem right_succ {l : List Lab} {k : Nat} (h : RightTo l k) (h1 : rightAt l k) : RightTo l (k + 1) := by
  intro i hi
  by_cases e : i = k
  · subst e; exact h1
  · exact h i (by omega)
theorem right_many {l : List Lab} (h : 16 < l.length) : rightB l = false := by
  unfold rightB; simp; omega
theorem right_bad {l : List Lab} {k : Nat} (hk : k < l.length) (h : ¬ rightAt l k) : rightB l = false := by
  unfold rightB
  rw [decide_eq_false_iff_not]
  rintro ⟨_, h2⟩
  exact h (h2 k hk)
theorem right_all {l : List Lab} (h : RightTo l l.length) : rightB l = decide (l.length ≤ 16) := by
  unfold rightB; simp [h]

set_option maxRecDepth 100000 in
set_option maxHeartbeats 4000000 in
theorem right_any (A : Option Addr) (cap : Nat) (l : List Lab) (w : World) (hL : Lbs w A l) (hT : Tabs w) (hl : l.length ≤ 65536) :
    Calls Tryz.prog 80 #[.slice A l.length cap] w fun e w' => e = .returned (.bool (rightB l)) ∧ Below w.heap.size w w' := by
  generalize hr : rightB l = r
  have HR := Lib.hid hr
  have HL := Lib.hid hL
  have HT := Lib.hid hT
  have h3 : 4 ≤ w.heap.size := hT.size
  clear hr hL hT
  generalize hn : l.length = n at *
  have HN := Lib.hid hn
  clear hn
  by_cases h16 : 16 < n
  · have hf : r = false := by rw [← HR.out]; exact right_many (by rw [HN.out]; exact h16)
    subst hf
    have h16' : (16 : Int) < (n : Int) := by omega
    go_enter Tryz.func80, Tryz.ntmps80
    go_wp2
    go_ret
    exact ⟨rfl, Below.refl _ _⟩
  have d16 : decide (16 < n) = false := by simpa using h16
  go_enter Tryz.func80, Tryz.ntmps80
  go_wp2
  go_loopw [10] (fun i wr => ∃ k : Nat, k ≤ n ∧ i = .int .i64 k ∧ Hid (RightTo l k) ∧ Hid (Below w.heap.size w wr)) (fun i _ => n - (intOf i).toNat)
  case atStart => exact ⟨0, Nat.zero_le _, rfl, right_zero l, Below.refl _ _⟩
  case round =>
    obtain ⟨k, hk, rfl, HC, HB⟩ := hrel
    by_cases hlt : k < n
    · have hkl : k < l.length := by rw [HN.out]; exact hlt
      obtain ⟨b0, off, rfl, hb0, hc⟩ := HL.out (by omega)
      have hx : wr.cell? ⟨b0, off + k * 2, none⟩ = some (.string (l.getD k e0).1) := (HB.out.cell (p := ⟨b0, off + k * 2, none⟩) hb0).trans (hc k hkl).1
      have hy : wr.cell? ⟨b0, off + k * 2 + 1, none⟩ = some (.string (l.getD k e0).2) := (HB.out.cell (p := ⟨b0, off + k * 2 + 1, none⟩) hb0).trans (hc k hkl).2
      have hsz := HB.out.size
      have HTW : Hid (Tabs wr) := HT.out.below h3 HB.out
      have HBAD := Lib.hid (@right_bad l k hkl)
      have HGO := Lib.hid (@right_succ l k HC.out)
      have hat : rightAt l k = (((nameB (l.getD k e0).1 && valB (l.getD k e0).2) = true) ∧ ((!(l.getD k e0).2.toList.isEmpty) = true) ∧ (0 < k → Op.bytesLess (l.getD (k - 1) e0).1.toList (l.getD k e0).1.toList = true)) := rfl
      rw [hat] at HBAD HGO
      have hz : 0 < k → w.cell? ⟨b0, off + (k - 1) * 2, none⟩ = some (.string (l.getD (k - 1) e0).1) := fun _ => (hc (k - 1) (by omega)).1
      clear hc hat
      generalize (l.getD k e0).1 = x at *
      generalize (l.getD k e0).2 = y at *
      generalize (l.getD (k - 1) e0).1 = z at *
      cases h1 : nameB x with
      | false =>
        have hf : r = false := by rw [← HR.out]; exact HBAD.out (by rw [h1]; rintro ⟨h, _⟩; simp at h)
        subst hf
        have H1 := Lib.hid h1
        clear h1
        go_wp2_with fail
        refine (name_is _ false H1.out _).mono ?_
        rintro e w' ⟨rfl, rfl⟩
        go_wp2
        go_ret
        exact ⟨rfl, HB.out.alloc hsz _⟩
      | true =>
        have H1 := Lib.hid h1
        cases h2 : y.toList.isEmpty with
        | true =>
          have hf : r = false := by rw [← HR.out]; exact HBAD.out (by rw [h2]; rintro ⟨_, h, _⟩; simp at h)
          subst hf
          clear h1
          go_wp2_with fail
          refine (name_is _ true H1.out _).mono ?_
          rintro e w' ⟨rfl, rfl⟩
          go_wp2
          go_ret
          exact ⟨rfl, HB.out.alloc hsz _⟩
        | false =>
          cases h4 : valB y with
          | false =>
            have hf : r = false := by rw [← HR.out]; exact HBAD.out (by rw [h4]; rintro ⟨h, _⟩; simp at h)
            subst hf
            have H4 := Lib.hid h4
            clear h1 h4
            go_wp2_with fail
            refine (name_is _ true H1.out _).mono ?_
            rintro e w' ⟨rfl, rfl⟩
            go_wp2_with fail
            refine (value_is _ false H4.out _ (HTW.out.below (B := wr.heap.size) (by omega) ((Below.refl _ _).alloc (Nat.le_refl _) _))).mono ?_
            rintro e w2 ⟨rfl, hb2⟩
            go_wp2
            go_ret
            exact ⟨rfl, (HB.out.alloc hsz _).trans (hb2.mono (by simp; omega))⟩
          | true =>
            have H4 := Lib.hid h4
            by_cases hk0 : k = 0
            · have HS : Hid (RightTo l (k + 1)) := HGO.out ⟨by rw [h1, h4]; rfl, by rw [h2]; rfl, fun h => absurd h (by omega)⟩
              have dk : decide (0 < k) = false := by simp; omega
              clear h1 h4 hk0 hz
              go_wp2_with fail
              refine (name_is _ true H1.out _).mono ?_
              rintro e w' ⟨rfl, rfl⟩
              go_wp2_with fail
              refine (value_is _ true H4.out _ (HTW.out.below (B := wr.heap.size) (by omega) ((Below.refl _ _).alloc (Nat.le_refl _) _))).mono ?_
              rintro e w2 ⟨rfl, hb2⟩
              have HB2 := Lib.hid ((HB.out.alloc hsz (.cells #[.string x, .string y] 120)).trans (hb2.mono (by simp; omega)))
              clear hb2
              go_wp2_with fail
              go_quiet (fail)
              go_wp2
              go_roundw
              case rel => exact ⟨k + 1, by omega, by go_num, HS, bel_drawn HB2.out _⟩
              case measure => simp [intOf]; omega
            · have dk : decide (0 < k) = true := by simp; omega
              have dk' : (0 : Int) < (k : Int) := by omega
              have hz' := hz (by omega)
              cases h5 : Op.bytesLess z.toList x.toList with
              | true =>
                have HS : Hid (RightTo l (k + 1)) := HGO.out ⟨by rw [h1, h4]; rfl, by rw [h2]; rfl, fun h => h5⟩
                clear h1 h4 hz
                go_wp2_with fail
                refine (name_is _ true H1.out _).mono ?_
                rintro e w' ⟨rfl, rfl⟩
                go_wp2_with fail
                refine (value_is _ true H4.out _ (HTW.out.below (B := wr.heap.size) (by omega) ((Below.refl _ _).alloc (Nat.le_refl _) _))).mono ?_
                rintro e w2 ⟨rfl, hb2⟩
                have q1 : w2.cell? ⟨wr.heap.size, 0, none⟩ = some (.string x) := by
                  rw [hb2.cell (p := ⟨wr.heap.size, 0, none⟩) (by simp), World.cell?_alloc_at _ _ _ _ rfl]; rfl
                have HB2 := Lib.hid ((HB.out.alloc hsz (.cells #[.string x, .string y] 120)).trans (hb2.mono (by simp; omega)))
                have q2 : w2.cell? ⟨b0, off + (k - 1) * 2, none⟩ = some (.string z) := (HB2.out.cell (p := ⟨b0, off + (k - 1) * 2, none⟩) hb0).trans hz'
                clear hb2
                go_wp2_with fail
                go_quiet (fail)
                go_wp2
                go_roundw
                case rel => exact ⟨k + 1, by omega, by go_num, HS, bel_drawn HB2.out _⟩
                case measure => simp [intOf]; omega
              | false =>
                have hf : r = false := by rw [← HR.out]; exact HBAD.out (by rintro ⟨_, _, h⟩; rw [h5] at h; exact absurd (h (by omega)) (by decide))
                subst hf
                clear h1 h4 hz
                go_wp2_with fail
                refine (name_is _ true H1.out _).mono ?_
                rintro e w' ⟨rfl, rfl⟩
                go_wp2_with fail
                refine (value_is _ true H4.out _ (HTW.out.below (B := wr.heap.size) (by omega) ((Below.refl _ _).alloc (Nat.le_refl _) _))).mono ?_
                rintro e w2 ⟨rfl, hb2⟩
                have q1 : w2.cell? ⟨wr.heap.size, 0, none⟩ = some (.string x) := by
                  rw [hb2.cell (p := ⟨wr.heap.size, 0, none⟩) (by simp), World.cell?_alloc_at _ _ _ _ rfl]; rfl
                have HB2 := Lib.hid ((HB.out.alloc hsz (.cells #[.string x, .string y] 120)).trans (hb2.mono (by simp; omega)))
                have q2 : w2.cell? ⟨b0, off + (k - 1) * 2, none⟩ = some (.string z) := (HB2.out.cell (p := ⟨b0, off + (k - 1) * 2, none⟩) hb0).trans hz'
                clear hb2
                go_wp2_with fail
                go_quiet (fail)
                go_wp2
                go_ret
                exact ⟨rfl, bel_drawn HB2.out _⟩
    · have hf : r = true := by
        rw [← HR.out, right_all (by rw [HN.out, show n = k by omega]; exact HC.out), HN.out]
        simp; omega
      subst hf
      have d : decide (k < n) = false := by simpa using hlt
      go_wp2
      go_ret
      exact ⟨rfl, HB.out⟩

end Go.Proofs.YtmodehfedhgcbaaGreatDoor.Rg

namespace Go.Proofs.YtmodehfedhgcbaaGreatDoor.Rg
open Go.RowKit Lb
set_option linter.unusedVariables false

def namedB (nm v : ByteArray) : Bool := nameB nm && valB v
theorem toList_nil : (⟨#[]⟩ : ByteArray).toList = [] := by decide +kernel
theorem val_empty {v : ByteArray} (h : v.toList.isEmpty = true) : valB v = true := by
  have e : v = ⟨#[]⟩ := toList_inj (by rw [toList_nil]; exact List.isEmpty_iff.1 h)
  subst e
  decide +kernel
theorem right_one {nm v : ByteArray} (h : v.toList.isEmpty = false) : rightB [(nm, v)] = namedB nm v := by
  unfold rightB namedB
  rw [Bool.eq_iff_iff]
  simp [RightTo, rightAt, okB, fullL]
  intro _ _ hh
  rw [hh] at h
  cases h
theorem lbs_one (w : World) (nm v : ByteArray) (t : TypeId) : Lbs (w.alloc (.cells #[.string nm, .string v] t)) (some ⟨w.heap.size, 0, none⟩) [(nm, v)] := by
  intro _
  refine ⟨w.heap.size, 0, rfl, by simp, fun i hi => ?_⟩
  obtain rfl : i = 0 := by simpa using hi
  constructor
  · rw [World.cell?_alloc_at _ _ _ _ (by simp)]; rfl
  · rw [World.cell?_alloc_at _ _ _ _ (by simp)]; rfl
set_option maxHeartbeats 2000000 in
theorem named_any (op : Int) (nm v : ByteArray) (w : World) (hT : Tabs w) : Calls Tryz.prog 72 #[.agg #[.int .i64 op, .string nm, .string v]] w fun e w' => e = .returned (.bool (namedB nm v)) ∧ Below w.heap.size w w' := by
  have h4 := hT.size
  cases he : v.toList.isEmpty with
  | true =>
    have hr : namedB nm v = nameB nm := by unfold namedB; rw [val_empty he, Bool.and_true]
    rw [hr]
    have H := Lib.hid (fun w => name_any nm w)
    clear hr hT
    generalize nameB nm = r at *
    go_enter Tryz.func72, Tryz.ntmps72
    go_wp2_with fail
    refine (H.out _).mono ?_
    rintro e w1 ⟨rfl, rfl⟩
    go_wp2
    go_ret
    exact ⟨rfl, (Below.refl _ _).alloc (Nat.le_refl _) _⟩
  | false =>
    have H := Lib.hid (right_any (some ⟨w.heap.size + 1, 0, none⟩) 1 [(nm, v)] ((w.alloc (.cells #[.int .i64 op, .string nm, .string v] 40)).alloc (.cells #[.string nm, .string v] 120)) (by have := lbs_one (w.alloc (.cells #[.int .i64 op, .string nm, .string v] 40)) nm v 120; rw [World.size_alloc] at this; exact this) (hT.below h4 (((Below.refl _ _).alloc (Nat.le_refl _) _).alloc (by simp) _)) (by simp))
    rw [right_one he] at H
    clear hT
    generalize namedB nm v = r at *
    go_enter Tryz.func72, Tryz.ntmps72
    go_wp2_with fail
    refine (H.out).mono ?_
    rintro e w1 ⟨rfl, hb⟩
    have HB : Hid (Below w.heap.size w w1) := (((Below.refl _ _).alloc (Nat.le_refl _) _).alloc (by simp) _).trans (hb.mono (by simp; omega))
    clear hb H
    go_wp2
    go_ret
    exact ⟨rfl, HB.out⟩
end Go.Proofs.YtmodehfedhgcbaaGreatDoor.Rg

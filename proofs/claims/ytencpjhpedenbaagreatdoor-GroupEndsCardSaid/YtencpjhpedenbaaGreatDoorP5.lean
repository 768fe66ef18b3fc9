import Derived.Test.YtencpjhpedenbaaGreatDoorP4
namespace Go.Proofs.YtencpjhpedenbaaGreatDoor
open Go.RowKit Lb
set_option linter.unusedVariables false
theorem name_is (s : ByteArray) (r : Bool) (h : nameB s = r) (w : World) : Calls Tryz.prog 53 #[.string s] w fun e w' => e = .returned (.bool r) ∧ w = w' := by
  subst h; exact name_any s w
theorem value_is (s : ByteArray) (r : Bool) (h : valB s = r) (w : World) (hT : Tabs w) : Calls Tryz.prog 54 #[.string s] w fun e w' => e = .returned (.bool r) ∧ Below w.heap.size w w' := by
  subst h; exact value_any s w hT

/-! labels that are right -/
def rightAt (l : List Lab) (i : Nat) : Prop := okB (l.getD i e0) = true ∧ full (l.getD i e0) = true ∧ (0 < i → sl (l.getD (i - 1) e0).1 (l.getD i e0).1 = true)
def RightTo (l : List Lab) (k : Nat) : Prop := ∀ i, i < k → rightAt l i
instance (l : List Lab) (i : Nat) : Decidable (rightAt l i) := by unfold rightAt; infer_instance
instance (l : List Lab) (k : Nat) : Decidable (RightTo l k) := by unfold RightTo; infer_instance
def rightB (l : List Lab) : Bool := decide (l.length ≤ 16 ∧ RightTo l l.length)
theorem right_zero (l : List Lab) : RightTo l 0 := fun _ h => absurd h (Nat.not_lt_zero _)
theorem right_succ {l : List Lab} {k : Nat} (h : RightTo l k) (h1 : rightAt l k) : RightTo l (k + 1) := by
  intro i hi
  by_cases e : i = k
  · subst e; exact h1
  · exact h i (by omega)
theorem right_many {l : List Lab} (h : 16 < l.length) : rightB l = false := by
  unfold rightB; simp; omega
theorem right_bad {l : List Lab} {k : Nat} (hk : k < l.length) (h : ¬ rightAt l k) : rightB l = false := by
  unfold rightB
  rw [decide_eq_false_iff_not]
  rintro ⟨_, h2⟩
  exact h (h2 k hk)
theorem right_all {l : List Lab} (h : RightTo l l.length) : rightB l = decide (l.length ≤ 16) := by
  unfold rightB; simp [h]

set_option maxRecDepth 100000 in
set_option maxHeartbeats 4000000 in
theorem right_any (A : Option Addr) (cap : Nat) (l : List Lab) (w : World) (hL : Lbs w A l) (hT : Tabs w) (hl : l.length ≤ 65536) :
    Calls Tryz.prog 41 #[.slice A l.length cap] w fun e w' => e = .returned (.bool (rightB l)) ∧ Below w.heap.size w w' := by
  generalize hr : rightB l = r
  have HR := Lib.hid hr
  have HL := Lib.hid hL
  have HT := Lib.hid hT
  have h3 : 3 ≤ w.heap.size := hT.size
  clear hr hL hT
  generalize hn : l.length = n at *
  have HN := Lib.hid hn
  clear hn
  by_cases h16 : 16 < n
  · have hf : r = false := by rw [← HR.out]; exact right_many (by rw [HN.out]; exact h16)
    subst hf
    have h16' : (16 : Int) < (n : Int) := by omega
    go_enter Tryz.func41, Tryz.ntmps41
    go_wp2
    go_ret
    exact ⟨rfl, Below.refl _ _⟩
  have d16 : decide (16 < n) = false := by simpa using h16
  go_enter Tryz.func41, Tryz.ntmps41
  go_wp2
  go_loopw [10] (fun i wr => ∃ k : Nat, k ≤ n ∧ i = .int .i64 k ∧ Hid (RightTo l k) ∧ Hid (Below w.heap.size w wr)) (fun i _ => n - (intOf i).toNat)
  case atStart => exact ⟨0, Nat.zero_le _, rfl, right_zero l, Below.refl _ _⟩
  case round =>
    obtain ⟨k, hk, rfl, HC, HB⟩ := hrel
    by_cases hlt : k < n
    · have hkl : k < l.length := by rw [HN.out]; exact hlt
      obtain ⟨b0, off, rfl, hb0, hc⟩ := HL.out (by omega)
      have hx : wr.cell? ⟨b0, off + k * 2, none⟩ = some (.string (l.getD k e0).1) := (HB.out.cell (p := ⟨b0, off + k * 2, none⟩) hb0).trans (hc k hkl).1
      have hy : wr.cell? ⟨b0, off + k * 2 + 1, none⟩ = some (.string (l.getD k e0).2) := (HB.out.cell (p := ⟨b0, off + k * 2 + 1, none⟩) hb0).trans (hc k hkl).2
      have hsz := HB.out.size
      have HTW : Hid (Tabs wr) := HT.out.below h3 HB.out
      have HBAD := Lib.hid (@right_bad l k hkl)
      have HGO := Lib.hid (@right_succ l k HC.out)
      have hat : rightAt l k = (((nameB (l.getD k e0).1 && valB (l.getD k e0).2) = true) ∧ ((!(l.getD k e0).2.toList.isEmpty) = true) ∧ (0 < k → Op.bytesLess (l.getD (k - 1) e0).1.toList (l.getD k e0).1.toList = true)) := rfl
      rw [hat] at HBAD HGO
      have hz : 0 < k → w.cell? ⟨b0, off + (k - 1) * 2, none⟩ = some (.string (l.getD (k - 1) e0).1) := fun _ => (hc (k - 1) (by omega)).1
      clear hc hat
      generalize (l.getD k e0).1 = x at *
      generalize (l.getD k e0).2 = y at *
      generalize (l.getD (k - 1) e0).1 = z at *
      cases h1 : nameB x with
      | false =>
        have hf : r = false := by rw [← HR.out]; exact HBAD.out (by rw [h1]; rintro ⟨h, _⟩; simp at h)
        subst hf
        have H1 := Lib.hid h1
        clear h1
        go_wp2_with fail
        refine (name_is _ false H1.out _).mono ?_
        rintro e w' ⟨rfl, rfl⟩
        go_wp2
        go_ret
        exact ⟨rfl, HB.out.alloc hsz _⟩
      | true =>
        have H1 := Lib.hid h1
        cases h2 : y.toList.isEmpty with
        | true =>
          have hf : r = false := by rw [← HR.out]; exact HBAD.out (by rw [h2]; rintro ⟨_, h, _⟩; simp at h)
          subst hf
          clear h1
          go_wp2_with fail
          refine (name_is _ true H1.out _).mono ?_
          rintro e w' ⟨rfl, rfl⟩
          go_wp2
          go_ret
          exact ⟨rfl, HB.out.alloc hsz _⟩
        | false =>
          cases h4 : valB y with
          | false =>
            have hf : r = false := by rw [← HR.out]; exact HBAD.out (by rw [h4]; rintro ⟨h, _⟩; simp at h)
            subst hf
            have H4 := Lib.hid h4
            clear h1 h4
            go_wp2_with fail
            refine (name_is _ true H1.out _).mono ?_
            rintro e w' ⟨rfl, rfl⟩
            go_wp2_with fail
            refine (value_is _ false H4.out _ (HTW.out.below (B := wr.heap.size) (by omega) ((Below.refl _ _).alloc (Nat.le_refl _) _))).mono ?_
            rintro e w2 ⟨rfl, hb2⟩
            go_wp2
            go_ret
            exact ⟨rfl, (HB.out.alloc hsz _).trans (hb2.mono (by simp; omega))⟩
          | true =>
            have H4 := Lib.hid h4
            by_cases hk0 : k = 0
            · have HS : Hid (RightTo l (k + 1)) := HGO.out ⟨by rw [h1, h4]; rfl, by rw [h2]; rfl, fun h => absurd h (by omega)⟩
              have dk : decide (0 < k) = false := by simp; omega
              clear h1 h4 hk0 hz
              go_wp2_with fail
              refine (name_is _ true H1.out _).mono ?_
              rintro e w' ⟨rfl, rfl⟩
              go_wp2_with fail
              refine (value_is _ true H4.out _ (HTW.out.below (B := wr.heap.size) (by omega) ((Below.refl _ _).alloc (Nat.le_refl _) _))).mono ?_
              rintro e w2 ⟨rfl, hb2⟩
              have HB2 := Lib.hid ((HB.out.alloc hsz (.cells #[.string x, .string y] 61)).trans (hb2.mono (by simp; omega)))
              clear hb2
              go_wp2_with fail
              go_quiet (fail)
              go_wp2
              go_roundw
              case rel => exact ⟨k + 1, by omega, by go_num, HS, bel_drawn HB2.out _⟩
              case measure => simp [intOf]; omega
            · have dk : decide (0 < k) = true := by simp; omega
              have dk' : (0 : Int) < (k : Int) := by omega
              have hz' := hz (by omega)
              cases h5 : Op.bytesLess z.toList x.toList with
              | true =>
                have HS : Hid (RightTo l (k + 1)) := HGO.out ⟨by rw [h1, h4]; rfl, by rw [h2]; rfl, fun h => h5⟩
                clear h1 h4 hz
                go_wp2_with fail
                refine (name_is _ true H1.out _).mono ?_
                rintro e w' ⟨rfl, rfl⟩
                go_wp2_with fail
                refine (value_is _ true H4.out _ (HTW.out.below (B := wr.heap.size) (by omega) ((Below.refl _ _).alloc (Nat.le_refl _) _))).mono ?_
                rintro e w2 ⟨rfl, hb2⟩
                have q1 : w2.cell? ⟨wr.heap.size, 0, none⟩ = some (.string x) := by
                  rw [hb2.cell (p := ⟨wr.heap.size, 0, none⟩) (by simp), World.cell?_alloc_at _ _ _ _ rfl]; rfl
                have HB2 := Lib.hid ((HB.out.alloc hsz (.cells #[.string x, .string y] 61)).trans (hb2.mono (by simp; omega)))
                have q2 : w2.cell? ⟨b0, off + (k - 1) * 2, none⟩ = some (.string z) := (HB2.out.cell (p := ⟨b0, off + (k - 1) * 2, none⟩) hb0).trans hz'
                clear hb2
                go_wp2_with fail
                go_quiet (fail)
                go_wp2
                go_roundw
                case rel => exact ⟨k + 1, by omega, by go_num, HS, bel_drawn HB2.out _⟩
                case measure => simp [intOf]; omega
              | false =>
                have hf : r = false := by rw [← HR.out]; exact HBAD.out (by rintro ⟨_, _, h⟩; rw [h5] at h; exact absurd (h (by omega)) (by decide))
                subst hf
                clear h1 h4 hz
                go_wp2_with fail
                refine (name_is _ true H1.out _).mono ?_
                rintro e w' ⟨rfl, rfl⟩
                go_wp2_with fail
                refine (value_is _ true H4.out _ (HTW.out.below (B := wr.heap.size) (by omega) ((Below.refl _ _).alloc (Nat.le_refl _) _))).mono ?_
                rintro e w2 ⟨rfl, hb2⟩
                have q1 : w2.cell? ⟨wr.heap.size, 0, none⟩ = some (.string x) := by
                  rw [hb2.cell (p := ⟨wr.heap.size, 0, none⟩) (by simp), World.cell?_alloc_at _ _ _ _ rfl]; rfl
                have HB2 := Lib.hid ((HB.out.alloc hsz (.cells #[.string x, .string y] 61)).trans (hb2.mono (by simp; omega)))
                have q2 : w2.cell? ⟨b0, off + (k - 1) * 2, none⟩ = some (.string z) := (HB2.out.cell (p := ⟨b0, off + (k - 1) * 2, none⟩) hb0).trans hz'
                clear hb2
                go_wp2_with fail
                go_quiet (fail)
                go_wp2
                go_ret
                exact ⟨rfl, bel_drawn HB2.out _⟩
    · have hf : r = true := by
        rw [← HR.out, right_all (by rw [HN.out, show n = k by omega]; exact HC.out), HN.out]
        simp; omega
      subst hf
      have d : decide (k < n) = false := by simpa using hlt
      go_wp2
      go_ret
      exact ⟨rfl, HB.out⟩
end Go.Proofs.YtencpjhpedenbaaGreatDoor

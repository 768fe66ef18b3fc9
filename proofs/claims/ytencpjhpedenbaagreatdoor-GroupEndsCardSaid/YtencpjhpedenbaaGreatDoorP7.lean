import Derived.Test.YtencpjhpedenbaaGreatDoorP5
namespace Go.Proofs.YtencpjhpedenbaaGreatDoor
open Go.RowKit Lb
set_option linter.unusedVariables false

theorem refname_q (s : ByteArray) (hs : s.size ≤ 65536) (r : Bool) (h : nameB s = r) (w : World) : Calls Tryz.prog 31 #[.string s] w fun e w' => e = .returned (.bool r) ∧ w' = w := by
  subst h; exact (refname_any s hs w).mono fun e w' ⟨h1, h2⟩ => ⟨h1, h2.symm⟩
theorem refvalue_q (s : ByteArray) (r : Bool) (h : valB s = r) (w : World) : Calls Tryz.prog 32 #[.string s] w fun e w' => e = .returned (.bool r) ∧ w' = w := by
  subst h; exact (refvalue_any s w).mono fun e w' ⟨h1, h2⟩ => ⟨h1, h2.symm⟩

theorem drew_next {w wr : World} (h : ∃ q, wr = w.drewN q) (n : Nat) : ∃ q, wr.drewN n = w.drewN q := by
  obtain ⟨q, rfl⟩ := h
  rw [World.drewN_drewN]; exact ⟨_, rfl⟩
set_option maxRecDepth 100000 in
set_option maxHeartbeats 4000000 in
theorem refright_any (A : Option Addr) (cap : Nat) (l : List Lab) (w : World) (hL : Lbs w A l) (hs : ∀ i, i < l.length → (l.getD i e0).1.size ≤ 65536) (hl : l.length ≤ 65536) :
    Calls Tryz.prog 16 #[.slice A l.length cap] w fun e w' => e = .returned (.bool (rightB l)) ∧ ∃ q, w' = w.drewN q := by
  generalize hr : rightB l = r
  have HR := Lib.hid hr
  have HL := Lib.hid hL
  have HS0 := Lib.hid hs
  clear hr hL hs
  generalize hn : l.length = n at *
  have HN := Lib.hid hn
  clear hn
  go_enter Tryz.func16, Tryz.ntmps16
  go_wp2
  go_loopw [3] (fun i wr => ∃ k : Nat, k ≤ n ∧ i = .int .i64 k ∧ Hid (RightTo l k) ∧ Hid (Below w.heap.size w wr) ∧ Hid (∃ q, wr = w.drewN q)) (fun i _ => n - (intOf i).toNat)
  case atStart => exact ⟨0, Nat.zero_le _, rfl, right_zero l, Below.refl _ _, ⟨0, rfl⟩⟩
  case round =>
    obtain ⟨k, hk, rfl, HC, HB, HD⟩ := hrel
    by_cases hlt : k < n
    · have hkl : k < l.length := by rw [HN.out]; exact hlt
      have hxs := HS0.out k hlt
      obtain ⟨b0, off, rfl, hb0, hc⟩ := HL.out (by omega)
      have hx : wr.cell? ⟨b0, off + k * 2, none⟩ = some (.string (l.getD k e0).1) := (HB.out.cell (p := ⟨b0, off + k * 2, none⟩) hb0).trans (hc k hkl).1
      have hy : wr.cell? ⟨b0, off + k * 2 + 1, none⟩ = some (.string (l.getD k e0).2) := (HB.out.cell (p := ⟨b0, off + k * 2 + 1, none⟩) hb0).trans (hc k hkl).2
      have HBAD := Lib.hid (@right_bad l k hkl)
      have HGO := Lib.hid (@right_succ l k HC.out)
      have hat : rightAt l k = (((nameB (l.getD k e0).1 && valB (l.getD k e0).2) = true) ∧ ((!(l.getD k e0).2.toList.isEmpty) = true) ∧ (0 < k → Op.bytesLess (l.getD (k - 1) e0).1.toList (l.getD k e0).1.toList = true)) := rfl
      rw [hat] at HBAD HGO
      have hz : 0 < k → wr.cell? ⟨b0, off + (k - 1) * 2, none⟩ = some (.string (l.getD (k - 1) e0).1) := fun _ => (HB.out.cell (p := ⟨b0, off + (k - 1) * 2, none⟩) hb0).trans (hc (k - 1) (by omega)).1
      clear hc hat
      generalize (l.getD k e0).1 = x at *
      generalize (l.getD k e0).2 = y at *
      generalize (l.getD (k - 1) e0).1 = z at *
      cases h1 : nameB x with
      | false =>
        have hf : r = false := by rw [← HR.out]; exact HBAD.out (by rw [h1]; rintro ⟨h, _⟩; simp at h)
        subst hf
        have H1 := Lib.hid h1
        clear h1
        go_wp2_with fail
        go_quiet ((go_at_call 31; exact Calls.quiet_of_same (refname_q _ hxs false H1.out _)))
        go_wp2
        go_ret
        exact ⟨rfl, drew_next HD.out _⟩
      | true =>
        have H1 := Lib.hid h1
        cases h4 : valB y with
        | false =>
          have hf : r = false := by rw [← HR.out]; exact HBAD.out (by rw [h4]; rintro ⟨h, _⟩; simp at h)
          subst hf
          have H4 := Lib.hid h4
          clear h1 h4
          go_wp2_with fail
          go_quiet (first | (go_at_call 31; exact Calls.quiet_of_same (refname_q _ hxs true H1.out _)) | (go_at_call 32; exact Calls.quiet_of_same (refvalue_q _ false H4.out _)))
          go_wp2
          go_ret
          exact ⟨rfl, drew_next HD.out _⟩
        | true =>
          have H4 := Lib.hid h4
          cases h2 : y.toList.isEmpty with
          | true =>
            have hf : r = false := by rw [← HR.out]; exact HBAD.out (by rw [h2]; rintro ⟨_, h, _⟩; simp at h)
            subst hf
            clear h1 h4
            go_wp2_with fail
            go_quiet (first | (go_at_call 31; exact Calls.quiet_of_same (refname_q _ hxs true H1.out _)) | (go_at_call 32; exact Calls.quiet_of_same (refvalue_q _ true H4.out _)))
            go_wp2
            go_ret
            exact ⟨rfl, drew_next HD.out _⟩
          | false =>
            by_cases hk0 : k = 0
            · have HS : Hid (RightTo l (k + 1)) := HGO.out ⟨by rw [h1, h4]; rfl, by rw [h2]; rfl, fun h => absurd h (by omega)⟩
              have dk : decide (0 < k) = false := by simp; omega
              clear h1 h4 hk0 hz
              go_wp2_with fail
              go_quiet (first | (go_at_call 31; exact Calls.quiet_of_same (refname_q _ hxs true H1.out _)) | (go_at_call 32; exact Calls.quiet_of_same (refvalue_q _ true H4.out _)))
              go_wp2
              go_roundw
              case rel => exact ⟨k + 1, by omega, by go_num, HS, bel_drawn HB.out _, drew_next HD.out _⟩
              case measure => simp [intOf]; omega
            · have dk : decide (0 < k) = true := by simp; omega
              have dk' : (0 : Int) < (k : Int) := by omega
              have hz' := hz (by omega)
              clear hz
              cases h5 : Op.bytesLess z.toList x.toList with
              | true =>
                have HS : Hid (RightTo l (k + 1)) := HGO.out ⟨by rw [h1, h4]; rfl, by rw [h2]; rfl, fun h => h5⟩
                have h6 : Op.bytesLess x.toList z.toList = false := by
                  cases hq : Op.bytesLess x.toList z.toList with
                  | false => rfl
                  | true => exact absurd (less_trans _ _ _ hq h5) (by rw [less_irrefl]; decide)
                have h7 : (x.toList == z.toList) = false := by
                  cases hq : (x.toList == z.toList) with
                  | false => rfl
                  | true => rw [eq_of_beq hq, less_irrefl] at h5; cases h5
                clear h1 h4
                go_wp2_with fail
                go_quiet (first | (go_at_call 31; exact Calls.quiet_of_same (refname_q _ hxs true H1.out _)) | (go_at_call 32; exact Calls.quiet_of_same (refvalue_q _ true H4.out _)))
                go_wp2
                go_roundw
                case rel => exact ⟨k + 1, by omega, by go_num, HS, bel_drawn HB.out _, drew_next HD.out _⟩
                case measure => simp [intOf]; omega
              | false =>
                have hf : r = false := by rw [← HR.out]; exact HBAD.out (by rintro ⟨_, _, h⟩; rw [h5] at h; exact absurd (h (by omega)) (by decide))
                subst hf
                clear h1 h4
                cases h6 : Op.bytesLess x.toList z.toList with
                | true =>
                  go_wp2_with fail
                  go_quiet (first | (go_at_call 31; exact Calls.quiet_of_same (refname_q _ hxs true H1.out _)) | (go_at_call 32; exact Calls.quiet_of_same (refvalue_q _ true H4.out _)))
                  go_wp2
                  go_ret
                  exact ⟨rfl, drew_next HD.out _⟩
                | false =>
                  have h7 : (x.toList == z.toList) = true := by rw [less_tri _ _ h6 h5]; simp
                  go_wp2_with fail
                  go_quiet (first | (go_at_call 31; exact Calls.quiet_of_same (refname_q _ hxs true H1.out _)) | (go_at_call 32; exact Calls.quiet_of_same (refvalue_q _ true H4.out _)))
                  go_wp2
                  go_ret
                  exact ⟨rfl, drew_next HD.out _⟩
    · have hf : r = decide (n ≤ 16) := by
        rw [← HR.out, right_all (by rw [HN.out, show n = k by omega]; exact HC.out), HN.out]
      subst hf
      have d : decide (k < n) = false := by simpa using hlt
      go_wp2
      go_ret
      exact ⟨by simp; omega, HD.out⟩
end Go.Proofs.YtencpjhpedenbaaGreatDoor

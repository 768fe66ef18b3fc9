import Derived.Test.YtmnhoafhoaklcaaW8
namespace Go.Proofs.Ytmnhoafhoaklcaa
open Go.RowKit Pk
set_option linter.unusedVariables false

/-- what lies within, of the first k -/
def winTo (l : List Pt) (t b : Int) (k : Nat) : List Pt := (l.take k).filter (inW t b)
theorem winTo_le (l : List Pt) (t b : Int) (k : Nat) : (winTo l t b k).length ≤ k :=
  Nat.le_trans (List.length_filter_le _ _) (List.length_take_le _ _)
theorem winTo_next (l : List Pt) (t b : Int) (k : Nat) (h : k < l.length) : winTo l t b (k + 1) = winTo l t b k ++ (if inW t b (l.getD k d0) = true then [l.getD k d0] else []) := by
  unfold winTo
  rw [List.take_succ_eq_append_getElem h, List.filter_append]
  have e : l.getD k d0 = l[k] := by simp [h]
  rw [e]
  congr 1
  by_cases hf : inW t b l[k] = true <;> simp [hf]
theorem winTo_all {l : List Pt} {t b : Int} (hm : mayB l t b = true) : winTo l t b l.length = win l t b := by unfold winTo win; rw [List.take_length, if_pos hm]
theorem winTo_out {l : List Pt} {t b : Int} {k : Nat} (h : k < l.length) (hs : ¬ (l.getD k d0).1 ≤ t ∨ ¬ t - b < (l.getD k d0).1 ∨ ((l.getD k d0).2 == stale) = true) : winTo l t b (k + 1) = winTo l t b k := by
  rw [winTo_next l t b k h, if_neg, List.append_nil]
  intro h2
  simp only [inW, Bool.and_eq_true, decide_eq_true_eq, Bool.not_eq_true'] at h2
  rcases hs with hs | hs | hs
  · omega
  · omega
  · rw [hs] at h2; simp at h2
theorem winTo_in {l : List Pt} {t b : Int} {k : Nat} (h : k < l.length) (h1 : (l.getD k d0).1 ≤ t) (h2 : t - b < (l.getD k d0).1) (hs : ((l.getD k d0).2 == stale) = false) : winTo l t b (k + 1) = winTo l t b k ++ [((l.getD k d0).1, (l.getD k d0).2)] := by
  rw [winTo_next l t b k h, if_pos]
  simp only [inW, hs]
  rw [decide_eq_true h1, decide_eq_true h2]
  rfl

theorem bel_drawn {B : Nat} {w wr : World} (h : Below B w wr) (n : Nat) : Below B w (wr.drewN n) := ⟨h.os, h.tape, h.output, h.size, h.block⟩

set_option maxHeartbeats 2000000 in
theorem refWindow_any (A : Option Addr) (cap : Nat) (l : List Pt) (t b : Int) (w : World) (hp : Pts w A l) (hl : l.length ≤ 65536) :
    Calls Try.prog 11 #[.slice A l.length cap, .int .i64 t, .int .i64 b] w fun e w' => ∃ A' c, e = .returned (.slice A' (win l t b).length c) ∧ Own w' A' c (win l t b) ∧ Below w.heap.size w w' := by
  cases hm : mayB l t b with
  | false =>
    have hw : win l t b = [] := by simp [win, hm]
    rw [hw]
    have h1 := may_is A cap l t b false hm w hp hl
    have H1 := Lib.hid h1
    generalize hn : l.length = n at *
    have h0 : 0 < n ∨ n = 0 := by omega
    clear hp h1 hm hn hw
    rcases h0 with h0 | h0
    · go_enter Try.func11, Try.ntmps11
      go_wp2
      refine wp_loop_rounds 1 ?_
      rw [rounds_succ]
      go_wp2_with fail
      refine (H1.out).mono ?_
      rintro e w1 ⟨rfl, q, rfl⟩
      go_wp2
      go_ret
      exact ⟨none, 0, rfl, ⟨fun h => by simp at h, fun _ => rfl⟩, bel_drawn (Below.refl _ _) _⟩
    · subst h0
      clear H1
      go_enter Try.func11, Try.ntmps11
      go_wp2
      refine wp_loop_rounds 1 ?_
      rw [rounds_succ]
      go_wp2
      go_ret
      exact ⟨none, 0, rfl, ⟨fun h => by simp at h, fun _ => rfl⟩, Below.refl _ _⟩
  | true =>
    obtain ⟨hg, ht, hb⟩ := (mayB_iff l t b).1 hm
    simp only [far_eq] at ht hb
    obtain ⟨i0, hi0, hz0, hz1, hz2⟩ := info_parts pt_info
    have hall := winTo_all hm
    have h1 : ∀ wr, Below w.heap.size w wr → Calls Try.prog 12 #[.slice A l.length cap, .int .i64 t, .int .i64 b] wr fun e w' => e = .returned (.bool true) ∧ ∃ n, w' = wr.drewN n := fun wr hb => may_is A cap l t b true hm _ (hp.below hb) hl
    have H1 := Lib.hid h1
    have HP := Lib.hid hp
    have HA := Lib.hid hall
    clear hp h1 hm hg hall
    generalize win l t b = lw at *
    generalize hn : l.length = n at *
    have HL := Lib.hid hn
    clear hn
    go_enter Try.func11, Try.ntmps11
    go_wp2
    go_loopw [7, 8] (fun v i wr => ∃ k : Nat, k ≤ n ∧ i = .int .i64 k ∧ Hid (wr.ownsRow w.heap.size 31 2 v (winTo l t b k).length (flat (winTo l t b k))) ∧ Hid (Below w.heap.size w wr)) (fun _ i _ => n - (intOf i).toNat)
    case atStart => exact ⟨0, Nat.zero_le _, rfl, World.ownsRow_nil _ _ _ _, Below.refl _ _⟩
    case round =>
      obtain ⟨k, hk, rfl, HO, HB⟩ := hrel
      by_cases hlt : k < n
      · have hkl : k < l.length := by rw [HL.out]; exact hlt
        obtain ⟨b0, off, rfl, hb0, hc⟩ := HP.out (by omega)
        have hc1 : wr.cell? ⟨b0, off + k * 2, none⟩ = some (.int .i64 (l.getD k d0).1) := (HB.out.cell (p := ⟨b0, off + k * 2, none⟩) hb0).trans (hc k hkl).1
        have hc2 : wr.cell? ⟨b0, off + k * 2 + 1, none⟩ = some (.int .u64 (l.getD k d0).2) := (HB.out.cell (p := ⟨b0, off + k * 2 + 1, none⟩) hb0).trans (hc k hkl).2
        have hsz := HB.out.size
        have hkl2 := winTo_le l t b k
        have hin := @winTo_in l t b k hkl
        have hout := @winTo_out l t b k hkl
        have HIN := Lib.hid hin
        have HOUT := Lib.hid hout
        clear hc hin hout
        generalize (l.getD k d0).1 = x at *
        generalize (l.getD k d0).2 = y at *
        by_cases c1 : x ≤ t
        · by_cases c2 : t - b < x
          · have d2 : decide (t - b < x) = true := by simpa using c2
            cases c3 : (y == stale) with
            | true =>
              have c3' : (y != 9218868437227405314) = false := by
                have : (y == 9218868437227405314) = true := c3
                simp [bne, this]
              have HK := Lib.hid (HOUT.out (.inr (.inr c3)))
              clear c3 HIN HOUT
              go_wp2_with fail
              refine (H1.out _ HB.out).mono ?_
              rintro e w1 ⟨rfl, q, rfl⟩
              go_wp2
              go_roundw
              case rel => exact ⟨k + 1, by omega, by go_num, by rw [HK.out]; exact HO.out, bel_drawn HB.out _⟩
              case measure => simp [intOf]; omega
            | false =>
              have c3' : (y != 9218868437227405314) = true := by
                have : (y == 9218868437227405314) = false := c3
                simp [bne, this]
              have HK := Lib.hid (HIN.out c1 c2 c3)
              clear c3 HIN HOUT
              go_wp2_with fail
              refine (H1.out _ HB.out).mono ?_
              rintro e w1 ⟨rfl, q, rfl⟩
              have HO' : Hid ((wr.drewN q).ownsRow w.heap.size 31 2 _ (winTo l t b k).length (flat (winTo l t b k))) := HO
              go_wp2_with (at_builtin; refine wpList_append_own _ rfl _ _ 22 rfl w.heap.size 31 i0 _ 2 16 Try.underlying22 hi0 hz0 hz1 hz2 rfl (by decide) _ _ _ rfl (HO'.out.alloc _) _ 1 1 [.int .i64 x, .int .u64 y] rfl rfl ?c1 ?c2 ?c3 ?c4 ?c5 ?_)
              case c1 => exact pair_at _ x y _ (by simp) _
              case c2 => intro u hu; simp at hu; rcases hu with rfl | rfl <;> rfl
              case c3 => unfold maxLen; omega
              case c4 => omega
              case c5 => simp; omega
              intro v' w2 hown2 hgr2 _
              have HO2 := Lib.hid hown2
              have HG2 := Lib.hid hgr2
              clear hown2 hgr2
              go_wp2
              go_roundw
              case rel =>
                refine ⟨k + 1, by omega, by go_num, ?_, ?_⟩
                · rw [HK.out, flat_append, List.length_append]; exact HO2.out
                · exact ((bel_drawn HB.out q).alloc hsz _).grown HG2.out (by simp; omega) (fun g hg => (HO.out.lt g hg).1)
              case measure => simp [intOf]; omega
          · have d2 : decide (t - b < x) = false := by simpa using c2
            have HK := Lib.hid (HOUT.out (.inr (.inl c2)))
            clear HIN HOUT
            go_wp2_with fail
            refine (H1.out _ HB.out).mono ?_
            rintro e w1 ⟨rfl, q, rfl⟩
            go_wp2
            go_roundw
            case rel => exact ⟨k + 1, by omega, by go_num, by rw [HK.out]; exact HO.out, bel_drawn HB.out _⟩
            case measure => simp [intOf]; omega
        · have d1 : decide (x ≤ t) = false := by simpa using c1
          have HK := Lib.hid (HOUT.out (.inl c1))
          clear HIN HOUT
          go_wp2_with fail
          refine (H1.out _ HB.out).mono ?_
          rintro e w1 ⟨rfl, q, rfl⟩
          go_wp2
          go_roundw
          case rel => exact ⟨k + 1, by omega, by go_num, by rw [HK.out]; exact HO.out, bel_drawn HB.out _⟩
          case measure => simp [intOf]; omega
      · have hk2 : winTo l t b k = lw := by rw [← HA.out, show n = k by omega]
        obtain ⟨A', c, hv, hpts⟩ := own_pts HO.out
        rw [hk2] at hv hpts
        subst hv
        have HPT := Lib.hid hpts
        clear hpts hk2
        go_wp2
        go_ret
        exact ⟨_, _, rfl, HPT.out, HB.out⟩

set_option maxHeartbeats 2000000 in
/-- of the same points: the same -/
theorem points_same (A B : Option Addr) (ca cb : Nat) (l : List Pt) (w : World) (ha : Pts w A l) (hb : Pts w B l) (hl : l.length ≤ 65536) :
    Calls Try.prog 9 #[.slice A l.length ca, .slice B l.length cb] w fun e w' => e = .returned (.bool true) ∧ ∃ n, w' = w.drewN n := by
  have HA := Lib.hid ha
  have HB := Lib.hid hb
  clear ha hb
  generalize hn : l.length = n at *
  have HL := Lib.hid hn
  clear hn
  have hne : ((n : Int) != (n : Int)) = false := by simp
  go_enter Try.func9, Try.ntmps9
  go_wp2
  go_loopw [5] (fun i wr => ∃ k m : Nat, k ≤ n ∧ i = .int .i64 k ∧ wr = w.drewN m) (fun i _ => n - (intOf i).toNat)
  case atStart => exact ⟨0, 0, Nat.zero_le _, rfl, rfl⟩
  case round =>
    obtain ⟨k, m, hk, rfl, rfl⟩ := hrel
    by_cases hlt : k < n
    · have hkl : k < l.length := by rw [HL.out]; exact hlt
      obtain ⟨b0, off, rfl, hb0, hc⟩ := HA.out (by omega)
      obtain ⟨b1, off1, rfl, hb1, hc'⟩ := HB.out (by omega)
      have hc1 := (hc k hkl).1
      have hc2 := (hc k hkl).2
      have hc3 := (hc' k hkl).1
      have hc4 := (hc' k hkl).2
      clear hc hc'
      generalize (l.getD k d0).1 = x at *
      generalize (l.getD k d0).2 = y at *
      go_wp2
      go_quiet (fail)
      go_wp2
      go_roundw
      case rel => exact ⟨k + 1, _, by omega, by go_num, rfl⟩
      case measure => simp [intOf]; omega
    · go_wp2
      go_ret
      exact ⟨rfl, _, rfl⟩
end Go.Proofs.Ytmnhoafhoaklcaa

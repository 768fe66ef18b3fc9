/- CheckKids: the law's walk. Conditions: the tables as they are laid; the tree lies in memory. -/
import Derived.Test.YtmodehfedhgcbaaGreatDoorN24j
import Derived.Test.YtmodehfedhgcbaaGreatDoorN27j
namespace Go.Proofs.YtmodehfedhgcbaaGreatDoor.Ck
open Go.RowKit
set_option linter.unusedVariables false
set_option linter.unusedSimpArgs false

set_option maxRecDepth 100000 in
theorem ok_plus (A : Option Addr) (c : Nat) : okHd (plusH A c) 2 = true := by kernel_rfl
theorem plus_right (A : Option Addr) (c : Nat) (t : Tr) (h : rightF okHd t = true) (hn : nestF t ≤ 60) : rightF okHd (.mk (plusH A c) [t, t]) = true := by
  have hp := plus_nest A c t
  unfold rightF at h ⊢
  rw [Bool.and_eq_true, decide_eq_true_eq] at h ⊢
  refine ⟨by omega, ?_⟩
  rw [allF, allL, allL, allL, h.2]
  simp only [List.length_cons, List.length_nil, Bool.and_true]
  exact ok_plus A c
theorem typ_plus (A : Option Addr) (c : Nat) (t : Tr) (v : Int) (hr : rightF okHd t = true) (hv : ofF t = v) (hf : v ≠ 0) (hn : nestF t ≤ 60) :
    typV (.mk (plusH A c) [t, t]) = if v ≤ 2 then .tuple #[.int .i64 v, .nilIface] else .tuple #[.int .i64 0, .iface 41 (.int .i64 7)] := by
  unfold typV
  rw [if_pos (plus_right A c t hr hn), plus_of A c t (by rw [hv]; exact hf), hv]
  by_cases h2 : v ≤ 2
  · rw [if_pos h2, if_neg hf, if_pos h2]
  · rw [if_neg h2, if_pos rfl, if_neg h2]
theorem plus_lies (t : Tr) (W : World) (B : Nat) (hL : Lies W t) (hB : Blk W B 27 (cellsT t ++ cellsT t).toArray) : Lies W (.mk (plusH (some ⟨B, 0, none⟩) 2) [t, t]) := by
  rw [Lies]
  refine ⟨⟨by show (0 : Nat) < _; decide, by show (0 : Nat) ≤ _; decide, by show (0 : Nat) ≤ _; decide, fun h => by cases h⟩, by show (2 : Nat) ≤ _; decide, fun h => absurd h (Nat.not_lt_zero _), fun h => absurd h (Nat.not_lt_zero _), fun _ => ⟨B, 0, rfl, hB.lt, ?_⟩, ?_⟩
  · intro i hi j x hx
    rw [hB.cell, List.getElem?_toArray]
    have := flatE_at [t, t] i hi j x hx
    rw [flatE, flatE, flatE, List.append_nil] at this
    rw [Nat.zero_add]
    exact this
  · rw [LiesL, LiesL, LiesL]
    exact ⟨hL, hL, trivial⟩
section
variable {Q qo qc P off c F fo fc : Nat}
set_option maxRecDepth 100000 in
set_option maxHeartbeats 8000000 in
theorem kids_law (t : Tr) (w : World) (hT : Tabl Q qo qc P off c F fo fc w) (hE : Er.ErrT w) (hL : Lies w t) : Calls Tryz.prog 4 #[valT t] w fun e w' => e = .returned (.bool true) ∧ Below w.heap.size w w' := by
  obtain ⟨r, hr⟩ : ∃ r, shortF t = r := ⟨_, rfl⟩
  have h5 : ∀ W, Below w.heap.size w W → Calls Tryz.prog 5 #[] W fun e w' => e = .returned (.bool true) ∧ Below W.heap.size W w' := fun W hW => awake_any W (hT.below hW) (err_below hE hW)
  have h6 : ∀ W, Below w.heap.size w W → Calls Tryz.prog 6 #[valT t] W fun e w' => e = .returned (.bool r) ∧ Below W.heap.size W w' := fun W hW => by
    rw [← hr]; exact short_any _ t (Nat.le_refl _) W (hL.below hW)
  have h7 : r = true → ∀ W, Below w.heap.size w W → Calls Tryz.prog 7 #[valT t] W fun e w' => e = .returned (typV t) ∧ Below W.heap.size W w' := fun h1 W hW => by
    subst h1
    exact type_any t W (hT.below hW) (hL.below hW) (by have := (short_size hr).2; omega)
  have h10 : r = true → ∀ W, Below w.heap.size w W → Calls Tryz.prog 10 #[valT t] W fun e w' => e = .returned (.int .i64 (nestF t : Nat)) ∧ Below W.heap.size W w' := fun h1 W hW => by
    subst h1
    exact dnest_any 300 t (short_size hr).2 (by decide) W (hL.below hW)
  have h7k : r = true → ∀ x, x ∈ t.ks → ∀ W, Below w.heap.size w W → Calls Tryz.prog 7 #[valT x] W fun e w' => e = .returned (typV x) ∧ Below W.heap.size W w' := fun h1 x hx W hW => by
    subst h1
    obtain ⟨h, ks⟩ := t
    have hl := hL
    rw [Lies] at hl
    have := szL_mem (show x ∈ ks from hx)
    have hz := (short_size hr).2
    rw [szF] at hz
    exact type_any x W (hT.below hW) ((LiesL.mem hl.2.2.2.2.2 hx).below hW) (by omega)
  have h7p : r = true → ∀ W B, Below w.heap.size w W → Blk W B 27 (cellsT t ++ cellsT t).toArray → Calls Tryz.prog 7 #[valT (.mk (plusH (some ⟨B, 0, none⟩) 2) [t, t])] W fun e w' => e = .returned (typV (.mk (plusH (some ⟨B, 0, none⟩) 2) [t, t])) ∧ Below W.heap.size W w' := fun h1 W B hW hB => by
    subst h1
    refine type_any _ W (hT.below hW) (plus_lies t W B (hL.below hW) hB) ?_
    have := (short_size hr).2
    rw [szF, szL, szL, szL]
    show 1 + 0 + 0 + _ ≤ _
    omega
  obtain ⟨z, hz⟩ : ∃ z, nestF t = z := ⟨_, rfl⟩
  obtain ⟨v, hv⟩ : ∃ v, ofF t = v := ⟨_, rfl⟩
  have hpv : rightF okHd t = true → v ≠ 0 → z ≤ 60 → ∀ B, typV (.mk (plusH (some ⟨B, 0, none⟩) 2) [t, t]) = if v ≤ 2 then .tuple #[.int .i64 v, .nilIface] else .tuple #[.int .i64 0, .iface 41 (.int .i64 7)] := fun a1 a2 a3 B => typ_plus _ _ t v a1 hv a2 (by omega)
  have htv : typV t = if rightF okHd t = true then (if v = 0 then .tuple #[.int .i64 0, .iface 41 (.int .i64 7)] else .tuple #[.int .i64 v, .nilIface]) else .tuple #[.int .i64 0, .iface 41 (.int .i64 6)] := by unfold typV; rw [hv]
  have hkv : rightF okHd t = true → v ≠ 0 → ∀ x, x ∈ t.ks → ∃ y, y ≠ 0 ∧ typV x = .tuple #[.int .i64 y, .nilIface] := fun a1 a2 x hx => by
    obtain ⟨h, ks⟩ := t
    have k1 := kid_right okR a1 (show x ∈ ks from hx)
    have k2 := kid_fits okR a1 (by rw [hv]; exact a2) (show x ∈ ks from hx)
    exact ⟨ofF x, k2, by unfold typV; rw [if_pos k1, if_neg k2]⟩
  rw [hz] at h10
  have hb1 : Below w.heap.size w (w.alloc (.cells (cellsT t).toArray 27)) := (Below.refl _ _).alloc (Nat.le_refl _) _
  have hk1 := Blk.new w 27 (cellsT t).toArray
  have hl1 := hL.below hb1
  have hi2 := of_in t
  rw [hv] at hi2
  obtain ⟨h, ks⟩ := t
  rw [Lies] at hl1
  have htr := hl1.2.2.2.2.1
  have hkl := hl1.2.1
  rw [valT_arr] at h6 h7 h10 ⊢
  have H5 := Lib.hid h5
  have H6 := Lib.hid h6
  have H7 := Lib.hid h7
  have H10 := Lib.hid h10
  have H7K := Lib.hid h7k
  have H7P := Lib.hid h7p
  have HPV := Lib.hid hpv
  have HTV := Lib.hid htv
  have HKV := Lib.hid hkv
  have HTR := Lib.hid htr
  have HB1 := Lib.hid hb1
  have HK1 : Hid (Blk (w.alloc (.cells (arr h ks.length) 27)) w.heap.size 27 (arr h ks.length)) := hk1
  have HI2 := Lib.hid hi2
  clear h5 h6 h7 h10 h7k h7p hpv htv hkv htr hb1 hk1 hl1 hT hE hL hr hz hv hi2
  have HB1' : Hid (Below w.heap.size w (w.alloc (.cells (arr h ks.length) 27))) := HB1.out
  clear HB1
  unfold arr at *
  go_enter Tryz.func4, Tryz.ntmps4
  go_wp2_with fail
  refine (H5.out _ HB1'.out).mono ?_
  rintro e w2 ⟨rfl, hb2⟩
  have HK2 := Lib.hid (HK1.out.below hb2)
  have HB12 := Lib.hid hb2
  have HB2 := Lib.hid (HB1'.out.trans (hb2.mono HB1'.out.size))
  clear hb2 H5 HK1 HB1'
  obtain ⟨c0, c1, c2, c3, c4, c5, c6, c7, c8, c9, c10, c11, c12⟩ := blk13 (h := h) (n := ks.length) HK2.out
  go_wp2_with fail
  refine (H6.out _ HB2.out).mono ?_
  rintro e w3 ⟨rfl, hb3⟩
  have HK3 := Lib.hid (HK2.out.below hb3)
  have HB13 := Lib.hid (HB12.out.trans (hb3.mono HB12.out.size))
  have HB3 := Lib.hid (HB2.out.trans (hb3.mono HB2.out.size))
  clear hb3 H6 HK2 HB2 HB12 c0 c1 c2 c3 c4 c5 c6 c7 c8 c9 c10 c11 c12
  cases r with
  | false =>
    go_wp2_with fail
    go_ret
    exact ⟨rfl, HB3.out⟩
  | true =>
    obtain ⟨c0, c1, c2, c3, c4, c5, c6, c7, c8, c9, c10, c11, c12⟩ := blk13 (h := h) (n := ks.length) HK3.out
    go_upto_region 5 with fail
    have hc7 := H7.out (by first | rfl | trivial) _ HB3.out
    rw [HTV.out] at hc7
    by_cases hbad : rightF okHd (.mk h ks) = true ∧ v ≠ 0
    · obtain ⟨hr, hv0⟩ := hbad
      rw [if_pos hr, if_neg hv0] at hc7
      have HC7 := Lib.hid hc7
      have HR := Lib.hid hr
      have HV0 := Lib.hid hv0
      clear hc7 hr hv0 H7 HTV
      unfold arr at HC7
      go_wp2_with fail
      refine (HC7.out).mono ?_
      rintro e w4 ⟨rfl, hb4⟩
      have HK4 := Lib.hid (HK3.out.below hb4)
      have HB14 := Lib.hid (HB13.out.trans (hb4.mono HB13.out.size))
      have HB4 := Lib.hid (HB3.out.trans (hb4.mono HB3.out.size))
      clear hb4 HC7 HK3 HB3 HB13 c0 c1 c2 c3 c4 c5 c6 c7 c8 c9 c10 c11 c12
      go_wp2_with fail
      go_loopg [5] ks.length (fun gq s5 wx => ∃ k : Nat, k ≤ ks.length ∧ ks.length ≤ gq + k ∧ s5 = .int .i64 (k : Int) ∧ Hid (Below w4.heap.size w4 wx))
      case atStart => exact ⟨0, Nat.zero_le _, Nat.le_refl _, rfl, Below.refl _ _⟩
      case round =>
        obtain ⟨k, hkn, hg, rfl, HBX⟩ := hrel
        have HKX := Lib.hid (HK4.out.below HBX.out)
        have HBF := Lib.hid (HB4.out.trans (HBX.out.mono HB4.out.size))
        by_cases hlt : k < ks.length
        · have c12 := HKX.out.cell 12
          simp at c12
          have hki : (k : Int) < (ks.length : Int) := by omega
          have hlx := HB14.out.trans (HBX.out.mono HB14.out.size)
          obtain ⟨b, off, hA, hb, hc⟩ := HTR.out (by omega)
          cases ht : ks.getD k t0 with
          | mk h2 ks2 =>
            have hix := fun W => index_kid h.ka ks.length h.kc k b off hA hlt W
            obtain ⟨d0, d1, d2, d3, d4, d5, d6, d7, d8, d9, d10, d11, d12⟩ := KC.below (Trs.kc hc hlt ht) hlx hb
            have hmem : Tr.mk h2 ks2 ∈ ks := by rw [← ht]; exact kid_mem2 hlt
            obtain ⟨y, hy, hty⟩ := HKV.out HR.out HV0.out _ hmem
            have hcl := H7K.out (by first | rfl | trivial) _ hmem wr HBF.out
            rw [hty, valT_arr] at hcl
            have HCL := Lib.hid hcl
            have hye : (y == 0) = false := by simp [hy]
            obtain ⟨g', rfl⟩ : ∃ g', gk = g' + 1 := ⟨gk - 1, by omega⟩
            clear hA hc ht hty hcl hlx hy
            unfold arr at HCL
            go_wp2_with fail
            refine (HCL.out).mono ?_
            rintro e w6 ⟨rfl, hb6⟩
            have HB6 := Lib.hid (HBX.out.trans (hb6.mono HBX.out.size))
            clear hb6 HCL d0 d1 d2 d3 d4 d5 d6 d7 d8 d9 d10 d11 d12 hix c12
            go_wp2_with fail
            go_roundg g'
            case measure => omega
            case rel => exact ⟨k + 1, by omega, by omega, by go_num, HB6⟩
        · obtain ⟨c0, c1, c2, c3, c4, c5, c6, c7, c8, c9, c10, c11, c12⟩ := blk13 (h := h) (n := ks.length) HKX.out
          have hki : ¬ (k : Int) < (ks.length : Int) := by omega
          have hc10 := H10.out (by first | rfl | trivial) _ HBF.out
          have HC10 := Lib.hid hc10
          clear hc10 H10
          unfold arr at HC10
          go_wp2_with fail
          refine (HC10.out).mono ?_
          rintro e w7 ⟨rfl, hb7⟩
          have HK7 := Lib.hid (HKX.out.below hb7)
          have HB7 := Lib.hid (HBF.out.trans (hb7.mono HBF.out.size))
          clear hb7 HC10 c0 c1 c2 c3 c4 c5 c6 c7 c8 c9 c10 c11 c12
          by_cases h60 : 60 < z
          · have h60i : (60 : Int) < (z : Int) := by omega
            clear h60
            go_wp2_with fail
            go_ret
            exact ⟨rfl, HB7.out⟩
          · have h60i : ¬ (60 : Int) < (z : Int) := by omega
            have hpv := HPV.out HR.out HV0.out (by omega)
            have HPV2 := Lib.hid hpv
            clear hpv h60 HPV
            obtain ⟨c0, c1, c2, c3, c4, c5, c6, c7, c8, c9, c10, c11, c12⟩ := blk13 (h := h) (n := ks.length) HK7.out
            have hb8 : Below w.heap.size w (w7.alloc (.cells (cellsT (.mk h ks) ++ cellsT (.mk h ks)).toArray 27)) := HB7.out.alloc HB7.out.size _
            have hc8 := H7P.out (by first | rfl | trivial) _ w7.heap.size hb8 (Blk.new w7 27 _)
            rw [HPV2.out] at hc8
            have HB8 := Lib.hid hb8
            clear hb8 HPV2 H7P H7K HKV HTR HK7 HB7 HBX HBF HK4 HKX
            by_cases hv2 : v ≤ 2
            · rw [if_pos hv2] at hc8
              have HC8 := Lib.hid hc8
              clear hc8
              go_wp2_with fail
              refine (HC8.out).mono ?_
              rintro e w9 ⟨rfl, hb9⟩
              have HB9 := Lib.hid (HB8.out.trans (hb9.mono HB8.out.size))
              clear hb9 HC8 HB8 c0 c1 c2 c3 c4 c5 c6 c7 c8 c9 c10 c11 c12
              go_wp2_with fail
              go_ret
              exact ⟨rfl, HB9.out⟩
            · rw [if_neg hv2] at hc8
              have HC8 := Lib.hid hc8
              have hvd : decide (v ≤ 2) = false := decide_eq_false hv2
              clear hc8 hv2
              go_wp2_with fail
              refine (HC8.out).mono ?_
              rintro e w9 ⟨rfl, hb9⟩
              have HB9 := Lib.hid (HB8.out.trans (hb9.mono HB8.out.size))
              clear hb9 HC8 HB8 c0 c1 c2 c3 c4 c5 c6 c7 c8 c9 c10 c11 c12
              go_wp2_with fail
              go_ret
              exact ⟨rfl, HB9.out⟩
    · have hx : ∃ q : Int, (if rightF okHd (.mk h ks) = true then (if v = 0 then Value.tuple #[.int .i64 0, .iface 41 (.int .i64 7)] else .tuple #[.int .i64 v, .nilIface]) else .tuple #[.int .i64 0, .iface 41 (.int .i64 6)]) = .tuple #[.int .i64 0, .iface 41 (.int .i64 q)] := by
        by_cases hr : rightF okHd (.mk h ks) = true
        · rw [if_pos hr]
          by_cases hv0 : v = 0
          · rw [if_pos hv0]; exact ⟨7, rfl⟩
          · exact absurd ⟨hr, hv0⟩ hbad
        · rw [if_neg hr]; exact ⟨6, rfl⟩
      obtain ⟨q, hq⟩ := hx
      rw [hq] at hc7
      have HC7 := Lib.hid hc7
      clear hc7 hbad hq H7 HTV
      unfold arr at HC7
      go_wp2_with fail
      refine (HC7.out).mono ?_
      rintro e w4 ⟨rfl, hb4⟩
      have HB4 := Lib.hid (HB3.out.trans (hb4.mono HB3.out.size))
      clear hb4 HC7 c0 c1 c2 c3 c4 c5 c6 c7 c8 c9 c10 c11 c12
      go_wp2_with fail
      go_ret
      exact ⟨rfl, HB4.out⟩
end
end Go.Proofs.YtmodehfedhgcbaaGreatDoor.Ck

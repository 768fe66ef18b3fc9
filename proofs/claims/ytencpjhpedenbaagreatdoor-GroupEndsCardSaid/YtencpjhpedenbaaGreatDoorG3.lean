/- chosen, min, max of a pile. No condition. -/
import Derived.Test.YtencpjhpedenbaaGreatDoorG2
namespace Go.Proofs.YtencpjhpedenbaaGreatDoor
open Go.RowKit Lb
set_option linter.unusedVariables false
set_option maxRecDepth 100000
set_option maxHeartbeats 2000000

def gtB (x y : Nat) : Bool := Ieee.double.order x y == some .gt
def ltB (x y : Nat) : Bool := Ieee.double.order x y == some .lt
def numB (x : Nat) : Bool := Ieee.double.order x x == some .eq
def stepF (B : Nat → Nat → Bool) (was x : Nat) : Nat := if (B x was || !numB was) = true then x else was
def bitsAt (S : List El) (k : Nat) : Nat := (S.getD k z0).2.toNat
/-- the chosen one of the first and k more -/
def chF (B : Nat → Nat → Bool) (S : List El) : Nat → Nat
  | 0 => bitsAt S 0
  | k + 1 => stepF B (chF B S k) (bitsAt S (k + 1))
theorem number_is (LA EA : Option Addr) (nl lc ec k n : Nat) (S : List El) (v : Nat) (hn : S.length = n) (hv : bitsAt S k = v) (w : World) (hE : Els w EA S) (hk : k < n) (hs : n ≤ 65536) :
    Calls Tryz.prog 33 #[.agg #[.slice LA nl lc, .slice EA n ec], .int .i64 k] w fun e w' => e = .returned (.float .f64 v) ∧ Below w.heap.size w w' := by
  subst hn; subst hv
  exact number_any LA EA nl lc ec k S w hE hk hs

theorem chosen_max (LA EA : Option Addr) (nl lc ec : Nat) (S : List El) (w : World) (hE : Els w EA S) (h0 : 0 < S.length) (hs : S.length ≤ 65536) :
    Calls Tryz.prog 34 #[.agg #[.slice LA nl lc, .slice EA S.length ec], .func (.func 36) #[] #[]] w fun e w' => e = .returned (.float .f64 (chF gtB S (S.length - 1))) ∧ Below w.heap.size w w' := by
  have HE := Lib.hid hE
  have CN := Lib.hid (fun W (hW : Below w.heap.size w W) k n v hn hv hk hs => number_is LA EA nl lc ec k n S v hn hv W (hE.below hW) hk hs)
  have HCH := Lib.hid (fun k => show chF gtB S (k + 1) = stepF gtB (chF gtB S k) (bitsAt S (k + 1)) from rfl)
  have HC0 := Lib.hid (show chF gtB S 0 = bitsAt S 0 from rfl)
  obtain ⟨r, hr⟩ : ∃ r, chF gtB S (S.length - 1) = r := ⟨_, rfl⟩
  have HR := Lib.hid hr
  rw [hr]
  clear hE hr
  generalize hn : S.length = n at *
  have HN := Lib.hid hn
  clear hn
  generalize chF gtB S = C at *
  obtain ⟨x0, hx0⟩ : ∃ x, bitsAt S 0 = x := ⟨_, rfl⟩
  rw [hx0] at HC0
  have HX0 := Lib.hid hx0
  clear hx0
  have hb0 := Lib.hid ((Below.refl w.heap.size w).alloc (Nat.le_refl _) (.cells #[.slice LA nl lc, .slice EA n ec] 50))
  have hk0 := Lib.hid (Blk.new w 50 #[.slice LA nl lc, .slice EA n ec])
  go_enter Tryz.func34, Tryz.ntmps34
  generalize hw0 : (w.alloc (.cells #[.slice LA nl lc, .slice EA n ec] 50)) = w0 at *
  have d0 := hk0.out.cell 0
  have d1 := hk0.out.cell 1
  simp only [List.getElem?_toArray, List.getElem?_cons_zero, List.getElem?_cons_succ] at d0 d1
  go_wp2_with fail
  refine (CN.out _ hb0.out 0 n x0 rfl HX0.out h0 hs).mono ?_
  rintro e w1 ⟨rfl, hb1⟩
  have HB1 := Lib.hid (hb0.out.trans (hb1.mono hb0.out.size))
  have HK1 := Lib.hid (hk0.out.below hb1)
  clear hb1 d0 d1 hb0 hk0
  go_wp2
  go_loopw [5, 6, 7] (fun a i x wr => ∃ k : Nat, k + 1 ≤ n ∧ i = .int .i64 (k + 1 : Nat) ∧ a = .float .f64 (C k) ∧ Hid (Blk wr w.heap.size 50 #[.slice LA nl lc, .slice EA n ec]) ∧ Hid (Below w.heap.size w wr)) (fun _ i _ _ => n - (intOf i).toNat)
  case atStart => exact ⟨0, h0, rfl, by rw [HC0.out], HK1, HB1⟩
  case round =>
    obtain ⟨k, hk, rfl, rfl, HK, HB⟩ := hrel
    have d0 := HK.out.cell 0
    have d1 := HK.out.cell 1
    simp only [List.getElem?_toArray, List.getElem?_cons_zero, List.getElem?_cons_succ] at d0 d1
    by_cases hlt : k + 1 < n
    · obtain ⟨x, hx⟩ : ∃ x, bitsAt S (k + 1) = x := ⟨_, rfl⟩
      have HS := HCH.out k
      rw [hx] at HS
      have HSS := Lib.hid HS
      have HX := Lib.hid hx
      clear HS hx
      have d : decide (k + 1 < n) = true := by simpa using hlt
      go_wp2_with fail
      refine (CN.out _ HB.out (k + 1) n x rfl HX.out hlt hs).mono ?_
      rintro e w2 ⟨rfl, hb2⟩
      have HB2 := Lib.hid (HB.out.trans (hb2.mono HB.out.size))
      have HK2 := Lib.hid (HK.out.below hb2)
      clear hb2 d0 d1
      generalize hwas : C k = was at *
      cases h1 : gtB x was with
      | true =>
        have hw : C (k + 1) = x := by rw [HSS.out]; unfold stepF; rw [h1]; rfl
        have HW := Lib.hid hw
        clear hw
        go_wp2_with fail
        refine (more_any x was true h1 _).mono ?_
        rintro e w3 ⟨rfl, rfl⟩
        clear h1 hwas
        go_wp2
        go_roundw
        case rel => exact ⟨k + 1, by omega, by go_num, by rw [HW.out], HK2, HB2⟩
        case measure => simp [intOf]; omega
      | false =>
        cases h2 : numB was with
        | true =>
          have hw : C (k + 1) = was := by rw [HSS.out]; unfold stepF; rw [h1, h2]; rfl
          have HW := Lib.hid hw
          have h2' : (FloatKind.f64.format.order was was == some .eq) = true := h2
          have h3' : (FloatKind.f64.format.order was was != some .eq) = false := by rw [bne, h2']; rfl
          clear hw
          go_wp2_with fail
          refine (more_any x was false h1 _).mono ?_
          rintro e w3 ⟨rfl, rfl⟩
          clear h1 h2 hwas
          go_wp2
          go_roundw
          case rel => exact ⟨k + 1, by omega, by go_num, by rw [HW.out], HK2, HB2⟩
          case measure => simp [intOf]; omega
        | false =>
          have hw : C (k + 1) = x := by rw [HSS.out]; unfold stepF; rw [h1, h2]; rfl
          have HW := Lib.hid hw
          have h2' : (FloatKind.f64.format.order was was == some .eq) = false := h2
          have h3' : (FloatKind.f64.format.order was was != some .eq) = true := by rw [bne, h2']; rfl
          clear hw
          go_wp2_with fail
          refine (more_any x was false h1 _).mono ?_
          rintro e w3 ⟨rfl, rfl⟩
          clear h1 h2 hwas
          go_wp2
          go_roundw
          case rel => exact ⟨k + 1, by omega, by go_num, by rw [HW.out], HK2, HB2⟩
          case measure => simp [intOf]; omega
    · have d : decide (k + 1 < n) = false := by simpa using hlt
      obtain rfl : C k = r := by rw [← HR.out, show n - 1 = k by omega]
      go_wp2
      go_ret
      exact ⟨rfl, HB.out⟩
theorem max_any (LA EA : Option Addr) (nl lc ec : Nat) (S : List El) (w : World) (hE : Els w EA S) (h0 : 0 < S.length) (hs : S.length ≤ 65536) :
    Calls Tryz.prog 22 #[.agg #[.slice LA nl lc, .slice EA S.length ec]] w fun e w' => e = .returned (.float .f64 (chF gtB S (S.length - 1))) ∧ Below w.heap.size w w' := by
  have hb0 := (Below.refl w.heap.size w).alloc (Nat.le_refl _) (.cells #[.slice LA nl lc, .slice EA S.length ec] 50)
  have H := Lib.hid (chosen_max LA EA nl lc ec S _ (hE.below hb0) h0 hs)
  clear hE
  generalize S.length = n at *
  generalize chF gtB S (n - 1) = r at *
  have HB := Lib.hid hb0
  clear hb0
  go_enter Tryz.func22, Tryz.ntmps22
  go_wp2_with fail
  refine (H.out).mono ?_
  rintro e w1 ⟨rfl, hb⟩
  go_wp2
  go_ret
  exact ⟨rfl, HB.out.trans (hb.mono HB.out.size)⟩

theorem chosen_min (LA EA : Option Addr) (nl lc ec : Nat) (S : List El) (w : World) (hE : Els w EA S) (h0 : 0 < S.length) (hs : S.length ≤ 65536) :
    Calls Tryz.prog 34 #[.agg #[.slice LA nl lc, .slice EA S.length ec], .func (.func 35) #[] #[]] w fun e w' => e = .returned (.float .f64 (chF ltB S (S.length - 1))) ∧ Below w.heap.size w w' := by
  have HE := Lib.hid hE
  have CN := Lib.hid (fun W (hW : Below w.heap.size w W) k n v hn hv hk hs => number_is LA EA nl lc ec k n S v hn hv W (hE.below hW) hk hs)
  have HCH := Lib.hid (fun k => show chF ltB S (k + 1) = stepF ltB (chF ltB S k) (bitsAt S (k + 1)) from rfl)
  have HC0 := Lib.hid (show chF ltB S 0 = bitsAt S 0 from rfl)
  obtain ⟨r, hr⟩ : ∃ r, chF ltB S (S.length - 1) = r := ⟨_, rfl⟩
  have HR := Lib.hid hr
  rw [hr]
  clear hE hr
  generalize hn : S.length = n at *
  have HN := Lib.hid hn
  clear hn
  generalize chF ltB S = C at *
  obtain ⟨x0, hx0⟩ : ∃ x, bitsAt S 0 = x := ⟨_, rfl⟩
  rw [hx0] at HC0
  have HX0 := Lib.hid hx0
  clear hx0
  have hb0 := Lib.hid ((Below.refl w.heap.size w).alloc (Nat.le_refl _) (.cells #[.slice LA nl lc, .slice EA n ec] 50))
  have hk0 := Lib.hid (Blk.new w 50 #[.slice LA nl lc, .slice EA n ec])
  go_enter Tryz.func34, Tryz.ntmps34
  generalize hw0 : (w.alloc (.cells #[.slice LA nl lc, .slice EA n ec] 50)) = w0 at *
  have d0 := hk0.out.cell 0
  have d1 := hk0.out.cell 1
  simp only [List.getElem?_toArray, List.getElem?_cons_zero, List.getElem?_cons_succ] at d0 d1
  go_wp2_with fail
  refine (CN.out _ hb0.out 0 n x0 rfl HX0.out h0 hs).mono ?_
  rintro e w1 ⟨rfl, hb1⟩
  have HB1 := Lib.hid (hb0.out.trans (hb1.mono hb0.out.size))
  have HK1 := Lib.hid (hk0.out.below hb1)
  clear hb1 d0 d1 hb0 hk0
  go_wp2
  go_loopw [5, 6, 7] (fun a i x wr => ∃ k : Nat, k + 1 ≤ n ∧ i = .int .i64 (k + 1 : Nat) ∧ a = .float .f64 (C k) ∧ Hid (Blk wr w.heap.size 50 #[.slice LA nl lc, .slice EA n ec]) ∧ Hid (Below w.heap.size w wr)) (fun _ i _ _ => n - (intOf i).toNat)
  case atStart => exact ⟨0, h0, rfl, by rw [HC0.out], HK1, HB1⟩
  case round =>
    obtain ⟨k, hk, rfl, rfl, HK, HB⟩ := hrel
    have d0 := HK.out.cell 0
    have d1 := HK.out.cell 1
    simp only [List.getElem?_toArray, List.getElem?_cons_zero, List.getElem?_cons_succ] at d0 d1
    by_cases hlt : k + 1 < n
    · obtain ⟨x, hx⟩ : ∃ x, bitsAt S (k + 1) = x := ⟨_, rfl⟩
      have HS := HCH.out k
      rw [hx] at HS
      have HSS := Lib.hid HS
      have HX := Lib.hid hx
      clear HS hx
      have d : decide (k + 1 < n) = true := by simpa using hlt
      go_wp2_with fail
      refine (CN.out _ HB.out (k + 1) n x rfl HX.out hlt hs).mono ?_
      rintro e w2 ⟨rfl, hb2⟩
      have HB2 := Lib.hid (HB.out.trans (hb2.mono HB.out.size))
      have HK2 := Lib.hid (HK.out.below hb2)
      clear hb2 d0 d1
      generalize hwas : C k = was at *
      cases h1 : ltB x was with
      | true =>
        have hw : C (k + 1) = x := by rw [HSS.out]; unfold stepF; rw [h1]; rfl
        have HW := Lib.hid hw
        clear hw
        go_wp2_with fail
        refine (fewer_any x was true h1 _).mono ?_
        rintro e w3 ⟨rfl, rfl⟩
        clear h1 hwas
        go_wp2
        go_roundw
        case rel => exact ⟨k + 1, by omega, by go_num, by rw [HW.out], HK2, HB2⟩
        case measure => simp [intOf]; omega
      | false =>
        cases h2 : numB was with
        | true =>
          have hw : C (k + 1) = was := by rw [HSS.out]; unfold stepF; rw [h1, h2]; rfl
          have HW := Lib.hid hw
          have h2' : (FloatKind.f64.format.order was was == some .eq) = true := h2
          have h3' : (FloatKind.f64.format.order was was != some .eq) = false := by rw [bne, h2']; rfl
          clear hw
          go_wp2_with fail
          refine (fewer_any x was false h1 _).mono ?_
          rintro e w3 ⟨rfl, rfl⟩
          clear h1 h2 hwas
          go_wp2
          go_roundw
          case rel => exact ⟨k + 1, by omega, by go_num, by rw [HW.out], HK2, HB2⟩
          case measure => simp [intOf]; omega
        | false =>
          have hw : C (k + 1) = x := by rw [HSS.out]; unfold stepF; rw [h1, h2]; rfl
          have HW := Lib.hid hw
          have h2' : (FloatKind.f64.format.order was was == some .eq) = false := h2
          have h3' : (FloatKind.f64.format.order was was != some .eq) = true := by rw [bne, h2']; rfl
          clear hw
          go_wp2_with fail
          refine (fewer_any x was false h1 _).mono ?_
          rintro e w3 ⟨rfl, rfl⟩
          clear h1 h2 hwas
          go_wp2
          go_roundw
          case rel => exact ⟨k + 1, by omega, by go_num, by rw [HW.out], HK2, HB2⟩
          case measure => simp [intOf]; omega
    · have d : decide (k + 1 < n) = false := by simpa using hlt
      obtain rfl : C k = r := by rw [← HR.out, show n - 1 = k by omega]
      go_wp2
      go_ret
      exact ⟨rfl, HB.out⟩
theorem min_any (LA EA : Option Addr) (nl lc ec : Nat) (S : List El) (w : World) (hE : Els w EA S) (h0 : 0 < S.length) (hs : S.length ≤ 65536) :
    Calls Tryz.prog 21 #[.agg #[.slice LA nl lc, .slice EA S.length ec]] w fun e w' => e = .returned (.float .f64 (chF ltB S (S.length - 1))) ∧ Below w.heap.size w w' := by
  have hb0 := (Below.refl w.heap.size w).alloc (Nat.le_refl _) (.cells #[.slice LA nl lc, .slice EA S.length ec] 50)
  have H := Lib.hid (chosen_min LA EA nl lc ec S _ (hE.below hb0) h0 hs)
  clear hE
  generalize S.length = n at *
  generalize chF ltB S (n - 1) = r at *
  have HB := Lib.hid hb0
  clear hb0
  go_enter Tryz.func21, Tryz.ntmps21
  go_wp2_with fail
  refine (H.out).mono ?_
  rintro e w1 ⟨rfl, hb⟩
  go_wp2
  go_ret
  exact ⟨rfl, HB.out.trans (hb.mono HB.out.size)⟩
end Go.Proofs.YtencpjhpedenbaaGreatDoor

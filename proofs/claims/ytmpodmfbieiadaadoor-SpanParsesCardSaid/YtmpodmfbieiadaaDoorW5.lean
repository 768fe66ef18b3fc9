import Derived.Test.YtmpodmfbieiadaaDoorW4
namespace Go.Proofs.YtmpodmfbieiadaaDoor
open Go.RowKit Sp Go.Shelf
set_option linter.unusedVariables false

def d10 : List UInt8 := [48, 49, 50, 51, 52, 53, 54, 55, 56, 57]
theorem d10_isD (b : UInt8) : d10.contains b = isD b := by
  have : ∀ n : Nat, n < 256 → d10.contains (UInt8.ofNat n) = isD (UInt8.ofNat n) := by decide +kernel
  have h := this b.toNat b.toNat_lt
  rwa [UInt8.ofNat_toNat] at h
theorem noAny_skip {s : ByteArray} {i n : Nat} (h : Lib.NoAny s.data.toList d10 i) (hn : i + n ≤ s.size) (hk : ∀ k, k < n → 128 ≤ (s.get! (i + k)).toNat) : Lib.NoAny s.data.toList d10 (i + n) := by
  intro j b hj hb
  by_cases h1 : j < i
  · exact h j b h1 hb
  · have hjs : j < s.size := by omega
    rw [Lib.data_getElem? s j hjs] at hb
    have hb := Option.some.inj hb
    have := hk (j - i) (by omega)
    rw [show i + (j - i) = j by omega, get_lt s j hjs, hb] at this
    rw [d10_isD]
    unfold isD
    simp; omega

set_option maxHeartbeats 8000000 in
set_option maxRecDepth 1000000 in
theorem any_short (s : ByteArray) (w : World) (h8 : s.size ≤ 8) :
    Calls Tryd.prog 21 #[.string s, .string D10] w fun e w' => e = .returned (.int .i64 (Lib.indexAny s.data.toList d10)) ∧ Below w.heap.size w w' := by
  have hemp : D10.toList.isEmpty = false := by rw [Lib.toList_data]; rfl
  have hn1 : ((D10.size : Int) == 1) = false := by decide
  have h8z : decide ((8 : Int) < (s.size : Int)) = false := decide_eq_false (by omega)
  have HD : Hid (D10.data.toList = d10) := (rfl : D10.data.toList = d10)
  have HIR := Lib.hid (fun (r : Nat) (h : High r) (w : World) => ir_high r h w)
  generalize D10 = dd at *
  go_enter Tryd.func21, Tryd.ntmps21
  go_wp2_with (go_at_call 28; refine (useSet _ _).mono ?_; rintro e w' ⟨rfl, hw⟩; rw [hw, h8z])
  clear hw
  go_loopg [9, 10] s.size (fun g _ _ wx => ∃ i : Nat, i ≤ s.size ∧ s.size ≤ i + g ∧ wx.heap[w.heap.size]? = some (.stringIter s i) ∧ Hid (Below w.heap.size w wx) ∧ Hid (Lib.NoAny s.data.toList d10 i))
  case atStart => exact ⟨0, by omega, by omega, World.iter_heap w s 0, (Below.refl _ _).alloc (Nat.le_refl _) _, Lib.NoAny.zero _ _⟩
  case round =>
    obtain ⟨i, hi, hig, hit, HB, HN⟩ := hrel
    by_cases hlt : i < s.size
    · obtain ⟨g, rfl⟩ : ∃ g, gk = g + 1 := ⟨gk - 1, by omega⟩
      by_cases ha : 128 ≤ (s[i]'hlt).toNat
      · obtain ⟨q1, q2, q3, q4⟩ := decode_skip s i hlt ha
        have hnx := fun ty => Lib.run_next_any_at (P := Tryd.prog) wr w.heap.size s i ty hit hlt
        have HS := Lib.hid (noAny_skip HN.out q3 q4)
        have hit2 := Lib.iterAt_heap wr w.heap.size s i (i + (Utf8.decode s i).2) hit
        have HB2 := Lib.hid (Lib.below_iterAt HB.out (k := w.heap.size) (Nat.le_refl _) s (i + (Utf8.decode s i).2))
        have HQ := Lib.hid (fun w => HIR.out _ q1 w)
        have hsz : w.heap.size < (wr.iterAt w.heap.size s (i + (Utf8.decode s i).2)).heap.size := (Array.getElem?_eq_some_iff.1 hit2).1
        have HIT := Lib.hid hit2
        clear hit hit2 q1 q4 ha
        generalize (Utf8.decode s i).1 = r at *
        generalize (Utf8.decode s i).2 = n at *
        generalize wr.iterAt w.heap.size s (i + n) = w2 at *
        go_wp2_with fail
        refine (HQ.out _).mono ?_
        rintro e w3 ⟨rfl, hb3⟩
        have HB3 := Lib.hid hb3
        clear hb3 hnx
        go_wp2
        go_roundg g
        case measure => omega
        case rel => exact ⟨i + n, by omega, by omega, (HB3.out.block _ hsz).trans HIT.out, HB2.out.trans (HB3.out.mono HB2.out.size), HS⟩
      · have hx128 : (s[i]'hlt).toNat < 128 := by omega
        have hnx := fun ty => Lib.run_next_ascii_at (P := Tryd.prog) wr w.heap.size s i ty hit hlt hx128
        have hit2 := Lib.iterAt_heap wr w.heap.size s i (i + 1) hit
        have HB2 := Lib.hid (Lib.below_iterAt HB.out (k := w.heap.size) (Nat.le_refl _) s (i + 1))
        have HIT := Lib.hid hit2
        have Hx := Lib.hid (Lib.data_getElem? s i hlt)
        clear hit hit2 ha
        generalize s[i]'hlt = x at *
        generalize wr.iterAt w.heap.size s (i + 1) = w2 at *
        have hcon := Lib.contains_iff_indexByte dd.data.toList x
        have hback : ((x.toNat : Int)).toNat.toUInt8 = x := by simp
        have HBK := Lib.hid hback
        clear hback
        rw [HD.out] at hcon
        cases hin : d10.contains x
        · rw [hin] at hcon
          have hlt : ¬ ((0 : Int) ≤ Lib.indexByte d10 x) := of_decide_eq_false hcon.symm
          have HS := Lib.hid (HN.out.succ Hx.out hin)
          clear hcon hin
          go_wp2_with (go_at_call 27; refine (ir_ascii _ _ (by omega) (by omega) _).mono ?_; rintro e w' ⟨rfl, hw⟩; rw [hw, HBK.out, HD.out])
          go_roundg g
          case measure => omega
          case rel => exact ⟨i + 1, by omega, by omega, HIT.out, HB2.out, HS⟩
        · rw [hin] at hcon
          have hge : (0 : Int) ≤ Lib.indexByte d10 x := of_decide_eq_true hcon.symm
          have HI := Lib.hid (Lib.indexAny_hit HN.out Hx.out hin)
          clear hcon hin
          go_wp2_with (go_at_call 27; refine (ir_ascii _ _ (by omega) (by omega) _).mono ?_; rintro e w' ⟨rfl, hw⟩; rw [hw, HBK.out, HD.out])
          try rw [Exit.noGoto_ret]
          go_ret
          exact ⟨by rw [HI.out]; rfl, HB2.out⟩
    · obtain rfl : i = s.size := by omega
      have hnx := fun ty => Lib.run_next_end_at (P := Tryd.prog) wr w.heap.size s s.size ty hit (by omega)
      have HIT := Lib.hid hit
      clear hit
      go_wp2
      try rw [Exit.noGoto_ret]
      go_ret
      exact ⟨by rw [Lib.indexAny_none (by rw [← Lib.size_eq]; exact HN.out)]; rfl, HB.out⟩
end Go.Proofs.YtmpodmfbieiadaaDoor

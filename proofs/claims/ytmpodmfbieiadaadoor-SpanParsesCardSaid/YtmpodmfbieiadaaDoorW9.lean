import Derived.Test.YtmpodmfbieiadaaDoorW8
namespace Go.Proofs.YtmpodmfbieiadaaDoor
open Go.RowKit Sp Go.Shelf
set_option linter.unusedVariables false

/-- what is laid: the units, the powers of ten, errors.errorType -/
def Laid (w : World) : Prop := UnitsB w ∧ Pow w ∧ ErrT w
theorem Laid.size {w : World} (h : Laid w) : 1 < w.heap.size := World.block_lt_of_cell? _ _ h.2.2
theorem Laid.below {w w' : World} (h : Laid w) (hb : Below w.heap.size w w') : Laid w' :=
  ⟨h.1.below (by have := h.size; omega) hb, h.2.1.below hb, (hb.cell (p := ⟨1, 0, none⟩) h.size).trans h.2.2⟩

theorem parse_yes {s : ByteArray} {v : Nat} (h : spanF s.data.toList = some v) (w : World) (hL : Laid w) :
    Calls Tryd.prog 7 #[.string s] w fun e w' => e = .returned (.tuple #[.int .i64 v, .nilIface]) ∧ Below w.heap.size w w' := parse_any s (some v) w hL.1.units h
theorem parse_int (l : List UInt8) (v : Nat) (x : Int) (hx : (v : Int) = x) (h : spanF l = some v) (w : World) (hL : Laid w) :
    Calls Tryd.prog 7 #[.string ⟨l.toArray⟩] w fun e w' => e = .returned (.tuple #[.int .i64 x, .nilIface]) ∧ Below w.heap.size w w' := by
  subst hx
  exact parse_yes (s := ⟨l.toArray⟩) h w hL
theorem text_int (v : Nat) (x : Int) (hx : (v : Int) = x) (hv : v ≤ 35184372088832) (w : World) (hL : Laid w) :
    Calls Tryd.prog 10 #[.int .i64 x] w fun e w' => e = .returned (.tuple #[.string ⟨(textF v).toArray⟩, .nilIface]) ∧ Below w.heap.size w w' := by
  subst hx
  exact text_yes v w hL.1 hL.2.1 hv
theorem parse_no {s : ByteArray} (h : spanF s.data.toList = none) (w : World) (hL : Laid w) :
    Calls Tryd.prog 7 #[.string s] w fun e w' => e = .returned (.tuple #[.int .i64 0, .iface 38 (.int .i64 13)]) ∧ Below w.heap.size w w' := parse_any s none w hL.1.units h

set_option maxRecDepth 100000 in
set_option maxHeartbeats 2000000 in
theorem awake_any (w : World) (hL : Laid w) : Calls Tryd.prog 6 #[] w fun e w' => e = .returned (.bool true) ∧ Below w.heap.size w w' := by
  have H1 : Hid (∀ W, Below w.heap.size w W → Calls Tryd.prog 7 #[.string ⟨#[49, 104, 51, 48, 109]⟩] W fun e w' => e = .returned (.tuple #[.int .i64 5400000, .nilIface]) ∧ Below W.heap.size W w') :=
    fun W hW => parse_yes (s := ⟨#[49, 104, 51, 48, 109]⟩) (v := 5400000) (by decide +kernel) W (hL.below hW)
  have H2 : Hid (∀ W, Below w.heap.size w W → Calls Tryd.prog 10 #[.int .i64 5400000] W fun e w' => e = .returned (.tuple #[.string ⟨#[49, 104, 51, 48, 109]⟩, .nilIface]) ∧ Below W.heap.size W w') :=
    fun W hW => by
      have := text_yes 5400000 W (hL.below hW).1 (hL.below hW).2.1 (by omega)
      rw [show textF 5400000 = [49, 104, 51, 48, 109] by decide +kernel] at this
      exact this
  have H3 : Hid (∀ W, Below w.heap.size w W → Calls Tryd.prog 7 #[.string ⟨#[51, 48, 109, 49, 104]⟩] W fun e w' => e = .returned (.tuple #[.int .i64 0, .iface 38 (.int .i64 13)]) ∧ Below W.heap.size W w') :=
    fun W hW => parse_no (s := ⟨#[51, 48, 109, 49, 104]⟩) (by decide +kernel) W (hL.below hW)
  have H4 := Lib.hid (fun W (hW : Below w.heap.size w W) => code_is 13 (by decide) W (hL.below hW).2.2)
  clear hL
  go_enter Tryd.func6, Tryd.ntmps6
  go_wp2_with fail
  refine (H1.out w (Below.refl _ _)).mono ?_
  rintro e w1 ⟨rfl, k1⟩
  go_wp2_with fail
  refine (H2.out w1 k1).mono ?_
  rintro e w2 ⟨rfl, hb2⟩
  have k2 := k1.trans (hb2.mono k1.size)
  clear hb2
  go_wp2_with fail
  refine (H3.out w2 k2).mono ?_
  rintro e w3 ⟨rfl, hb3⟩
  have k3 := k2.trans (hb3.mono k2.size)
  clear hb3
  go_wp2_with fail
  refine (H4.out w3 k3).mono ?_
  rintro e w4 ⟨rfl, hb4⟩
  go_wp2
  go_ret
  exact ⟨rfl, k3.trans (hb4.mono k3.size)⟩

theorem app_str (a : List UInt8) : ((⟨a.toArray⟩ : ByteArray) ++ ⟨#[49, 109]⟩).data.toList = a ++ [49, 109] := by simp

set_option maxRecDepth 100000 in
set_option maxHeartbeats 4000000 in
theorem sums_walk (a b : Nat) (ha : a < 65536) (hb : b < 65536) (w : World) (hL : Laid w) :
    Calls Tryd.prog 5 #[.int .u16 a, .int .u16 b] w fun e w' => e = .returned (.bool true) ∧ Below w.heap.size w w' := by
  have HW := Lib.hid (awake_any w hL)
  have H1 : Hid (∀ W, Below w.heap.size w W → Calls Tryd.prog 7 #[.string ⟨#[49, 104]⟩] W fun e w' => e = .returned (.tuple #[.int .i64 3600000, .nilIface]) ∧ Below W.heap.size W w') :=
    fun W hW => parse_yes (s := ⟨#[49, 104]⟩) (v := 3600000) (by decide +kernel) W (hL.below hW)
  by_cases h0 : a = 0
  · subst h0
    have H2 : Hid (∀ W, Below w.heap.size w W → Calls Tryd.prog 10 #[.int .i64 0] W fun e w' => e = .returned (.tuple #[.string ⟨#[48, 115]⟩, .nilIface]) ∧ Below W.heap.size W w') :=
      fun W hW => text_yes 0 W (hL.below hW).1 (hL.below hW).2.1 (by omega)
    have H3 : Hid (∀ W, Below w.heap.size w W → Calls Tryd.prog 7 #[.string ⟨#[48, 115, 49, 109]⟩] W fun e w' => e = .returned (.tuple #[.int .i64 0, .iface 38 (.int .i64 13)]) ∧ Below W.heap.size W w') :=
      fun W hW => parse_no span_zero W (hL.below hW)
    have hadd : ∀ W, (Op.stringOp .add ⟨#[48, 115]⟩ ⟨#[49, 109]⟩).run Tryd.prog W = .ok (.string ⟨#[48, 115, 49, 109]⟩) W := fun W => add_str [48, 115] [49, 109] (by decide) W
    clear hL
    go_enter Tryd.func5, Tryd.ntmps5
    go_wp2_with fail
    refine (HW.out).mono ?_
    rintro e w1 ⟨rfl, k1⟩
    go_wp2_with fail
    refine (H1.out w1 k1).mono ?_
    rintro e w2 ⟨rfl, hb2⟩
    have k2 := k1.trans (hb2.mono k1.size)
    clear hb2
    go_wp2_with fail
    refine (H2.out w2 k2).mono ?_
    rintro e w3 ⟨rfl, hb3⟩
    have k3 := k2.trans (hb3.mono k2.size)
    clear hb3
    go_wp2_with fail
    refine (H3.out w3 k3).mono ?_
    rintro e w4 ⟨rfl, hb4⟩
    have k4 := k3.trans (hb4.mono k3.size)
    clear hb4
    go_wp2
    go_ret
    exact ⟨rfl, k4⟩
  · have H2 : Hid (∀ W, Below w.heap.size w W → Calls Tryd.prog 10 #[.int .i64 ((a : Int) * 3600000)] W fun e w' => e = .returned (.tuple #[.string ⟨(textF (a * 3600000)).toArray⟩, .nilIface]) ∧ Below W.heap.size W w') :=
      fun W hW => text_int (a * 3600000) _ (by omega) (by omega) W (hL.below hW)
    have htl := textF_len (a * 3600000) (by omega)
    have hadd : ∀ W, (Op.stringOp .add ⟨(textF (a * 3600000)).toArray⟩ ⟨#[49, 109]⟩).run Tryd.prog W = .ok (.string ⟨(textF (a * 3600000) ++ [49, 109]).toArray⟩) W := fun W => add_str (textF (a * 3600000)) [49, 109] (by simp; omega) W
    have H3 : Hid (∀ W, Below w.heap.size w W → Calls Tryd.prog 7 #[.string ⟨(textF (a * 3600000) ++ [49, 109]).toArray⟩] W fun e w' => e = .returned (.tuple #[.int .i64 ((a : Int) * 3600000 + 60000), .nilIface]) ∧ Below W.heap.size W w') :=
      fun W hW => parse_int (textF (a * 3600000) ++ [49, 109]) (a * 3600000 + 60000) _ (by omega) (span_hours a ha h0) W (hL.below hW)
    have H4 : Hid (∀ W, Below w.heap.size w W → Calls Tryd.prog 7 #[.string ⟨(textF (a * 3600000)).toArray⟩] W fun e w' => e = .returned (.tuple #[.int .i64 ((a : Int) * 3600000), .nilIface]) ∧ Below W.heap.size W w') :=
      fun W hW => parse_int (textF (a * 3600000)) (a * 3600000) _ (by omega) (span_text (a * 3600000) (by omega)) W (hL.below hW)
    have H5 : Hid (∀ W, Below w.heap.size w W → Calls Tryd.prog 10 #[.int .i64 (b : Int)] W fun e w' => e = .returned (.tuple #[.string ⟨(textF b).toArray⟩, .nilIface]) ∧ Below W.heap.size W w') :=
      fun W hW => text_yes b W (hL.below hW).1 (hL.below hW).2.1 (by omega)
    have H6 : Hid (∀ W, Below w.heap.size w W → Calls Tryd.prog 7 #[.string ⟨(textF b).toArray⟩] W fun e w' => e = .returned (.tuple #[.int .i64 (b : Int), .nilIface]) ∧ Below W.heap.size W w') :=
      fun W hW => parse_yes (s := ⟨(textF b).toArray⟩) (span_text b (by omega)) W (hL.below hW)
    have hz : ((a : Int) == 0) = false := beq_eq_false_iff_ne.2 (by omega)
    clear hL
    generalize (⟨(textF (a * 3600000) ++ [49, 109]).toArray⟩ : ByteArray) = E1 at *
    generalize (⟨(textF (a * 3600000)).toArray⟩ : ByteArray) = E0 at *
    generalize (⟨(textF b).toArray⟩ : ByteArray) = E2 at *
    clear htl h0
    go_enter Tryd.func5, Tryd.ntmps5
    go_wp2_with fail
    refine (HW.out).mono ?_
    rintro e w1 ⟨rfl, k1⟩
    go_wp2_with fail
    refine (H1.out w1 k1).mono ?_
    rintro e w2 ⟨rfl, hb2⟩
    have k2 := k1.trans (hb2.mono k1.size)
    clear hb2
    go_wp2_with fail
    refine (H2.out w2 k2).mono ?_
    rintro e w3 ⟨rfl, hb3⟩
    have k3 := k2.trans (hb3.mono k2.size)
    clear hb3
    go_wp2_with fail
    refine (H3.out w3 k3).mono ?_
    rintro e w4 ⟨rfl, hb4⟩
    have k4 := k3.trans (hb4.mono k3.size)
    clear hb4
    go_wp2_with fail
    refine (H4.out w4 k4).mono ?_
    rintro e w5 ⟨rfl, hb5⟩
    have k5 := k4.trans (hb5.mono k4.size)
    clear hb5
    go_wp2_with fail
    refine (H5.out w5 k5).mono ?_
    rintro e w6 ⟨rfl, hb6⟩
    have k6 := k5.trans (hb6.mono k5.size)
    clear hb6
    go_wp2_with fail
    refine (H6.out w6 k6).mono ?_
    rintro e w7 ⟨rfl, hb7⟩
    have k7 := k6.trans (hb7.mono k6.size)
    clear hb7
    go_wp2
    go_ret
    exact ⟨rfl, k7⟩
end Go.Proofs.YtmpodmfbieiadaaDoor

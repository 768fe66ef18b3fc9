/- RegexLong as a walk: which error it is, the engine awake, a text past 4000 bytes. Condition: the variables as they are laid. -/
import Derived.Test.YtahphjaelpgjdaaDoorE6
import Derived.Test.YtahphjaelpgjdaaDoorW27
namespace Go.Proofs.YtahphjaelpgjdaaDoor
open Go.RowKit Rx
set_option linter.unusedVariables false

theorem cell_set_self {W : World} {j : Nat} {v x : Value} (h : W.cell? ⟨j, 0, none⟩ = some x) : (W.setCell ⟨j, 0, none⟩ v).cell? ⟨j, 0, none⟩ = some v := by
  exact World.cell?_setCell_same' _ _ _ (by rw [h]; rfl)
theorem errT_below {w w' : World} (h : ErrT w) (hb : Below w.heap.size w w') : ErrT w' := below_cell hb h
set_option maxRecDepth 100000 in
set_option maxHeartbeats 4000000 in
theorem fault_any (pl c : Nat) (err : Value) (w : World) (hc : 0 < c) (hE : ErrAt w err pl c) (he : ErrT w) :
    Calls Tryd.prog 9 #[err, .int .i64 pl, .int .i64 c] w fun e w' => e = .returned (.bool true) ∧ Below w.heap.size w w' := by
  obtain ⟨f, rfl, hF⟩ := hE
  have hfl : f < w.heap.size := hF.lt
  have H := Lib.hid (as_any_f ⟨f, 0, none⟩ w.heap.size (w.alloc (.cells #[.pointer none] 70)) (cell_kept _ he) (cell_made w _ 70) (World.frozen?_alloc_at _ _ _ _ rfl))
  have hz : decide ((c : Int) = 0) = false := by simp; omega
  have HF := Lib.hid hF
  have HEE := Lib.hid he
  clear he hF
  go_enter Tryd.func9, Tryd.ntmps9
  go_wp2_with fail
  refine (H.out).mono ?_
  rintro e w1 ⟨rfl, o1, o2, o3, o4, hw1⟩
  have hb1 : Below w.heap.size w w1 := by rw [hw1]; go_grown
  have hg : w1.cell? ⟨w.heap.size, 0, none⟩ = some (.pointer (some ⟨f, 0, none⟩)) := by
    rw [hw1]
    exact cell_set_self (cell_kept _ (cell_kept _ (cell_kept _ (cell_kept _ (cell_made w _ 70)))))
  have hF1 := HF.out.below hb1
  have hf0 := hF1.cell 0
  simp only [List.getElem?_toArray, List.getElem?_cons_zero] at hf0
  have HC := Lib.hid (code_fault f pl c hc w1 (errT_below HEE.out hb1) hF1)
  have HB := Lib.hid hb1
  clear hw1 hb1 hF1 H
  go_wp2_with fail
  refine (HC.out).mono ?_
  rintro e w2 ⟨rfl, hb2⟩
  have HB2 := Lib.hid (HB.out.trans (below_le hb2 HB.out.size))
  clear hb2 HC
  go_wp2
  go_ret
  exact ⟨rfl, HB2.out⟩

set_option maxRecDepth 100000 in
theorem awk1 : readF ⟨#[97, 41]⟩ = .bad 1 2 := rfl
set_option maxRecDepth 100000 in
theorem awk2 : ∃ a m p, readF ⟨#[97, 124]⟩ = .ok a m p ∧ runF m p ⟨#[]⟩ = true := ⟨_, _, _, rfl, by decide +kernel⟩
set_option maxRecDepth 100000 in
theorem awk3 : ∃ a m p, readF ⟨#[97, 46]⟩ = .ok a m p ∧ runF m p ⟨#[97]⟩ = false := ⟨_, _, _, rfl, by decide +kernel⟩
set_option maxRecDepth 100000 in
theorem awk4 : ∃ a m p, readF ⟨#[97, 40, 98, 124, 99, 41, 42]⟩ = .ok a m p ∧ runF m p ⟨#[97, 98, 99, 98]⟩ = true := ⟨_, _, _, rfl, by decide +kernel⟩
set_option maxRecDepth 100000 in
theorem awk5 : ∃ a m p, readF ⟨#[91, 97, 45, 99, 93, 43]⟩ = .ok a m p := ⟨_, _, _, rfl⟩
theorem match_is (pt s : ByteArray) (r : Bool) (w : World) (h5 : 5 ≤ w.heap.size) (hT : TzT w) (hs : s.size ≤ 4000) (hr : ∃ a m p, readF pt = .ok a m p ∧ runF m p s = r) :
    Calls Tryd.prog 7 #[.string pt, .string s] w fun e w' => e = .returned (.tuple #[.bool r, .nilIface]) ∧ Below w.heap.size w w' := by
  obtain ⟨a, m, p, h1, h2⟩ := hr
  refine (match_any pt s w h5 hT).mono ?_
  rintro e w' ⟨hb, h⟩
  rw [h1] at h
  simp only [if_neg (show ¬ 4000 < s.size by omega), h2] at h
  exact ⟨h, hb⟩
theorem check_bad (l : ByteArray) (pl c : Nat) (w : World) (h5 : 5 ≤ w.heap.size) (hT : TzT w) (hr : readF l = .bad pl c) :
    Calls Tryd.prog 18 #[.string l] w fun e w' => ∃ err, e = .returned err ∧ ErrAt w' err pl c ∧ Below w.heap.size w w' := by
  have HR := Lib.hid (read_any l w h5 hT)
  rw [hr] at HR
  clear hT hr
  go_enter Tryd.func18, Tryd.ntmps18
  go_wp2_with fail
  refine (HR.out).mono ?_
  rintro e W1 ⟨hb, err, rfl, f, rfl, hf⟩
  have HB := Lib.hid hb
  have HF : Hid (ErrAt W1 (.iface 70 (.pointer (some ⟨f, 0, none⟩))) pl c) := ⟨f, rfl, hf⟩
  clear hb hf HR
  go_wp2
  go_ret
  exact ⟨_, rfl, HF.out, HB.out⟩
theorem check_ok (l : ByteArray) (w : World) (h5 : 5 ≤ w.heap.size) (hT : TzT w) (hr : ∃ a m p, readF l = .ok a m p) :
    Calls Tryd.prog 18 #[.string l] w fun e w' => e = .returned .nilIface ∧ Below w.heap.size w w' := by
  obtain ⟨a, m, p, hr⟩ := hr
  have HR := Lib.hid (read_any l w h5 hT)
  rw [hr] at HR
  clear hT hr
  go_enter Tryd.func18, Tryd.ntmps18
  go_wp2_with fail
  refine (HR.out).mono ?_
  rintro e W1 ⟨hb, mb, rfl, _⟩
  have HB := Lib.hid hb
  clear hb HR
  go_wp2
  go_ret
  exact ⟨rfl, HB.out⟩
set_option maxRecDepth 100000 in
set_option maxHeartbeats 4000000 in
theorem awake_any (w : World) (h5 : 5 ≤ w.heap.size) (hT : TzT w) (he : ErrT w) : Calls Tryd.prog 6 #[] w fun e w' => e = .returned (.bool true) ∧ Below w.heap.size w w' := by
  have HT := Lib.hid hT
  have HE := Lib.hid he
  have H1 := Lib.hid (match_is _ _ true w h5 hT (by decide) awk4)
  clear hT he
  go_enter Tryd.func6, Tryd.ntmps6
  go_wp2_with fail
  refine (H1.out).mono ?_
  rintro e w1 ⟨rfl, hb1⟩
  have HB1 := Lib.hid hb1
  have hs1 := hb1.size
  have H2 := Lib.hid (match_is _ _ true w1 (by omega) (HT.out.below hb1) (by decide) awk2)
  clear hb1 H1
  go_wp2_with fail
  refine (H2.out).mono ?_
  rintro e w2 ⟨rfl, hb2⟩
  have HB2 := Lib.hid (HB1.out.trans (below_le hb2 hs1))
  have hs2 := hb2.size
  have H3 := Lib.hid (match_is _ _ false w2 (by omega) (HT.out.below HB2.out) (by decide) awk3)
  clear hb2 H2 HB1
  go_wp2_with fail
  refine (H3.out).mono ?_
  rintro e w3 ⟨rfl, hb3⟩
  have HB3 := Lib.hid (HB2.out.trans (below_le hb3 (by omega)))
  have hs3 := hb3.size
  have H4 := Lib.hid (check_bad _ 1 2 w3 (by omega) (HT.out.below HB3.out) awk1)
  clear hb3 H3 HB2
  go_wp2_with fail
  refine (H4.out).mono ?_
  rintro e w4 ⟨err, rfl, hf, hb4⟩
  have HB4 := Lib.hid (HB3.out.trans (below_le hb4 (by omega)))
  have hs4 := hb4.size
  have H5 := Lib.hid (fault_any 1 2 err w4 (by decide) hf (errT_below HE.out HB4.out))
  clear hb4 H4 HB3 hf
  go_wp2_with fail
  refine (H5.out).mono ?_
  rintro e w5 ⟨rfl, hb5⟩
  have HB5 := Lib.hid (HB4.out.trans (below_le hb5 (by omega)))
  have hs5 := hb5.size
  have H6 := Lib.hid (check_ok _ w5 (by omega) (HT.out.below HB5.out) awk5)
  clear hb5 H5 HB4
  go_wp2_with fail
  refine (H6.out).mono ?_
  rintro e w6 ⟨rfl, hb6⟩
  have HB6 := Lib.hid (HB5.out.trans (below_le hb6 (by omega)))
  clear hb6 H6 HB5
  go_wp2
  go_ret
  exact ⟨rfl, HB6.out⟩

theorem parse_bad (l : ByteArray) (pl c : Nat) (w : World) (hr : readF l = .bad pl c) : Calls Tryd.prog 8 #[.string l] w fun e w' => ∃ nk nA nn nc nB nn' nc', e = .returned (.tuple #[ndV nk nA nn nc nB nn' nc', .int .i64 pl, .int .i64 c]) ∧ 0 < c ∧ Below w.heap.size w w' := by
  refine (parse_any l w).mono ?_
  rintro e w' ⟨hb, v, ⟨nk, nA, nn, nc, nB, nn', nc', rfl⟩, h⟩
  rw [hr] at h
  exact ⟨nk, nA, nn, nc, nB, nn', nc', h.1, by rcases h.2 with h | h <;> omega, hb⟩
theorem parse_ok (l : ByteArray) (a : Nat) (m : Mach) (p : Pc) (w : World) (hr : readF l = .ok a m p) : Calls Tryd.prog 8 #[.string l] w fun e w' => ∃ nk nA nn nc nB nn' nc', e = .returned (.tuple #[ndV nk nA nn nc nB nn' nc', .int .i64 a, .int .i64 0]) ∧ Below w.heap.size w w' := by
  refine (parse_any l w).mono ?_
  rintro e w' ⟨hb, v, ⟨nk, nA, nn, nc, nB, nn', nc', rfl⟩, h⟩
  rw [hr] at h
  exact ⟨nk, nA, nn, nc, nB, nn', nc', h, hb⟩
theorem match_bad2 (pt s : ByteArray) (pl c : Nat) (w : World) (h5 : 5 ≤ w.heap.size) (hT : TzT w) (hr : readF pt = .bad pl c) :
    Calls Tryd.prog 7 #[.string pt, .string s] w fun e w' => ∃ err, e = .returned (.tuple #[.bool false, err]) ∧ ErrAt w' err pl c ∧ Below w.heap.size w w' := by
  refine (match_any pt s w h5 hT).mono ?_
  rintro e w' ⟨hb, h⟩
  rw [hr] at h
  obtain ⟨err, h1, h2⟩ := h
  exact ⟨err, h1, h2, hb⟩
theorem match_far (pt s : ByteArray) (a : Nat) (m : Mach) (p : Pc) (w : World) (h5 : 5 ≤ w.heap.size) (hT : TzT w) (hr : readF pt = .ok a m p) (hs : 4000 < s.size) :
    Calls Tryd.prog 7 #[.string pt, .string s] w fun e w' => e = .returned (.tuple #[.bool false, .iface 55 (.int .i64 11)]) ∧ Below w.heap.size w w' := by
  refine (match_any pt s w h5 hT).mono ?_
  rintro e w' ⟨hb, h⟩
  rw [hr] at h
  simp only [if_pos hs] at h
  exact ⟨h, hb⟩
set_option maxRecDepth 100000 in
set_option maxHeartbeats 4000000 in
theorem long_out (pt s : ByteArray) (w : World) (h5 : 5 ≤ w.heap.size) (hT : TzT w) (he : ErrT w) (hs : 250 < pt.size ∨ 5000 < s.size ∨ s.size ≤ 4000) : Calls Tryd.prog 3 #[.string pt, .string s] w fun e w' => e = .returned (.bool true) ∧ Below w.heap.size w w' := by
  have H1 := Lib.hid (awake_any w h5 hT he)
  clear hT he
  by_cases g1 : 250 < pt.size
  · have k1 : decide ((250 : Int) < (pt.size : Int)) = true := by simp; omega
    clear g1 hs
    go_enter Tryd.func3, Tryd.ntmps3
    go_wp2_with fail
    refine (H1.out).mono ?_
    rintro e w1 ⟨rfl, hb1⟩
    have HB1 := Lib.hid hb1
    clear hb1 H1
    go_wp2
    go_ret
    exact ⟨rfl, HB1.out⟩
  · have k1 : decide ((250 : Int) < (pt.size : Int)) = false := by simp; omega
    by_cases g2 : 5000 < s.size
    · have k2 : decide ((5000 : Int) < (s.size : Int)) = true := by simp; omega
      clear g1 g2 hs
      go_enter Tryd.func3, Tryd.ntmps3
      go_wp2_with fail
      refine (H1.out).mono ?_
      rintro e w1 ⟨rfl, hb1⟩
      have HB1 := Lib.hid hb1
      clear hb1 H1
      go_wp2
      go_ret
      exact ⟨rfl, HB1.out⟩
    · have k2 : decide ((5000 : Int) < (s.size : Int)) = false := by simp; omega
      have k3 : decide ((s.size : Int) ≤ (4000 : Int)) = true := by simp; omega
      clear g1 g2 hs
      go_enter Tryd.func3, Tryd.ntmps3
      go_wp2_with fail
      refine (H1.out).mono ?_
      rintro e w1 ⟨rfl, hb1⟩
      have HB1 := Lib.hid hb1
      clear hb1 H1
      go_wp2
      go_ret
      exact ⟨rfl, HB1.out⟩
set_option maxRecDepth 100000 in
set_option maxHeartbeats 4000000 in
theorem long_bad (pt s : ByteArray) (pl c : Nat) (w : World) (h5 : 5 ≤ w.heap.size) (hT : TzT w) (he : ErrT w) (hs : ¬ (250 < pt.size ∨ 5000 < s.size ∨ s.size ≤ 4000)) (hr : readF pt = .bad pl c) : Calls Tryd.prog 3 #[.string pt, .string s] w fun e w' => e = .returned (.bool true) ∧ Below w.heap.size w w' := by
  have H1 := Lib.hid (awake_any w h5 hT he)
  have HT := Lib.hid hT
  have HE := Lib.hid he
  have HR := Lib.hid hr
  have k1 : decide ((250 : Int) < (pt.size : Int)) = false := by simp; omega
  have k2 : decide ((5000 : Int) < (s.size : Int)) = false := by simp; omega
  have k3 : decide ((s.size : Int) ≤ (4000 : Int)) = false := by simp; omega
  clear hT he hs hr
  go_enter Tryd.func3, Tryd.ntmps3
  go_wp2_with fail
  refine (H1.out).mono ?_
  rintro e w1 ⟨rfl, hb1⟩
  have HB1 := Lib.hid hb1
  have hs1 := hb1.size
  have H2 := Lib.hid (match_bad2 pt s pl c w1 (by omega) (HT.out.below hb1) HR.out)
  clear hb1 H1
  go_wp2_with fail
  refine (H2.out).mono ?_
  rintro e w2 ⟨err, rfl, hf, hb2⟩
  obtain ⟨f, rfl, hF⟩ := hf
  have HF2 := Lib.hid hF
  have HB2 := Lib.hid (HB1.out.trans (below_le hb2 hs1))
  have hs2 := hb2.size
  have H3 := Lib.hid (parse_bad pt pl c w2 HR.out)
  clear hb2 H2 HB1 hF k1 k2 k3
  go_wp2_with fail
  refine (H3.out).mono ?_
  rintro e w3 ⟨nk, nA, nn, nc, nB, nn', nc', rfl, hc, hb3⟩
  have hcc : decide ((0 : Int) < (c : Int)) = true := by simp; omega
  have hcc2 : decide (0 < c) = true := decide_eq_true hc
  have HB3 := Lib.hid ((HB2.out.trans (below_le hb3 (by omega))).alloc (by have := hb3.size; omega) (.cells #[.int .u8 nk, .slice nA nn nc, .slice nB nn' nc'] 30))
  have HF3 := Lib.hid ((HF2.out.below hb3).alloc (.cells #[.int .u8 nk, .slice nA nn nc, .slice nB nn' nc'] 30))
  clear hb3 H3 HB2 HF2
  go_upto_region 7 with fail
  generalize hW : w3.alloc (.cells _ 30) = W4 at *
  have hs4 := HB3.out.size
  have H4 := Lib.hid (fault_any pl c (.iface 70 (.pointer (some ⟨f, 0, none⟩))) W4 hc ⟨f, rfl, HF3.out⟩ (errT_below HE.out HB3.out))
  clear hc hW
  go_wp2_with fail
  refine (H4.out).mono ?_
  rintro e w5 ⟨rfl, hb5⟩
  have HB5 := Lib.hid (HB3.out.trans (below_le hb5 (by omega)))
  clear hb5 H4 HB3
  go_wp2
  go_ret
  exact ⟨rfl, HB5.out⟩
set_option maxRecDepth 100000 in
set_option maxHeartbeats 4000000 in
theorem long_ok (pt s : ByteArray) (a : Nat) (m : Mach) (p : Pc) (w : World) (h5 : 5 ≤ w.heap.size) (hT : TzT w) (he : ErrT w) (hs : ¬ (250 < pt.size ∨ 5000 < s.size ∨ s.size ≤ 4000)) (hr : readF pt = .ok a m p) : Calls Tryd.prog 3 #[.string pt, .string s] w fun e w' => e = .returned (.bool true) ∧ Below w.heap.size w w' := by
  have H1 := Lib.hid (awake_any w h5 hT he)
  have HT := Lib.hid hT
  have HE := Lib.hid he
  have HR := Lib.hid hr
  have hs4000 : 4000 < s.size := by omega
  have k1 : decide ((250 : Int) < (pt.size : Int)) = false := by simp; omega
  have k2 : decide ((5000 : Int) < (s.size : Int)) = false := by simp; omega
  have k3 : decide ((s.size : Int) ≤ (4000 : Int)) = false := by simp; omega
  clear hT he hs hr
  go_enter Tryd.func3, Tryd.ntmps3
  go_wp2_with fail
  refine (H1.out).mono ?_
  rintro e w1 ⟨rfl, hb1⟩
  have HB1 := Lib.hid hb1
  have hs1 := hb1.size
  have H2 := Lib.hid (match_far pt s a m p w1 (by omega) (HT.out.below hb1) HR.out hs4000)
  clear hb1 H1 hs4000
  go_wp2_with fail
  refine (H2.out).mono ?_
  rintro e w2 ⟨rfl, hb2⟩
  have HB2 := Lib.hid (HB1.out.trans (below_le hb2 hs1))
  have hs2 := hb2.size
  have H3 := Lib.hid (parse_ok pt a m p w2 HR.out)
  clear hb2 H2 HB1 k1 k2 k3
  go_wp2_with fail
  refine (H3.out).mono ?_
  rintro e w3 ⟨nk, nA, nn, nc, nB, nn', nc', rfl, hb3⟩
  have HB3 := Lib.hid ((HB2.out.trans (below_le hb3 (by omega))).alloc (by have := hb3.size; omega) (.cells #[.int .u8 nk, .slice nA nn nc, .slice nB nn' nc'] 30))
  clear hb3 H3 HB2
  go_upto_region 7 with fail
  generalize hW : w3.alloc (.cells _ 30) = W4 at *
  have hs4 := HB3.out.size
  have H4 := Lib.hid (code_is 11 (by decide) W4 (errT_below HE.out HB3.out))
  clear hW
  go_wp2_with fail
  refine (H4.out).mono ?_
  rintro e w5 ⟨rfl, hb5⟩
  have HB5 := Lib.hid (HB3.out.trans (below_le hb5 (by omega)))
  clear hb5 H4 HB3
  go_wp2
  go_ret
  exact ⟨rfl, HB5.out⟩
theorem long_any (pt s : ByteArray) (w : World) (h5 : 5 ≤ w.heap.size) (hT : TzT w) (he : ErrT w) : Calls Tryd.prog 3 #[.string pt, .string s] w fun e w' => e = .returned (.bool true) ∧ Below w.heap.size w w' := by
  by_cases hs : 250 < pt.size ∨ 5000 < s.size ∨ s.size ≤ 4000
  · exact long_out pt s w h5 hT he hs
  · cases hr : readF pt with
    | bad pl c => exact long_bad pt s pl c w h5 hT he hs hr
    | ok a m p => exact long_ok pt s a m p w h5 hT he hs hr
end Go.Proofs.YtahphjaelpgjdaaDoor

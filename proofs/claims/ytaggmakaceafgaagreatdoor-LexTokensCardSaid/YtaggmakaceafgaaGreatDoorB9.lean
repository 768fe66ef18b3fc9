import Derived.Test.YtaggmakaceafgaaGreatDoorB8
namespace Go.Proofs.YtaggmakaceafgaaGreatDoor
open Go.RowKit Ieee
set_option linter.unusedVariables false

/-! a float out of a text: ParseFloat -/
abbrev nameS : ByteArray := ⟨#[80, 97, 114, 115, 101, 70, 108, 111, 97, 116]⟩
def PafP (w : World) (e : Ending) (w' : World) : Prop := (∃ (b : Nat) (er : Value), e = .returned (.tuple #[.float .f64 b, er]) ∧ FlE er) ∧ Below w.heap.size w w'
def FltP (w : World) (e : Ending) (w' : World) : Prop := (∃ (b : Nat) (er : Value), e = .returned (.tuple #[.float .f64 b, er])) ∧ Below w.heap.size w w'
section
variable {Q qo qc P off c F fo fc : Nat}
theorem prefix64_any (s : ByteArray) (w : World) (hT : Tabs Q qo qc P off c F fo fc w) (hs : s.size ≤ 400) (ha : Al s) :
    Calls Tryz.prog 77 #[.string s, .int .i64 64] w (A64P w) := by
  have H := Lib.hid (atof64_any s w hT hs ha)
  clear hT ha
  go_enter Tryz.func77, Tryz.ntmps77
  go_wp2_with fail
  refine H.out.mono ?_
  rintro e w1 ⟨⟨b, n, er, rfl, her⟩, hb⟩
  have HE := Lib.hid her
  have HB := Lib.hid hb
  clear her hb
  go_wp2_with fail
  ((try simp only [Exit.inBlock, Exit.then]); refine bodyPost_ret (results_tmp3 rfl _ _ _) rfl ?_)
  exact ⟨⟨_, _, _, rfl, HE.out⟩, HB.out⟩
theorem inner_any (s : ByteArray) (w : World) (hT : Tabs Q qo qc P off c F fo fc w) (hs : s.size ≤ 400) (ha : Al s) :
    Calls Tryz.prog 67 #[.string s, .int .i64 64] w (PafP w) := by
  have H := Lib.hid (prefix64_any s w hT hs ha)
  clear hT ha
  go_enter Tryz.func67, Tryz.ntmps67
  go_wp2_with fail
  refine H.out.mono ?_
  rintro e w1 ⟨⟨b, n, er, rfl, her⟩, hb⟩
  have HE := Lib.hid her
  have HB := Lib.hid hb
  clear her hb
  by_cases hn : n = s.size
  · have hnf : ((n : Int) != (s.size : Int)) = false := by simp; omega
    clear hn
    go_wp2_with fail
    (try simp only [Exit.inBlock, Exit.then])
    refine bodyPost_ret (results_tmp2 rfl _ _ _) rfl ?_
    exact ⟨⟨_, _, rfl, HE.out⟩, HB.out⟩
  · have hnf : ((n : Int) != (s.size : Int)) = true := by simp; omega
    clear hn
    go_wp2_with fail
    (try simp only [Exit.inBlock, Exit.then])
    refine bodyPost_ret (results_tmp2 rfl _ _ _) rfl ?_
    exact ⟨⟨_, _, rfl, .inr (.inr rfl)⟩, HB.out⟩
theorem float_any (s : ByteArray) (w : World) (hT : Tabs Q qo qc P off c F fo fc w) (hs : s.size ≤ 400) (ha : Al s) :
    Calls Tryz.prog 48 #[.string s, .int .i64 64] w (FltP w) := by
  have H := Lib.hid (inner_any s w hT hs ha)
  have HT := Lib.hid hT
  clear hT ha
  go_enter Tryz.func48, Tryz.ntmps48
  go_wp2_with fail
  refine H.out.mono ?_
  rintro e w1 ⟨⟨b, er, rfl, her⟩, hb⟩
  have HT1 := HT.out.below hb
  obtain ⟨te6, pe6, h6⟩ := HT1.e6
  obtain ⟨te7, pe7, h7⟩ := HT1.e7
  have H6 := Lib.hid (Tryz.strconv_toError_syntax nameS s 0 64 _ w1 (by omega) h6 (.inr ⟨_, _, rfl⟩))
  have H7 := Lib.hid (Tryz.strconv_toError_range nameS s 0 64 _ w1 (by omega) h7 (.inr ⟨_, _, rfl⟩))
  have HB := Lib.hid hb
  clear HT1 hb h6 h7 H
  rcases her with rfl | rfl | rfl
  · go_wp2_with fail
    (try simp only [Exit.inBlock, Exit.then])
    refine bodyPost_ret (results_tmp2 rfl _ _ _) rfl ?_
    exact ⟨⟨_, _, rfl⟩, HB.out⟩
  · go_wp2_with fail
    refine H7.out.mono ?_
    rintro e w2 ⟨N, rfl, hN, hc, hb2⟩
    have HB2 := Lib.hid (HB.out.trans (hb2.mono HB.out.size))
    clear hN hc hb2
    go_wp2_with fail
    (try simp only [Exit.inBlock, Exit.then])
    refine bodyPost_ret (results_tmp2 rfl _ _ _) rfl ?_
    exact ⟨⟨_, _, rfl⟩, HB2.out⟩
  · go_wp2_with fail
    refine H6.out.mono ?_
    rintro e w2 ⟨N, rfl, hN, hc, hb2⟩
    have HB2 := Lib.hid (HB.out.trans (hb2.mono HB.out.size))
    clear hN hc hb2
    go_wp2_with fail
    (try simp only [Exit.inBlock, Exit.then])
    refine bodyPost_ret (results_tmp2 rfl _ _ _) rfl ?_
    exact ⟨⟨_, _, rfl⟩, HB2.out⟩
end
end Go.Proofs.YtaggmakaceafgaaGreatDoor

import Derived.Test.YtaggmakaceafgaaGreatDoorL1
namespace Go.Proofs.YtaggmakaceafgaaGreatDoor
open Go.RowKit Lx Er
set_option linter.unusedVariables false

/-! LexParts -/
theorem toks_own {w : World} {base : Nat} {A : Option Addr} {n c : Nat} {l : List Tk} (h : w.ownsRow base 35 3 (.slice A n c) l.length (flatT l)) : l.length = n ∧ Toks w A l := by
  obtain ⟨A', c', hv, ht⟩ := own_toks h
  cases hv
  exact ⟨rfl, ht⟩
theorem join_list (a b : ByteArray) : (a ++ ⟨#[10]⟩ ++ b).data.toList = a.data.toList ++ 10 :: b.data.toList := by simp
theorem join_size (a b : ByteArray) : (a ++ ⟨#[10]⟩ ++ b).size = a.size + 1 + b.size := by simp; rfl
section
variable {Q qo qc P off c F fo fc : Nat}
/-- a text that is lexed, whatever comes of it -/
theorem lex_some (s : ByteArray) (w : World) (hL : Laid Q qo qc P off c F fo fc w) (hs : s.size ≤ 4000) :
    Calls Tryz.prog 7 #[.string s] w fun e w' => ∃ v er, e = .returned (.tuple #[v, er]) ∧ Below w.heap.size w w' := by
  cases h : lexS numB spanB s.data.toList 0 with
  | ok ts => exact (lex_ok s ts w hL hs h).mono fun e w' ⟨v, h1, _, h2⟩ => ⟨v, _, h1, h2⟩
  | error a => exact (lex_bad s a w hL hs h).mono fun e w' ⟨f, h1, _, _, h2⟩ => ⟨_, _, h1, h2⟩
set_option maxRecDepth 100000 in
theorem parts_error (a b : ByteArray) (p : Nat) (w : World) (hL : Laid Q qo qc P off c F fo fc w) (ha3 : a.size ≤ 300) (hb3 : b.size ≤ 300) (ha : lexS numB spanB a.data.toList 0 = .error p) :
    Calls Tryz.prog 5 #[.string a, .string b] w fun e w' => e = .returned (.bool true) ∧ Below w.heap.size w w' := by
  have HL := Lib.hid hL
  have HW := Lib.hid (awake_any w hL)
  have HA := Lib.hid ha
  have d1 : ¬ (300 : Int) < (a.size : Int) := by omega
  have d2 : ¬ (300 : Int) < (b.size : Int) := by omega
  have HS := Lib.hid (join_size a b)
  clear hL ha
  go_enter Tryz.func5, Tryz.ntmps5
  go_wp2_with fail
  refine (HW.out).mono ?_
  rintro e w1 ⟨rfl, hb1⟩
  have HB1 := Lib.hid hb1
  have HL1 := Lib.hid (HL.out.below hb1)
  have H1 := Lib.hid (lex_bad a p w1 HL1.out (by omega) HA.out)
  clear hb1
  go_wp2_with fail
  refine (H1.out).mono ?_
  rintro e w2 ⟨f, rfl, _, _, hb2⟩
  have HB2 := Lib.hid (HB1.out.trans (hb2.mono HB1.out.size))
  have HL2 := Lib.hid (HL1.out.below hb2)
  have H2 := Lib.hid (lex_some b w2 HL2.out (by omega))
  clear hb2
  go_wp2_with fail
  refine (H2.out).mono ?_
  rintro e w3 ⟨v, er, rfl, hb3⟩
  have HB3 := Lib.hid (HB2.out.trans (hb3.mono HB2.out.size))
  have HL3 := Lib.hid (HL2.out.below hb3)
  have H3 := Lib.hid (lex_some (a ++ ⟨#[10]⟩ ++ b) w3 HL3.out (by rw [HS.out]; omega))
  clear hb3
  go_wp2_with fail
  refine (H3.out).mono ?_
  rintro e w4 ⟨v2, er2, rfl, hb4⟩
  have HB4 := Lib.hid (HB3.out.trans (hb4.mono HB3.out.size))
  clear hb4
  go_wp2_with fail
  go_ret
  exact ⟨rfl, HB4.out⟩
end
end Go.Proofs.YtaggmakaceafgaaGreatDoor

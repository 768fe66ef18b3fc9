import Derived.Test.YtaggmakaceafgaaGreatDoorA1
namespace Go.Proofs.YtaggmakaceafgaaGreatDoor
open Go.RowKit
set_option linter.unusedVariables false

/-! is a row of digits less than a text of digits? -/
theorem dr3 (w : World) (a b c : Nat) : ((w.drewN a).drewN b).drewN c = w.drewN (a + b + c) := by simp only [World.drewN_drewN]
theorem dr2 (w : World) (a b : Nat) : (w.drewN a).drewN b = w.drewN (a + b) := by simp only [World.drewN_drewN]
def PreP (f : Nat → Nat) (nd : Nat) (S : Nat → Nat) (L : Nat) (w : World) (e : Ending) (w' : World) : Prop :=
  ∃ r : Bool, e = .returned (.bool r) ∧ (∃ n, w' = w.drewN n) ∧ (r = true ↔ Dm.pz f nd L < Dm.num S L)
set_option maxRecDepth 100000 in
theorem prefix_any (B : Nat) (f : Nat → Nat) (nd : Nat) (dp : Int) (ng tr : Bool) (s : ByteArray) (S : Nat → Nat) (w : World) (h : Dz w B f nd dp ng tr) (hn : nd ≤ 800) (hd : Dm.Dg f nd)
    (hS : ∀ i (h : i < s.size), s[i].toNat = S i) (hg : Dm.Dg S s.size) (hl : 0 < s.size → 49 ≤ S (s.size - 1)) (hsz : s.size ≤ 1000) :
    Calls Tryz.prog 134 #[.slice (some ⟨B, 0, none⟩) nd 800, .string s] w (PreP f nd S s.size w) := by
  have H := Lib.hid h
  have HD := Lib.hid hd
  have HS := Lib.hid hS
  have HG := Lib.hid hg
  have HL := Lib.hid hl
  clear h hd hS hg hl
  obtain ⟨P, hP⟩ : ∃ P : Prop, (Dm.pz f nd s.size < Dm.num S s.size) = P := ⟨_, rfl⟩
  unfold PreP
  rw [hP]
  have HP := Lib.hid hP
  clear hP
  go_enter Tryz.func134, Tryz.ntmps134
  go_wp2_with fail
  go_loopg [5] s.size (fun g s5 wx => ∃ i : Nat, i + g = s.size ∧ s5 = .int .i64 i ∧ Hid (∀ j, j < i → j < nd ∧ f j = S j) ∧ ∃ n, wx = w.drewN n)
  case atStart => exact ⟨0, by omega, rfl, by intro j hj; omega, 0, rfl⟩
  case round =>
    obtain ⟨i, hig, rfl, HE, nw, rfl⟩ := hrel
    by_cases hi : i < s.size
    · obtain ⟨g, rfl⟩ : ∃ g, gk = g + 1 := ⟨gk - 1, by omega⟩
      by_cases hin : i < nd
      · have c1 := H.out.dig i (by omega)
        obtain ⟨x, hx⟩ : ∃ x : Nat, s[i].toNat = x := ⟨_, rfl⟩
        have hxS := Lib.hid ((HS.out i hi).symm.trans hx)
        by_cases he : f i = x
        · have hne : ((f i : Int) != (x : Int)) = false := by simp [he]
          have HE2 : Hid (∀ j, j < i + 1 → j < nd ∧ f j = S j) := by
            intro j hj
            rcases Nat.lt_or_ge j i with h1 | h1
            · exact HE.out j h1
            · obtain rfl : j = i := by omega
              exact ⟨hin, he.trans hxS.out.symm⟩
          clear he
          go_wp2_with fail
          go_quiet (fail)
          go_wp2_with fail
          go_roundg g
          case measure => omega
          case rel => exact ⟨i + 1, by omega, by go_num, HE2, _, rfl⟩
        · have hne : ((f i : Int) != (x : Int)) = true := by simp; omega
          by_cases hlt : f i < x
          · have hlt2 : decide ((f i : Int) < (x : Int)) = true := decide_eq_true (by omega)
            have HF : Hid P := by
              show P
              rw [← HP.out]
              exact Dm.pre_lt HD.out hi hin HE.out (by rw [hxS.out]; exact hlt)
            have HLT := Lib.hid hlt
            clear hlt he
            go_wp2_with fail
            go_quiet (fail)
            go_wp2_with fail
            go_quiet (fail)
            go_wp2_with fail
            go_ret
            exact ⟨_, rfl, ⟨_, dr3 _ _ _ _⟩, by simp [HF.out, HLT.out]⟩
          · have hlt2 : decide ((f i : Int) < (x : Int)) = false := decide_eq_false (by omega)
            have HF : Hid (¬ P) := by
              show ¬ P
              rw [← HP.out]
              exact Nat.not_lt.2 (Dm.pre_gt HG.out hi hin HE.out (by rw [hxS.out]; omega))
            have HLT := Lib.hid hlt
            clear hlt he
            go_wp2_with fail
            go_quiet (fail)
            go_wp2_with fail
            go_quiet (fail)
            go_wp2_with fail
            go_ret
            exact ⟨_, rfl, ⟨_, dr3 _ _ _ _⟩, by simp [HF.out, HLT.out]⟩
      · have HF : Hid P := by
          show P
          rw [← HP.out]
          exact Dm.pre_end hi (by omega) HE.out (HL.out (by omega))
        go_wp2_with fail
        go_ret
        exact ⟨_, rfl, ⟨_, rfl⟩, by simp [HF.out]⟩
    · have HF : Hid (¬ P) := by
        show ¬ P
        rw [← HP.out]
        exact Nat.not_lt.2 (Dm.pre_all fun j hj => HE.out j (by omega))
      go_wp2_with fail
      go_ret
      exact ⟨_, rfl, ⟨_, rfl⟩, by simp [HF.out]⟩
end Go.Proofs.YtaggmakaceafgaaGreatDoor

import Derived.Test.YthgcjolpcccolaaDoorP10
import Derived.Test.YthgcjolpcccolaaDoorG2
namespace Go.Proofs.YthgcjolpcccolaaDoor
open Go.RowKit Lb
set_option linter.unusedVariables false

theorem made_right {l o : List Lab} (h : makeF l = some o) : rightB o = true := by
  obtain ⟨f1, f2, f3, f4⟩ := made_facts h
  unfold rightB
  rw [decide_eq_true_eq]
  refine ⟨f4, fun i hi => ?_⟩
  have e : o.getD i e0 = o[i] := by simp [hi]
  refine ⟨by rw [e]; exact f1 _ (List.getElem_mem hi), by rw [e]; exact f2 _ (List.getElem_mem hi), fun h0 => ?_⟩
  have e' : o.getD (i - 1) e0 = o[i - 1] := by simp [show i - 1 < o.length by omega]
  rw [e, e']
  exact (List.pairwise_iff_getElem.1 f3) (i - 1) i (by omega) hi (by omega)
theorem short_names {l : List Lab} (h : shortB l = true) : ∀ i, i < l.length → (l.getD i e0).1.size ≤ 65536 := by
  intro i hi
  rcases Nat.lt_or_ge 400 (l.getD i e0).1.size with h1 | h1
  · rw [short_bad hi (.inl h1)] at h; cases h
  · omega
theorem refmake_yes {l o : List Lab} (h : makeF l = some o) (A : Option Addr) (cap : Nat) (w : World) (hL : Lbs w A l) (hs : ∀ i, i < l.length → (l.getD i e0).1.size ≤ 65536) (hl : l.length ≤ 4096) :
    Calls Tryd.prog 10 #[.slice A l.length cap] w fun e w' => ∃ A' c, e = .returned (.tuple #[.slice A' o.length c, .bool true]) ∧ OwnL w' A' c o ∧ Below w.heap.size w w' :=
  (refmake_any A cap l w hL hs hl).mono fun e w' ⟨hb, hc⟩ => by
    rcases hc with ⟨h1, _⟩ | ⟨o', A', c, h1, he, ho⟩
    · rw [h] at h1; cases h1
    · rw [h] at h1
      injection h1 with h1
      subst h1
      exact ⟨A', c, he, ho, hb⟩
theorem refmake_no {l : List Lab} (h : makeF l = none) (A : Option Addr) (cap : Nat) (w : World) (hL : Lbs w A l) (hs : ∀ i, i < l.length → (l.getD i e0).1.size ≤ 65536) (hl : l.length ≤ 4096) :
    Calls Tryd.prog 10 #[.slice A l.length cap] w fun e w' => e = .returned (.tuple #[.slice none 0 0, .bool false]) ∧ Below w.heap.size w w' :=
  (refmake_any A cap l w hL hs hl).mono fun e w' ⟨hb, hc⟩ => by
    rcases hc with ⟨_, he⟩ | ⟨o', A', c, h1, _⟩
    · exact ⟨he, hb⟩
    · rw [h] at h1; cases h1

set_option maxRecDepth 100000 in
set_option maxHeartbeats 4000000 in
theorem makes_yes (A : Option Addr) (ca n : Nat) (l : List Lab) (o : List Lab) (no : Nat) (s : ByteArray) (w : World) (h3 : 3 ≤ w.heap.size) (hss : s.size ≤ 400) (hn40 : n ≤ 40) (rl rs : Bool)
    (HN : Hid (l.length = n)) (HA : Hid (Lbs w A l)) (HC : Hid (A = none → ca = 0)) (HL : Hid (Laid w))
    (HW : Hid (Calls Tryd.prog 7 #[] w fun e w' => e = .returned (.bool true) ∧ Below w.heap.size w w'))
    (S1 : Hid (∀ W, Below w.heap.size w W → Calls Tryd.prog 8 #[.slice A n ca] W fun e w' => e = .returned (.bool true) ∧ W = w'))
    (M1 : Hid (∀ W B cb, Below w.heap.size w W → Lbs W B l → Calls Tryd.prog 9 #[.slice B n cb] W fun e w' => ∃ A' c, e = .returned (.tuple #[.slice A' no c, .nilIface]) ∧ OwnL w' A' c o ∧ Below W.heap.size W w'))
    (M2 : Hid (∀ W, Below w.heap.size w W → Calls Tryd.prog 10 #[.slice A n ca] W fun e w' => ∃ A' c, e = .returned (.tuple #[.slice A' no c, .bool true]) ∧ OwnL w' A' c o ∧ Below W.heap.size W w'))
    (R3 : Hid (∀ W B cb, Below w.heap.size w W → Lbs W B o → Calls Tryd.prog 11 #[.slice B no cb] W fun e w' => e = .returned (.bool true) ∧ Below W.heap.size W w'))
    (C2 : Hid (∀ W B cb C cc, Lbs W B o → Lbs W C o → Calls Tryd.prog 15 #[.slice B no cb, .slice C no cc] W fun e w' => e = .returned (.int .i64 0) ∧ ∃ q, w' = W.drewN q))
    (R1 : Hid (∀ W, Below w.heap.size w W → Calls Tryd.prog 11 #[.slice A n ca] W fun e w' => e = .returned (.bool rl) ∧ Below W.heap.size W w'))
    (R2 : Hid (∀ W, Below w.heap.size w W → Calls Tryd.prog 12 #[.slice A n ca] W fun e w' => e = .returned (.bool rl) ∧ Below W.heap.size W w'))
    (N1 : Hid (∀ W, Calls Tryd.prog 13 #[.string s] W fun e w' => e = .returned (.bool rs) ∧ W = w'))
    (N2 : Hid (∀ W, Calls Tryd.prog 14 #[.string s] W fun e w' => e = .returned (.bool rs) ∧ W = w'))
    (C1 : Hid (∀ W B cb C cc, Lbs W B l → Lbs W C l → Calls Tryd.prog 15 #[.slice B n cb, .slice C n cc] W fun e w' => e = .returned (.int .i64 0) ∧ ∃ q, w' = W.drewN q)) :
    Calls Tryd.prog 3 #[.slice A n ca, .string s] w fun e w' => e = .returned (.bool true) ∧ Below w.heap.size w w' := by
  have hss' : decide (400 < s.size) = false := by simp; omega
  have erl : (rl != rl) = false := by cases rl <;> rfl
  have ers : (rs != rs) = false := by cases rs <;> rfl
  go_enter Tryd.func3, Tryd.ntmps3
  go_wp2_with fail
  refine (HW.out).mono ?_
  rintro e w1 ⟨rfl, k1⟩
  have KW1 := Lib.hid k1
  have AL1 := Lib.hid (HA.out.below k1)
  clear k1
  go_wp2_with fail
  refine (S1.out _ KW1.out).mono ?_
  rintro e w' ⟨rfl, rfl⟩
  go_wp2_with (at_builtin; refine wpList_append_lbs rfl (.tmp 20) (.tmp 21) rfl w1.heap.size (.slice (some ⟨w1.heap.size, 0, none⟩) 0 0) 0 [] rfl (World.ownsRow_lit w1 #[] 0 (Nat.le_refl _) (by unfold maxLen; omega) rfl) A n ca l ?c0 rfl (AL1.out.below ((Below.refl _ _).alloc (Nat.le_refl _) _)) HC.out (by omega) (by simp) ?_)
  case c0 => exact HN.out
  intro v5 w5 own5 gr5
  have k5 : Below w1.heap.size w1 w5 := ((Below.refl _ _).alloc (Nat.le_refl _) _).grown gr5 (by simp) (fun g hg => by cases hg; exact Nat.le_refl _)
  obtain ⟨B, cb, hv5, ob⟩ := own_lbs (l := l) (n := n) HN.out (by simpa [flatL] using own5)
  subst hv5
  have KW5 := Lib.hid (KW1.out.trans (k5.mono KW1.out.size))
  have OB := Lib.hid ob.1
  clear own5 gr5 k5 ob AL1
  go_wp2_with fail
  refine (M1.out _ _ _ KW5.out OB.out).mono ?_
  rintro e w6 ⟨M, cm, rfl, om, k6⟩
  have KW6 := Lib.hid (KW5.out.trans (k6.mono KW5.out.size))
  have OB6 := Lib.hid (OB.out.below k6)
  have OM6 := Lib.hid om.1
  clear om
  clear k6
  go_wp2_with fail
  refine (M2.out _ KW6.out).mono ?_
  rintro e w7 ⟨K, ck, rfl, ok7, k7⟩
  have KW7 := Lib.hid (KW6.out.trans (k7.mono KW6.out.size))
  have OB7 := Lib.hid (OB6.out.below k7)
  have OM7 := Lib.hid (OM6.out.below k7)
  have OK7 := Lib.hid ok7.1
  clear ok7
  clear k7
  go_wp2_with fail
  refine (R1.out _ KW7.out).mono ?_
  rintro e w8 ⟨rfl, k8⟩
  have KW8 := Lib.hid (KW7.out.trans (k8.mono KW7.out.size))
  have OB8 := Lib.hid (OB7.out.below k8)
  have OM8 := Lib.hid (OM7.out.below k8)
  have OK8 := Lib.hid (OK7.out.below k8)
  clear k8
  go_wp2_with fail
  refine (R2.out _ KW8.out).mono ?_
  rintro e w9 ⟨rfl, k9⟩
  have KW9 := Lib.hid (KW8.out.trans (k9.mono KW8.out.size))
  have OB9 := Lib.hid (OB8.out.below k9)
  have OM9 := Lib.hid (OM8.out.below k9)
  have OK9 := Lib.hid (OK8.out.below k9)
  clear k9
  go_wp2_with fail
  refine (N1.out _).mono ?_
  rintro e w' ⟨rfl, rfl⟩
  go_wp2_with fail
  refine (N2.out _).mono ?_
  rintro e w' ⟨rfl, rfl⟩
  go_wp2_with fail
  refine (C1.out _ _ _ _ _ OB9.out (HA.out.below KW9.out)).mono ?_
  rintro e w' ⟨rfl, q, rfl⟩
  have KWa : Hid (Below w.heap.size w (w9.drewN q)) := bel_drawn KW9.out q
  go_wp2_with fail
  refine (C2.out _ _ _ _ _ (show Lbs (w9.drewN q) M o from OM9.out) (show Lbs (w9.drewN q) K o from OK9.out)).mono ?_
  rintro e w' ⟨rfl, q2, rfl⟩
  have KWb : Hid (Below w.heap.size w (w9.drewN (q + q2))) := bel_drawn KW9.out (q + q2)
  go_wp2_with fail
  refine (R3.out _ _ _ KWb.out (show Lbs (w9.drewN (q + q2)) M o from OM9.out)).mono ?_
  rintro e w10 ⟨rfl, k10⟩
  have KWc := Lib.hid (KWb.out.trans (k10.mono KWb.out.size))
  clear k10
  go_wp2
  go_ret
  exact ⟨rfl, KWc.out⟩

set_option maxRecDepth 100000 in
set_option maxHeartbeats 4000000 in
theorem makes_no (A : Option Addr) (ca n : Nat) (l : List Lab) (s : ByteArray) (w : World) (h3 : 3 ≤ w.heap.size) (hss : s.size ≤ 400) (hn40 : n ≤ 40) (rl rs : Bool)
    (HN : Hid (l.length = n)) (HA : Hid (Lbs w A l)) (HC : Hid (A = none → ca = 0)) (HL : Hid (Laid w))
    (HW : Hid (Calls Tryd.prog 7 #[] w fun e w' => e = .returned (.bool true) ∧ Below w.heap.size w w'))
    (S1 : Hid (∀ W, Below w.heap.size w W → Calls Tryd.prog 8 #[.slice A n ca] W fun e w' => e = .returned (.bool true) ∧ W = w'))
    (M1 : Hid (∀ W B cb, Below w.heap.size w W → Lbs W B l → Calls Tryd.prog 9 #[.slice B n cb] W fun e w' => e = .returned (.tuple #[.slice none 0 0, .iface 44 (.int .i64 1)]) ∧ Below W.heap.size W w'))
    (M2 : Hid (∀ W, Below w.heap.size w W → Calls Tryd.prog 10 #[.slice A n ca] W fun e w' => e = .returned (.tuple #[.slice none 0 0, .bool false]) ∧ Below W.heap.size W w'))
    (R1 : Hid (∀ W, Below w.heap.size w W → Calls Tryd.prog 11 #[.slice A n ca] W fun e w' => e = .returned (.bool rl) ∧ Below W.heap.size W w'))
    (R2 : Hid (∀ W, Below w.heap.size w W → Calls Tryd.prog 12 #[.slice A n ca] W fun e w' => e = .returned (.bool rl) ∧ Below W.heap.size W w'))
    (N1 : Hid (∀ W, Calls Tryd.prog 13 #[.string s] W fun e w' => e = .returned (.bool rs) ∧ W = w'))
    (N2 : Hid (∀ W, Calls Tryd.prog 14 #[.string s] W fun e w' => e = .returned (.bool rs) ∧ W = w'))
    (C1 : Hid (∀ W B cb C cc, Lbs W B l → Lbs W C l → Calls Tryd.prog 15 #[.slice B n cb, .slice C n cc] W fun e w' => e = .returned (.int .i64 0) ∧ ∃ q, w' = W.drewN q)) :
    Calls Tryd.prog 3 #[.slice A n ca, .string s] w fun e w' => e = .returned (.bool true) ∧ Below w.heap.size w w' := by
  have hss' : decide (400 < s.size) = false := by simp; omega
  have erl : (rl != rl) = false := by cases rl <;> rfl
  have ers : (rs != rs) = false := by cases rs <;> rfl
  go_enter Tryd.func3, Tryd.ntmps3
  go_wp2_with fail
  refine (HW.out).mono ?_
  rintro e w1 ⟨rfl, k1⟩
  have KW1 := Lib.hid k1
  have AL1 := Lib.hid (HA.out.below k1)
  clear k1
  go_wp2_with fail
  refine (S1.out _ KW1.out).mono ?_
  rintro e w' ⟨rfl, rfl⟩
  go_wp2_with (at_builtin; refine wpList_append_lbs rfl (.tmp 20) (.tmp 21) rfl w1.heap.size (.slice (some ⟨w1.heap.size, 0, none⟩) 0 0) 0 [] rfl (World.ownsRow_lit w1 #[] 0 (Nat.le_refl _) (by unfold maxLen; omega) rfl) A n ca l ?c0 rfl (AL1.out.below ((Below.refl _ _).alloc (Nat.le_refl _) _)) HC.out (by omega) (by simp) ?_)
  case c0 => exact HN.out
  intro v5 w5 own5 gr5
  have k5 : Below w1.heap.size w1 w5 := ((Below.refl _ _).alloc (Nat.le_refl _) _).grown gr5 (by simp) (fun g hg => by cases hg; exact Nat.le_refl _)
  obtain ⟨B, cb, hv5, ob⟩ := own_lbs (l := l) (n := n) HN.out (by simpa [flatL] using own5)
  subst hv5
  have KW5 := Lib.hid (KW1.out.trans (k5.mono KW1.out.size))
  have OB := Lib.hid ob.1
  clear own5 gr5 k5 ob AL1
  go_wp2_with fail
  refine (M1.out _ _ _ KW5.out OB.out).mono ?_
  rintro e w6 ⟨rfl, k6⟩
  have KW6 := Lib.hid (KW5.out.trans (k6.mono KW5.out.size))
  have OB6 := Lib.hid (OB.out.below k6)
  clear k6
  go_wp2_with fail
  refine (M2.out _ KW6.out).mono ?_
  rintro e w7 ⟨rfl, k7⟩
  have KW7 := Lib.hid (KW6.out.trans (k7.mono KW6.out.size))
  have OB7 := Lib.hid (OB6.out.below k7)
  clear k7
  go_wp2_with fail
  refine (R1.out _ KW7.out).mono ?_
  rintro e w8 ⟨rfl, k8⟩
  have KW8 := Lib.hid (KW7.out.trans (k8.mono KW7.out.size))
  have OB8 := Lib.hid (OB7.out.below k8)
  clear k8
  go_wp2_with fail
  refine (R2.out _ KW8.out).mono ?_
  rintro e w9 ⟨rfl, k9⟩
  have KW9 := Lib.hid (KW8.out.trans (k9.mono KW8.out.size))
  have OB9 := Lib.hid (OB8.out.below k9)
  clear k9
  go_wp2_with fail
  refine (N1.out _).mono ?_
  rintro e w' ⟨rfl, rfl⟩
  go_wp2_with fail
  refine (N2.out _).mono ?_
  rintro e w' ⟨rfl, rfl⟩
  go_wp2_with fail
  refine (C1.out _ _ _ _ _ OB9.out (HA.out.below KW9.out)).mono ?_
  rintro e w' ⟨rfl, q, rfl⟩
  have KWa : Hid (Below w.heap.size w (w9.drewN q)) := bel_drawn KW9.out q
  go_wp2_with fail
  refine (code_is 1 (by decide) _ ((HL.out.below h3 (bel_drawn KW9.out q)).2)).mono ?_
  rintro e w10 ⟨rfl, k10⟩
  have KWc := Lib.hid (KWa.out.trans (k10.mono KWa.out.size))
  clear k10
  go_wp2
  go_ret
  exact ⟨rfl, KWc.out⟩

set_option maxRecDepth 100000 in
set_option maxHeartbeats 1000000 in
theorem makes_walk (A : Option Addr) (ca : Nat) (l : List Lab) (s : ByteArray) (w : World) (hA : Lbs w A l) (hc : A = none → ca = 0) (hl : l.length ≤ 9223372036854775807) (hL : Laid w) :
    Calls Tryd.prog 3 #[.slice A l.length ca, .string s] w fun e w' => e = .returned (.bool true) ∧ Below w.heap.size w w' := by
  have HW := Lib.hid (awake_any w hL)
  have h3 : 3 ≤ w.heap.size := hL.1.size
  cases h1 : shortB l with
  | false =>
    have S1 := Lib.hid (fun W (hW : Below w.heap.size w W) => short_is A ca l false h1 W (hA.below hW) hl)
    clear hA hL h1 hc
    generalize l.length = n at *
    go_enter Tryd.func3, Tryd.ntmps3
    go_wp2_with fail
    refine (HW.out).mono ?_
    rintro e w1 ⟨rfl, k1⟩
    go_wp2_with fail
    refine (S1.out _ k1).mono ?_
    rintro e w' ⟨rfl, rfl⟩
    go_wp2
    go_ret
    exact ⟨rfl, k1⟩
  | true =>
    have S1 := Lib.hid (fun W (hW : Below w.heap.size w W) => short_is A ca l true h1 W (hA.below hW) hl)
    have la := short_len h1
    have hnm := short_names h1
    by_cases h4 : 400 < s.size
    · have h4' : (400 : Int) < (s.size : Int) := by omega
      clear hA hL h1 hc hnm
      generalize l.length = n at *
      go_enter Tryd.func3, Tryd.ntmps3
      go_wp2_with fail
      refine (HW.out).mono ?_
      rintro e w1 ⟨rfl, k1⟩
      go_wp2_with fail
      refine (S1.out _ k1).mono ?_
      rintro e w' ⟨rfl, rfl⟩
      go_wp2
      go_ret
      exact ⟨rfl, k1⟩
    · have R1 := Lib.hid (fun W (hW : Below w.heap.size w W) => right_any A ca l W (hA.below hW) (hL.1.below h3 hW) (by omega))
      have R2 := Lib.hid (fun W (hW : Below w.heap.size w W) => refright_any A ca l W (hA.below hW) hnm (by omega))
      have N1 := Lib.hid (fun W => name_any s W)
      have N2 := Lib.hid (fun W => refname_any s (by omega) W)
      have C1 := Lib.hid (fun W B cb C cc (hB : Lbs W B l) (hC : Lbs W C l) => refcmp_same B C cb cc l W hB hC (by omega))
      cases hm : makeF l with
      | none =>
        exact makes_no A ca l.length l s w h3 (by omega) la (rightB l) (nameB s) (Lib.hid rfl) (Lib.hid hA) (Lib.hid hc) (Lib.hid hL) HW S1
          (Lib.hid fun W B cb hW hB => make_no hm B cb W hB (hL.1.below h3 hW) (by omega))
          (Lib.hid fun W hW => refmake_no hm A ca W (hA.below hW) hnm (by omega)) R1 R2 N1 N2 C1
      | some o =>
        obtain ⟨f1, f2, f3, f4⟩ := made_facts hm
        have hro := made_right hm
        refine makes_yes A ca l.length l o o.length s w h3 (by omega) la (rightB l) (nameB s) (Lib.hid rfl) (Lib.hid hA) (Lib.hid hc) (Lib.hid hL) HW S1
          (Lib.hid fun W B cb hW hB => make_yes hm B cb W hB (hL.1.below h3 hW) (by omega))
          (Lib.hid fun W hW => refmake_yes hm A ca W (hA.below hW) hnm (by omega))
          (Lib.hid fun W B cb hW hB => ?_)
          (Lib.hid fun W B cb C cc hB hC => refcmp_same B C cb cc o W hB hC (by omega)) R1 R2 N1 N2 C1
        have := right_any B cb o W hB (hL.1.below h3 hW) (by omega)
        rw [hro] at this
        exact this
end Go.Proofs.YthgcjolpcccolaaDoor

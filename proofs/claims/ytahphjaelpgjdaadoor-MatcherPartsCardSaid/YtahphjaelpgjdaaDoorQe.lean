/- MatcherParts as a walk, whatever comes in. Condition: the variables as they are laid. -/
import Derived.Test.YtahphjaelpgjdaaDoorQc
import Derived.Test.YtahphjaelpgjdaaDoorQd
import Derived.Test.YtahphjaelpgjdaaDoorLf
namespace Go.Proofs.YtahphjaelpgjdaaDoor
open Go.RowKit Rx
set_option linter.unusedVariables false

theorem getq_size {l : List Lb.Lab} (nm : ByteArray) (h : tameAt l l.length) : ∀ n k, n + k ≤ l.length → (getFrom l nm n k).size ≤ 60
  | 0, _, _ => by unfold getFrom; decide
  | n + 1, k, hk => by
    unfold getFrom
    split
    · exact h k (by omega)
    · exact getq_size nm h n (k + 1) (by omega)
theorem tameq_size {l : List Lb.Lab} (nm : ByteArray) (h : tameB l = true) : (getF l nm).size ≤ 60 := by
  unfold tameB at h
  rw [Bool.and_eq_true] at h
  exact getq_size nm (of_decide_eq_true h.1) _ _ (by omega)
theorem like_is {nm v : ByteArray} {l : List Lb.Lab} (hw : Word v) (hs : v.size ≤ 200) (hg : (getF l nm).size ≤ 60) : holdsF 3 nm v l = holdsF 1 nm v l := by
  have e : wayF 3 v (getF l nm) = (v.toList == (getF l nm).toList) := by
    show ((likeF v (getF l nm)).2 && (likeF v (getF l nm)).1) = _
    rw [likeF_near (read_word hw hs) (by omega), run_same hs]
    exact Bool.true_and _
  show (namedB nm v && wayF 3 v (getF l nm)) = (namedB nm v && (v.toList == (getF l nm).toList))
  rw [e]
theorem all_both (a b : List Mt) (l : List Lb.Lab) : allB (a ++ b) l = (allB a l && allB b l) := by unfold allB; rw [List.all_append]
set_option maxRecDepth 100000 in
set_option maxHeartbeats 4000000 in
theorem parts_out (C D A : Option Addr) (na ca nb cb nl cl wd : Nat) (w : World) (sa sb tl : Bool) (h : sa = false ∨ sb = false ∨ tl = false)
    (HA : Hid (Calls Tryd.prog 11 #[] w fun e w' => e = .returned (.bool true) ∧ Below w.heap.size w w'))
    (S1 : Hid (∀ W, Below w.heap.size w W → Calls Tryd.prog 15 #[.slice C na ca] W fun e w' => e = .returned (.bool sa) ∧ W = w'))
    (S2 : Hid (∀ W, Below w.heap.size w W → Calls Tryd.prog 15 #[.slice D nb cb] W fun e w' => e = .returned (.bool sb) ∧ W = w'))
    (T : Hid (∀ W, Below w.heap.size w W → Calls Tryd.prog 12 #[.slice A nl cl] W fun e w' => e = .returned (.bool tl) ∧ W = w')) :
    Calls Tryd.prog 5 #[.slice C na ca, .slice D nb cb, .slice A nl cl, .int .u32 wd] w fun e w' => e = .returned (.bool true) ∧ Below w.heap.size w w' := by
  cases sa with
  | false =>
    clear h S2 T
    go_enter Tryd.func5, Tryd.ntmps5
    go_wp2_with fail
    refine (HA.out).mono ?_
    rintro e w1 ⟨rfl, k1⟩
    have K1 := Lib.hid k1
    clear k1
    go_wp2_with fail
    refine (S1.out _ K1.out).mono ?_
    rintro e w' ⟨rfl, rfl⟩
    go_wp2
    go_ret
    exact ⟨rfl, K1.out⟩
  | true =>
    cases sb with
    | false =>
      clear h T
      go_enter Tryd.func5, Tryd.ntmps5
      go_wp2_with fail
      refine (HA.out).mono ?_
      rintro e w1 ⟨rfl, k1⟩
      have K1 := Lib.hid k1
      clear k1
      go_wp2_with fail
      refine (S1.out _ K1.out).mono ?_
      rintro e w' ⟨rfl, rfl⟩
      go_wp2_with fail
      refine (S2.out _ K1.out).mono ?_
      rintro e w' ⟨rfl, rfl⟩
      go_wp2
      go_ret
      exact ⟨rfl, K1.out⟩
    | true =>
      obtain rfl : tl = false := by simpa using h
      clear h
      go_enter Tryd.func5, Tryd.ntmps5
      go_wp2_with fail
      refine (HA.out).mono ?_
      rintro e w1 ⟨rfl, k1⟩
      have K1 := Lib.hid k1
      clear k1
      go_wp2_with fail
      refine (S1.out _ K1.out).mono ?_
      rintro e w' ⟨rfl, rfl⟩
      go_wp2_with fail
      refine (S2.out _ K1.out).mono ?_
      rintro e w' ⟨rfl, rfl⟩
      go_wp2_with fail
      refine (T.out _ K1.out).mono ?_
      rintro e w' ⟨rfl, rfl⟩
      go_wp2
      go_ret
      exact ⟨rfl, K1.out⟩
theorem parts_any (C D A : Option Addr) (ca cb cl wd : Nat) (la lb : List Mt) (l : List Lb.Lab) (w : World) (h5 : 5 ≤ w.heap.size) (hT : TzT w) (hU : Tabs w) (hC : OwnM w C ca la) (hD : OwnM w D cb lb) (hL : Lbs w A l)
    (ha : la.length ≤ 9223372036854775807) (hb : lb.length ≤ 9223372036854775807) (hl : l.length ≤ 9223372036854775807) (hwd : wd < 4294967296) :
    Calls Tryd.prog 5 #[.slice C la.length ca, .slice D lb.length cb, .slice A l.length cl, .int .u32 wd] w fun e w' => e = .returned (.bool true) ∧ Below w.heap.size w w' := by
  have HA := Lib.hid (mawake_any w h5 hT hU)
  have S1 := Lib.hid (fun W (hW : Below w.heap.size w W) => shortm_any C ca la W (hC.below hW).1 ha)
  have S2 := Lib.hid (fun W (hW : Below w.heap.size w W) => shortm_any D cb lb W (hD.below hW).1 hb)
  have T := Lib.hid (fun W (hW : Below w.heap.size w W) => tame_any A cl l W (hL.below hW) hl)
  by_cases h : shortM la = false ∨ shortM lb = false ∨ tameB l = false
  · exact parts_out C D A _ ca _ cb _ cl wd w _ _ _ h HA S1 S2 T
  · have e1 : shortM la = true := by cases hh : shortM la with | true => rfl | false => exact absurd (.inl hh) h
    have e2 : shortM lb = true := by cases hh : shortM lb with | true => rfl | false => exact absurd (.inr (.inl hh)) h
    have e3 : tameB l = true := by cases hh : tameB l with | true => rfl | false => exact absurd (.inr (.inr hh)) h
    have n1 : la.length ≤ 10 := by
      have := e1; unfold shortM at this; rw [Bool.and_eq_true] at this; exact of_decide_eq_true this.2
    have n2 : lb.length ≤ 10 := by
      have := e2; unfold shortM at this; rw [Bool.and_eq_true] at this; exact of_decide_eq_true this.2
    have n3 : l.length ≤ 40 := by
      have h := e3
      unfold tameB shortB at h
      rw [Bool.and_eq_true, Bool.and_eq_true] at h
      exact of_decide_eq_true h.2.2
    rw [e1] at S1
    rw [e2] at S2
    rw [e3] at T
    have hsz : ∀ {W : World}, Below w.heap.size w W → 5 ≤ W.heap.size := fun hW => by have := hW.size; omega
    refine parts_core C D A _ ca _ cb _ cl wd w la lb (fun i => (l.getD i Lb.e0).1) (allB la l) (allB lb l) (fun nm s => holdsF 1 nm ⟨s.toArray⟩ l) hwd n1 n2 n3 rfl rfl hC hD ?_ HA S1 S2 T ?_ ?_ ?_ ?_ ?_ ?_
    · intro h0
      obtain ⟨b, off, e, h1, h2⟩ := hL h0
      exact ⟨b, off, e, h1, fun i hi => (h2 i hi).1⟩
    · intro W X cx hW hX
      have := all_any X cx (la ++ lb) A cl l W (hsz hW) (hT.below hW) (hU.below (by omega) hW) hX (hL.below hW) (by rw [List.length_append]; omega) (by omega)
      rw [all_both, List.length_append] at this
      exact this
    · intro W hW
      exact all_any C ca la A cl l W (hsz hW) (hT.below hW) (hU.below (by omega) hW) (hC.below hW).1 (hL.below hW) (by omega) (by omega)
    · intro W hW
      exact all_any D cb lb A cl l W (hsz hW) (hT.below hW) (hU.below (by omega) hW) (hD.below hW).1 (hL.below hW) (by omega) (by omega)
    · intro W nm hW
      refine (rget_any A cl l nm W (hL.below hW) (by omega)).mono ?_
      rintro e w' ⟨rfl, rfl⟩
      exact ⟨_, by have := tameq_size nm e3; omega, rfl, rfl⟩
    · intro W nm s hW _ _
      exact holds_1 nm _ A cl l W (hsz hW) (hT.below hW) (hU.below (by omega) hW) (hL.below hW) (by omega)
    · intro W nm s hW hs hs2
      have := holds_3 nm ⟨s.toArray⟩ A cl l W (hsz hW) (hT.below hW) (hU.below (by omega) hW) (hL.below hW) (by omega)
      rw [like_is (word_of hs) (by rw [size_of0]; omega) (tameq_size nm e3)] at this
      exact this
end Go.Proofs.YtahphjaelpgjdaaDoor

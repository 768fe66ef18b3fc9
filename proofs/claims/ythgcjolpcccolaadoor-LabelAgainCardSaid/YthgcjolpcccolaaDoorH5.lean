import Derived.Test.YthgcjolpcccolaaDoorH4
import Derived.Test.YthgcjolpcccolaaDoorG2
namespace Go.Proofs.YthgcjolpcccolaaDoor
open Go.RowKit Lb
set_option linter.unusedVariables false

set_option maxHeartbeats 1000000 in
theorem again_walk (A : Option Addr) (ca : Nat) (l : List Lab) (w : World) (hA : Lbs w A l) (hl : l.length ≤ 9223372036854775807) (hL : Laid w) :
    Calls Tryd.prog 6 #[.slice A l.length ca] w fun e w' => e = .returned (.bool true) ∧ Below w.heap.size w w' := by
  have HW := Lib.hid (awake_any w hL)
  have h3 : 3 ≤ w.heap.size := hL.1.size
  cases h1 : shortB l with
  | false =>
    have S1 := Lib.hid (fun W (hW : Below w.heap.size w W) => short_is A ca l false h1 W (hA.below hW) hl)
    clear hA hL h1
    generalize l.length = n at *
    go_enter Tryd.func6, Tryd.ntmps6
    go_wp2_with fail
    refine (HW.out).mono ?_
    rintro e w1 ⟨rfl, k1⟩
    go_wp2_with fail
    refine (S1.out _ k1).mono ?_
    rintro e w' ⟨rfl, rfl⟩
    go_wp2
    go_ret
    exact ⟨rfl, k1⟩
  | true =>
    have S1 := Lib.hid (fun W (hW : Below w.heap.size w W) => short_is A ca l true h1 W (hA.below hW) hl)
    have la := short_len h1
    cases hm : makeF l with
    | none =>
      have M1 := Lib.hid (fun W (hW : Below w.heap.size w W) => make_no hm A ca W (hA.below hW) (hL.1.below h3 hW) (by omega))
      clear hA hL h1 hm
      generalize l.length = n at *
      go_enter Tryd.func6, Tryd.ntmps6
      go_wp2_with fail
      refine (HW.out).mono ?_
      rintro e w1 ⟨rfl, k1⟩
      go_wp2_with fail
      refine (S1.out _ k1).mono ?_
      rintro e w' ⟨rfl, rfl⟩
      go_wp2_with fail
      refine (M1.out _ k1).mono ?_
      rintro e w2 ⟨rfl, k2⟩
      go_wp2
      go_ret
      exact ⟨rfl, k1.trans (k2.mono k1.size)⟩
    | some o =>
      obtain ⟨f1, f2, f3, f4⟩ := made_facts hm
      have hag := made_again hm
      refine again_tail A ca l.length o o.length w h3 (Lib.hid rfl) f4 (Lib.hid fun i hi => getF_at o f3 i hi) (Lib.hid fun i hi => ?_) HW S1
        (Lib.hid fun W hW => make_yes hm A ca W (hA.below hW) (hL.1.below h3 hW) (by omega))
        (Lib.hid fun W B cb hW hB => make_yes hag B cb W hB (hL.1.below h3 hW) (by omega))
        (Lib.hid fun W B cb s hB => get_any B cb o s W hB (by omega))
        (Lib.hid fun W B cb C cc hB hC => ?_)
        (Lib.hid fun W B cb N cn hB hN => ?_) (Lib.hid fun W B cb hB => ?_) (Lib.hid fun W B cb N cn hB hN => ?_)
      · have : full (o.getD i e0) = true := f2 _ (by rw [show o.getD i e0 = o[i] by simp [hi]]; exact List.getElem_mem hi)
        simpa [full] using this
      · have := cmp_any B C cb cc o o W hB hC (by omega) (by omega)
        rw [cmpL_eq, cmpR_self] at this
        exact this
      · have := keep_any B N cb cn o (o.map (·.1)) W hB hN (by omega) (by simp; omega)
        rw [isIn_all, List.length_map] at this
        exact this
      · have := keep_any B none cb 0 o [] W hB (fun h => absurd h (by simp)) (by omega) (by simp)
        rw [isIn_none] at this
        exact this.mono fun e w' ⟨A', c, h1, _, h2⟩ => ⟨A', c, h1, h2⟩
      · have := drop_any B N cb cn o (o.map (·.1)) W hB hN (by omega) (by simp; omega)
        rw [isOut_all, List.length_map] at this
        exact this.mono fun e w' ⟨A', c, h1, _, h2⟩ => ⟨A', c, h1, h2⟩
end Go.Proofs.YthgcjolpcccolaaDoor

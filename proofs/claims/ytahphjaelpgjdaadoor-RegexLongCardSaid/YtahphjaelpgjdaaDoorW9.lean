import Derived.Test.YtahphjaelpgjdaaDoorW8
namespace Go.Proofs.YtahphjaelpgjdaaDoor
open Go.RowKit Rx
set_option linter.unusedVariables false

theorem CharPost.trans {b : Nat} {T F : Value} {l : ByteArray} {m : Mach} {o : Nat} {w w1 w' : World} {r : CR} {e : Ending} (h : Moves b T F w T F w1) (k : CharPost b T F l m o w1 r e w') : CharPost b T F l m o w r e w' := ⟨h.trans k.1, k.2⟩
set_option maxRecDepth 100000 in
set_option maxHeartbeats 4000000 in
theorem cchar_any (b a o : Nat) (T F : Value) (l : ByteArray) (m : Mach) (w : World) (hr : Rdr w b T F l m a o) (hl : l.size ≤ 200) (ha : a ≤ l.size) :
    Calls Tryd.prog 87 #[.pointer (some ⟨b, 0, none⟩)] w (CharPost b T F l m o w (ccharF l a)) := by
  have HS := Lib.hid (sees_is b a l ⟨#[93, 91, 94, 45]⟩ [93, 91, 94, 45] sg_cls w hl ha (rd_cells hr).2.2.1 (rd_cells hr).2.2.2.1)
  have HB := Lib.hid (fun n => bad_any b a (w.drewN n) (rd_cells (hr.drewN n)).2.2.2.1)
  have HC := Lib.hid (fun n => char_any b a o T F l m (w.drewN n) (hr.drewN n) hl ha)
  have HR := Lib.hid hr
  clear hr
  cases hs : seesAny l a [93, 91, 94, 45] with
  | true =>
    rw [hs] at HS
    have H1 : Hid (ccharF l a = .bad a) := if_pos hs
    clear hs
    go_enter Tryd.func87, Tryd.ntmps87
    go_wp2_with fail
    refine (HS.out).mono ?_
    rintro e w1 ⟨rfl, n, rfl⟩
    go_wp2_with fail
    refine (HB.out n).mono ?_
    rintro e w3 ⟨f, rfl, hbk, hbl⟩
    have HBK := Lib.hid hbk
    have HBL := Lib.hid hbl
    clear hbk hbl
    go_wp2
    go_ret2
    exact charPost_bad H1.out (((Moves.refl b T F w).drewN n).below HBL.out) ((HR.out.drewN n).below HBL.out) HBK.out
  | false =>
    rw [hs] at HS
    have H1 : Hid (ccharF l a = charF l a) := if_neg (by rw [hs]; simp)
    clear hs
    go_enter Tryd.func87, Tryd.ntmps87
    go_wp2_with fail
    refine (HS.out).mono ?_
    rintro e w1 ⟨rfl, n, rfl⟩
    have HM : Hid (Moves b T F w T F (w.drewN n)) := (Moves.refl b T F w).drewN n
    have HC1 := Lib.hid (HC.out n)
    clear HC HB HS
    generalize w.drewN n = W at *
    go_wp2_with fail
    refine (HC1.out).mono ?_
    rintro e w2 hp
    have HP := Lib.hid hp
    rw [← H1.out] at HP
    obtain ⟨hm, hp⟩ := hp
    clear HC1
    cases hc : charF l a with
    | bad pl =>
      rw [hc] at hp
      obtain ⟨err, rfl, hp⟩ := hp
      clear hp hc hm
      go_wp2
      go_ret2
      exact CharPost.trans HM.out HP.out
    | ok a1 c =>
      rw [hc] at hp
      obtain ⟨rfl, hp⟩ := hp
      clear hp hc hm
      go_wp2
      go_ret2
      exact CharPost.trans HM.out HP.out
end Go.Proofs.YtahphjaelpgjdaaDoor

import Derived.Test.YtahphjaelpgjdaaDoorW7
namespace Go.Proofs.YtahphjaelpgjdaaDoor
open Go.RowKit Rx
set_option linter.unusedVariables false

/-! a byte that stands for itself, or the one behind a backslash -/
def CharPost (b : Nat) (T F : Value) (l : ByteArray) (m : Mach) (o : Nat) (w : World) (r : CR) (e : Ending) (w' : World) : Prop :=
  Moves b T F w T F w' ∧ match r with
  | .bad pl => ∃ err, e = .returned (.tuple #[.int .u8 0, err]) ∧ ErrAt w' err pl 2 ∧ Rdr w' b T F l m pl o
  | .ok a c => e = .returned (.tuple #[.int .u8 c, .nilIface]) ∧ Rdr w' b T F l m a o
theorem charPost_bad {b : Nat} {T F : Value} {l : ByteArray} {m : Mach} {o : Nat} {w w' : World} {r : CR} {pl f : Nat} (hr : r = .bad pl) (hM : Moves b T F w T F w') (hR : Rdr w' b T F l m pl o) (hb : Blk w' f 74 #[.int .i64 pl, .iface 55 (.int .i64 2)]) :
    CharPost b T F l m o w r (.returned (.tuple #[.int .u8 0, .iface 70 (.pointer (some ⟨f, 0, none⟩))])) w' := by
  subst hr; exact ⟨hM, _, rfl, ⟨f, rfl, hb⟩, hR⟩
theorem charPost_ok {b : Nat} {T F : Value} {l : ByteArray} {m : Mach} {o : Nat} {w w' : World} {r : CR} {a c : Nat} {ci : Int} (hr : r = .ok a c) (hc : ci = c) (hM : Moves b T F w T F w') (hR : Rdr w' b T F l m a o) :
    CharPost b T F l m o w r (.returned (.tuple #[.int .u8 ci, .nilIface])) w' := by
  subst hr; subst hc; exact ⟨hM, rfl, hR⟩
theorem Rdr.drewN {w : World} {b : Nat} {T F : Value} {l : ByteArray} {m : Mach} {a o : Nat} (h : Rdr w b T F l m a o) (n : Nat) : Rdr (w.drewN n) b T F l m a o := h.below (below_drewN w n)
theorem foot_self (b : Nat) (T F : Value) : Foot b T F b := .inl rfl
set_option maxRecDepth 100000 in
set_option maxHeartbeats 4000000 in
theorem char_any (b a o : Nat) (T F : Value) (l : ByteArray) (m : Mach) (w : World) (hr : Rdr w b T F l m a o) (hl : l.size ≤ 200) (ha : a ≤ l.size) :
    Calls Tryd.prog 81 #[.pointer (some ⟨b, 0, none⟩)] w (CharPost b T F l m o w (charF l a)) := by
  have HF : Hid (∀ a1, a1 = (if sees l a 92 = true then a + 1 else a) → charF l a = if a1 < l.size then .ok (a1 + 1) (by_ l a1) else .bad a1) := fun a1 h => by subst h; rfl
  have HS := Lib.hid (sees_is b a l ⟨#[92]⟩ [92] sg_back w hl ha (rd_cells hr).2.2.1 (rd_cells hr).2.2.2.1)
  rw [sees_one] at HS
  have HE := Lib.hid (fun (a1 : Nat) (r : Bool) (h : decide ((a1 : Int) = (l.size : Int)) = r) W (hR : Rdr W b T F l m a1 o) => ended_any b a1 l r h W hl (rd_cells hR).2.2.1 (rd_cells hR).2.2.2.1)
  have HB := Lib.hid (fun (a1 : Nat) W (hR : Rdr W b T F l m a1 o) => bad_any b a1 W (rd_cells hR).2.2.2.1)
  have HR := Lib.hid hr
  clear hr
  cases hs : sees l a 92 with
  | true =>
    have hlt := sees_lt hs
    rw [hs] at HS HF
    have h1 := HF.out (a + 1) rfl
    have H1 := Lib.hid h1
    clear h1 HF hs
    go_enter Tryd.func81, Tryd.ntmps81
    go_wp2_with fail
    refine (HS.out).mono ?_
    rintro e w1 ⟨rfl, n, rfl⟩
    have q4 := (rd_cells (HR.out.drewN n)).2.2.2.1
    have qf := (HR.out.drewN n).blk.frozen 12
    go_wp2_with fail
    obtain ⟨a1, ha1⟩ : ∃ a1, a1 = a + 1 := ⟨_, rfl⟩
    have HW : Hid (Rdr ((w.drewN n).setCell ⟨b, 12, none⟩ (.int .i64 ((a : Int) + 1))) b T F l m a1 o) := (HR.out.drewN n).set_at a1 _ (by rw [ha1]; rfl)
    have HM : Hid (Moves b T F w T F ((w.drewN n).setCell ⟨b, 12, none⟩ (.int .i64 ((a : Int) + 1)))) := ((Moves.refl b T F w).drewN n).set_foot (foot_self b T F) 12 _
    rw [← ha1] at H1
    have hle : a1 ≤ l.size := by omega
    generalize (w.drewN n).setCell ⟨b, 12, none⟩ (.int .i64 ((a : Int) + 1)) = W at *
    clear q4 qf ha1
    by_cases hlt1 : a1 < l.size
    · have e1 := HE.out a1 false (by simp; omega) W HW.out
      have HE1 := Lib.hid e1
      have h2 : charF l a = .ok (a1 + 1) (by_ l a1) := H1.out.trans (if_pos hlt1)
      have H2 := Lib.hid h2
      have hby := by_eq l a1 hlt1
      have HBY := Lib.hid hby
      clear e1 h2 hby HE HB H1
      refine (HE1.out).mono ?_
      rintro e w2 ⟨rfl, n2, rfl⟩
      have HW2 := Lib.hid (HW.out.drewN n2)
      have HM2 := Lib.hid (HM.out.drewN n2)
      generalize W.drewN n2 = W2 at *
      clear HW HM
      have q3 := (rd_cells HW2.out).2.2.1
      have q4 := (rd_cells HW2.out).2.2.2.1
      have qf := HW2.out.blk.frozen 12
      go_wp2
      go_quiet (fail)
      go_wp2
      go_ret2
      refine charPost_ok H2.out ?_ ((HM2.out.drewN _).set_foot (foot_self b T F) 12 _) ((HW2.out.drewN _).set_at (a1 + 1) _ (by rfl))
      rw [← HBY.out]; try rfl
    · have hEq : a1 = l.size := by omega
      have e1 := HE.out a1 true (by simp; omega) W HW.out
      have HE1 := Lib.hid e1
      have h2 : charF l a = .bad a1 := H1.out.trans (if_neg hlt1)
      have H2 := Lib.hid h2
      clear e1 h2 HE H1 hEq
      refine (HE1.out).mono ?_
      rintro e w2 ⟨rfl, n2, rfl⟩
      have HB1 := Lib.hid (HB.out a1 _ (HW.out.drewN n2))
      clear HB
      go_wp2_with fail
      refine (HB1.out).mono ?_
      rintro e w3 ⟨f, rfl, hbk, hbl⟩
      have HBK := Lib.hid hbk
      have HBL := Lib.hid hbl
      clear hbk hbl
      go_wp2
      go_ret2
      exact charPost_bad H2.out ((HM.out.drewN n2).below HBL.out) ((HW.out.drewN n2).below HBL.out) HBK.out
  | false =>
    rw [hs] at HS HF
    have h1 := HF.out a rfl
    have H1 := Lib.hid h1
    clear h1 HF hs
    go_enter Tryd.func81, Tryd.ntmps81
    go_wp2_with fail
    refine (HS.out).mono ?_
    rintro e w1 ⟨rfl, n, rfl⟩
    have HW : Hid (Rdr (w.drewN n) b T F l m a o) := HR.out.drewN n
    have HM : Hid (Moves b T F w T F (w.drewN n)) := (Moves.refl b T F w).drewN n
    generalize w.drewN n = W at *
    go_wp2_with fail
    by_cases hlt1 : a < l.size
    · have e1 := HE.out (a) false (by simp; omega) W HW.out
      have HE1 := Lib.hid e1
      have h2 : charF l a = .ok (a + 1) (by_ l (a)) := H1.out.trans (if_pos hlt1)
      have H2 := Lib.hid h2
      have hby := by_eq l (a) hlt1
      have HBY := Lib.hid hby
      clear e1 h2 hby HE HB H1
      refine (HE1.out).mono ?_
      rintro e w2 ⟨rfl, n2, rfl⟩
      have HW2 := Lib.hid (HW.out.drewN n2)
      have HM2 := Lib.hid (HM.out.drewN n2)
      generalize W.drewN n2 = W2 at *
      clear HW HM
      have q3 := (rd_cells HW2.out).2.2.1
      have q4 := (rd_cells HW2.out).2.2.2.1
      have qf := HW2.out.blk.frozen 12
      go_wp2
      go_quiet (fail)
      go_wp2
      go_ret2
      refine charPost_ok H2.out ?_ ((HM2.out.drewN _).set_foot (foot_self b T F) 12 _) ((HW2.out.drewN _).set_at (a + 1) _ (by rfl))
      rw [← HBY.out]; try rfl
    · have hEq : a = l.size := by omega
      have e1 := HE.out (a) true (by simp; omega) W HW.out
      have HE1 := Lib.hid e1
      have h2 : charF l a = .bad (a) := H1.out.trans (if_neg hlt1)
      have H2 := Lib.hid h2
      clear e1 h2 HE H1 hEq
      refine (HE1.out).mono ?_
      rintro e w2 ⟨rfl, n2, rfl⟩
      have HB1 := Lib.hid (HB.out (a) _ (HW.out.drewN n2))
      clear HB
      go_wp2_with fail
      refine (HB1.out).mono ?_
      rintro e w3 ⟨f, rfl, hbk, hbl⟩
      have HBK := Lib.hid hbk
      have HBL := Lib.hid hbl
      clear hbk hbl
      go_wp2
      go_ret2
      exact charPost_bad H2.out ((HM.out.drewN n2).below HBL.out) ((HW.out.drewN n2).below HBL.out) HBK.out
end Go.Proofs.YtahphjaelpgjdaaDoor

/- label.Cmp and cmpElems, the world behind them told exactly; sorting elements by their labels. Conditions: few labels each. -/
import Derived.Test.YtencpjhpedenbaaGreatDoorG5
namespace Go.Proofs.YtencpjhpedenbaaGreatDoor
open Go.RowKit Lb
set_option linter.unusedVariables false
set_option linter.unusedSimpArgs false

/-- draws and new blocks alone -/
def Gw (w w' : World) : Prop := ∃ q os, w' = Sort.grow (w.drewN q) os
theorem Gw.refl (w : World) : Gw w w := ⟨0, #[], by rw [Sort.grow_empty]; rfl⟩
theorem grow_drewN (w : World) (os : Array Obj) (n : Nat) : (Sort.grow w os).drewN n = Sort.grow (w.drewN n) os := rfl
theorem Gw.drewN {w w' : World} (h : Gw w w') (n : Nat) : Gw w (w'.drewN n) := by
  obtain ⟨q, os, rfl⟩ := h
  exact ⟨q + n, os, by rw [grow_drewN, World.drewN_drewN]⟩
theorem Gw.drew {w w' : World} (h : Gw w w') : Gw w w'.drew := h.drewN 1
theorem Gw.alloc {w w' : World} (h : Gw w w') (o : Obj) : Gw w (w'.alloc o) := by
  obtain ⟨q, os, rfl⟩ := h
  exact ⟨q, os ++ #[o], by rw [Sort.alloc_eq_grow, Sort.grow_grow]⟩
theorem Gw.trans {a b c : World} (h : Gw a b) (k : Gw b c) : Gw a c := by
  obtain ⟨q, os, rfl⟩ := h
  obtain ⟨q2, os2, rfl⟩ := k
  exact ⟨q + q2, os ++ os2, by rw [grow_drewN, World.drewN_drewN, Sort.grow_grow]⟩
theorem Gw.below {w w' : World} (h : Gw w w') : Below w.heap.size w w' := by
  obtain ⟨q, os, rfl⟩ := h
  exact ⟨rfl, rfl, rfl, by rw [Sort.size_grow]; show w.heap.size ≤ w.heap.size + _; omega, fun i hi => Sort.heap_grow_old (w.drewN q) os hi⟩
theorem tag_gw (a b c d : ByteArray) (r : Int) (h : cmpT (a, b) (c, d) = r) (w : World) : Calls Tryz.prog 55 #[.agg #[.string a, .string b], .agg #[.string c, .string d]] w fun e w' => e = .returned (.int .i64 r) ∧ Below w.heap.size w w' ∧ Gw w w' := by
  subst h
  exact (tag_any a b c d w).mono fun e w' ⟨he, o, o', hw⟩ => ⟨he, by subst hw; exact ((Below.refl _ _).alloc (Nat.le_refl _) _).alloc (by simp) _, by subst hw; exact ((Gw.refl _).alloc _).alloc _⟩
set_option maxRecDepth 100000 in
set_option maxHeartbeats 2000000 in
theorem cmp_gw (A B : Option Addr) (ca cb : Nat) (a b : List Lab) (w : World) (hA : Lbs w A a) (hB : Lbs w B b) (ha : a.length ≤ 65536) (hb : b.length ≤ 65536) :
    Calls Tryz.prog 42 #[.slice A a.length ca, .slice B b.length cb] w fun e w' => e = .returned (.int .i64 (cmpL a b)) ∧ Gw w w' := by
  generalize hr : cmpL a b = r
  have HR := Lib.hid hr
  have HA := Lib.hid hA
  have HB := Lib.hid hB
  have HI := Lib.hid (fun w => compare_int (a.length : Int) (b.length : Int) w)
  clear hr hA hB
  generalize hna : a.length = na at *
  generalize hnb : b.length = nb at *
  have HNA := Lib.hid hna
  have HNB := Lib.hid hnb
  clear hna hnb
  have HR0 : Hid (cmpFrom a b (min na nb - 0) 0 = r) := by
    have := HR.out
    unfold cmpL at this
    rw [HNA.out, HNB.out] at this
    exact this
  clear HR
  go_enter Tryz.func42, Tryz.ntmps42
  go_wp2
  all_goals
    go_loopw [12] (fun i wr => ∃ k : Nat, k ≤ min na nb ∧ i = .int .i64 k ∧ Hid (Below w.heap.size w wr) ∧ Hid (Gw w wr) ∧ Hid (cmpFrom a b (min na nb - k) k = r)) (fun i _ => min na nb - (intOf i).toNat)
    case atStart => exact ⟨0, Nat.zero_le _, rfl, Below.refl _ _, Gw.refl _, HR0⟩
    case round =>
      obtain ⟨k, hk, rfl, HBel, HG, HC⟩ := hrel
      by_cases hlt : k < min na nb
      · have hka : k < a.length := by rw [HNA.out]; omega
        have hkb : k < b.length := by rw [HNB.out]; omega
        have hna : (k : Int) < (na : Int) := by omega
        have hnb : (k : Int) < (nb : Int) := by omega
        obtain ⟨ba, oa, rfl, hla, ga⟩ := HA.out (by omega)
        obtain ⟨bb, ob, rfl, hlb, gb⟩ := HB.out (by omega)
        have ha1 : wr.cell? ⟨ba, oa + k * 2, none⟩ = some (.string (a.getD k e0).1) := (HBel.out.cell (p := ⟨ba, oa + k * 2, none⟩) hla).trans (ga k hka).1
        have ha2 : wr.cell? ⟨ba, oa + k * 2 + 1, none⟩ = some (.string (a.getD k e0).2) := (HBel.out.cell (p := ⟨ba, oa + k * 2 + 1, none⟩) hla).trans (ga k hka).2
        have hb1 : wr.cell? ⟨bb, ob + k * 2, none⟩ = some (.string (b.getD k e0).1) := (HBel.out.cell (p := ⟨bb, ob + k * 2, none⟩) hlb).trans (gb k hkb).1
        have hb2 : wr.cell? ⟨bb, ob + k * 2 + 1, none⟩ = some (.string (b.getD k e0).2) := (HBel.out.cell (p := ⟨bb, ob + k * 2 + 1, none⟩) hlb).trans (gb k hkb).2
        clear ga gb
        have hstep := HC.out
        rw [show min na nb - k = (min na nb - (k + 1)) + 1 by omega, cmpFrom] at hstep
        generalize hcT : cmpT (a.getD k e0) (b.getD k e0) = c at hstep
        have HT2 := Lib.hid (fun w => tag_gw (a.getD k e0).1 (a.getD k e0).2 (b.getD k e0).1 (b.getD k e0).2 c hcT w)
        clear hcT
        generalize (a.getD k e0).1 = x1 at *
        generalize (a.getD k e0).2 = x2 at *
        generalize (b.getD k e0).1 = y1 at *
        generalize (b.getD k e0).2 = y2 at *
        by_cases hc : c = 0
        · subst hc
          rw [if_pos rfl] at hstep
          have HS := Lib.hid hstep
          clear hstep
          go_wp2_with fail
          go_still_tail 8, (by kernel_rfl)
          go_wp2_with fail
          refine (HT2.out _).mono ?_
          rintro e w1 ⟨rfl, hb3, hg3⟩
          go_wp2
          go_roundw
          case rel => exact ⟨k + 1, by omega, by go_num, (HBel.out.drew).trans (hb3.mono (by exact HBel.out.size)), HG.out.drew.trans hg3, HS⟩
          case measure => simp [intOf]; omega
        · rw [if_neg hc] at hstep
          subst hstep
          have hcb : (c != 0) = true := by simpa using hc
          go_wp2_with fail
          go_still_tail 8, (by kernel_rfl)
          go_wp2_with fail
          refine (HT2.out _).mono ?_
          rintro e w1 ⟨rfl, hb3, hg3⟩
          go_wp2
          go_ret
          exact ⟨rfl, HG.out.drew.trans hg3⟩
      · have hf : r = cmpI na nb := by
          have := HC.out
          rw [show min na nb - k = 0 by omega, cmpFrom, HNA.out, HNB.out] at this
          exact this.symm
        subst hf
        clear HC HR0
        go_wp2_with fail
        refine (HI.out _).mono ?_
        rintro e w1 ⟨rfl, rfl⟩
        go_wp2
        go_ret
        exact ⟨rfl, HG.out⟩

theorem cmp_gq (A B : Option Addr) (ca cb n m : Nat) (a b : List Lab) (r : Int) (hn : a.length = n) (hm : b.length = m) (h : cmpL a b = r) (w : World) (hA : Lbs w A a) (hB : Lbs w B b) (ha : n ≤ 65536) (hb : m ≤ 65536) :
    Calls Tryz.prog 42 #[.slice A n ca, .slice B m cb] w fun e w' => e = .returned (.int .i64 r) ∧ Gw w w' := by
  subst hn; subst hm; subst h
  exact cmp_gw A B ca cb a b w hA hB ha hb
set_option maxRecDepth 100000 in
set_option maxHeartbeats 2000000 in
theorem cmpe_any (A B : Option Addr) (ca cb n m : Nat) (a b : List Lab) (x y r : Int) (hn : a.length = n) (hm : b.length = m) (h : cmpL a b = r) (w : World) (hA : Lbs w A a) (hB : Lbs w B b) (ha : n ≤ 65536) (hb : m ≤ 65536) :
    Calls Tryz.prog 48 #[.agg #[.slice A n ca, .int .u64 x], .agg #[.slice B m cb, .int .u64 y]] w fun e w' => e = .returned (.int .i64 r) ∧ Gw w w' := by
  have HG := Lib.hid ((Gw.refl w).alloc (.cells #[.slice A n ca, .int .u64 x] 36) |>.alloc (.cells #[.slice B m cb, .int .u64 y] 36))
  have H := Lib.hid (cmp_gq A B ca cb n m a b r hn hm h _ (hA.below HG.out.below) (hB.below HG.out.below) ha hb)
  clear hA hB hn hm h
  go_enter Tryz.func48, Tryz.ntmps48
  go_wp2_with fail
  refine (H.out).mono ?_
  rintro e w1 ⟨rfl, hg⟩
  go_wp2
  go_ret
  exact ⟨rfl, HG.out.trans hg⟩
end Go.Proofs.YtencpjhpedenbaaGreatDoor

/- isWrapped, deeper: what they answer, as functions. No condition but that the kids lie in memory. -/
import Derived.Test.YtmodehfedhgcbaaGreatDoorQ3
import Derived.Deep.RegionWith
import Derived.Deep.DeepCutAuto
import Derived.Deep.CutBlock
import Derived.Deep.RegionHeld3
namespace Go.Proofs.YtmodehfedhgcbaaGreatDoor.Ck
open Go.RowKit
set_option linter.unusedVariables false
set_option linter.unusedSimpArgs false

set_option maxRecDepth 100000 in
set_option maxHeartbeats 2000000 in
theorem strength_at (h : Hd) (ks : List Tr) (w : World) :
    Calls Tryz.prog 64 #[valT (.mk h ks)] w fun e w' => e = .returned (.int .i64 (strengthF h.k h.o)) ∧ w.alloc (.cells (cellsT (.mk h ks)).toArray 66) = w' := by
  obtain ⟨r, hr⟩ : ∃ r, strengthF h.k h.o = r := ⟨_, rfl⟩
  rw [hr]
  obtain ⟨k, o, v, s, ma, mc, ms, wd, off, ha, tm, how, na, nc, ns, bo, ka, kc⟩ := h
  have HR := Lib.hid hr
  clear hr
  unfold valT cellsT
  go_enter Tryz.func64, Tryz.ntmps64
  go_wp2
  all_goals
    go_ret
    refine ⟨congrArg (fun x => Ending.returned (Value.int .i64 x)) ?_, rfl⟩
    have hr := HR.out
    unfold strengthF at hr
    clear HR
    simp only [bne_iff_ne, ne_eq, bne_eq_false_iff_eq] at *
    (split at hr) <;> (try split at hr) <;> (try split at hr) <;> omega
theorem strength_is (h : Hd) (ks : List Tr) (r : Int) (hr : strengthF h.k h.o = r) (w : World) :
    Calls Tryz.prog 64 #[valT (.mk h ks)] w fun e w' => e = .returned (.int .i64 r) ∧ w.alloc (.cells (cellsT (.mk h ks)).toArray 66) = w' := by
  subst hr; exact strength_at h ks w
/-- the thirteen cells of a part -/
def arr (h : Hd) (n : Nat) : Array Value := #[.int .i64 h.k, .int .i64 h.o, .int .u64 (h.v : Int), .string h.s, .slice h.ma h.ms.length h.mc, .int .i64 h.wd, .int .i64 h.off, .bool h.ha, .int .i64 h.tm, .int .i64 h.how, .slice h.na h.ns.length h.nc, .bool h.bo, .slice h.ka n h.kc]
theorem valT_arr (h : Hd) (ks : List Tr) : valT (.mk h ks) = .agg (arr h ks.length) := rfl
/-- the thirteen cells of a part, at a block's begin -/
abbrev C13 (W : World) (b : Nat) (h : Hd) (n : Nat) : Prop :=
  W.cell? ⟨b, 0, none⟩ = some (.int .i64 h.k) ∧ W.cell? ⟨b, 1, none⟩ = some (.int .i64 h.o) ∧ W.cell? ⟨b, 2, none⟩ = some (.int .u64 (h.v : Int)) ∧ W.cell? ⟨b, 3, none⟩ = some (.string h.s) ∧ W.cell? ⟨b, 4, none⟩ = some (.slice h.ma h.ms.length h.mc) ∧ W.cell? ⟨b, 5, none⟩ = some (.int .i64 h.wd) ∧ W.cell? ⟨b, 6, none⟩ = some (.int .i64 h.off) ∧ W.cell? ⟨b, 7, none⟩ = some (.bool h.ha) ∧ W.cell? ⟨b, 8, none⟩ = some (.int .i64 h.tm) ∧ W.cell? ⟨b, 9, none⟩ = some (.int .i64 h.how) ∧ W.cell? ⟨b, 10, none⟩ = some (.slice h.na h.ns.length h.nc) ∧ W.cell? ⟨b, 11, none⟩ = some (.bool h.bo) ∧ W.cell? ⟨b, 12, none⟩ = some (.slice h.ka n h.kc)
theorem C13.below {W W' : World} {b : Nat} {h : Hd} {n : Nat} (c : C13 W b h n) (hb : Below W.heap.size W W') (hlt : b < W.heap.size) : C13 W' b h n := by
  obtain ⟨c0, c1, c2, c3, c4, c5, c6, c7, c8, c9, c10, c11, c12⟩ := c
  exact ⟨(hb.cell (p := ⟨b, 0, none⟩) hlt).trans c0, (hb.cell (p := ⟨b, 1, none⟩) hlt).trans c1, (hb.cell (p := ⟨b, 2, none⟩) hlt).trans c2, (hb.cell (p := ⟨b, 3, none⟩) hlt).trans c3, (hb.cell (p := ⟨b, 4, none⟩) hlt).trans c4, (hb.cell (p := ⟨b, 5, none⟩) hlt).trans c5, (hb.cell (p := ⟨b, 6, none⟩) hlt).trans c6, (hb.cell (p := ⟨b, 7, none⟩) hlt).trans c7, (hb.cell (p := ⟨b, 8, none⟩) hlt).trans c8, (hb.cell (p := ⟨b, 9, none⟩) hlt).trans c9, (hb.cell (p := ⟨b, 10, none⟩) hlt).trans c10, (hb.cell (p := ⟨b, 11, none⟩) hlt).trans c11, (hb.cell (p := ⟨b, 12, none⟩) hlt).trans c12⟩
theorem c13_new (w : World) (h : Hd) (n : Nat) (t : TypeId) : C13 (w.alloc (.cells (arr h n) t)) w.heap.size h n := by
  refine ⟨?_, ?_, ?_, ?_, ?_, ?_, ?_, ?_, ?_, ?_, ?_, ?_, ?_⟩ <;> rw [World.cell?_alloc_at _ _ _ _ (by simp [arr])] <;> rfl
abbrev Two (W4 : World) (a b : Nat) (h g : Hd) (n m : Nat) (W : World) : Prop := (C13 W a h n ∧ C13 W b g m) ∧ Below W4.heap.size W4 W
theorem Two.step {W4 W W' : World} {a b : Nat} {h g : Hd} {n m : Nat} (t : Two W4 a b h g n m W) (hb : Below W.heap.size W W') (ha : a < W4.heap.size) (hB : b < W4.heap.size) : Two W4 a b h g n m W' :=
  ⟨⟨t.1.1.below hb (Nat.lt_of_lt_of_le ha t.2.size), t.1.2.below hb (Nat.lt_of_lt_of_le hB t.2.size)⟩, t.2.trans (hb.mono t.2.size)⟩
theorem Two.start {W4 : World} {a b : Nat} {h g : Hd} {n m : Nat} (t : Two W4 a b h g n m W4) : Two W4 a b h g n m W4.drew :=
  ⟨t.1, ⟨t.2.os, t.2.tape, t.2.output, t.2.size, t.2.block⟩⟩
set_option maxRecDepth 100000 in
set_option maxHeartbeats 4000000 in
theorem wrapped_any (h : Hd) (ks : List Tr) (i : Nat) (w : World) (hK : Trs w h.ka ks) (hi : i < ks.length) :
    Calls Tryz.prog 51 #[valT (.mk h ks), .int .i64 (i : Int)] w fun e w' => e = .returned (.bool (wrapF h i (ks.getD i t0))) ∧ Below w.heap.size w w' := by
  obtain ⟨b, off, hA, hb, hc⟩ := hK (by omega)
  cases ht : ks.getD i t0 with
  | mk g gs =>
    obtain ⟨c0, c1, c2, c3, c4, c5, c6, c7, c8, c9, c10, c11, c12⟩ := Trs.at hc hi ht
    obtain ⟨r, hr⟩ : ∃ r, wrapF h i (.mk g gs) = r := ⟨_, rfl⟩
    rw [hr]
    obtain ⟨x, hx⟩ : ∃ x, strengthF h.k h.o = x := ⟨_, rfl⟩
    obtain ⟨y, hy⟩ : ∃ y, strengthF g.k g.o = y := ⟨_, rfl⟩
    have hr2 : (if i = 0 then decide (y < x) else decide (y ≤ x)) = r := by rw [← hr, ← hx, ← hy]; rfl
    rw [valT_arr]
    have S1 := Lib.hid (fun W => (strength_is h ks x hx W).mono (fun e w' (p : _ ∧ _) => And.intro p.1 (show Below W.heap.size W w' from p.2 ▸ (Below.refl _ _).alloc (Nat.le_refl _) _)))
    have S2 := Lib.hid (fun W => (strength_is g gs y hy W).mono (fun e w' (p : _ ∧ _) => And.intro p.1 (show Below W.heap.size W w' from p.2 ▸ (Below.refl _ _).alloc (Nat.le_refl _) _)))
    have HR := Lib.hid hr2
    have hii : (i : Int) < (ks.length : Int) := by omega
    have h1 := c13_new w h ks.length 66
    have h2 := c13_new (w.alloc (.cells (arr h ks.length) 66)) g gs.length 66
    have hB4 : Below w.heap.size w ((w.alloc (.cells (arr h ks.length) 66)).alloc (.cells (arr g gs.length) 66)) := ((Below.refl _ _).alloc (Nat.le_refl _) _).alloc (by simp) _
    have Y : Hid (Two ((w.alloc (.cells (arr h ks.length) 66)).alloc (.cells (arr g gs.length) 66)) w.heap.size (w.heap.size + 1) h g ks.length gs.length ((w.alloc (.cells (arr h ks.length) 66)).alloc (.cells (arr g gs.length) 66))) :=
      ⟨⟨h1.below ((Below.refl _ _).alloc (Nat.le_refl _) _) (by simp), by rw [World.size_alloc] at h2; exact h2⟩, Below.refl _ _⟩
    have HB := Lib.hid hB4
    have hsz : ((w.alloc (.cells (arr h ks.length) 66)).alloc (.cells (arr g gs.length) 66)).heap.size = w.heap.size + 2 := by simp
    have HSZ := Lib.hid hsz
    clear hr hr2 hx hy hc ht hK h1 h2 hB4 hsz
    rw [valT_arr] at S1 S2
    unfold arr at *
    by_cases h0 : i = 0
    · have he : ((i : Int) == 0) = true := by simp; omega
      have hr3 : decide (y < x) = r := by have := HR.out; rwa [if_pos h0] at this
      clear h0 HR hi
      go_enter Tryz.func51, Tryz.ntmps51
      go_upto_region 3 with fail
      rw [← hA]
      clear c0 c1 c2 c3 c4 c5 c6 c7 c8 c9 c10 c11 c12 hA
      have ha4 : w.heap.size < ((w.alloc (.cells (arr h ks.length) 66)).alloc (.cells (arr g gs.length) 66)).heap.size := by simp; omega
      have hb4 : w.heap.size + 1 < ((w.alloc (.cells (arr h ks.length) 66)).alloc (.cells (arr g gs.length) 66)).heap.size := by simp
      unfold arr at ha4 hb4
      generalize (w.alloc (.cells _ 66)).alloc (.cells _ 66) = W4 at *
      clear HSZ
      go_region_held3 (fun W => Two W4 w.heap.size (w.heap.size + 1) h g ks.length gs.length W)
        (first | (exact Y.out.start) | (exact hS0.step hb5 ha4 hb4) | assumption)
        (first
          | (have hS0 := ‹Two W4 w.heap.size (w.heap.size + 1) h g ks.length gs.length _›
             (with_reducible refine (S1.out _).mono ?_)
             rintro e w' ⟨rfl, hb5⟩)
          | (have hS0 := ‹Two W4 w.heap.size (w.heap.size + 1) h g ks.length gs.length _›
             (with_reducible refine (S2.out _).mono ?_)
             rintro e w' ⟨rfl, hb5⟩))
      all_goals (
        have HBE := Lib.hid (HB.out.trans ((‹Two W4 w.heap.size (w.heap.size + 1) h g ks.length gs.length _›).2.mono HB.out.size))
        clear Y S1 S2
        go_wp2
        go_ret
        exact ⟨rfl, HBE.out⟩)
    · have he : ((i : Int) == 0) = false := by simp; omega
      have hr3 : decide (y ≤ x) = r := by have := HR.out; rwa [if_neg h0] at this
      clear h0 HR hi
      go_enter Tryz.func51, Tryz.ntmps51
      go_upto_region 4 with fail
      rw [← hA]
      clear c0 c1 c2 c3 c4 c5 c6 c7 c8 c9 c10 c11 c12 hA
      have ha4 : w.heap.size < ((w.alloc (.cells (arr h ks.length) 66)).alloc (.cells (arr g gs.length) 66)).heap.size := by simp; omega
      have hb4 : w.heap.size + 1 < ((w.alloc (.cells (arr h ks.length) 66)).alloc (.cells (arr g gs.length) 66)).heap.size := by simp
      unfold arr at ha4 hb4
      generalize (w.alloc (.cells _ 66)).alloc (.cells _ 66) = W4 at *
      clear HSZ
      go_region_held3 (fun W => Two W4 w.heap.size (w.heap.size + 1) h g ks.length gs.length W)
        (first | (exact Y.out.start) | (exact hS0.step hb5 ha4 hb4) | assumption)
        (first
          | (have hS0 := ‹Two W4 w.heap.size (w.heap.size + 1) h g ks.length gs.length _›
             (with_reducible refine (S1.out _).mono ?_)
             rintro e w' ⟨rfl, hb5⟩)
          | (have hS0 := ‹Two W4 w.heap.size (w.heap.size + 1) h g ks.length gs.length _›
             (with_reducible refine (S2.out _).mono ?_)
             rintro e w' ⟨rfl, hb5⟩))
      all_goals (
        have HBE := Lib.hid (HB.out.trans ((‹Two W4 w.heap.size (w.heap.size + 1) h g ks.length gs.length _›).2.mono HB.out.size))
        clear Y S1 S2
        go_wp2
        go_ret
        exact ⟨rfl, HBE.out⟩)
set_option maxRecDepth 100000 in
set_option maxHeartbeats 4000000 in
theorem deeper_any (h : Hd) (ks : List Tr) (i : Nat) (w : World) (hK : Trs w h.ka ks) (hi : i < ks.length) :
    Calls Tryz.prog 32 #[valT (.mk h ks), .int .i64 (i : Int)] w fun e w' => e = .returned (.int .i64 (deepF h ks.length i (ks.getD i t0) : Nat)) ∧ Below w.heap.size w w' := by
  obtain ⟨r, hr⟩ : ∃ r, deepF h ks.length i (ks.getD i t0) = r := ⟨_, rfl⟩
  rw [hr, valT_arr]
  obtain ⟨q, hq⟩ : ∃ q, wrapF h i (ks.getD i t0) = q := ⟨_, rfl⟩
  have HW := Lib.hid (wrapped_any h ks i (w.alloc (.cells (arr h ks.length) 66)) (hK.below ((Below.refl _ _).alloc (Nat.le_refl _) _)) hi)
  rw [hq, valT_arr] at HW
  have hB1 : Below w.heap.size w (w.alloc (.cells (arr h ks.length) 66)) := (Below.refl _ _).alloc (Nat.le_refl _) _
  have HB := Lib.hid hB1
  obtain ⟨b, off, hA, hb, hc⟩ := hK (by omega)
  have hii : (i : Int) < (ks.length : Int) := by omega
  cases ht : ks.getD i t0 with
  | mk g gs =>
    obtain ⟨c0, _, _, _, _, _, _, _, _, _, _, _, _⟩ := Trs.at hc hi ht
    have hr2 : (if h.k = 7 ∧ ks.length = 1 ∧ g.k = 6 then 2 else if h.k = 6 ∧ ks.length = 2 ∧ q = false then 0 else 1) = r := by rw [← hr, ← hq, ht]; rfl
    clear hr hq hc ht hK hB1 hi
    unfold arr at *
    rw [hA] at HW HB
    by_cases h7 : h.k = 7
    · have e7 : (h.k == 7) = true := by simp; omega
      have e6 : (h.k == 6) = false := by simp; omega
      by_cases hn : ks.length = 1
      · have n1 : ((ks.length : Int) == 1) = true := by simp; omega
        by_cases hg : g.k = 6
        · have g6 : (g.k == 6) = true := by simp; omega
          obtain rfl : 2 = r := by rw [if_pos ⟨h7, hn, hg⟩] at hr2; exact hr2
          clear h7 hn hg hr2
          go_enter Tryz.func32, Tryz.ntmps32
          go_wp2_with fail
          go_ret
          exact ⟨rfl, HB.out⟩
        · have g6 : (g.k == 6) = false := by simp; omega
          obtain rfl : 1 = r := by rw [if_neg (by omega), if_neg (by omega)] at hr2; exact hr2
          clear h7 hn hg hr2
          go_enter Tryz.func32, Tryz.ntmps32
          go_wp2_with fail
          go_ret
          exact ⟨rfl, HB.out⟩
      · have n1 : ((ks.length : Int) == 1) = false := by simp; omega
        obtain rfl : 1 = r := by rw [if_neg (by omega), if_neg (by omega)] at hr2; exact hr2
        clear h7 hn hr2
        go_enter Tryz.func32, Tryz.ntmps32
        go_wp2_with fail
        go_ret
        exact ⟨rfl, HB.out⟩
    · have e7 : (h.k == 7) = false := by simp; omega
      by_cases h6 : h.k = 6
      · have e6 : (h.k == 6) = true := by simp; omega
        by_cases hn : ks.length = 2
        · have n1 : ((ks.length : Int) == 2) = true := by simp; omega
          have hr3 : (if q = false then 0 else 1) = r := by
            rw [if_neg (fun x => h7 x.1)] at hr2
            rw [← hr2]
            cases q
            · rw [if_pos rfl, if_pos ⟨h6, hn, rfl⟩]
            · rw [if_neg (by simp), if_neg (fun x => by have := x.2.2; cases this)]
          clear h7 h6 hn hr2
          cases q with
          | false =>
            obtain rfl : 0 = r := hr3
            go_enter Tryz.func32, Tryz.ntmps32
            go_wp2_with (go_at_call 51; refine (HW.out).mono ?_; rintro e w2 ⟨rfl, hb2⟩; have HB2 := Lib.hid (HB.out.trans (hb2.mono HB.out.size)); clear hb2)
            go_ret
            exact ⟨rfl, HB2.out⟩
          | true =>
            obtain rfl : 1 = r := hr3
            go_enter Tryz.func32, Tryz.ntmps32
            go_wp2_with (go_at_call 51; refine (HW.out).mono ?_; rintro e w2 ⟨rfl, hb2⟩; have HB2 := Lib.hid (HB.out.trans (hb2.mono HB.out.size)); clear hb2)
            go_ret
            exact ⟨rfl, HB2.out⟩
        · have n1 : ((ks.length : Int) == 2) = false := by simp; omega
          obtain rfl : 1 = r := by rw [if_neg (by omega), if_neg (by omega)] at hr2; exact hr2
          clear h7 h6 hn hr2
          go_enter Tryz.func32, Tryz.ntmps32
          go_wp2_with fail
          go_ret
          exact ⟨rfl, HB.out⟩
      · have e6 : (h.k == 6) = false := by simp; omega
        obtain rfl : 1 = r := by rw [if_neg (by omega), if_neg (by omega)] at hr2; exact hr2
        clear h7 h6 hr2
        go_enter Tryz.func32, Tryz.ntmps32
        go_wp2_with fail
        go_ret
        exact ⟨rfl, HB.out⟩
end Go.Proofs.YtmodehfedhgcbaaGreatDoor.Ck

/- isWrapped, deeper: what they answer, as functions. No condition but that the kids lie in memory. -/
import Derived.Test.YticmkabafmmlhaaGreatDoorQ3j
import Derived.Deep.RegionWith
import Derived.Deep.DeepCutAuto
import Derived.Deep.CutBlock
import Derived.Deep.RegionHeld3
import Derived.Test.YticmkabafmmlhaaGreatDoorN3j
import Ieee.Arith
import Derived.Test.YticmkabafmmlhaaGreatDoorKLcj
import Derived.Deep.LoopGhost
set_option linter.unusedVariables false
set_option linter.unusedSimpArgs false
set_option maxRecDepth 100000
set_option maxHeartbeats 4000000
namespace Go.Proofs.YticmkabafmmlhaaGreatDoor.Ck
open Go.RowKit
open Lib (hid)
theorem strength_at (h : Hd) (ks : List Tr) (w : World) :
 Calls Tryz.prog 63 #[valT (.mk h ks)] w fun e w' => e = .returned (.int .i64 (strengthF h.k h.o)) ∧ w.alloc (.cells (cellsT (.mk h ks)).toArray 49) = w' := by
 obtain ⟨r, hr⟩ : ∃ r, strengthF h.k h.o = r := ⟨_, rfl⟩
 rw [hr]
 obtain ⟨k, o, v, s, ma, mc, ms, wd, off, ha, tm, how, na, nc, ns, bo, ka, kc⟩ := h
 have HR := hid hr
 clear hr
 unfold valT cellsT
 go_enter Tryz.func63, Tryz.ntmps63
 go_wp2
 all_goals
  go_ret
  refine ⟨congrArg (fun x => Ending.returned (Value.int .i64 x)) ?_, rfl⟩
  have hr := HR.out
  unfold strengthF at hr
  clear HR
  simp only [bne_iff_ne, ne_eq, bne_eq_false_iff_eq] at *
  (split at hr) <;> (try split at hr) <;> (try split at hr) <;> omega
theorem strength_is (h : Hd) (ks : List Tr) (r : Int) (hr : strengthF h.k h.o = r) (w : World) :
 Calls Tryz.prog 63 #[valT (.mk h ks)] w fun e w' => e = .returned (.int .i64 r) ∧ w.alloc (.cells (cellsT (.mk h ks)).toArray 49) = w' := by
 subst hr; exact strength_at h ks w
def arr (h : Hd) (n : Nat) : Array Value := #[.int .i64 h.k, .int .i64 h.o, .int .u64 (h.v : Int), .string h.s, .slice h.ma h.ms.length h.mc, .int .i64 h.wd, .int .i64 h.off, .bool h.ha, .int .i64 h.tm, .int .i64 h.how, .slice h.na h.ns.length h.nc, .bool h.bo, .slice h.ka n h.kc]
theorem valT_arr (h : Hd) (ks : List Tr) : valT (.mk h ks) = .agg (arr h ks.length) := rfl
abbrev C13 (W : World) (b : Nat) (h : Hd) (n : Nat) : Prop :=
 W.cell? ⟨b, 0, none⟩ = some (.int .i64 h.k) ∧ W.cell? ⟨b, 1, none⟩ = some (.int .i64 h.o) ∧ W.cell? ⟨b, 2, none⟩ = some (.int .u64 (h.v : Int)) ∧ W.cell? ⟨b, 3, none⟩ = some (.string h.s) ∧ W.cell? ⟨b, 4, none⟩ = some (.slice h.ma h.ms.length h.mc) ∧ W.cell? ⟨b, 5, none⟩ = some (.int .i64 h.wd) ∧ W.cell? ⟨b, 6, none⟩ = some (.int .i64 h.off) ∧ W.cell? ⟨b, 7, none⟩ = some (.bool h.ha) ∧ W.cell? ⟨b, 8, none⟩ = some (.int .i64 h.tm) ∧ W.cell? ⟨b, 9, none⟩ = some (.int .i64 h.how) ∧ W.cell? ⟨b, 10, none⟩ = some (.slice h.na h.ns.length h.nc) ∧ W.cell? ⟨b, 11, none⟩ = some (.bool h.bo) ∧ W.cell? ⟨b, 12, none⟩ = some (.slice h.ka n h.kc)
theorem C13.below {W W' : World} {b : Nat} {h : Hd} {n : Nat} (c : C13 W b h n) (hb : Below W.heap.size W W') (hlt : b < W.heap.size) : C13 W' b h n := by
 obtain ⟨c0, c1, c2, c3, c4, c5, c6, c7, c8, c9, c10, c11, c12⟩ := c
 exact ⟨(hb.cell (p := ⟨b, 0, none⟩) hlt).trans c0, (hb.cell (p := ⟨b, 1, none⟩) hlt).trans c1, (hb.cell (p := ⟨b, 2, none⟩) hlt).trans c2, (hb.cell (p := ⟨b, 3, none⟩) hlt).trans c3, (hb.cell (p := ⟨b, 4, none⟩) hlt).trans c4, (hb.cell (p := ⟨b, 5, none⟩) hlt).trans c5, (hb.cell (p := ⟨b, 6, none⟩) hlt).trans c6, (hb.cell (p := ⟨b, 7, none⟩) hlt).trans c7, (hb.cell (p := ⟨b, 8, none⟩) hlt).trans c8, (hb.cell (p := ⟨b, 9, none⟩) hlt).trans c9, (hb.cell (p := ⟨b, 10, none⟩) hlt).trans c10, (hb.cell (p := ⟨b, 11, none⟩) hlt).trans c11, (hb.cell (p := ⟨b, 12, none⟩) hlt).trans c12⟩
theorem c13_new (w : World) (h : Hd) (n : Nat) (t : TypeId) : C13 (w.alloc (.cells (arr h n) t)) w.heap.size h n := by
 refine ⟨?_, ?_, ?_, ?_, ?_, ?_, ?_, ?_, ?_, ?_, ?_, ?_, ?_⟩ <;> rw [World.cell?_alloc_at _ _ _ _ (by simp [arr])] <;> rfl
abbrev KC (W : World) (b o : Nat) (h : Hd) (n : Nat) : Prop :=
 W.cell? ⟨b, o, none⟩ = some (.int .i64 h.k) ∧ W.cell? ⟨b, o + 1, none⟩ = some (.int .i64 h.o) ∧ W.cell? ⟨b, o + 2, none⟩ = some (.int .u64 (h.v : Int)) ∧ W.cell? ⟨b, o + 3, none⟩ = some (.string h.s) ∧ W.cell? ⟨b, o + 4, none⟩ = some (.slice h.ma h.ms.length h.mc) ∧ W.cell? ⟨b, o + 5, none⟩ = some (.int .i64 h.wd) ∧ W.cell? ⟨b, o + 6, none⟩ = some (.int .i64 h.off) ∧ W.cell? ⟨b, o + 7, none⟩ = some (.bool h.ha) ∧ W.cell? ⟨b, o + 8, none⟩ = some (.int .i64 h.tm) ∧ W.cell? ⟨b, o + 9, none⟩ = some (.int .i64 h.how) ∧ W.cell? ⟨b, o + 10, none⟩ = some (.slice h.na h.ns.length h.nc) ∧ W.cell? ⟨b, o + 11, none⟩ = some (.bool h.bo) ∧ W.cell? ⟨b, o + 12, none⟩ = some (.slice h.ka n h.kc)
theorem KC.below {W W' : World} {b o : Nat} {h : Hd} {n : Nat} (c : KC W b o h n) (hb : Below W.heap.size W W') (hlt : b < W.heap.size) : KC W' b o h n := by
 obtain ⟨c0, c1, c2, c3, c4, c5, c6, c7, c8, c9, c10, c11, c12⟩ := c
 exact ⟨(hb.cell (p := ⟨b, o, none⟩) hlt).trans c0, (hb.cell (p := ⟨b, o + 1, none⟩) hlt).trans c1, (hb.cell (p := ⟨b, o + 2, none⟩) hlt).trans c2, (hb.cell (p := ⟨b, o + 3, none⟩) hlt).trans c3, (hb.cell (p := ⟨b, o + 4, none⟩) hlt).trans c4, (hb.cell (p := ⟨b, o + 5, none⟩) hlt).trans c5, (hb.cell (p := ⟨b, o + 6, none⟩) hlt).trans c6, (hb.cell (p := ⟨b, o + 7, none⟩) hlt).trans c7, (hb.cell (p := ⟨b, o + 8, none⟩) hlt).trans c8, (hb.cell (p := ⟨b, o + 9, none⟩) hlt).trans c9, (hb.cell (p := ⟨b, o + 10, none⟩) hlt).trans c10, (hb.cell (p := ⟨b, o + 11, none⟩) hlt).trans c11, (hb.cell (p := ⟨b, o + 12, none⟩) hlt).trans c12⟩
theorem Trs.kc {w : World} {b off : Nat} {l : List Tr} {i : Nat} (hc : ∀ i, i < l.length → ∀ j x, (cellsT (l.getD i t0))[j]? = some x → w.cell? ⟨b, off + i * 13 + j, none⟩ = some x) (hi : i < l.length) {h : Hd} {ks : List Tr} (ht : l.getD i t0 = .mk h ks) : KC w b (off + i * 13) h ks.length := Trs.at hc hi ht
abbrev Two (W4 : World) (a b : Nat) (h g : Hd) (n m : Nat) (W : World) : Prop := (C13 W a h n ∧ C13 W b g m) ∧ Below W4.heap.size W4 W
theorem Two.step {W4 W W' : World} {a b : Nat} {h g : Hd} {n m : Nat} (t : Two W4 a b h g n m W) (hb : Below W.heap.size W W') (ha : a < W4.heap.size) (hB : b < W4.heap.size) : Two W4 a b h g n m W' :=
 ⟨⟨t.1.1.below hb (Nat.lt_of_lt_of_le ha t.2.size), t.1.2.below hb (Nat.lt_of_lt_of_le hB t.2.size)⟩, t.2.trans (hb.mono t.2.size)⟩
theorem Two.start {W4 : World} {a b : Nat} {h g : Hd} {n m : Nat} (t : Two W4 a b h g n m W4) : Two W4 a b h g n m W4.drew :=
 ⟨t.1, ⟨t.2.os, t.2.tape, t.2.output, t.2.size, t.2.block⟩⟩
theorem wrapped_any (h : Hd) (ks : List Tr) (i : Nat) (w : World) (hK : Trs w h.ka ks) (hi : i < ks.length) :
 Calls Tryz.prog 37 #[valT (.mk h ks), .int .i64 (i : Int)] w fun e w' => e = .returned (.bool (wrapF h i (ks.getD i t0))) ∧ Below w.heap.size w w' := by
 obtain ⟨b, off, hA, hb, hc⟩ := hK (by omega)
 cases ht : ks.getD i t0 with
 | mk g gs =>
   obtain ⟨c0, c1, c2, c3, c4, c5, c6, c7, c8, c9, c10, c11, c12⟩ := Trs.at hc hi ht
   obtain ⟨r, hr⟩ : ∃ r, wrapF h i (.mk g gs) = r := ⟨_, rfl⟩
   rw [hr]
   obtain ⟨x, hx⟩ : ∃ x, strengthF h.k h.o = x := ⟨_, rfl⟩
   obtain ⟨y, hy⟩ : ∃ y, strengthF g.k g.o = y := ⟨_, rfl⟩
   have hr2 : (if i = 0 then decide (y < x) else decide (y ≤ x)) = r := by rw [← hr, ← hx, ← hy]; rfl
   rw [valT_arr]
   have S1 := hid (fun W => (strength_is h ks x hx W).mono (fun e w' (p : _ ∧ _) => And.intro p.1 (show Below W.heap.size W w' from p.2 ▸ (Below.refl _ _).alloc (Nat.le_refl _) _)))
   have S2 := hid (fun W => (strength_is g gs y hy W).mono (fun e w' (p : _ ∧ _) => And.intro p.1 (show Below W.heap.size W w' from p.2 ▸ (Below.refl _ _).alloc (Nat.le_refl _) _)))
   have HR := hid hr2
   have hii : (i : Int) < (ks.length : Int) := by omega
   have h1 := c13_new w h ks.length 49
   have h2 := c13_new (w.alloc (.cells (arr h ks.length) 49)) g gs.length 49
   have hB4 : Below w.heap.size w ((w.alloc (.cells (arr h ks.length) 49)).alloc (.cells (arr g gs.length) 49)) := ((Below.refl _ _).alloc (Nat.le_refl _) _).alloc (by simp) _
   have Y : Hid (Two ((w.alloc (.cells (arr h ks.length) 49)).alloc (.cells (arr g gs.length) 49)) w.heap.size (w.heap.size + 1) h g ks.length gs.length ((w.alloc (.cells (arr h ks.length) 49)).alloc (.cells (arr g gs.length) 49))) :=
    ⟨⟨h1.below ((Below.refl _ _).alloc (Nat.le_refl _) _) (by simp), by rw [World.size_alloc] at h2; exact h2⟩, Below.refl _ _⟩
   have HB := hid hB4
   have hsz : ((w.alloc (.cells (arr h ks.length) 49)).alloc (.cells (arr g gs.length) 49)).heap.size = w.heap.size + 2 := by simp
   have HSZ := hid hsz
   clear hr hr2 hx hy hc ht hK h1 h2 hB4 hsz
   rw [valT_arr] at S1 S2
   unfold arr at *
   by_cases h0 : i = 0
   · have he : ((i : Int) == 0) = true := by simp; omega
     have hr3 : decide (y < x) = r := by have := HR.out; rwa [if_pos h0] at this
     clear h0 HR hi
     go_enter Tryz.func37, Tryz.ntmps37
     go_upto_region 3 with fail
     rw [← hA]
     clear c0 c1 c2 c3 c4 c5 c6 c7 c8 c9 c10 c11 c12 hA
     have ha4 : w.heap.size < ((w.alloc (.cells (arr h ks.length) 49)).alloc (.cells (arr g gs.length) 49)).heap.size := by simp; omega
     have hb4 : w.heap.size + 1 < ((w.alloc (.cells (arr h ks.length) 49)).alloc (.cells (arr g gs.length) 49)).heap.size := by simp
     unfold arr at ha4 hb4
     generalize (w.alloc (.cells _ 49)).alloc (.cells _ 49) = W4 at *
     clear HSZ
     go_region_held3 (fun W => Two W4 w.heap.size (w.heap.size + 1) h g ks.length gs.length W)
      (first | (exact Y.out.start) | (exact hS0.step hb5 ha4 hb4) | assumption)
      (first
        | (have hS0 := ‹Two W4 w.heap.size (w.heap.size + 1) h g ks.length gs.length _›
           (with_reducible refine (S1.out _).mono ?_)
           rintro e w' ⟨rfl, hb5⟩)
        | (have hS0 := ‹Two W4 w.heap.size (w.heap.size + 1) h g ks.length gs.length _›
           (with_reducible refine (S2.out _).mono ?_)
           rintro e w' ⟨rfl, hb5⟩))
     all_goals (
      have HBE := hid (HB.out.trans ((‹Two W4 w.heap.size (w.heap.size + 1) h g ks.length gs.length _›).2.mono HB.out.size))
      clear Y S1 S2
      go_wp2
      go_ret
      exact ⟨rfl, HBE.out⟩)
   · have he : ((i : Int) == 0) = false := by simp; omega
     have hr3 : decide (y ≤ x) = r := by have := HR.out; rwa [if_neg h0] at this
     clear h0 HR hi
     go_enter Tryz.func37, Tryz.ntmps37
     go_upto_region 4 with fail
     rw [← hA]
     clear c0 c1 c2 c3 c4 c5 c6 c7 c8 c9 c10 c11 c12 hA
     have ha4 : w.heap.size < ((w.alloc (.cells (arr h ks.length) 49)).alloc (.cells (arr g gs.length) 49)).heap.size := by simp; omega
     have hb4 : w.heap.size + 1 < ((w.alloc (.cells (arr h ks.length) 49)).alloc (.cells (arr g gs.length) 49)).heap.size := by simp
     unfold arr at ha4 hb4
     generalize (w.alloc (.cells _ 49)).alloc (.cells _ 49) = W4 at *
     clear HSZ
     go_region_held3 (fun W => Two W4 w.heap.size (w.heap.size + 1) h g ks.length gs.length W)
      (first | (exact Y.out.start) | (exact hS0.step hb5 ha4 hb4) | assumption)
      (first
        | (have hS0 := ‹Two W4 w.heap.size (w.heap.size + 1) h g ks.length gs.length _›
           (with_reducible refine (S1.out _).mono ?_)
           rintro e w' ⟨rfl, hb5⟩)
        | (have hS0 := ‹Two W4 w.heap.size (w.heap.size + 1) h g ks.length gs.length _›
           (with_reducible refine (S2.out _).mono ?_)
           rintro e w' ⟨rfl, hb5⟩))
     all_goals (
      have HBE := hid (HB.out.trans ((‹Two W4 w.heap.size (w.heap.size + 1) h g ks.length gs.length _›).2.mono HB.out.size))
      clear Y S1 S2
      go_wp2
      go_ret
      exact ⟨rfl, HBE.out⟩)
theorem deeper_any (h : Hd) (ks : List Tr) (i : Nat) (w : World) (hK : Trs w h.ka ks) (hi : i < ks.length) :
 Calls Tryz.prog 19 #[valT (.mk h ks), .int .i64 (i : Int)] w fun e w' => e = .returned (.int .i64 (deepF h ks.length i (ks.getD i t0) : Nat)) ∧ Below w.heap.size w w' := by
 obtain ⟨r, hr⟩ : ∃ r, deepF h ks.length i (ks.getD i t0) = r := ⟨_, rfl⟩
 rw [hr, valT_arr]
 obtain ⟨q, hq⟩ : ∃ q, wrapF h i (ks.getD i t0) = q := ⟨_, rfl⟩
 have HW := hid (wrapped_any h ks i (w.alloc (.cells (arr h ks.length) 49)) (hK.below ((Below.refl _ _).alloc (Nat.le_refl _) _)) hi)
 rw [hq, valT_arr] at HW
 have hB1 : Below w.heap.size w (w.alloc (.cells (arr h ks.length) 49)) := (Below.refl _ _).alloc (Nat.le_refl _) _
 have HB := hid hB1
 obtain ⟨b, off, hA, hb, hc⟩ := hK (by omega)
 have hii : (i : Int) < (ks.length : Int) := by omega
 cases ht : ks.getD i t0 with
 | mk g gs =>
   obtain ⟨c0, _, _, _, _, _, _, _, _, _, _, _, _⟩ := Trs.at hc hi ht
   have hr2 : (if h.k = 7 ∧ ks.length = 1 ∧ g.k = 6 then 2 else if h.k = 6 ∧ ks.length = 2 ∧ q = false then 0 else 1) = r := by rw [← hr, ← hq, ht]; rfl
   clear hr hq hc ht hK hB1 hi
   unfold arr at *
   rw [hA] at HW HB
   by_cases h7 : h.k = 7
   · have e7 : (h.k == 7) = true := by simp; omega
     have e6 : (h.k == 6) = false := by simp; omega
     by_cases hn : ks.length = 1
     · have n1 : ((ks.length : Int) == 1) = true := by simp; omega
       by_cases hg : g.k = 6
       · have g6 : (g.k == 6) = true := by simp; omega
         obtain rfl : 2 = r := by rw [if_pos ⟨h7, hn, hg⟩] at hr2; exact hr2
         clear h7 hn hg hr2
         go_enter Tryz.func19, Tryz.ntmps19
         go_wp2_with fail
         go_ret
         exact ⟨rfl, HB.out⟩
       · have g6 : (g.k == 6) = false := by simp; omega
         obtain rfl : 1 = r := by rw [if_neg (by omega), if_neg (by omega)] at hr2; exact hr2
         clear h7 hn hg hr2
         go_enter Tryz.func19, Tryz.ntmps19
         go_wp2_with fail
         go_ret
         exact ⟨rfl, HB.out⟩
     · have n1 : ((ks.length : Int) == 1) = false := by simp; omega
       obtain rfl : 1 = r := by rw [if_neg (by omega), if_neg (by omega)] at hr2; exact hr2
       clear h7 hn hr2
       go_enter Tryz.func19, Tryz.ntmps19
       go_wp2_with fail
       go_ret
       exact ⟨rfl, HB.out⟩
   · have e7 : (h.k == 7) = false := by simp; omega
     by_cases h6 : h.k = 6
     · have e6 : (h.k == 6) = true := by simp; omega
       by_cases hn : ks.length = 2
       · have n1 : ((ks.length : Int) == 2) = true := by simp; omega
         have hr3 : (if q = false then 0 else 1) = r := by
          rw [if_neg (fun x => h7 x.1)] at hr2
          rw [← hr2]
          cases q
          · rw [if_pos rfl, if_pos ⟨h6, hn, rfl⟩]
          · rw [if_neg (by simp), if_neg (fun x => by have := x.2.2; cases this)]
         clear h7 h6 hn hr2
         cases q with
         | false =>
           obtain rfl : 0 = r := hr3
           go_enter Tryz.func19, Tryz.ntmps19
           go_wp2_with (go_at_call 37; refine (HW.out).mono ?_; rintro e w2 ⟨rfl, hb2⟩; have HB2 := hid (HB.out.trans (hb2.mono HB.out.size)); clear hb2)
           go_ret
           exact ⟨rfl, HB2.out⟩
         | true =>
           obtain rfl : 1 = r := hr3
           go_enter Tryz.func19, Tryz.ntmps19
           go_wp2_with (go_at_call 37; refine (HW.out).mono ?_; rintro e w2 ⟨rfl, hb2⟩; have HB2 := hid (HB.out.trans (hb2.mono HB.out.size)); clear hb2)
           go_ret
           exact ⟨rfl, HB2.out⟩
       · have n1 : ((ks.length : Int) == 2) = false := by simp; omega
         obtain rfl : 1 = r := by rw [if_neg (by omega), if_neg (by omega)] at hr2; exact hr2
         clear h7 h6 hn hr2
         go_enter Tryz.func19, Tryz.ntmps19
         go_wp2_with fail
         go_ret
         exact ⟨rfl, HB.out⟩
     · have e6 : (h.k == 6) = false := by simp; omega
       obtain rfl : 1 = r := by rw [if_neg (by omega), if_neg (by omega)] at hr2; exact hr2
       clear h7 h6 hr2
       go_enter Tryz.func19, Tryz.ntmps19
       go_wp2_with fail
       go_ret
       exact ⟨rfl, HB.out⟩
end Go.Proofs.YticmkabafmmlhaaGreatDoor.Ck

set_option linter.unusedVariables false
set_option linter.unusedSimpArgs false
set_option maxRecDepth 100000
set_option maxHeartbeats 4000000
namespace Go.Proofs.YticmkabafmmlhaaGreatDoor.Ck
open Go.RowKit Ieee
open Lib (hid)
def noneB (v : Nat) : Bool := (v / 4503599627370496 % 2048 == 2047) && (v % 4503599627370496 != 0)
theorem order_self (v : Nat) (hv : v < 18446744073709551616) : (double.order v v == some .eq) = !noneB v := by
 have b1 : double.binade = 4503599627370496 := by decide
 have b2 : double.infRung = 9218868437227405312 := by decide
 have b3 : double.signWeight = 9223372036854775808 := by decide
 unfold Format.order
 unfold Format.read
 rw [b1, b2, b3]
 dsimp only
 have hn : noneB v = decide (9218868437227405312 < v % 9223372036854775808) := by
  unfold noneB
  rw [Bool.eq_iff_iff]
  simp only [Bool.and_eq_true, beq_iff_eq, bne_iff_ne, decide_eq_true_eq]
  omega
 rw [hn]
 by_cases h1 : v % 9223372036854775808 < 4503599627370496
 · rw [if_pos h1, decide_eq_false (by omega)]
   simp [Datum.order]
 · rw [if_neg h1]
   by_cases h2 : v % 9223372036854775808 < 9218868437227405312
   · rw [if_pos h2, decide_eq_false (by omega)]
     simp [Datum.order]
   · rw [if_neg h2]
     by_cases h3 : v % 9223372036854775808 = 9218868437227405312
     · rw [if_pos h3, decide_eq_false (by omega)]
       simp [Datum.order]
     · rw [if_neg h3, decide_eq_true (by omega)]
       simp [Datum.order]
theorem order_none (v : Nat) : double.order v 9221120237041090561 = none := by
 unfold Format.order
 obtain ⟨a, b, h⟩ : ∃ a b, double.read 9221120237041090561 = .nan a b := ⟨false, 2251799813685249, by decide +kernel⟩
 rw [h]
 cases double.read v <;> rfl
theorem frombits (n : Nat) (w : World) : (callFunc 66 #[.int .u64 (n : Int)]).run Tryz.prog w = .ok (.value (.float .f64 n)) w := by kernel_rfl
theorem isnum_any (x : Nat) (r : Bool) (h : (double.order x x == some .eq) = r) (w : World) : Calls Tryz.prog 86 #[.float .f64 x] w fun e w' => e = .returned (.bool r) ∧ w = w' := by
 have h' : (FloatKind.f64.format.order x x == some .eq) = r := h
 clear h
 go_enter Tryz.func86, Tryz.ntmps86
 go_wp2
 go_ret
 exact ⟨rfl, rfl⟩
theorem cmp_none (x : Nat) (nx : Bool) (h3 : (double.order x x == some .eq) = nx) (w : World) :
 Calls Tryz.prog 64 #[.int .u64 (x : Int), .int .u64 9221120237041090561] w fun e w' => e = .returned (.int .i64 (if nx = true then 1 else 0)) ∧ w = w' := by
 have HX := hid (fun W => isnum_any x nx h3 W)
 have HY := hid (fun W => isnum_any 9221120237041090561 false (by decide +kernel) W)
 have hbx := fun w => frombits x w
 have hby : ∀ w, (callFunc 66 #[.int .u64 9221120237041090561]).run Tryz.prog w = .ok (.value (.float .f64 9221120237041090561)) w := fun w => frombits 9221120237041090561 w
 have h1' : (FloatKind.f64.format.order x 9221120237041090561 == some .lt) = false := by
  show (double.order x 9221120237041090561 == some .lt) = false
  rw [order_none]; rfl
 have h2' : (FloatKind.f64.format.order x 9221120237041090561 == some .gt) = false := by
  show (double.order x 9221120237041090561 == some .gt) = false
  rw [order_none]; rfl
 clear h3
 cases nx
 all_goals
  go_enter Tryz.func64, Tryz.ntmps64
  go_wp2_with (first | (go_at_call_of 86 (Value.float FloatKind.f64 x); refine (HX.out _).mono ?_; rintro e w1 ⟨rfl, rfl⟩) | (go_at_call_of 86 (Value.float FloatKind.f64 9221120237041090561); refine (HY.out _).mono ?_; rintro e w1 ⟨rfl, rfl⟩))
  go_ret
  exact ⟨rfl, rfl⟩
theorem tobits (n : Nat) (w : World) : (callFunc 87 #[.float .f64 n]).run Tryz.prog w = .ok (.value (.int .u64 (n : Int))) w := by kernel_rfl
theorem signbit_any (x : Nat) (hx : x < 18446744073709551616) (w : World) : Calls Tryz.prog 65 #[.float .f64 x] w fun e w' => e = .returned (.bool (decide (9223372036854775808 ≤ x))) ∧ w = w' := by
 obtain ⟨r, hr⟩ : ∃ r, decide (9223372036854775808 ≤ x) = r := ⟨_, rfl⟩
 rw [hr]
 have hb := fun w => tobits x w
 have HR := hid hr
 clear hr
 go_enter Tryz.func65, Tryz.ntmps65
 go_wp2
 go_ret
 refine ⟨congrArg (fun x => Ending.returned (Value.bool x)) ?_, rfl⟩
 rw [← HR.out, Bool.eq_iff_iff, decide_eq_true_eq, decide_eq_true_eq]
 unfold wrap64
 omega
theorem signbit_is (x : Nat) (hx : x < 18446744073709551616) (r : Bool) (h : decide (9223372036854775808 ≤ x) = r) (w : World) : Calls Tryz.prog 65 #[.float .f64 x] w fun e w' => e = .returned (.bool r) ∧ w = w' := by
 subst h; exact signbit_any x hx w
theorem bare_is {k o : Int} {v : Nat} {s : ByteArray} {mp : Option Addr} {nm mc : Nat} {wd off : Int} {ha : Bool} {tm how : Int} {np : Option Addr} {nn nc : Nat} {bo : Bool} {kp : Option Addr} {nk kc : Nat} {r : Bool} (h : bareF o v s nm wd off ha tm how nn bo nk = r) (w : World) :
 Calls Tryz.prog 67 #[exV k o v s (.slice mp nm mc) wd off ha tm how (.slice np nn nc) bo (.slice kp nk kc)] w fun e w' => e = .returned (.bool r) ∧ Below w.heap.size w w' := by
 subst h; exact bare_any k o v s mp nm mc wd off ha tm how np nn nc bo kp nk kc w
def lessF (h : Hd) (n : Nat) : Bool := decide (n = 1) && bareF h.o h.v h.s h.ms.length h.wd h.off h.ha h.tm h.how h.ns.length h.bo 0
theorem less_any (h : Hd) (ks : List Tr) (w : World) : Calls Tryz.prog 44 #[valT (.mk h ks)] w fun e w' => e = .returned (.bool (lessF h ks.length)) ∧ Below w.heap.size w w' := by
 obtain ⟨b, hb⟩ : ∃ b, bareF h.o h.v h.s h.ms.length h.wd h.off h.ha h.tm h.how h.ns.length h.bo 0 = b := ⟨_, rfl⟩
 unfold lessF
 rw [hb, valT_arr]
 have HBR := hid (fun W => bare_is (k := h.k) (mp := h.ma) (mc := h.mc) (np := h.na) (nc := h.nc) (kp := none) (kc := 0) hb W)
 have hB : ∀ o, Below w.heap.size w (w.alloc o) := fun o => (Below.refl _ _).alloc (Nat.le_refl _) _
 have HB := hid hB
 clear hb hB
 unfold exV at HBR
 unfold arr
 by_cases h1 : ks.length = 1
 · have e1 : ((ks.length : Int) == 1) = true := by simp; omega
   rw [decide_eq_true h1, Bool.true_and]
   clear h1
   go_enter Tryz.func44, Tryz.ntmps44
   go_wp2_with (go_at_call 67; refine (HBR.out _).mono ?_; rintro e w2 ⟨rfl, hb2⟩)
   go_ret
   exact ⟨rfl, (HB.out _).trans (hb2.mono (HB.out _).size)⟩
 · have e1 : ((ks.length : Int) == 1) = false := by simp; omega
   rw [decide_eq_false h1, Bool.false_and]
   clear h1
   go_enter Tryz.func44, Tryz.ntmps44
   go_wp2_with fail
   go_ret
   exact ⟨rfl, HB.out _⟩
def numOk (v : Nat) : Bool := decide (v = 9221120237041090561) || (!noneB v && !decide (9223372036854775808 ≤ v))
def numF (h : Hd) (n : Nat) : Bool := numOk h.v && bareF h.o 0 h.s h.ms.length h.wd h.off h.ha h.tm h.how h.ns.length h.bo n
theorem num_any (h : Hd) (ks : List Tr) (w : World) (hv : h.v < 18446744073709551616) : Calls Tryz.prog 38 #[valT (.mk h ks)] w fun e w' => e = .returned (.bool (numF h ks.length)) ∧ Below w.heap.size w w' := by
 obtain ⟨b, hb⟩ : ∃ b, bareF h.o 0 h.s h.ms.length h.wd h.off h.ha h.tm h.how h.ns.length h.bo ks.length = b := ⟨_, rfl⟩
 unfold numF numOk
 rw [hb, valT_arr]
 have HBR := hid (fun W => bare_is (k := h.k) (mp := h.ma) (mc := h.mc) (np := h.na) (nc := h.nc) (kp := h.ka) (kc := h.kc) hb W)
 have hz : ((0 : Nat) : Int) = 0 := rfl
 have hB : ∀ o, Below w.heap.size w (w.alloc o) := fun o => (Below.refl _ _).alloc (Nat.le_refl _) _
 have HB := hid hB
 obtain ⟨nx, hnx⟩ : ∃ nx, noneB h.v = nx := ⟨_, rfl⟩
 obtain ⟨sx, hsx⟩ : ∃ sx, decide (9223372036854775808 ≤ h.v) = sx := ⟨_, rfl⟩
 obtain ⟨cx, hcx⟩ : ∃ cx : Int, (if (!nx) = true then (1 : Int) else 0) = cx := ⟨_, rfl⟩
 have HCM := hid (fun W => cmp_none h.v (!nx) (by rw [← hnx]; exact order_self h.v hv) W)
 rw [hcx] at HCM
 have HSG := hid (fun W => signbit_is h.v hv sx hsx W)
 have hfb := fun w => frombits h.v w
 rw [hnx, hsx]
 clear hb hB hnx hsx
 unfold exV at HBR
 rw [hz] at HBR
 clear hz
 unfold arr
 by_cases h1 : h.v = 9221120237041090561
 · have e1 : ((h.v : Int) == 9221120237041090561) = true := by simp; omega
   rw [decide_eq_true h1, Bool.true_or, Bool.true_and]
   clear h1
   cases nx
   all_goals
    simp at hcx
    subst hcx
    go_enter Tryz.func38, Tryz.ntmps38
    go_wp2_with fail
    refine (HCM.out _).mono ?_
    rintro e w3 ⟨rfl, rfl⟩
    go_upto_region 4 with fail
    go_wp2_with fail
    refine (HBR.out _).mono ?_
    rintro e w2 ⟨rfl, hb2⟩
    go_wp2_with fail
    go_ret
    exact ⟨rfl, (HB.out _).trans (hb2.mono (HB.out _).size)⟩
 · have e1 : ((h.v : Int) == 9221120237041090561) = false := by simp; omega
   rw [decide_eq_false h1, Bool.false_or]
   clear h1
   cases nx with
   | true =>
     simp at hcx
     subst hcx
     clear HSG
     go_enter Tryz.func38, Tryz.ntmps38
     go_wp2_with fail
     refine (HCM.out _).mono ?_
     rintro e w3 ⟨rfl, rfl⟩
     go_upto_region 4 with fail
     go_wp2_with fail
     go_ret
     exact ⟨rfl, HB.out _⟩
   | false =>
     simp at hcx
     subst hcx
     go_enter Tryz.func38, Tryz.ntmps38
     go_wp2_with fail
     refine (HCM.out _).mono ?_
     rintro e w3 ⟨rfl, rfl⟩
     go_upto_region 4 with fail
     go_wp2_with fail
     refine (HSG.out _).mono ?_
     rintro e w3 ⟨rfl, rfl⟩
     cases sx with
     | true =>
       go_wp2_with fail
       go_ret
       exact ⟨rfl, HB.out _⟩
     | false =>
       go_wp2_with fail
       refine (HBR.out _).mono ?_
       rintro e w2 ⟨rfl, hb2⟩
       go_wp2_with fail
       go_ret
       exact ⟨rfl, (HB.out _).trans (hb2.mono (HB.out _).size)⟩
end Go.Proofs.YticmkabafmmlhaaGreatDoor.Ck

set_option linter.unusedVariables false
set_option linter.unusedSimpArgs false
set_option maxRecDepth 100000
set_option maxHeartbeats 4000000
namespace Go.Proofs.YticmkabafmmlhaaGreatDoor.Ck
open Go.RowKit
open Lib (hid)
def Good (l : List ByteArray) (k : Nat) : Prop := ∀ i, i < k → Lb.nameB (l.getD i n0) = true
instance (l : List ByteArray) (k : Nat) : Decidable (Good l k) := by unfold Good; infer_instance
def howF (how : Int) (l : List ByteArray) : Bool := if how = 0 then decide (l.length = 0) else decide ((how = 1 ∨ how = 2) ∧ l.length ≤ 16 ∧ Good l l.length)
theorem good_succ {l : List ByteArray} {k : Nat} (h : Good l k) (h1 : Lb.nameB (l.getD k n0) = true) : Good l (k + 1) := by
 intro i hi
 by_cases e : i = k
 · subst e; exact h1
 · exact h i (by omega)
theorem name_is (s : ByteArray) (r : Bool) (h : Lb.nameB s = r) (w : World) : Calls Tryz.prog 90 #[.string s] w fun e w' => e = .returned (.bool r) ∧ w = w' := Rg.name_is s r h w
theorem how_any (h : Hd) (ks : List Tr) (w : World) (hN : Nms w h.na h.ns) : Calls Tryz.prog 72 #[valT (.mk h ks)] w fun e w' => e = .returned (.bool (howF h.how h.ns)) ∧ Below w.heap.size w w' := by
 obtain ⟨k0, o, v, s0, ma, mc, ms, wd, off0, ha, tm, how, na, nc, ns, bo, ka, kc⟩ := h
 obtain ⟨r, hr⟩ : ∃ r, howF how ns = r := ⟨_, rfl⟩
 rw [valT_arr]
 dsimp only at hN ⊢
 rw [hr]
 have hB : ∀ o, Below w.heap.size w (w.alloc o) := fun o => (Below.refl _ _).alloc (Nat.le_refl _) _
 have HB := hid hB
 have HR := hid hr
 have HN := hid hN
 clear hB hr hN
 obtain ⟨n, hn⟩ : ∃ n, ns.length = n := ⟨_, rfl⟩
 unfold arr
 dsimp only
 rw [hn]
 have HL := hid hn
 clear hn
 by_cases h0 : how = 0
 · have e0 : (how == 0) = true := by simp; omega
   have hr2 : decide (n = 0) = r := by have := HR.out; unfold howF at this; rwa [if_pos h0, HL.out] at this
   have hd : ((n : Int) == 0) = r := by rw [← hr2, Bool.eq_iff_iff, beq_iff_eq, decide_eq_true_eq]; omega
   have hz : (((0 : Int)) == 0) = true := rfl
   clear h0 hr2 HR
   go_enter Tryz.func72, Tryz.ntmps72
   go_wp2_with fail
   go_ret
   exact ⟨rfl, HB.out _⟩
 · have e0 : (how == 0) = false := by simp; omega
   by_cases hk : (how = 1 ∨ how = 2) ∧ n ≤ 16
   · have hr2 : decide (Good ns n) = r := by
      rw [← HR.out]; unfold howF
      rw [if_neg h0, HL.out, Bool.eq_iff_iff, decide_eq_true_eq, decide_eq_true_eq]
      exact ⟨fun g => ⟨hk.1, hk.2, g⟩, fun g => g.2.2⟩
     have e16 : ¬ (16 : Int) < (n : Int) := by omega
     have HR2 := hid hr2
     clear HR hr2
     rcases hk with ⟨h12, hn16⟩
     have go : ∀ x1 x2 : Bool, (how != 1) = x1 → (how != 2) = x2 → (x1 && x2) = false → Calls Tryz.prog 72 #[.agg #[.int .i64 k0, .int .i64 o, .int .u64 (v : Int), .string s0, .slice ma ms.length mc, .int .i64 wd, .int .i64 off0, .bool ha, .int .i64 tm, .int .i64 how, .slice na n nc, .bool bo, .slice ka ks.length kc]] w fun e w' => e = .returned (.bool r) ∧ Below w.heap.size w w' := by
      intro x1 x2 hx1 hx2 hxx
      clear h0 h12
      cases x1 <;> cases x2 <;> simp at hxx <;> clear hxx
      all_goals
       go_enter Tryz.func72, Tryz.ntmps72
       go_wp2_with fail
       go_loopw [35] (fun s5 wx => ∃ k : Nat, k ≤ n ∧ s5 = .int .i64 (k : Int) ∧ Hid (Good ns k) ∧ Hid (Below w.heap.size w wx)) (fun i _ => n - (intOf i).toNat)
       case atStart => exact ⟨0, Nat.zero_le _, rfl, fun i hi => absurd hi (Nat.not_lt_zero _), HB.out _⟩
       case round =>
        obtain ⟨k, hkn, rfl, HG, HBX⟩ := hrel
        by_cases hlt : k < n
        · obtain ⟨b, off, rfl, hb, hc⟩ := HN.out (by rw [HL.out]; omega)
          have hx := (HBX.out.cell (p := ⟨b, off + k, none⟩) hb).trans (hc k (by rw [HL.out]; exact hlt))
          have hki : (k : Int) < (n : Int) := by omega
          have HB0 := hid hb
          clear hc
          obtain ⟨s, hs⟩ : ∃ s, ns.getD k n0 = s := ⟨_, rfl⟩
          rw [hs] at hx
          obtain ⟨q, hq⟩ : ∃ q, Lb.nameB s = q := ⟨_, rfl⟩
          have HNM := hid (fun W => name_is s q hq W)
          have HQ : Hid (Lb.nameB (ns.getD k n0) = q) := by rw [hs]; exact hq
          clear hs hq
          cases q with
          | true =>
            go_wp2_with fail
            refine (HNM.out _).mono ?_
            rintro e w3 ⟨rfl, rfl⟩
            go_wp2_with fail
            go_roundw
            case rel => exact ⟨k + 1, by omega, by go_num, good_succ HG.out HQ.out, HBX⟩
            case measure => (first | omega | (simp only [intOf]; omega))
          | false =>
            have hf : r = false := by
             rw [← HR2.out, decide_eq_false]
             intro g
             have := g k hlt
             rw [HQ.out] at this
             cases this
            subst hf
            go_wp2_with fail
            refine (HNM.out _).mono ?_
            rintro e w3 ⟨rfl, rfl⟩
            go_wp2_with fail
            go_ret
            exact ⟨rfl, HBX.out⟩
        · have hf : r = true := by
           have : k = n := by omega
           subst this
           rw [← HR2.out, decide_eq_true HG.out]
          subst hf
          go_wp2_with fail
          go_ret
          exact ⟨rfl, HBX.out⟩
     exact go _ _ rfl rfl (by rcases h12 with h | h <;> rw [h] <;> rfl)
   · have hf : r = false := by
      rw [← HR.out]; unfold howF
      rw [if_neg h0, HL.out, decide_eq_false]
      exact fun g => hk ⟨g.1, g.2.1⟩
     subst hf
     clear HR
     by_cases h12 : how = 1 ∨ how = 2
     · have hn16 : (16 : Int) < (n : Int) := by omega
       have go : ∀ x1 x2 : Bool, (how != 1) = x1 → (how != 2) = x2 → (x1 && x2) = false → Calls Tryz.prog 72 #[.agg #[.int .i64 k0, .int .i64 o, .int .u64 (v : Int), .string s0, .slice ma ms.length mc, .int .i64 wd, .int .i64 off0, .bool ha, .int .i64 tm, .int .i64 how, .slice na n nc, .bool bo, .slice ka ks.length kc]] w fun e w' => e = .returned (.bool false) ∧ Below w.heap.size w w' := by
        intro x1 x2 hx1 hx2 hxx
        clear h0 h12 hk
        cases x1 <;> cases x2 <;> simp at hxx <;> clear hxx
        all_goals
         go_enter Tryz.func72, Tryz.ntmps72
         go_wp2_with fail
         go_ret
         exact ⟨rfl, HB.out _⟩
       exact go _ _ rfl rfl (by rcases h12 with h | h <;> rw [h] <;> rfl)
     · have e1 : (how != 1) = true := by simp; omega
       have e2 : (how != 2) = true := by simp; omega
       clear h0 h12 hk
       go_enter Tryz.func72, Tryz.ntmps72
       go_wp2_with fail
       go_ret
       exact ⟨rfl, HB.out _⟩
end Go.Proofs.YticmkabafmmlhaaGreatDoor.Ck

/- isWord: a word is one. Condition: the text is a word. -/
import Derived.Test.YticmkabafmmlhaaGreatDoorN6j
import Derived.Test.YticmkabafmmlhaaGreatDoorW1j
set_option linter.unusedVariables false
set_option linter.unusedSimpArgs false
set_option maxRecDepth 100000
set_option maxHeartbeats 4000000
namespace Go.Proofs.YticmkabafmmlhaaGreatDoor.Ck
open Go.RowKit Lx
def wordB (s : ByteArray) : Bool := decide (s.size ≤ 200) && isWordL s.data.toList
theorem word_ok (s : ByteArray) (w : World) (h : wordB s = true) : Calls Tryz.prog 89 #[.string s] w fun e w' => e = .returned (.bool true) ∧ Below w.heap.size w w' := by
 unfold wordB at h
 rw [Bool.and_eq_true, decide_eq_true_eq] at h
 have HL := Lib.hid (lex_word s w h.2 h.1)
 have d : ¬ (200 : Int) < (s.size : Int) := by omega
 have hd1 : decide ((0 : Int) < 1) = true := by decide
 clear h
 go_enter Tryz.func89, Tryz.ntmps89
 go_wp2_with fail
 refine (HL.out).mono ?_
 rintro e w1 ⟨b, c, rfl, c0, c2, hb1⟩
 have HB1 := Lib.hid hb1
 clear hb1 HL
 go_wp2_with fail
 go_ret
 exact ⟨rfl, HB1.out⟩
end Go.Proofs.YticmkabafmmlhaaGreatDoor.Ck

set_option linter.unusedVariables false
set_option linter.unusedSimpArgs false
set_option maxRecDepth 100000
set_option maxHeartbeats 4000000
namespace Go.Proofs.YticmkabafmmlhaaGreatDoor.Ck
open Go.RowKit Lx
def groupB (l : List UInt8) : Bool := l == [115, 117, 109] || (l == [97, 118, 103] || (l == [109, 105, 110] || (l == [109, 97, 120] || (l == [99, 111, 117, 110, 116] || (l == [116, 111, 112, 107] || l == [98, 111, 116, 116, 111, 109, 107])))))
def keyB (l : List UInt8) : Bool := l == [98, 121] || (l == [119, 105, 116, 104, 111, 117, 116] || (l == [111, 110] || (l == [105, 103, 110, 111, 114, 105, 110, 103] || (l == [98, 111, 111, 108] || (l == [111, 102, 102, 115, 101, 116] || (l == [73, 110, 102] || l == [78, 97, 78]))))))
theorem group_any (s : ByteArray) (w : World) : Calls Tryz.prog 71 #[.string s] w fun e w' => e = .returned (.bool (groupB s.toList)) ∧ w = w' := by
 obtain ⟨r, hr⟩ : ∃ r, groupB s.toList = r := ⟨_, rfl⟩
 rw [hr]
 have HR := Lib.hid hr
 clear hr
 go_enter Tryz.func71, Tryz.ntmps71
 go_wp2
 all_goals
  go_ret
  refine ⟨congrArg (fun x => Ending.returned (Value.bool x)) ?_, rfl⟩
  have hr := HR.out
  unfold groupB at hr
  clear HR
  rw [← hr]
  first
   | (simp_all; done)
   | (simp [*]; done)
theorem group_is (s : ByteArray) (r : Bool) (h : groupB s.toList = r) (w : World) : Calls Tryz.prog 71 #[.string s] w fun e w' => e = .returned (.bool r) ∧ w = w' := by
 subst h; exact group_any s w
def freeB (s : ByteArray) : Bool := !keyB s.toList && (!groupB s.toList && wordB s)
theorem free_ok (s : ByteArray) (w : World) (h : freeB s = true) : Calls Tryz.prog 69 #[.string s] w fun e w' => e = .returned (.bool true) ∧ Below w.heap.size w w' := by
 unfold freeB at h
 rw [Bool.and_eq_true, Bool.and_eq_true, Bool.not_eq_true', Bool.not_eq_true'] at h
 obtain ⟨hk, hg, hx⟩ := h
 have HG := Lib.hid (fun W => group_is s false hg W)
 have HX := Lib.hid (word_ok s w hx)
 unfold keyB at hk
 simp only [Bool.or_eq_false_iff] at hk
 obtain ⟨k1, k2, k3, k4, k5, k6, k7, k8⟩ := hk
 clear hg hx
 go_enter Tryz.func69, Tryz.ntmps69
 go_wp2_with fail
 refine (HG.out _).mono ?_
 rintro e w1 ⟨rfl, rfl⟩
 go_wp2_with fail
 refine (HX.out).mono ?_
 rintro e w1 ⟨rfl, hb1⟩
 have HB1 := Lib.hid hb1
 clear hb1
 go_wp2_with fail
 go_ret
 exact ⟨rfl, HB1.out⟩
end Go.Proofs.YticmkabafmmlhaaGreatDoor.Ck

set_option linter.unusedVariables false
set_option linter.unusedSimpArgs false
set_option maxRecDepth 100000
set_option maxHeartbeats 4000000
namespace Go.Proofs.YticmkabafmmlhaaGreatDoor.Ck
open Go.RowKit Lx
open Lib (hid)
theorem blk13 {W : World} {b : Nat} {t : TypeId} {h : Hd} {n : Nat} (c : Blk W b t (arr h n)) : C13 W b h n :=
 ⟨c.cell 0, c.cell 1, c.cell 2, c.cell 3, c.cell 4, c.cell 5, c.cell 6, c.cell 7, c.cell 8, c.cell 9, c.cell 10, c.cell 11, c.cell 12⟩
theorem set_below {B b : Nat} {w W : World} (h : Below B w W) (hb : B ≤ b) (i : Nat) (u : Value) : Below B w (W.setCell ⟨b, i, none⟩ u) :=
 h.setCell (by show B ≤ b; exact hb) u
def callH (h : Hd) : Hd := ⟨h.k, h.o, h.v, ⟨#[]⟩, h.ma, h.mc, h.ms, h.wd, h.off, h.ha, h.tm, h.how, h.na, h.nc, h.ns, h.bo, none, 0⟩
theorem call_set {W : World} {b n : Nat} {t : TypeId} {h : Hd} (c : Blk W b t (arr h n)) : Blk ((W.setCell ⟨b, 3, none⟩ (.string ⟨#[]⟩)).setCell ⟨b, 12, none⟩ (.slice none 0 0)) b t (arr (callH h) 0) := (c.set_ 3 _).set_ 12 _
def callOk (h : Hd) (n : Nat) : Bool := (freeB h.s && decide (n ≤ 4)) && bareF h.o h.v ⟨#[]⟩ h.ms.length h.wd h.off h.ha h.tm h.how h.ns.length h.bo 0
theorem call_ok (h : Hd) (ks : List Tr) (w : World) (hok : callOk h ks.length = true) : Calls Tryz.prog 41 #[valT (.mk h ks)] w fun e w' => e = .returned (.bool true) ∧ Below w.heap.size w w' := by
 unfold callOk at hok
 rw [Bool.and_eq_true, Bool.and_eq_true, decide_eq_true_eq] at hok
 obtain ⟨⟨hf, hq⟩, hb⟩ := hok
 rw [valT_arr]
 have HBR := hid (fun W => bare_is (k := h.k) (mp := h.ma) (mc := h.mc) (np := h.na) (nc := h.nc) (kp := none) (kc := 0) hb W)
 have hB : Below w.heap.size w (w.alloc (.cells (arr h ks.length) 49)) := (Below.refl _ _).alloc (Nat.le_refl _) _
 have HF := hid (free_ok h.s (w.alloc (.cells (arr h ks.length) 49)) hf)
 have HK := hid (Blk.new w 49 (arr h ks.length))
 have HB := hid hB
 clear hb hB hf
 unfold exV at HBR
 unfold arr at *
 go_enter Tryz.func41, Tryz.ntmps41
 go_wp2_with fail
 refine (HF.out).mono ?_
 rintro e w1 ⟨rfl, hb1⟩
 have HK1 := hid (HK.out.below hb1)
 have HB1 := hid (HB.out.trans (hb1.mono HB.out.size))
 clear hb1 HF HB HK
 have HK3 := hid (call_set (h := h) (n := ks.length) HK1.out)
 have HB3 := hid (set_below (set_below HB1.out (Nat.le_refl _) 3 (.string ⟨#[]⟩)) (Nat.le_refl _) 12 (.slice none 0 0))
 obtain ⟨c0, c1, c2, c3, c4, c5, c6, c7, c8, c9, c10, c11, c12⟩ := blk13 (h := h) (n := ks.length) HK1.out
 have f3 := Blk.frozen HK1.out 3
 have f12 := Blk.frozen HK1.out 12
 have hn4 : decide ((ks.length : Int) ≤ 4) = true := by rw [decide_eq_true_eq]; omega
 go_upto_region 3 with fail
 clear c0 c1 c2 c3 c4 c5 c6 c7 c8 c9 c10 c11 c12 f3 f12 HK1 HB1
 generalize World.setCell _ ⟨w.heap.size, 12, none⟩ _ = W3 at *
 obtain ⟨c0, c1, c2, c3, c4, c5, c6, c7, c8, c9, c10, c11, c12⟩ := blk13 HK3.out
 unfold callH at c0 c1 c2 c3 c4 c5 c6 c7 c8 c9 c10 c11 c12
 dsimp only at c0 c1 c2 c3 c4 c5 c6 c7 c8 c9 c10 c11 c12
 go_wp2_with fail
 refine (HBR.out _).mono ?_
 rintro e w4 ⟨rfl, hb4⟩
 have HB4 := hid (HB3.out.trans (hb4.mono HB3.out.size))
 clear hb4
 go_wp2_with fail
 go_ret
 exact ⟨rfl, HB4.out⟩
end Go.Proofs.YticmkabafmmlhaaGreatDoor.Ck

set_option linter.unusedVariables false
set_option linter.unusedSimpArgs false
set_option maxRecDepth 100000
set_option maxHeartbeats 4000000
namespace Go.Proofs.YticmkabafmmlhaaGreatDoor.Ck
open Go.RowKit Lx
open Lib (hid)
theorem how_is (h : Hd) (ks : List Tr) (r : Bool) (hr : howF h.how h.ns = r) (w : World) (hN : Nms w h.na h.ns) : Calls Tryz.prog 72 #[valT (.mk h ks)] w fun e w' => e = .returned (.bool r) ∧ Below w.heap.size w w' := by
 subst hr; exact how_any h ks w hN
def pairH (h : Hd) : Hd := ⟨h.k, 0, h.v, h.s, h.ma, h.mc, h.ms, h.wd, h.off, h.ha, h.tm, 0, none, 0, [], false, none, 0⟩
theorem pair_set {W : World} {b n : Nat} {t : TypeId} {h : Hd} (c : Blk W b t (arr h n)) : Blk (((((W.setCell ⟨b, 1, none⟩ (.int .i64 0)).setCell ⟨b, 11, none⟩ (.bool false)).setCell ⟨b, 9, none⟩ (.int .i64 0)).setCell ⟨b, 10, none⟩ (.slice none 0 0)).setCell ⟨b, 12, none⟩ (.slice none 0 0)) b t (arr (pairH h) 0) := ((((c.set_ 1 _).set_ 11 _).set_ 9 _).set_ 10 _).set_ 12 _
def groupH (h : Hd) : Hd := ⟨h.k, h.o, h.v, ⟨#[]⟩, h.ma, h.mc, h.ms, h.wd, h.off, h.ha, h.tm, 0, none, 0, [], h.bo, none, 0⟩
theorem group_set {W : World} {b n : Nat} {t : TypeId} {h : Hd} (c : Blk W b t (arr h n)) : Blk ((((W.setCell ⟨b, 3, none⟩ (.string ⟨#[]⟩)).setCell ⟨b, 9, none⟩ (.int .i64 0)).setCell ⟨b, 10, none⟩ (.slice none 0 0)).setCell ⟨b, 12, none⟩ (.slice none 0 0)) b t (arr (groupH h) 0) := (((c.set_ 3 _).set_ 9 _).set_ 10 _).set_ 12 _
def pairOk (h : Hd) (n : Nat) : Bool := ((decide (1 ≤ h.o) && decide (h.o ≤ 11)) && (howF h.how h.ns && decide (n = 2))) && bareF 0 h.v h.s h.ms.length h.wd h.off h.ha h.tm 0 0 false 0
def groupOk (h : Hd) (n : Nat) : Bool := (groupB h.s.toList && (howF h.how h.ns && decide (n ≤ 4))) && bareF h.o h.v ⟨#[]⟩ h.ms.length h.wd h.off h.ha h.tm 0 0 h.bo 0
theorem pair_any (h : Hd) (ks : List Tr) (w : World) (hN : Nms w h.na h.ns) : Calls Tryz.prog 43 #[valT (.mk h ks)] w fun e w' => e = .returned (.bool (pairOk h ks.length)) ∧ Below w.heap.size w w' := by
 obtain ⟨b, hb⟩ : ∃ b, bareF 0 h.v h.s h.ms.length h.wd h.off h.ha h.tm 0 0 false 0 = b := ⟨_, rfl⟩
 obtain ⟨f, hf⟩ : ∃ f, howF h.how h.ns = f := ⟨_, rfl⟩
 unfold pairOk
 rw [hb, hf]
 have HBR := hid (fun W => bare_is (k := h.k) (mp := h.ma) (mc := h.mc) (np := none) (nc := 0) (kp := none) (kc := 0) hb W)
 have hB : ∀ o, Below w.heap.size w (w.alloc o) := fun o => (Below.refl _ _).alloc (Nat.le_refl _) _
 have HF := hid (how_is h ks f hf (w.alloc (.cells (arr h ks.length) 49)) (hN.below (hB _)))
 have HK := hid (Blk.new w 49 (arr h ks.length))
 have HB := hid hB
 rw [valT_arr] at HF ⊢
 clear hb hB hf hN
 unfold exV at HBR
 unfold arr at *
 by_cases h1 : 1 ≤ h.o ∧ h.o ≤ 11
 · obtain ⟨ha, hb⟩ := h1
   rw [decide_eq_true ha, decide_eq_true hb, Bool.true_and, Bool.true_and]
   go_enter Tryz.func43, Tryz.ntmps43
   go_wp2_with fail
   refine (HF.out).mono ?_
   rintro e w1 ⟨rfl, hb1⟩
   have HK1 := hid (HK.out.below hb1)
   have HB1 := hid ((HB.out _).trans (hb1.mono (HB.out _).size))
   clear hb1 HF HB HK
   have HK3 := hid (pair_set (h := h) (n := ks.length) HK1.out)
   have HB3 := hid (set_below (set_below (set_below (set_below (set_below HB1.out (Nat.le_refl _) 1 (.int .i64 0)) (Nat.le_refl _) 11 (.bool false)) (Nat.le_refl _) 9 (.int .i64 0)) (Nat.le_refl _) 10 (.slice none 0 0)) (Nat.le_refl _) 12 (.slice none 0 0))
   obtain ⟨c0, c1, c2, c3, c4, c5, c6, c7, c8, c9, c10, c11, c12⟩ := blk13 (h := h) (n := ks.length) HK1.out
   have f1 := Blk.frozen HK1.out 1
   have f9 := Blk.frozen HK1.out 9
   have f10 := Blk.frozen HK1.out 10
   have f11 := Blk.frozen HK1.out 11
   have f12 := Blk.frozen HK1.out 12
   have hn4 : ((ks.length : Int) == 2) = decide (ks.length = 2) := by rw [Bool.eq_iff_iff, beq_iff_eq, decide_eq_true_eq]; omega
   obtain ⟨q, hq⟩ : ∃ q, decide (ks.length = 2) = q := ⟨_, rfl⟩
   rw [hq] at hn4
   cases f <;> cases q
   all_goals
    go_upto_region 3 with fail
    clear c0 c1 c2 c3 c4 c5 c6 c7 c8 c9 c10 c11 c12 f1 f9 f10 f11 f12 HK1 HB1
    generalize World.setCell _ ⟨w.heap.size, 12, none⟩ _ = W3 at *
    obtain ⟨c0, c1, c2, c3, c4, c5, c6, c7, c8, c9, c10, c11, c12⟩ := blk13 HK3.out
    unfold pairH at c0 c1 c2 c3 c4 c5 c6 c7 c8 c9 c10 c11 c12
    dsimp only [List.length_nil] at c0 c1 c2 c3 c4 c5 c6 c7 c8 c9 c10 c11 c12
    first
     | (go_wp2_with fail
        go_ret
        rw [hq]
        exact ⟨rfl, HB3.out⟩)
     | (go_wp2_with fail
        refine (HBR.out _).mono ?_
        rintro e w4 ⟨rfl, hb4⟩
        have HB4 := hid (HB3.out.trans (hb4.mono HB3.out.size))
        clear hb4
        go_wp2_with fail
        go_ret
        rw [hq]
        exact ⟨rfl, HB4.out⟩)
 · have hf : (decide (1 ≤ h.o) && decide (h.o ≤ 11)) = false := by
    rw [Bool.and_eq_false_iff, decide_eq_false_iff_not, decide_eq_false_iff_not]; omega
   rw [hf, Bool.false_and, Bool.false_and]
   clear HF HK HBR hf
   by_cases ha : 1 ≤ h.o
   · have hb : ¬ h.o ≤ 11 := by omega
     clear h1
     go_enter Tryz.func43, Tryz.ntmps43
     go_wp2_with fail
     go_ret
     exact ⟨rfl, HB.out _⟩
   · clear h1
     go_enter Tryz.func43, Tryz.ntmps43
     go_wp2_with fail
     go_ret
     exact ⟨rfl, HB.out _⟩
theorem grp_any (h : Hd) (ks : List Tr) (w : World) (hN : Nms w h.na h.ns) : Calls Tryz.prog 42 #[valT (.mk h ks)] w fun e w' => e = .returned (.bool (groupOk h ks.length)) ∧ Below w.heap.size w w' := by
 obtain ⟨b, hb⟩ : ∃ b, bareF h.o h.v ⟨#[]⟩ h.ms.length h.wd h.off h.ha h.tm 0 0 h.bo 0 = b := ⟨_, rfl⟩
 obtain ⟨f, hf⟩ : ∃ f, howF h.how h.ns = f := ⟨_, rfl⟩
 obtain ⟨g, hg⟩ : ∃ g, groupB h.s.toList = g := ⟨_, rfl⟩
 unfold groupOk
 rw [hb, hf, hg]
 have HBR := hid (fun W => bare_is (k := h.k) (mp := h.ma) (mc := h.mc) (np := none) (nc := 0) (kp := none) (kc := 0) hb W)
 have hB : ∀ o, Below w.heap.size w (w.alloc o) := fun o => (Below.refl _ _).alloc (Nat.le_refl _) _
 have HF := hid (how_is h ks f hf (w.alloc (.cells (arr h ks.length) 49)) (hN.below (hB _)))
 have HG := hid (fun W => group_is h.s g hg W)
 have HK := hid (Blk.new w 49 (arr h ks.length))
 have HB := hid hB
 rw [valT_arr] at HF ⊢
 clear hb hB hf hN hg
 unfold exV at HBR
 unfold arr at *
 cases g with
 | true =>
   rw [Bool.true_and]
   go_enter Tryz.func42, Tryz.ntmps42
   go_wp2_with fail
   refine (HG.out _).mono ?_
   rintro e w1 ⟨rfl, rfl⟩
   go_wp2_with fail
   refine (HF.out).mono ?_
   rintro e w1 ⟨rfl, hb1⟩
   have HK1 := hid (HK.out.below hb1)
   have HB1 := hid ((HB.out _).trans (hb1.mono (HB.out _).size))
   clear hb1 HF HB HK HG
   have HK3 := hid (group_set (h := h) (n := ks.length) HK1.out)
   have HB3 := hid (set_below (set_below (set_below (set_below HB1.out (Nat.le_refl _) 3 (.string ⟨#[]⟩)) (Nat.le_refl _) 9 (.int .i64 0)) (Nat.le_refl _) 10 (.slice none 0 0)) (Nat.le_refl _) 12 (.slice none 0 0))
   obtain ⟨c0, c1, c2, c3, c4, c5, c6, c7, c8, c9, c10, c11, c12⟩ := blk13 (h := h) (n := ks.length) HK1.out
   have f3 := Blk.frozen HK1.out 3
   have f9 := Blk.frozen HK1.out 9
   have f10 := Blk.frozen HK1.out 10
   have f12 := Blk.frozen HK1.out 12
   have hn4 : decide ((ks.length : Int) ≤ 4) = decide (ks.length ≤ 4) := by rw [Bool.eq_iff_iff, decide_eq_true_eq, decide_eq_true_eq]; omega
   obtain ⟨q, hq⟩ : ∃ q, decide (ks.length ≤ 4) = q := ⟨_, rfl⟩
   rw [hq] at hn4
   cases f <;> cases q
   all_goals
    go_upto_region 3 with fail
    clear c0 c1 c2 c3 c4 c5 c6 c7 c8 c9 c10 c11 c12 f3 f9 f10 f12 HK1 HB1
    generalize World.setCell _ ⟨w.heap.size, 12, none⟩ _ = W3 at *
    obtain ⟨c0, c1, c2, c3, c4, c5, c6, c7, c8, c9, c10, c11, c12⟩ := blk13 HK3.out
    unfold groupH at c0 c1 c2 c3 c4 c5 c6 c7 c8 c9 c10 c11 c12
    dsimp only [List.length_nil] at c0 c1 c2 c3 c4 c5 c6 c7 c8 c9 c10 c11 c12
    first
     | (go_wp2_with fail
        go_ret
        rw [hq]
        exact ⟨rfl, HB3.out⟩)
     | (go_wp2_with fail
        refine (HBR.out _).mono ?_
        rintro e w4 ⟨rfl, hb4⟩
        have HB4 := hid (HB3.out.trans (hb4.mono HB3.out.size))
        clear hb4
        go_wp2_with fail
        go_ret
        rw [hq]
        exact ⟨rfl, HB4.out⟩)
 | false =>
   rw [Bool.false_and, Bool.false_and]
   clear HF HK HBR
   go_enter Tryz.func42, Tryz.ntmps42
   go_wp2_with fail
   refine (HG.out _).mono ?_
   rintro e w1 ⟨rfl, rfl⟩
   go_wp2_with fail
   go_ret
   exact ⟨rfl, HB.out _⟩
end Go.Proofs.YticmkabafmmlhaaGreatDoor.Ck

/- allRight: whether all parts of a tree are right. Conditions: the tables as they are laid; the tree lies in memory, and has at most 700 parts. -/
import Derived.Test.YticmkabafmmlhaaGreatDoorN13j
import Derived.Test.YticmkabafmmlhaaGreatDoorN16j
import Derived.StillTailTactics
import Derived.Laws.EntriesVeiled
set_option linter.unusedVariables false
set_option linter.unusedSimpArgs false
set_option maxRecDepth 100000
set_option maxHeartbeats 4000000
namespace Go.Proofs.YticmkabafmmlhaaGreatDoor.Ck
open Go.RowKit
open Lib (hid)
theorem slice_pop (g n cap : Nat) (h : n + 1 ≤ cap) (W : World) : (Instr.slice 25 (.slice (some ⟨g, 0, none⟩) (n + 1) cap) none (some (.int .i64 (n : Int))) none).run Tryz.prog W = .ok (.slice (some ⟨g, 0, none⟩) n cap) W := by
 have e : Tryz.prog.underlying 25 = some (.slice (Tryz.prog.elem 25)) := by kernel_rfl
 have hs : ∀ W, (sizeOf (Tryz.prog.elem 25)).run Tryz.prog W = .ok 13 W := fun W => by kernel_rfl
 rw [run_slice_h W 25 _ _ _ e .i64 _ (by omega) (by omega), hs]
 simp [Result.andThen, sliced, Addr.add]
structure Tabl (w : World) : Prop where
 size : 10 ≤ w.heap.size
 tz : Rg.TzT w
 utf : Rg.Tabs w
section
theorem Tabl.below {w w' : World} (h : Tabl w) (hb : Below w.heap.size w w') : Tabl w' :=
 ⟨Nat.le_trans h.size hb.size, h.tz.below hb, h.utf.below (by have := h.utf.size; omega) hb⟩
def okHd (h : Hd) (n : Nat) : Bool :=
 if h.k = 1 then numF h n else if h.k = 2 then textOk h n else if h.k = 3 then pickOk h n else if h.k = 4 then callOk h n else if h.k = 5 then groupOk h n else if h.k = 6 then pairOk h n else if h.k = 7 then lessF h n else false
theorem part_any (h : Hd) (ks : List Tr) (j : Nat) (hj : h.k = (j : Int)) (h1 : 1 ≤ j) (h7 : j ≤ 7) (hr : okHd h ks.length = true) (w : World) (hT : Tabl w) (hL : Lies w (.mk h ks)) :
 Calls Tryz.prog (37 + j) #[valT (.mk h ks)] w fun e w' => e = .returned (.bool true) ∧ Below w.heap.size w w' := by
 rw [Lies] at hL
 obtain ⟨hok, _, hm, hn, _, _⟩ := hL
 have : j = 1 ∨ j = 2 ∨ j = 3 ∨ j = 4 ∨ j = 5 ∨ j = 6 ∨ j = 7 := by omega
 unfold okHd at hr
 rcases this with rfl | rfl | rfl | rfl | rfl | rfl | rfl
 · rw [if_pos (by omega)] at hr; rw [← hr]; exact num_any h ks w hok.v
 · rw [if_neg (by omega), if_pos (by omega)] at hr; rw [← hr]; exact text_any h ks w hT.size hT.tz hT.utf
 · rw [if_neg (by omega), if_neg (by omega), if_pos (by omega)] at hr; exact pick_ok h ks w hr hm hT.size hT.tz hT.utf
 · rw [if_neg (by omega), if_neg (by omega), if_neg (by omega), if_pos (by omega)] at hr; exact call_ok h ks w hr
 · rw [if_neg (by omega), if_neg (by omega), if_neg (by omega), if_neg (by omega), if_pos (by omega)] at hr; rw [← hr]; exact grp_any h ks w hn
 · rw [if_neg (by omega), if_neg (by omega), if_neg (by omega), if_neg (by omega), if_neg (by omega), if_pos (by omega)] at hr; rw [← hr]; exact pair_any h ks w hn
 · rw [if_neg (by omega), if_neg (by omega), if_neg (by omega), if_neg (by omega), if_neg (by omega), if_neg (by omega), if_pos (by omega)] at hr; rw [← hr]; exact less_any h ks w
theorem ok_out {h : Hd} {n : Nat} (hk : h.k < 1 ∨ 7 < h.k) : okHd h n = false := by
 unfold okHd
 rw [if_neg (by omega), if_neg (by omega), if_neg (by omega), if_neg (by omega), if_neg (by omega), if_neg (by omega), if_neg (by omega)]
theorem LiesL.left {w : World} : ∀ {a b : List Tr}, LiesL w (a ++ b) → LiesL w a
 | [], _, _ => by rw [LiesL]; trivial
 | x :: ts, b, h => by
   rw [List.cons_append, LiesL] at h
   rw [LiesL]
   exact ⟨h.1, LiesL.left h.2⟩
def ARel (w : World) (r : Bool) (l : List Tr) (v : Value) (wx : World) : Prop :=
 allL okHd l = r ∧ LiesL w l ∧ wx.ownsRow w.heap.size 27 13 v l.length (flatE l) ∧ Below w.heap.size w wx ∧ szL l ≤ 700
def fnT : Array Value := #[.nilFunc, .func (.func 38) #[] #[], .func (.func 39) #[] #[], .func (.func 40) #[] #[], .func (.func 41) #[] #[], .func (.func 42) #[] #[], .func (.func 43) #[] #[], .func (.func 44) #[] #[]]
theorem all_any (t : Tr) (w : World) (hT : Tabl w) (hL : Lies w t) (hs : szF t ≤ 700) (hr : allF okHd t = true) :
 Calls Tryz.prog 20 #[valT t] w fun e w' => e = .returned (.bool true) ∧ Below w.heap.size w w' := by
 obtain ⟨h0, ks0⟩ := t
 rw [valT_arr]
 have HT := hid hT
 have HL := hid hL
 have HR := hid hr
 clear hT hL hr
 have hw1 : Below w.heap.size w ((w.alloc (.cells (arr h0 ks0.length) 27)).alloc (.cells fnT 68)) := ((Below.refl _ _).alloc (Nat.le_refl _) _).alloc (by simp) _
 have HB1 := hid hw1
 have HT1 := hid (HT.out.below hw1)
 have HL1 := hid (HL.out.below hw1)
 have hz : w.heap.size + 1 + 1 = ((w.alloc (.cells (arr h0 ks0.length) 27)).alloc (.cells fnT 68)).heap.size := by simp
 have HF1 : Hid (Blk ((w.alloc (.cells (arr h0 ks0.length) 27)).alloc (.cells fnT 68)) (w.heap.size + 1) 68 fnT) := by
  have := Blk.new (w.alloc (.cells (arr h0 ks0.length) 27)) 68 fnT
  rw [World.size_alloc] at this
  exact this
 have hown : (((w.alloc (.cells (arr h0 ks0.length) 27)).alloc (.cells fnT 68)).alloc (.cells (arr h0 ks0.length) 27)).ownsRow ((w.alloc (.cells (arr h0 ks0.length) 27)).alloc (.cells fnT 68)).heap.size 27 13 (.slice (some ⟨w.heap.size + 1 + 1, 0, none⟩) 1 1) [Tr.mk h0 ks0].length (flatE [Tr.mk h0 ks0]) := by
  refine ⟨rfl, .inr ⟨_, 1, _, rfl, by simp, by have := heap_alloc_new ((w.alloc (.cells (arr h0 ks0.length) 27)).alloc (.cells fnT 68)) (.cells (arr h0 ks0.length) 27); rw [← hz] at this; exact this, Nat.le_refl _, by decide, rfl, rfl⟩⟩
 have HA0 : Hid (ARel ((w.alloc (.cells (arr h0 ks0.length) 27)).alloc (.cells fnT 68)) true [Tr.mk h0 ks0] (.slice (some ⟨w.heap.size + 1 + 1, 0, none⟩) 1 1) (((w.alloc (.cells (arr h0 ks0.length) 27)).alloc (.cells fnT 68)).alloc (.cells (arr h0 ks0.length) 27))) :=
  ⟨by rw [allL, allL, Bool.and_true]; exact HR.out, by rw [LiesL, LiesL]; exact ⟨HL1.out, trivial⟩, hown, (Below.refl _ _).alloc (Nat.le_refl _) _, by rw [szL, szL]; exact hs⟩
 have HZ := hid hz
 clear HT HL HR hw1 hown hz
 unfold arr fnT at *
 go_enter Tryz.func20, Tryz.ntmps20
 go_wp2_with fail
 generalize ((w.alloc (.cells _ 27)).alloc (.cells _ 68)) = w2 at *
 go_loopg [4] 700 (fun g s4 wx => ∃ l : List Tr, szL l ≤ g ∧ Hid (ARel w2 true l s4 wx))
 case atStart => exact ⟨_, HA0.out.2.2.2.2, HA0⟩
 case round =>
  obtain ⟨l, hg, HA⟩ := hrel
  obtain ⟨q1, q2, q3, q4, q5⟩ := HA.out
  by_cases hl : l.length = 0
  · obtain rfl : l = [] := List.length_eq_zero_iff.1 hl
    obtain ⟨A, cap, rfl, _⟩ := own_len q3
    have HBX := hid (HB1.out.trans (q4.mono HB1.out.size))
    clear q1 q2 q3 q4 q5 HA HA0 hl
    go_wp2_with fail
    go_ret
    exact ⟨rfl, HBX.out⟩
  · obtain ⟨n, hn⟩ : ∃ n, l.length = n + 1 := ⟨l.length - 1, by omega⟩
    obtain ⟨a, ⟨hd, ks⟩, rfl, ha⟩ := last_split hn
    obtain ⟨g, cap, rfl, hbg, hgl, hcap⟩ := own_addr q3 (by omega)
    obtain ⟨c0, c1, c2, c3, c4, c5, c6, c7, c8, c9, c10, c11, c12⟩ := own_at (i := n) (hd := hd) (ks := ks) q3 (by omega) (by rw [← ha]; simp)
    have hn3 : n + 1 ≤ 700 := by have := szL_length (a ++ [Tr.mk hd ks]); omega
    rw [hn]
    rw [hn] at q3
    have HQ1 := hid q1
    have HQ2 := hid q2
    have HQ3 := hid q3
    have HQ4 := hid q4
    clear q1 q2 q3 q4 HA HA0 hl
    have HBW : Hid (Below w2.heap.size w2 (wr.alloc (.cells (arr hd ks.length) 49))) := HQ4.out.alloc HQ4.out.size _
    have HOW := hid (HQ3.out.alloc (.cells (arr hd ks.length) 49))
    have HCW := hid (c13_new wr hd ks.length 49)
    have hlt2 : w.heap.size + 1 < w2.heap.size := by have := HZ.out; omega
    have HFW : Hid (Blk (wr.alloc (.cells (arr hd ks.length) 49)) (w.heap.size + 1) 68 #[.nilFunc, .func (.func 38) #[] #[], .func (.func 39) #[] #[], .func (.func 40) #[] #[], .func (.func 41) #[] #[], .func (.func 42) #[] #[], .func (.func 43) #[] #[], .func (.func 44) #[] #[]]) := HF1.out.below HBW.out
    unfold arr at HBW HOW HCW HFW
    go_upto_region 5 with fail
    have hgr : wr.heap.size < (wr.alloc (.cells (arr hd ks.length) 49)).heap.size := by simp
    unfold arr at hgr
    clear c0 c1 c2 c3 c4 c5 c6 c7 c8 c9 c10 c11 c12 HQ3 HQ4
    generalize wr.alloc (.cells _ 49) = W5 at *
    have hq : okHd hd ks.length = true := by
     cases h : okHd hd ks.length with
     | true => rfl
     | false =>
       have := HQ1.out
       rw [all_bad h] at this
       cases this
    have HQ := hid hq
    clear hq
    go_cut [38] from 9 to 47 (fun s38 wx => s38 = .bool false ∧ Hid (wx.ownsRow w2.heap.size 27 13 (.slice (some ⟨g, 0, none⟩) (n + 1) cap) (n + 1) (flatE (a ++ [Tr.mk hd ks]))) ∧ Hid (C13 wx wr.heap.size hd ks.length) ∧ Hid (Below w2.heap.size w2 wx))
    case first =>
     obtain ⟨c0, c1, c2, c3, c4, c5, c6, c7, c8, c9, c10, c11, c12⟩ := HCW.out
     have hk : ¬ (hd.k < 1 ∨ 7 < hd.k) := fun h => by
      have := HQ.out
      rw [ok_out h] at this
      cases this
     obtain ⟨j, hj⟩ : ∃ j : Nat, hd.k = (j : Int) := ⟨hd.k.toNat, by omega⟩
     have hjj : 1 ≤ j ∧ j ≤ 7 := by omega
     have HP := hid (fun W (hW : Below w2.heap.size w2 W) => part_any hd ks j hj hjj.1 hjj.2 HQ.out W (HT1.out.below hW) ((LiesL.mem HQ2.out (List.mem_append.2 (.inr List.mem_cons_self))).below hW))
     rw [valT_arr] at HP
     unfold arr at HP
     rw [hj] at HP c0
     have : j = 1 ∨ j = 2 ∨ j = 3 ∨ j = 4 ∨ j = 5 ∨ j = 6 ∨ j = 7 := by omega
     clear hjj hk hj
     rcases this with rfl | rfl | rfl | rfl | rfl | rfl | rfl
     · have hf := HFW.out.cell 1
       simp at hf
       have hz1 : ((1 : Nat) : Int) = 1 := rfl
       rw [hz1] at HP c0
       clear hz1
       go_still_tail 17, (by kernel_rfl)
       change wpList _ _ _ _ _ W5.drew
       go_wp2_with fail
       refine (HP.out W5.drew (Rg.bel_drawn HBW.out 1)).mono ?_
       rintro e w6 ⟨rfl, hb6⟩
       have HO6 := hid (own_below (w := W5.drew) HOW.out hb6)
       have HC6 := hid (C13.below (W := W5.drew) HCW.out hb6 hgr)
       have HB6 := hid ((Rg.bel_drawn HBW.out 1).trans (hb6.mono HBW.out.size))
       clear hb6
       go_wp2_with fail
       go_meet
       case rel => exact ⟨rfl, HO6, HC6, HB6⟩
     · have hf := HFW.out.cell 2
       simp at hf
       have hz1 : ((2 : Nat) : Int) = 2 := rfl
       rw [hz1] at HP c0
       clear hz1
       go_still_tail 17, (by kernel_rfl)
       change wpList _ _ _ _ _ W5.drew
       go_wp2_with fail
       refine (HP.out W5.drew (Rg.bel_drawn HBW.out 1)).mono ?_
       rintro e w6 ⟨rfl, hb6⟩
       have HO6 := hid (own_below (w := W5.drew) HOW.out hb6)
       have HC6 := hid (C13.below (W := W5.drew) HCW.out hb6 hgr)
       have HB6 := hid ((Rg.bel_drawn HBW.out 1).trans (hb6.mono HBW.out.size))
       clear hb6
       go_wp2_with fail
       go_meet
       case rel => exact ⟨rfl, HO6, HC6, HB6⟩
     · have hf := HFW.out.cell 3
       simp at hf
       have hz1 : ((3 : Nat) : Int) = 3 := rfl
       rw [hz1] at HP c0
       clear hz1
       go_still_tail 17, (by kernel_rfl)
       change wpList _ _ _ _ _ W5.drew
       go_wp2_with fail
       refine (HP.out W5.drew (Rg.bel_drawn HBW.out 1)).mono ?_
       rintro e w6 ⟨rfl, hb6⟩
       have HO6 := hid (own_below (w := W5.drew) HOW.out hb6)
       have HC6 := hid (C13.below (W := W5.drew) HCW.out hb6 hgr)
       have HB6 := hid ((Rg.bel_drawn HBW.out 1).trans (hb6.mono HBW.out.size))
       clear hb6
       go_wp2_with fail
       go_meet
       case rel => exact ⟨rfl, HO6, HC6, HB6⟩
     · have hf := HFW.out.cell 4
       simp at hf
       have hz1 : ((4 : Nat) : Int) = 4 := rfl
       rw [hz1] at HP c0
       clear hz1
       go_still_tail 17, (by kernel_rfl)
       change wpList _ _ _ _ _ W5.drew
       go_wp2_with fail
       refine (HP.out W5.drew (Rg.bel_drawn HBW.out 1)).mono ?_
       rintro e w6 ⟨rfl, hb6⟩
       have HO6 := hid (own_below (w := W5.drew) HOW.out hb6)
       have HC6 := hid (C13.below (W := W5.drew) HCW.out hb6 hgr)
       have HB6 := hid ((Rg.bel_drawn HBW.out 1).trans (hb6.mono HBW.out.size))
       clear hb6
       go_wp2_with fail
       go_meet
       case rel => exact ⟨rfl, HO6, HC6, HB6⟩
     · have hf := HFW.out.cell 5
       simp at hf
       have hz1 : ((5 : Nat) : Int) = 5 := rfl
       rw [hz1] at HP c0
       clear hz1
       go_still_tail 17, (by kernel_rfl)
       change wpList _ _ _ _ _ W5.drew
       go_wp2_with fail
       refine (HP.out W5.drew (Rg.bel_drawn HBW.out 1)).mono ?_
       rintro e w6 ⟨rfl, hb6⟩
       have HO6 := hid (own_below (w := W5.drew) HOW.out hb6)
       have HC6 := hid (C13.below (W := W5.drew) HCW.out hb6 hgr)
       have HB6 := hid ((Rg.bel_drawn HBW.out 1).trans (hb6.mono HBW.out.size))
       clear hb6
       go_wp2_with fail
       go_meet
       case rel => exact ⟨rfl, HO6, HC6, HB6⟩
     · have hf := HFW.out.cell 6
       simp at hf
       have hz1 : ((6 : Nat) : Int) = 6 := rfl
       rw [hz1] at HP c0
       clear hz1
       go_still_tail 17, (by kernel_rfl)
       change wpList _ _ _ _ _ W5.drew
       go_wp2_with fail
       refine (HP.out W5.drew (Rg.bel_drawn HBW.out 1)).mono ?_
       rintro e w6 ⟨rfl, hb6⟩
       have HO6 := hid (own_below (w := W5.drew) HOW.out hb6)
       have HC6 := hid (C13.below (W := W5.drew) HCW.out hb6 hgr)
       have HB6 := hid ((Rg.bel_drawn HBW.out 1).trans (hb6.mono HBW.out.size))
       clear hb6
       go_wp2_with fail
       go_meet
       case rel => exact ⟨rfl, HO6, HC6, HB6⟩
     · have hf := HFW.out.cell 7
       simp at hf
       have hz1 : ((7 : Nat) : Int) = 7 := rfl
       rw [hz1] at HP c0
       clear hz1
       go_still_tail 17, (by kernel_rfl)
       change wpList _ _ _ _ _ W5.drew
       go_wp2_with fail
       refine (HP.out W5.drew (Rg.bel_drawn HBW.out 1)).mono ?_
       rintro e w6 ⟨rfl, hb6⟩
       have HO6 := hid (own_below (w := W5.drew) HOW.out hb6)
       have HC6 := hid (C13.below (W := W5.drew) HCW.out hb6 hgr)
       have HB6 := hid ((Rg.bel_drawn HBW.out 1).trans (hb6.mono HBW.out.size))
       clear hb6
       go_wp2_with fail
       go_meet
       case rel => exact ⟨rfl, HO6, HC6, HB6⟩
    case rest =>
     obtain ⟨rfl, HOC, HCC, HBC⟩ := hcut
     clear HOW HCW HBW HFW
     have hcut := own_cut (n := n) (m := 1) (xs := flatE a) (ys := flatE [Tr.mk hd ks]) (by have := HOC.out; rwa [flatE_append] at this) (by rw [flatE_length, ha])
     have HCT := hid (show wc.ownsRow w2.heap.size 27 13 (.slice (some ⟨g, 0, none⟩) a.length cap) a.length (flatE a) from ha ▸ hcut)
     have hlie := LiesL.mem HQ2.out (List.mem_append.2 (.inr (List.mem_cons_self (a := Tr.mk hd ks) (l := []))))
     rw [Lies] at hlie
     obtain ⟨hok, hkl, _, _, htr, hkk⟩ := hlie
     have HTR := hid (htr.below HBC.out)
     have hsz := sz_go a hd ks
     have hlen : a.length + ks.length ≤ 700 := by have := szL_length (a ++ ks); rw [List.length_append] at this; omega
     have hkn : hd.ka = none → ks.length = 0 ∧ hd.kc = 0 := by
      intro h
      refine ⟨?_, hok.kn h⟩
      by_cases h0 : ks.length = 0
      · exact h0
      · obtain ⟨b, off, hA, _⟩ := htr (by omega)
        rw [h] at hA
        cases hA
     have HKN := hid hkn
     have hLL : LiesL w2 (a ++ ks) := LiesL.append (LiesL.left HQ2.out) hkk
     have HLL := hid hLL
     have hal : allL okHd (a ++ ks) = true := by rw [← all_go HQ.out]; exact HQ1.out
     have HAL := hid hal
     clear hcut hok htr hkk hkn hLL hal HQ1 HQ2 HQ
     go_upto_region 7 with fail
     obtain ⟨_, _, _, _, _, _, _, _, _, _, _, _, c12⟩ := HCC.out
     subst ha
     have hcp : a.length + 1 ≤ cap := by rw [List.length_append] at hcap; exact hcap
     have hwr : IntKind.i64.wrap ((a.length : Nat) : Int) = (a.length : Int) := by rw [IntKind.wrap_i64]; omega
     have hsl := fun W => slice_pop g a.length cap hcp W
     go_still_tail 8, (by kernel_rfl)
     change wpList _ _ _ _ _ wc.drew
     clear hwr c12 hsl
     go_wp2_with (at_builtin; refine wpList_append_trs wc.drew rfl _ _ rfl w2.heap.size _ a rfl HCT.out hd.ka hd.kc ks rfl HTR.out HKN.out ?c1 ?c2 ?_)
     case c1 => omega
     case c2 => exact HBC.out.size
     intro v' w9 hown9 hgr9
     have HO9 := hid hown9
     have HB9 : Hid (Below w2.heap.size w2 w9) := (Rg.bel_drawn HBC.out 1).grown hgr9 HBC.out.size (fun g hg => (HCT.out.lt g hg).1)
     clear hown9 hgr9
     obtain ⟨g', rfl⟩ : ∃ g', gk = g' + 1 := ⟨gk - 1, by omega⟩
     go_wp2_with fail
     go_roundg g'
     case measure => omega
     case rel => exact ⟨a ++ ks, by omega, HAL.out, HLL.out, by rw [List.length_append]; exact HO9.out, HB9.out, by omega⟩
end
end Go.Proofs.YticmkabafmmlhaaGreatDoor.Ck

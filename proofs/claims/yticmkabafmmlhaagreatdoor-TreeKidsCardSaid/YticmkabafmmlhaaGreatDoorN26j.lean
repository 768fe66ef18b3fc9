/- The document's Size: how many parts a tree has. Condition: the tree lies in memory. -/
import Derived.Test.YticmkabafmmlhaaGreatDoorN16j
import Derived.Test.YticmkabafmmlhaaGreatDoorN10j
import Derived.Test.YticmkabafmmlhaaGreatDoorKLcj
import Derived.Deep.DeepCutAuto
set_option linter.unusedVariables false
set_option linter.unusedSimpArgs false
set_option maxRecDepth 100000
set_option maxHeartbeats 4000000
namespace Go.Proofs.YticmkabafmmlhaaGreatDoor.Ck
open Go.RowKit
open Lib (hid)
theorem drop_kid {l : List Tr} {k : Nat} (h : k < l.length) : l.drop k = l.getD k t0 :: l.drop (k + 1) := by
 rw [List.getD_eq_getElem?_getD, List.getElem?_eq_getElem h]
 exact List.drop_eq_getElem_cons h
theorem kid_mem2 {l : List Tr} {k : Nat} (h : k < l.length) : l.getD k t0 ∈ l := by
 rw [List.getD_eq_getElem?_getD, List.getElem?_eq_getElem h]
 exact List.getElem_mem h
def SizeIs (x : Tr) : Prop := ∀ W, Lies W x → Calls Tryz.prog 12 #[valT x] W fun e w' => e = .returned (.int .i64 (sizeF x)) ∧ Below W.heap.size W w'
theorem size_step (h : Hd) (ks : List Tr) (hk : ∀ x, x ∈ ks → SizeIs x) : SizeIs (.mk h ks) := by
 intro w hL
 obtain ⟨r, hr⟩ : ∃ r, sizeF (.mk h ks) = r := ⟨_, rfl⟩
 rw [hr, valT_arr]
 have hr2 := hr
 rw [sizeF] at hr2
 rw [Lies] at hL
 obtain ⟨hok, hkl, _, _, htr, hkk⟩ := hL
 have hm := hok.ms
 have hns := hok.ns
 have hb0 : Below w.heap.size w (w.alloc (.cells (arr h ks.length) 27)) := (Below.refl _ _).alloc (Nat.le_refl _) _
 have HB0 := hid hb0
 have HTR := hid (htr.below hb0)
 have HKK := hid (hkk.below hb0)
 have HK := hid (Blk.new w 27 (arr h ks.length))
 have HKS := hid hk
 have HR := hid hr2
 clear hr hr2 hok htr hkk hb0 hk
 unfold arr at *
 go_enter Tryz.func12, Tryz.ntmps12
 go_wp2_with fail
 generalize (w.alloc (.cells _ 27)) = W1 at *
 go_loopg [3, 4] ks.length (fun gq s3 s4 wx => ∃ (k : Nat) (m : Int), k ≤ ks.length ∧ ks.length ≤ gq + k ∧ s3 = .int .i64 m ∧ s4 = .int .i64 (k : Int) ∧ Hid (sizeL m (ks.drop k) = r) ∧ Hid (Below W1.heap.size W1 wx))
 case atStart => exact ⟨0, _, Nat.zero_le _, Nat.le_refl _, rfl, rfl, by rw [List.drop_zero]; exact HR.out, Below.refl _ _⟩
 case round =>
  obtain ⟨k, m, hkn, hg, rfl, rfl, HS, HBX⟩ := hrel
  have hbk := HK.out.below HBX.out
  have c12 := hbk.cell 12
  simp at c12
  have HBF := hid (HB0.out.trans (HBX.out.mono HB0.out.size))
  clear hbk
  by_cases hlt : k < ks.length
  · have hki : (k : Int) < (ks.length : Int) := by omega
    by_cases h3 : m ≤ 300
    · obtain ⟨b, off, hA, hb, hc⟩ := HTR.out (by omega)
      cases ht : ks.getD k t0 with
      | mk h2 ks2 =>
        have hix := fun W => index_kid h.ka ks.length h.kc k b off hA hlt W
        obtain ⟨d0, d1, d2, d3, d4, d5, d6, d7, d8, d9, d10, d11, d12⟩ := KC.below (Trs.kc hc hlt ht) HBX.out hb
        obtain ⟨x, hx⟩ : ∃ x, sizeF (Tr.mk h2 ks2) = x := ⟨_, rfl⟩
        have hmem : Tr.mk h2 ks2 ∈ ks := by rw [← ht]; exact kid_mem2 hlt
        have hcl := HKS.out _ hmem wr ((LiesL.mem HKK.out hmem).below HBX.out)
        rw [hx, valT_arr] at hcl
        have HCL := hid hcl
        have HS2 : Hid (sizeL (wrap64 (m + x)) (ks.drop (k + 1)) = r) := by
         have := HS.out
         rwa [drop_kid hlt, ht, sizeL, if_pos h3, hx] at this
        obtain ⟨g', rfl⟩ : ∃ g', gk = g' + 1 := ⟨gk - 1, by omega⟩
        clear hA hc hx hcl ht
        unfold arr at HCL
        go_wp2_with fail
        refine (HCL.out).mono ?_
        rintro e w6 ⟨rfl, hb6⟩
        have HB6 := hid (HBX.out.trans (hb6.mono HBX.out.size))
        clear hb6 HCL d0 d1 d2 d3 d4 d5 d6 d7 d8 d9 d10 d11 d12 hix c12
        go_wp2_with fail
        go_roundg g'
        case measure => omega
        case rel => exact ⟨k + 1, _, by omega, by omega, rfl, by go_num, HS2, HB6⟩
    · have hr3 : m = r := by
       have := HS.out
       rwa [drop_kid hlt, sizeL, if_neg h3] at this
      subst hr3
      go_wp2_with fail
      go_ret
      exact ⟨rfl, HBF.out⟩
  · have hr3 : m = r := by
     have := HS.out
     rwa [List.drop_eq_nil_of_le (by omega), sizeL] at this
    subst hr3
    go_wp2_with fail
    go_ret
    exact ⟨rfl, HBF.out⟩
theorem size_any (n : Nat) : ∀ x : Tr, szF x ≤ n → SizeIs x := by
 induction n with
 | zero => intro x hx; have := szF_pos x; omega
 | succ n ih =>
   intro x hx
   obtain ⟨h, ks⟩ := x
   exact size_step h ks fun y hy => ih y (by have := szL_mem hy; rw [szF] at hx; omega)
end Go.Proofs.YticmkabafmmlhaaGreatDoor.Ck

set_option linter.unusedVariables false
set_option linter.unusedSimpArgs false
set_option maxRecDepth 100000
set_option maxHeartbeats 8000000
namespace Go.Proofs.YticmkabafmmlhaaGreatDoor.Ck
open Go.RowKit
open Lib (hid)
def AllM (l : List Mt) (k : Nat) : Prop := ∀ i, i < k → mtOk (l.getD i m0) = true
def AllN (l : List ByteArray) (k : Nat) : Prop := ∀ i, i < k → nmOk (l.getD i n0) = true
theorem allM_iff (l : List Mt) : AllM l l.length ↔ l.all mtOk = true := by
 rw [List.all_eq_true]
 constructor
 · intro h x hx
   obtain ⟨i, hi, rfl⟩ := List.getElem_of_mem hx
   have := h i hi
   rwa [List.getD_eq_getElem?_getD, List.getElem?_eq_getElem hi] at this
 · intro h i hi
   rw [List.getD_eq_getElem?_getD, List.getElem?_eq_getElem hi]
   exact h _ (List.getElem_mem hi)
theorem allN_iff (l : List ByteArray) : AllN l l.length ↔ l.all nmOk = true := by
 rw [List.all_eq_true]
 constructor
 · intro h x hx
   obtain ⟨i, hi, rfl⟩ := List.getElem_of_mem hx
   have := h i hi
   rwa [List.getD_eq_getElem?_getD, List.getElem?_eq_getElem hi] at this
 · intro h i hi
   rw [List.getD_eq_getElem?_getD, List.getElem?_eq_getElem hi]
   exact h _ (List.getElem_mem hi)
theorem allM_succ {l : List Mt} {k : Nat} (h : AllM l k) (h1 : mtOk (l.getD k m0) = true) : AllM l (k + 1) := fun i hi => by
 by_cases e : i = k
 · subst e; exact h1
 · exact h i (by omega)
theorem allN_succ {l : List ByteArray} {k : Nat} (h : AllN l k) (h1 : nmOk (l.getD k n0) = true) : AllN l (k + 1) := fun i hi => by
 by_cases e : i = k
 · subst e; exact h1
 · exact h i (by omega)
theorem bad_all {l : List Mt} {k : Nat} (hk : k < l.length) (h : mtOk (l.getD k m0) = false) : l.all mtOk = false := by
 rw [Bool.eq_false_iff]
 intro hh
 have g := (allM_iff l).2 hh
 rw [g k hk] at h
 cases h
theorem bad_alln {l : List ByteArray} {k : Nat} (hk : k < l.length) (h : nmOk (l.getD k n0) = false) : l.all nmOk = false := by
 rw [Bool.eq_false_iff]
 intro hh
 have g := (allN_iff l).2 hh
 rw [g k hk] at h
 cases h
theorem msshort_any (A : Option Addr) (l : List Mt) (c : Nat) (w : World) (hM : Mts w A l) (hl : l.length ≤ 140737488355328) :
 Calls Tryz.prog 13 #[.slice A l.length c] w fun e w' => e = .returned (.bool (l.all mtOk && decide (l.length ≤ 10))) ∧ Below w.heap.size w w' := by
 obtain ⟨r, hr⟩ : ∃ r, (l.all mtOk && decide (l.length ≤ 10)) = r := ⟨_, rfl⟩
 rw [hr]
 have HR := hid hr
 have HM := hid hM
 clear hr hM
 obtain ⟨n, hn⟩ : ∃ n, l.length = n := ⟨_, rfl⟩
 rw [hn] at hl ⊢
 have HL := hid hn
 clear hn
 go_enter Tryz.func13, Tryz.ntmps13
 go_wp2_with fail
 go_loopg [3] n (fun gq s3 wx => ∃ k : Nat, k ≤ n ∧ n ≤ gq + k ∧ s3 = .int .i64 (k : Int) ∧ Hid (AllM l k) ∧ Hid (Below w.heap.size w wx))
 case atStart => exact ⟨0, Nat.zero_le _, Nat.le_refl _, rfl, fun i hi => absurd hi (Nat.not_lt_zero _), Below.refl _ _⟩
 case round =>
  obtain ⟨k, hkn, hg, rfl, HG, HBX⟩ := hrel
  by_cases hlt : k < n
  · obtain ⟨b, off, rfl, hb, hc⟩ := HM.out (by rw [HL.out]; omega)
    obtain ⟨x0, x1, x2⟩ := hc k (by rw [HL.out]; exact hlt)
    have y1 := (HBX.out.cell (p := ⟨b, off + k * 3 + 1, none⟩) hb).trans x1
    have y2 := (HBX.out.cell (p := ⟨b, off + k * 3 + 2, none⟩) hb).trans x2
    have hki : (k : Int) < (n : Int) := by omega
    clear hc x0 x1 x2
    obtain ⟨⟨op, nm, v⟩, hm⟩ : ∃ m, l.getD k m0 = m := ⟨_, rfl⟩
    rw [hm] at y1 y2
    dsimp only at y1 y2
    have HMK := hid hm
    clear hm
    obtain ⟨g', rfl⟩ : ∃ g', gk = g' + 1 := ⟨gk - 1, by omega⟩
    by_cases h1 : 250 < v.size
    · have d1 : (250 : Int) < (v.size : Int) := by omega
      obtain rfl : false = r := by
       rw [← HR.out, bad_all (k := k) (by rw [HL.out]; exact hlt) (by rw [HMK.out]; unfold mtOk; rw [decide_eq_false (by show ¬ v.size ≤ 250; omega)]; rfl)]; rfl
      clear h1
      go_wp2_with fail
      go_ret
      exact ⟨rfl, HBX.out⟩
    · have d1 : ¬ (250 : Int) < (v.size : Int) := by omega
      by_cases h2 : 400 < nm.size
      · have d2 : (400 : Int) < (nm.size : Int) := by omega
        obtain rfl : false = r := by
         rw [← HR.out, bad_all (k := k) (by rw [HL.out]; exact hlt) (by rw [HMK.out]; unfold mtOk; rw [decide_eq_false (show ¬ nm.size ≤ 400 by omega), Bool.and_false])]; rfl
        clear h1 h2
        go_wp2_with fail
        go_ret
        exact ⟨rfl, HBX.out⟩
      · have d2 : ¬ (400 : Int) < (nm.size : Int) := by omega
        have HG2 := hid (allM_succ HG.out (by rw [HMK.out]; unfold mtOk; rw [decide_eq_true (show v.size ≤ 250 by omega), decide_eq_true (show nm.size ≤ 400 by omega)]; rfl))
        clear h1 h2
        go_wp2_with fail
        go_roundg g'
        case measure => omega
        case rel => exact ⟨k + 1, by omega, by omega, by go_num, HG2, HBX⟩
  · have hr2 : decide (n ≤ 10) = r := by
     have : k = n := by omega
     subst this
     have h1 := HG.out
     rw [← HL.out, allM_iff] at h1
     rw [← HR.out, h1, HL.out]
     rfl
    have hr3 : decide ((n : Int) ≤ 10) = r := by rw [← hr2, Bool.eq_iff_iff, decide_eq_true_eq, decide_eq_true_eq]; omega
    clear hr2
    go_wp2_with fail
    go_ret
    exact ⟨rfl, HBX.out⟩
theorem index_mt (A : Option Addr) (n c k b off : Nat) (hA : A = some ⟨b, off, none⟩) (hk : k < n) (W : World) : (Instr.indexAt 23 (.slice A n c) (.int .i64 (k : Int))).run Tryz.prog W = .ok (.pointer (some ⟨b, off + k * 3, none⟩)) W := by
 subst hA
 have hs : ∀ W, (sizeOf 39).run Tryz.prog W = .ok 3 W := fun W => by kernel_rfl
 simp [Instr.indexAt, run_underlying Tryz.underlying23, asIntOf, hs, hk, Addr.add]
theorem index_nm (A : Option Addr) (n c k b off : Nat) (hA : A = some ⟨b, off, none⟩) (hk : k < n) (W : World) : (Instr.indexAt 24 (.slice A n c) (.int .i64 (k : Int))).run Tryz.prog W = .ok (.pointer (some ⟨b, off + k, none⟩)) W := by
 subst hA
 have hs : ∀ W, (sizeOf 9).run Tryz.prog W = .ok 1 W := fun W => by kernel_rfl
 simp [Instr.indexAt, run_underlying Tryz.underlying24, asIntOf, hs, hk, Addr.add]
def ShortIs (x : Tr) : Prop := ∀ W, Lies W x → Calls Tryz.prog 5 #[valT x] W fun e w' => e = .returned (.bool (shortF x)) ∧ Below W.heap.size W w'
theorem shortL_bad : ∀ {l : List Tr} {x : Tr}, x ∈ l → shortF x = false → shortL l = false
 | [], _, h, _ => by cases h
 | y :: l, x, h, hx => by
   rw [shortL]
   rcases List.mem_cons.1 h with rfl | h
   · rw [hx, Bool.false_and]
   · rw [shortL_bad h hx, Bool.and_false]
theorem shortL_all : ∀ {l : List Tr}, (∀ k, k < l.length → shortF (l.getD k t0) = true) → shortL l = true
 | [], _ => by rw [shortL]
 | y :: l, h => by
   rw [shortL, shortL_all (l := l) (fun k hk => by simpa using h (k + 1) (by simpa using hk))]
   have := h 0 (by simp)
   simpa using this
theorem short_step (h : Hd) (ks : List Tr) (hk : ∀ x, x ∈ ks → ShortIs x) : ShortIs (.mk h ks) := by
 intro w hL0
 obtain ⟨r, hr⟩ : ∃ r, shortF (.mk h ks) = r := ⟨_, rfl⟩
 rw [hr, valT_arr]
 have hr2 := hr
 rw [shortF] at hr2
 obtain ⟨v, hv⟩ : ∃ v, sizeF (.mk h ks) = v := ⟨_, rfl⟩
 rw [hv] at hr2
 have hb0 : Below w.heap.size w (w.alloc (.cells (arr h ks.length) 27)) := (Below.refl _ _).alloc (Nat.le_refl _) _
 have hsz := size_any _ (.mk h ks) (Nat.le_refl _) _ (hL0.below hb0)
 rw [hv, valT_arr] at hsz
 have hL := hL0
 rw [Lies] at hL
 obtain ⟨hok, hkl, hms, hnm, htr, hkk⟩ := hL
 have hm := hok.ms
 have hns := hok.ns
 have HB0 := hid hb0
 have HMS := hid (hms.below hb0)
 have HNM := hid (hnm.below hb0)
 have HTR := hid (htr.below hb0)
 have HKK := hid (hkk.below hb0)
 have HK := hid (Blk.new w 27 (arr h ks.length))
 have HKS := hid hk
 have HR := hid hr2
 have HSZ := hid hsz
 clear hr hr2 hok htr hkk hb0 hk hsz hms hnm hL0 hv
 unfold arr at *
 go_enter Tryz.func5, Tryz.ntmps5
 go_wp2_with fail
 generalize (w.alloc (.cells _ 27)) = W1 at *
 refine (HSZ.out).mono ?_
 rintro e w2 ⟨rfl, hb2⟩
 have HK2 := hid (HK.out.below hb2)
 have HB2 := hid hb2
 have HBF := hid (HB0.out.trans (hb2.mono HB0.out.size))
 clear hb2 HSZ
 by_cases hv3 : (300 : Int) < v
 · obtain rfl : false = r := by rw [← HR.out, decide_eq_false (by omega), Bool.false_and]
   clear HR
   go_wp2_with fail
   go_ret
   exact ⟨rfl, HBF.out⟩
 obtain ⟨c0, c1, c2, c3, c4, c5, c6, c7, c8, c9, c10, c11, c12⟩ := blk13 (h := h) (n := ks.length) HK2.out
 by_cases hs4 : (400 : Int) < (h.s.size : Int)
 · obtain rfl : false = r := by rw [← HR.out, decide_eq_false (show ¬ h.s.size ≤ 400 by omega), Bool.false_and, Bool.and_false]
   clear HR
   go_wp2_with fail
   go_ret
   exact ⟨rfl, HBF.out⟩
 have hr3 : (h.ms.all mtOk && (h.ns.all nmOk && shortL ks)) = r := by rw [← HR.out, decide_eq_true (show v ≤ 300 by omega), decide_eq_true (show h.s.size ≤ 400 by omega), Bool.true_and, Bool.true_and]
 have HR3 := hid hr3
 obtain ⟨q, hq⟩ : ∃ q, (h.ms.all mtOk && decide (h.ms.length ≤ 10)) = q := ⟨_, rfl⟩
 have hmc := msshort_any h.ma h.ms h.mc w2 (HMS.out.below HB2.out) hm
 rw [hq] at hmc
 have HMC := hid hmc
 have HQ := hid hq
 clear HR hr3 hmc hq
 go_wp2_with fail
 refine (HMC.out).mono ?_
 rintro e w3 ⟨rfl, hb3⟩
 have HK3 := hid (HK2.out.below hb3)
 have HB3 := hid (HB2.out.trans (hb3.mono HB2.out.size))
 have HBF3 := hid (HBF.out.trans (hb3.mono HBF.out.size))
 clear hb3 HMC c0 c1 c2 c3 c4 c5 c6 c7 c8 c9 c10 c11 c12 HBF HB2
 obtain ⟨c0, c1, c2, c3, c4, c5, c6, c7, c8, c9, c10, c11, c12⟩ := blk13 (h := h) (n := ks.length) HK3.out
 by_cases hbad : q = false ∧ h.ms.length ≤ 10
 · obtain ⟨rfl, hml⟩ := hbad
   have dl : (h.ms.length : Int) ≤ 10 := by omega
   obtain rfl : false = r := by
    have h1 := HQ.out
    rw [decide_eq_true hml, Bool.and_true] at h1
    rw [← HR3.out, h1, Bool.false_and]
   clear hml
   go_wp2_with fail
   go_ret
   exact ⟨rfl, HBF3.out⟩
 go_upto_region 3 with fail
 all_goals (first | (exfalso; exact hbad ⟨by simpa using ‹¬ q = true›, by omega⟩) | skip)
 all_goals (
  clear hbad c0 c1 c2 c3 c4 c5 c6 c7 c8 c9 c10 c11 c12 HQ
  go_wp2_with fail
  go_loopg [3] h.ms.length (fun gq s3 wx => ∃ k : Nat, k ≤ h.ms.length ∧ h.ms.length ≤ gq + k ∧ s3 = .int .i64 (k : Int) ∧ Hid (AllM h.ms k) ∧ Hid (Below w3.heap.size w3 wx))
  case atStart => exact ⟨0, Nat.zero_le _, Nat.le_refl _, rfl, fun i hi => absurd hi (Nat.not_lt_zero _), Below.refl _ _⟩
  case round =>
   obtain ⟨k, hkn, hg, rfl, HG, HBX⟩ := hrel
   have c4 := (HK3.out.below HBX.out).cell 4
   simp at c4
   have HBXF := hid (HBF3.out.trans (HBX.out.mono HBF3.out.size))
   by_cases hlt : k < h.ms.length
   · have hki : (k : Int) < (h.ms.length : Int) := by omega
     have hlx := HB3.out.trans (HBX.out.mono HB3.out.size)
     obtain ⟨b, off, hA, hb, hc⟩ := HMS.out (by omega)
     have hix := fun W => index_mt h.ma h.ms.length h.mc k b off hA hlt W
     obtain ⟨x0, x1, x2⟩ := hc k hlt
     have y1 := (hlx.cell (p := ⟨b, off + k * 3 + 1, none⟩) hb).trans x1
     have y2 := (hlx.cell (p := ⟨b, off + k * 3 + 2, none⟩) hb).trans x2
     clear hc x0 x1 x2 hlx hA
     obtain ⟨⟨op, nm, vv⟩, hmm⟩ : ∃ m, h.ms.getD k m0 = m := ⟨_, rfl⟩
     rw [hmm] at y1 y2
     dsimp only at y1 y2
     have HMK := hid hmm
     clear hmm
     obtain ⟨g', rfl⟩ : ∃ g', gk = g' + 1 := ⟨gk - 1, by omega⟩
     by_cases h1 : 250 < vv.size
     · have d1 : (250 : Int) < (vv.size : Int) := by omega
       obtain rfl : false = r := by
        rw [← HR3.out, bad_all (k := k) hlt (by rw [HMK.out]; unfold mtOk; rw [decide_eq_false (by show ¬ vv.size ≤ 250; omega)]; rfl)]; rfl
       clear h1
       go_wp2_with fail
       go_ret
       exact ⟨rfl, HBXF.out⟩
     · have d1 : ¬ (250 : Int) < (vv.size : Int) := by omega
       by_cases h2 : 400 < nm.size
       · have d2 : (400 : Int) < (nm.size : Int) := by omega
         obtain rfl : false = r := by
          rw [← HR3.out, bad_all (k := k) hlt (by rw [HMK.out]; unfold mtOk; rw [decide_eq_false (show ¬ nm.size ≤ 400 by omega), Bool.and_false])]; rfl
         clear h1 h2
         go_wp2_with fail
         go_ret
         exact ⟨rfl, HBXF.out⟩
       · have d2 : ¬ (400 : Int) < (nm.size : Int) := by omega
         have HG2 := hid (allM_succ HG.out (by rw [HMK.out]; unfold mtOk; rw [decide_eq_true (show vv.size ≤ 250 by omega), decide_eq_true (show nm.size ≤ 400 by omega)]; rfl))
         clear h1 h2
         go_wp2_with fail
         go_roundg g'
         case measure => omega
         case rel => exact ⟨k + 1, by omega, by omega, by go_num, HG2, HBX⟩
   · have hka : k = h.ms.length := by omega
     have hall : h.ms.all mtOk = true := by rw [← allM_iff, ← hka]; exact HG.out
     have hr4 : (h.ns.all nmOk && shortL ks) = r := by rw [← HR3.out, hall, Bool.true_and]
     have HR4 := hid hr4
     have HKA := hid (HK3.out.below HBX.out)
     have HBA := hid (HB3.out.trans (HBX.out.mono HB3.out.size))
     clear hka hall hr4 HG
     go_wp2_with fail
     clear c4
     generalize wr = wa at *
     go_loopg [4] h.ns.length (fun gq s4 wx => ∃ k : Nat, k ≤ h.ns.length ∧ h.ns.length ≤ gq + k ∧ s4 = .int .i64 (k : Int) ∧ Hid (AllN h.ns k) ∧ Hid (Below wa.heap.size wa wx))
     case atStart => exact ⟨0, Nat.zero_le _, Nat.le_refl _, rfl, fun i hi => absurd hi (Nat.not_lt_zero _), Below.refl _ _⟩
     case round =>
      obtain ⟨j, hjn, hg2, rfl, HGN, HBY⟩ := hrel
      have c10 := (HKA.out.below HBY.out).cell 10
      simp at c10
      have HBYF := hid (HBXF.out.trans (HBY.out.mono HBXF.out.size))
      by_cases hltn : j < h.ns.length
      · have hki : (j : Int) < (h.ns.length : Int) := by omega
        have hlx := HBA.out.trans (HBY.out.mono HBA.out.size)
        obtain ⟨b, off, hA, hb, hc⟩ := HNM.out (by omega)
        have hix := fun W => index_nm h.na h.ns.length h.nc j b off hA hltn W
        have y1 := (hlx.cell (p := ⟨b, off + j, none⟩) hb).trans (hc j hltn)
        clear hc hlx hA
        obtain ⟨nm, hmm⟩ : ∃ m, h.ns.getD j n0 = m := ⟨_, rfl⟩
        rw [hmm] at y1
        have HMK := hid hmm
        clear hmm
        obtain ⟨g', rfl⟩ : ∃ g', gk = g' + 1 := ⟨gk - 1, by omega⟩
        by_cases h2 : 400 < nm.size
        · have d2 : (400 : Int) < (nm.size : Int) := by omega
          obtain rfl : false = r := by
           rw [← HR4.out, bad_alln (k := j) hltn (by rw [HMK.out]; unfold nmOk; rw [decide_eq_false (show ¬ nm.size ≤ 400 by omega)]), Bool.false_and]
          clear h2
          go_wp2_with fail
          go_ret
          exact ⟨rfl, HBYF.out⟩
        · have d2 : ¬ (400 : Int) < (nm.size : Int) := by omega
          have HG2 := hid (allN_succ HGN.out (by rw [HMK.out]; unfold nmOk; rw [decide_eq_true (show nm.size ≤ 400 by omega)]))
          clear h2
          go_wp2_with fail
          go_roundg g'
          case measure => omega
          case rel => exact ⟨j + 1, by omega, by omega, by go_num, HG2, HBY⟩
      · have hka : j = h.ns.length := by omega
        have hall : h.ns.all nmOk = true := by rw [← allN_iff, ← hka]; exact HGN.out
        have hr5 : shortL ks = r := by rw [← HR4.out, hall, Bool.true_and]
        have HR5 := hid hr5
        have HKB := hid (HKA.out.below HBY.out)
        have HBB := hid (HBA.out.trans (HBY.out.mono HBA.out.size))
        clear hka hall hr5 HGN
        go_wp2_with fail
        clear c10
        generalize wr = wb at *
        go_loopg [5] ks.length (fun gq s5 wx => ∃ k : Nat, k ≤ ks.length ∧ ks.length ≤ gq + k ∧ s5 = .int .i64 (k : Int) ∧ Hid (∀ i, i < k → shortF (ks.getD i t0) = true) ∧ Hid (Below wb.heap.size wb wx))
        case atStart => exact ⟨0, Nat.zero_le _, Nat.le_refl _, rfl, fun i hi => absurd hi (Nat.not_lt_zero _), Below.refl _ _⟩
        case round =>
         obtain ⟨i, hin, hg3, rfl, HGK, HBZ⟩ := hrel
         have c12 := (HKB.out.below HBZ.out).cell 12
         simp at c12
         have HBZF := hid (HBYF.out.trans (HBZ.out.mono HBYF.out.size))
         by_cases hlti : i < ks.length
         · have hki : (i : Int) < (ks.length : Int) := by omega
           have hlx := HBB.out.trans (HBZ.out.mono HBB.out.size)
           obtain ⟨b, off, hA, hb, hc⟩ := HTR.out (by omega)
           cases ht : ks.getD i t0 with
           | mk h2 ks2 =>
             have hix := fun W => index_kid h.ka ks.length h.kc i b off hA hlti W
             obtain ⟨d0, d1, d2, d3, d4, d5, d6, d7, d8, d9, d10, d11, d12⟩ := KC.below (Trs.kc hc hlti ht) hlx hb
             obtain ⟨x, hx⟩ : ∃ x, shortF (Tr.mk h2 ks2) = x := ⟨_, rfl⟩
             have hmem : Tr.mk h2 ks2 ∈ ks := by rw [← ht]; exact kid_mem2 hlti
             have hcl := HKS.out _ hmem wr ((LiesL.mem HKK.out hmem).below hlx)
             rw [hx, valT_arr] at hcl
             have HCL := hid hcl
             have HX := hid hx
             have HTT := hid ht
             obtain ⟨g', rfl⟩ : ∃ g', gk = g' + 1 := ⟨gk - 1, by omega⟩
             clear hA hc hx hcl ht hlx
             unfold arr at HCL
             go_wp2_with fail
             refine (HCL.out).mono ?_
             rintro e w6 ⟨rfl, hb6⟩
             have HB6 := hid (HBZ.out.trans (hb6.mono HBZ.out.size))
             have HBF6 := hid (HBZF.out.trans (hb6.mono HBZF.out.size))
             clear hb6 HCL d0 d1 d2 d3 d4 d5 d6 d7 d8 d9 d10 d11 d12 hix c12
             cases x with
             | false =>
               obtain rfl : false = r := by rw [← HR5.out, shortL_bad hmem HX.out]
               go_wp2_with fail
               go_ret
               exact ⟨rfl, HBF6.out⟩
             | true =>
               have HGK2 : Hid (∀ q, q < i + 1 → shortF (ks.getD q t0) = true) := fun q hq => by
                by_cases e : q = i
                · rw [e, HTT.out]; exact HX.out
                · exact HGK.out q (by omega)
               go_wp2_with fail
               go_roundg g'
               case measure => omega
               case rel => exact ⟨i + 1, by omega, by omega, by go_num, HGK2, HB6⟩
         · have hka : i = ks.length := by omega
           obtain rfl : true = r := by rw [← HR5.out]; exact (shortL_all (fun k hk => HGK.out k (by omega))).symm
           clear hka
           go_wp2_with fail
           go_ret
           exact ⟨rfl, HBZF.out⟩)
theorem short_any (n : Nat) : ∀ x : Tr, szF x ≤ n → ShortIs x := by
 induction n with
 | zero => intro x hx; have := szF_pos x; omega
 | succ n ih =>
   intro x hx
   obtain ⟨h, ks⟩ := x
   exact short_step h ks fun y hy => ih y (by have := szL_mem hy; rw [szF] at hx; omega)
end Go.Proofs.YticmkabafmmlhaaGreatDoor.Ck

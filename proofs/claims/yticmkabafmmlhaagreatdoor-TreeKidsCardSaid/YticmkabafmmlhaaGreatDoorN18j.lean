/- Nest: how a tree is nested. Conditions: the tree lies in memory, and has at most 700 parts. -/
import Derived.Test.YticmkabafmmlhaaGreatDoorN16j
import Derived.StillTailTactics
import Derived.Deep.DeepCutAuto
import Derived.Deep.RegionHeld3
import Derived.Test.YticmkabafmmlhaaGreatDoorN15j
set_option linter.unusedVariables false
set_option linter.unusedSimpArgs false
set_option maxRecDepth 100000
set_option maxHeartbeats 8000000
namespace Go.Proofs.YticmkabafmmlhaaGreatDoor.Ck
open Go.RowKit
open Lib (hid)
theorem own_le {w w' : World} {base : Nat} {e : TypeId} {size : Nat} {v : Value} {n : Nat} {xs : List Value} (h : w.ownsRow base e size v n xs) (hb : Below w.heap.size w w') : w'.ownsRow base e size v n xs := own_below h hb
theorem bel_drew {B : Nat} {w wr : World} (h : Below B w wr) : Below B w wr.drew := ⟨h.os, h.tape, h.output, h.size, h.block⟩
theorem blk_grown {w w' : World} {g : Nat} {t : TypeId} {cs : Array Value} {row : Option Nat} (h : Blk w g t cs) (hg : w.grownBy w' row) (hne : row ≠ some g) : Blk w' g t cs := (hg.block g h.lt (Ne.symm hne)).trans h
theorem kids_next (a : List Nd) (h : Hd) (n d k : Nat) (ks : List Tr) (t : Tr) (x D : Nat) (hk : k < ks.length) (ht : ks.getD k t0 = t) (hx : deepF h n k (ks.getD k t0) = x) (hD : d + x = D) :
 a ++ kidN h n d 0 (ks.take (k + 1)) = (a ++ kidN h n d 0 (ks.take k)) ++ [(t, D)] := by
 have e : ks.take (k + 1) = ks.take k ++ [t] := by
  rw [List.take_add_one, ← ht]
  simp [hk]
 rw [e, kidN_snoc, ← List.append_assoc, List.length_take, Nat.min_eq_left (by omega), Nat.zero_add, ← hD, ← hx, ht]
theorem kid_mem {h : Hd} {n d : Nat} : ∀ {i : Nat} {l : List Tr} {x : Nd}, x ∈ kidN h n d i l → x.1 ∈ l
 | _, [], x, hx => by rw [kidN] at hx; cases hx
 | i, t :: ts, x, hx => by
   rw [kidN] at hx
   rcases List.mem_cons.1 hx with rfl | hx
   · exact List.mem_cons_self
   · exact List.mem_cons_of_mem _ (kid_mem hx)
theorem most_ge (l : List Nd) : ∀ m, m ≤ mostF m l := by
 induction l with
 | nil => intro m; exact Nat.le_refl _
 | cons x l ih => intro m; rw [mostF]; exact Nat.le_trans (by omega) (ih _)
theorem most_mem (l : List Nd) : ∀ m x, x ∈ l → x.2 + nestF x.1 ≤ mostF m l := by
 induction l with
 | nil => intro m x h; cases h
 | cons y l ih =>
   intro m x h
   rw [mostF]
   rcases List.mem_cons.1 h with rfl | h
   · exact Nat.le_trans (by omega) (most_ge l _)
   · exact ih _ x h
def NRel (w : World) (R : Nat) (l : List Nd) (m : Nat) (v : Value) (wx : World) : Prop :=
 mostF m l = R ∧ (∀ x, x ∈ l → Lies w x.1) ∧ wx.ownsRow w.heap.size 52 14 v l.length (flatN l) ∧ Below w.heap.size w wx ∧ ndsz l ≤ 700
theorem kids_is (h : Hd) (ks : List Tr) (r : Bool) (hr : hasKidsF h.k = r) (w : World) : Calls Tryz.prog 18 #[valT (.mk h ks)] w fun e w' => e = .returned (.bool r) ∧ Below w.heap.size w w' := by
 subst hr; exact hasKids_any h.k h.o h.v h.s (.slice h.ma h.ms.length h.mc) h.wd h.off h.ha h.tm h.how (.slice h.na h.ns.length h.nc) h.bo (.slice h.ka ks.length h.kc) w
theorem nest_any (t : Tr) (w : World) (hL : Lies w t) (hs : szF t ≤ 700) :
 Calls Tryz.prog 8 #[valT t] w fun e w' => e = .returned (.int .i64 (nestF t : Int)) ∧ Below w.heap.size w w' := by
 obtain ⟨R, hR⟩ : ∃ R, nestF t = R := ⟨_, rfl⟩
 have hR6 : R ≤ 1400 := by have := nest_size t; omega
 rw [hR]
 obtain ⟨h0, ks0⟩ := t
 rw [valT_arr]
 have hown : ((w.alloc (.cells (arr h0 ks0.length) 27)).alloc (.cells (arrN h0 ks0.length 0) 52)).ownsRow w.heap.size 52 14 (.slice (some ⟨w.heap.size + 1, 0, none⟩) 1 1) [(Tr.mk h0 ks0, 0)].length (flatN [(Tr.mk h0 ks0, 0)]) := by
  refine ⟨rfl, .inr ⟨_, 1, _, rfl, by simp, by have := heap_alloc_new (w.alloc (.cells (arr h0 ks0.length) 27)) (.cells (arrN h0 ks0.length 0) 52); rw [World.size_alloc] at this; exact this, Nat.le_refl _, by decide, rfl, rfl⟩⟩
 have HA0 : Hid (NRel w R [(Tr.mk h0 ks0, 0)] 0 (.slice (some ⟨w.heap.size + 1, 0, none⟩) 1 1) ((w.alloc (.cells (arr h0 ks0.length) 27)).alloc (.cells (arrN h0 ks0.length 0) 52))) :=
  ⟨by rw [mostF, mostF]; dsimp only; omega, fun x hx => by rw [List.mem_singleton.1 hx]; exact hL, hown, ((Below.refl _ _).alloc (Nat.le_refl _) _).alloc (by simp) _, by rw [ndsz, ndsz]; exact hs⟩
 clear hR hL hown
 unfold arr arrN at *
 go_enter Tryz.func8, Tryz.ntmps8
 go_wp2_with fail
 generalize ((w.alloc (.cells _ 27)).alloc (.cells _ 52)) = w2 at *
 go_loopg [3, 4] 700 (fun g s3 s4 wx => ∃ (l : List Nd) (m : Nat), ndsz l ≤ g ∧ s3 = .int .i64 (m : Int) ∧ Hid (NRel w R l m s4 wx))
 case atStart => exact ⟨_, 0, HA0.out.2.2.2.2, rfl, HA0⟩
 case round =>
  obtain ⟨l, m, hg, rfl, HA⟩ := hrel
  obtain ⟨q1, q2, q3, q4, q5⟩ := HA.out
  by_cases hl : l.length = 0
  · obtain rfl : l = [] := List.length_eq_zero_iff.1 hl
    obtain ⟨A, cap, rfl, _⟩ := own_len q3
    obtain rfl : m = R := by rw [← q1, mostF]
    have HBX := hid q4
    clear q1 q2 q3 q4 q5 HA HA0 hl
    go_wp2_with fail
    go_ret
    exact ⟨rfl, HBX.out⟩
  · obtain ⟨n, hn⟩ : ∃ n, l.length = n + 1 := ⟨l.length - 1, by omega⟩
    obtain ⟨a, ⟨⟨hd, ks⟩, d⟩, rfl, ha⟩ := nd_split hn
    obtain ⟨g, cap, rfl, hbg, hgl, hcap⟩ := own_addr q3 (by omega)
    obtain ⟨c0, c1, c2, c3, c4, c5, c6, c7, c8, c9, c10, c11, c12, c13⟩ := own_atN (i := n) (hd := hd) (ks := ks) (d := d) q3 (by omega) (by rw [← ha]; simp)
    have hn3 : n + 1 ≤ 700 := by have := ndsz_length (a ++ [(Tr.mk hd ks, d)]); omega
    have hm6 : m ≤ 1400 := by have := most_ge (a ++ [(Tr.mk hd ks, d)]) m; omega
    have hd6 : d + nestF (Tr.mk hd ks) ≤ 1400 := by have := most_mem (a ++ [(Tr.mk hd ks, d)]) m (Tr.mk hd ks, d) (List.mem_append.2 (.inr List.mem_cons_self)); dsimp only at this; omega
    rw [hn] at hcap
    have hsl := fun W => slice_popN g n cap hcap W
    rw [hn]
    rw [hn] at q3
    obtain ⟨M, hM⟩ : ∃ M, max m d = M := ⟨_, rfl⟩
    have hmx : max (m : Int) (d : Int) = (M : Int) := by omega
    have hM6 : M ≤ 1400 := by omega
    obtain ⟨q, hq⟩ : ∃ q, hasKidsF hd.k = q := ⟨_, rfl⟩
    have HKD := hid (fun W => kids_is hd ks q hq W)
    have hcut := own_cut (n := n) (m := 1) (xs := flatN a) (ys := flatN [(Tr.mk hd ks, d)]) (by have := q3; rwa [flatN_append] at this) (by rw [flatN_length, ha])
    have HOW := hid ((show wr.ownsRow w.heap.size 52 14 (.slice (some ⟨g, 0, none⟩) n cap) a.length (flatN a) from by rw [ha]; exact hcut).alloc (.cells (arrN hd ks.length (d : Int)) 52))
    have HBW : Hid (Below w.heap.size w (wr.alloc (.cells (arrN hd ks.length (d : Int)) 52))) := q4.alloc q4.size _
    have HCW := hid (Blk.new wr 52 (arrN hd ks.length (d : Int)))
    have HLI := hid (q2 (Tr.mk hd ks, d) (List.mem_append.2 (.inr List.mem_cons_self)))
    have HLA : Hid (∀ x, x ∈ a → Lies w x.1) := fun x hx => q2 x (List.mem_append.2 (.inl hx))
    have HQ1 := hid q1
    have HD6 := hid hd6
    have HM := hid hM
    have HQ := hid hq
    have hd66 : d ≤ 1400 := by omega
    have hp0 : wr.heap.size < (wr.alloc (.cells (arrN hd ks.length (d : Int)) 52)).heap.size := by simp
    rw [valT_arr] at HKD
    rw [ndsz_append, ndsz, ndsz] at hg q5
    dsimp only at hg q5
    clear q1 q2 q3 q4 HA HA0 hl hd6 hcut hM hq
    unfold arr arrN at *
    go_wp2_with fail
    clear c0 c1 c2 c3 c4 c5 c6 c7 c8 c9 c10 c11 c12 c13
    generalize (wr.alloc (.cells _ 52)) = W5 at *
    generalize wr.heap.size = pb at *
    refine (HKD.out _).mono ?_
    rintro e w6 ⟨rfl, hb6⟩
    have HO6 := hid (own_below HOW.out hb6)
    have HC6 := hid (HCW.out.below hb6)
    have HB6 := hid (HBW.out.trans (hb6.mono HBW.out.size))
    clear hb6 HOW HCW HBW HKD
    cases q with
    | false =>
      have HMF : Hid (mostF M a = R) := by have := HQ1.out; rwa [most_none HQ.out, HM.out] at this
      obtain ⟨g', rfl⟩ : ∃ g', gk = g' + 1 := ⟨gk - 1, by have := szF_pos (Tr.mk hd ks); omega⟩
      go_wp2_with fail
      go_roundg g'
      case measure => omega
      case rel => exact ⟨a, M, by have := szF_pos (Tr.mk hd ks); omega, rfl, HMF.out, HLA.out, HO6.out, HB6.out, by omega⟩
    | true =>
      obtain ⟨go1, rfl⟩ : ∃ g1, gk = g1 + 1 := ⟨gk - 1, by have := szF_pos (Tr.mk hd ks); omega⟩
      obtain ⟨M2, hM2⟩ : ∃ M2, (if ks.length = 0 then max M (d + 1) else M) = M2 := ⟨_, rfl⟩
      have hM26 : M2 ≤ 1401 := by rw [← hM2]; split <;> omega
      have HM2 := hid hM2
      clear hM2
      go_upto_region 8 with fail
      have c12 := (blk14 (h := hd) (n := ks.length) (d := (d : Int)) HC6.out).1.2.2.2.2.2.2.2.2.2.2.2.2
      have c13 := (blk14 (h := hd) (n := ks.length) (d := (d : Int)) HC6.out).2
      by_cases hk0 : ks.length = 0
      · have e0 : ((ks.length : Int) == 0) = true := beq_iff_eq.2 (by omega)
        have hmx2 : max (M : Int) ((d : Int) + 1) = (M2 : Int) := by have hM2 := HM2.out; rw [if_pos hk0] at hM2; omega
        clear hmx
        obtain ⟨nk, hnk⟩ : ∃ nk, ks.length = nk := ⟨_, rfl⟩
        rw [hnk] at c12 e0
        have hli := HLI.out
        rw [Lies] at hli
        obtain ⟨_, _, _, _, htr, hkk⟩ := hli
        have HTR := hid htr
        have HKK := hid hkk
        have hnk3 : nk ≤ 700 := by have := szL_length ks; rw [szF] at q5; omega
        have hb5 : pb < w6.heap.size := HC6.out.lt
        have HNK := hid hnk
        have HK0 := hid hk0
        clear htr hkk hnk hk0
        go_wp2_with fail
        clear c12 c13 e0
        go_loopg [4, 50] nk (fun g s4 s50 wx => ∃ k : Nat, k + g = nk ∧ s50 = .int .i64 (k : Int) ∧ Hid (wx.ownsRow w.heap.size 52 14 s4 (a ++ kidN hd nk d 0 (ks.take k)).length (flatN (a ++ kidN hd nk d 0 (ks.take k)))) ∧ Hid (Blk wx pb 52 (arrN hd nk (d : Int))) ∧ Hid (s4.ownBlock ≠ some pb) ∧ Hid (Below w.heap.size w wx))
        case atStart => exact ⟨0, by omega, rfl, by rw [List.take_zero, kidN, List.append_nil]; exact HO6, by rw [← HNK.out]; exact HC6, (by show Value.ownBlock (.slice (some ⟨g, 0, none⟩) n cap) ≠ some pb; simp [Value.ownBlock]; omega), HB6⟩
        case round =>
         obtain ⟨k, hkg, rfl, HO, HC, HNE, HBX⟩ := hrel
         by_cases hlt : k < nk
         · have hki : (k : Int) < (nk : Int) := by omega
           obtain ⟨b, off, hA, hb, hc⟩ := HTR.out (by rw [HNK.out]; omega)
           cases ht : ks.getD k t0 with
           | mk h2 ks2 =>
             have hix := fun W => index_kid hd.ka nk hd.kc k b off hA hlt W
             obtain ⟨e0, e1, e2, e3, e4, e5, e6, e7, e8, e9, e10, e11, e12⟩ := Trs.at hc (by rw [HNK.out]; exact hlt) ht
             have c0 := (HBX.out.cell (p := ⟨b, off + k * 13, none⟩) hb).trans e0
             have c1 := (HBX.out.cell (p := ⟨b, off + k * 13 + 1, none⟩) hb).trans e1
             have c2 := (HBX.out.cell (p := ⟨b, off + k * 13 + 2, none⟩) hb).trans e2
             have c3 := (HBX.out.cell (p := ⟨b, off + k * 13 + 3, none⟩) hb).trans e3
             have c4 := (HBX.out.cell (p := ⟨b, off + k * 13 + 4, none⟩) hb).trans e4
             have c5 := (HBX.out.cell (p := ⟨b, off + k * 13 + 5, none⟩) hb).trans e5
             have c6 := (HBX.out.cell (p := ⟨b, off + k * 13 + 6, none⟩) hb).trans e6
             have c7 := (HBX.out.cell (p := ⟨b, off + k * 13 + 7, none⟩) hb).trans e7
             have c8 := (HBX.out.cell (p := ⟨b, off + k * 13 + 8, none⟩) hb).trans e8
             have c9 := (HBX.out.cell (p := ⟨b, off + k * 13 + 9, none⟩) hb).trans e9
             have c10 := (HBX.out.cell (p := ⟨b, off + k * 13 + 10, none⟩) hb).trans e10
             have c11 := (HBX.out.cell (p := ⟨b, off + k * 13 + 11, none⟩) hb).trans e11
             have c12 := (HBX.out.cell (p := ⟨b, off + k * 13 + 12, none⟩) hb).trans e12
             obtain ⟨x, hx⟩ : ∃ x, deepF hd nk k (ks.getD k t0) = x := ⟨_, rfl⟩
             have HT := hid ht
             have HX := hid hx
             obtain ⟨D, hD⟩ : ∃ D, d + x = D := ⟨_, rfl⟩
             have hx2 : x ≤ 2 := by rw [← hx]; exact deepF_le _ _ _ _
             have hwr : IntKind.i64.wrap ((d : Int) + (x : Int)) = (D : Int) := by rw [IntKind.wrap_i64]; omega
             have HDE := hid hD
             have hdp : ∀ W, Below w.heap.size w W → Calls Tryz.prog 19 #[.agg (arr hd nk), .int .i64 (k : Int)] W fun e w' => e = .returned (.int .i64 (x : Int)) ∧ Below W.heap.size W w' := fun W hW => by
              have := deeper_any hd ks k W (HTR.out.below hW) (by rw [HNK.out]; exact hlt)
              rw [HNK.out, hx, valT_arr, HNK.out] at this
              exact this
             have HDP := hid hdp
             have HO7 := hid (HO.out.alloc (.cells (arr h2 ks2.length) 27))
             have HC7 := hid (HC.out.alloc (.cells (arr h2 ks2.length) 27))
             have HB7 : Hid (Below w.heap.size w (wr.alloc (.cells (arr h2 ks2.length) 27))) := HBX.out.alloc HBX.out.size _
             have HK7 := hid (Blk.new wr 27 (arr h2 ks2.length))
             have HOBK := hid (fun g2 h => (HO.out.lt g2 h).2)
             have hpw := HC.out.lt
             have hp7 : pb < (wr.alloc (.cells (arr h2 ks2.length) 27)).heap.size := by simp; omega
             have hk7 : wr.heap.size < (wr.alloc (.cells (arr h2 ks2.length) 27)).heap.size := by simp
             have hlen : (a ++ kidN hd nk d 0 (ks.take k)).length ≤ 1400 := by rw [List.length_append, kidN_length, List.length_take]; omega
             have HLEN := hid hlen
             clear hc ht hA e0 e1 e2 e3 e4 e5 e6 e7 e8 e9 e10 e11 e12 hx hD hdp hlen
             unfold arr at HDP HO7 HC7 HB7 HK7 hp7 hk7
             go_upto_region 13 with fail
             clear c0 c1 c2 c3 c4 c5 c6 c7 c8 c9 c10 c11 c12 HO HC HBX hix
             generalize (wr.alloc (.cells _ 27)) = W7 at *
             generalize wr.heap.size = kb at *
             obtain ⟨g', rfl⟩ : ∃ g', gk = g' + 1 := ⟨gk - 1, by omega⟩
             have HBD : Hid (Below w.heap.size w W7.drew) := bel_drew HB7.out
             go_region_held3 (fun W => C14 W pb hd nk (d : Int) ∧ C13 W kb h2 ks2.length)
              (first | (exact ⟨blk14 HC9.out, blk13 HK9.out⟩) | (exact ⟨blk14 (HCC.out.alloc _), blk13 (HKC.out.alloc _)⟩) | (exact ⟨blk14 HCC.out, blk13 HKC.out⟩) | (exact ⟨blk14 HC7.out, blk13 HK7.out⟩) | assumption)
              (first
                | ((with_reducible refine (HDP.out _ HBD.out).mono ?_)
                   rintro e w' ⟨rfl, hb5⟩
                   have HBC : Hid (Below W7.heap.size W7 w') := (Rg.bel_drawn (Below.refl W7.heap.size W7) 1).trans hb5
                   have HCC := hid (HC7.out.below HBC.out)
                   have HKC := hid (HK7.out.below HBC.out)
                   clear hb5)
                | (refine step_append_nd (w'.alloc (.cells (arrN h2 ks2.length (D : Int)) 52)) (by rfl) (.tmp 55) (.tmp 66) (by rfl) w.heap.size u4 (a ++ kidN hd nk d 0 (ks.take k)) (by rfl) ((own_le HO7.out HBC.out).alloc (.cells (arrN h2 ks2.length (D : Int)) 52)) w'.heap.size 1 h2 ks2 D (by rfl) (Blk.new w' 52 (arrN h2 ks2.length (D : Int))) HLEN.out (by have := HB7.out.size; have := HBC.out.size; simp; omega) ?_
                   intro v9 w9 hown9 hgr9 hob9
                   have HC9 := hid (blk_grown (HCC.out.alloc (.cells (arrN h2 ks2.length (D : Int)) 52)) hgr9 HNE.out)
                   have HK9 := hid (blk_grown (HKC.out.alloc (.cells (arrN h2 ks2.length (D : Int)) 52)) hgr9 (fun h => Nat.lt_irrefl _ (HOBK.out _ h)))
                   have HO9 := hid hown9
                   have HG9 := hid hgr9
                   have HOB := hid hob9
                   clear hown9 hgr9 hob9))
             have HB9 : Hid (Below w.heap.size w w9) := ((HB7.out.trans (HBC.out.mono HB7.out.size)).alloc (by have := HB7.out.size; have := HBC.out.size; omega) (.cells (arrN h2 ks2.length (D : Int)) 52)).grown HG9.out (by have := HB7.out.size; have := HBC.out.size; simp; omega) (fun g hg => (HO7.out.lt g hg).1)
             have HN9 : Hid (v9.ownBlock ≠ some pb) := by
              show v9.ownBlock ≠ some pb
              rcases HOB.out with h | h
              · rw [h]; exact HNE.out
              · rw [h]
                have := HBC.out.size
                simp
                omega
             have HO10 : Hid (w9.ownsRow w.heap.size 52 14 v9 (a ++ kidN hd nk d 0 (ks.take (k + 1))).length (flatN (a ++ kidN hd nk d 0 (ks.take (k + 1))))) := by
              show w9.ownsRow _ _ _ _ _ _
              rw [kids_next a hd nk d k ks (.mk h2 ks2) x D (by rw [HNK.out]; exact hlt) HT.out HX.out HDE.out]
              exact HO9.out
             clear HOB HG9 HO9 HK9 HCC HKC HBC HO7 HC7 HK7 HB7 HBD
             go_wp2_with fail
             go_roundg g'
             case measure => omega
             case rel => exact ⟨k + 1, by omega, by go_num, HO10, HC9, HN9, HB9⟩
         · obtain rfl : k = nk := by omega
           have htk : ks.take k = ks := by rw [← HNK.out]; exact List.take_length
           rw [htk] at HO
           have HMF : Hid (mostF M2 (a ++ kidN hd k d 0 ks) = R) := by
            show mostF M2 (a ++ kidN hd k d 0 ks) = R
            have h0 : ks = [] := by
             have := HM2.out
             have h00 := HK0.out
             exact List.length_eq_zero_iff.1 h00
            subst h0
            rw [kidN, List.append_nil]
            have h1 := HQ1.out
            rw [most_empty HQ.out, HM.out] at h1
            have h2 := HM2.out
            rw [if_pos (show ([] : List Tr).length = 0 from rfl)] at h2
            rw [← h2]
            exact h1
           have HLL : Hid (∀ x, x ∈ a ++ kidN hd k d 0 ks → Lies w x.1) := fun x hx => by
            rcases List.mem_append.1 hx with h | h
            · exact HLA.out x h
            · exact HKK.out.mem (kid_mem h)
           have hnd : ndsz (a ++ kidN hd k d 0 ks) ≤ go1 := by rw [ndsz_append, ndsz_kids]; rw [szF] at hg; omega
           have hnd3 : ndsz (a ++ kidN hd k d 0 ks) ≤ 700 := by rw [ndsz_append, ndsz_kids]; rw [szF] at q5; omega
           clear htk
           go_wp2_with fail
           go_roundg go1
           case measure => omega
           case rel => exact ⟨a ++ kidN hd k d 0 ks, M2, hnd, rfl, HMF.out, HLL.out, HO.out, HBX.out, hnd3⟩
      · have e0 : ((ks.length : Int) == 0) = false := beq_eq_false_iff_ne.2 (by omega)
        obtain rfl : M = M2 := by have hM2 := HM2.out; rw [if_neg hk0] at hM2; exact hM2
        clear hmx
        obtain ⟨nk, hnk⟩ : ∃ nk, ks.length = nk := ⟨_, rfl⟩
        rw [hnk] at c12 e0
        have hli := HLI.out
        rw [Lies] at hli
        obtain ⟨_, _, _, _, htr, hkk⟩ := hli
        have HTR := hid htr
        have HKK := hid hkk
        have hnk3 : nk ≤ 700 := by have := szL_length ks; rw [szF] at q5; omega
        have hb5 : pb < w6.heap.size := HC6.out.lt
        have HNK := hid hnk
        have HK0 := hid hk0
        clear htr hkk hnk hk0
        go_wp2_with fail
        clear c12 c13 e0
        go_loopg [4, 50] nk (fun g s4 s50 wx => ∃ k : Nat, k + g = nk ∧ s50 = .int .i64 (k : Int) ∧ Hid (wx.ownsRow w.heap.size 52 14 s4 (a ++ kidN hd nk d 0 (ks.take k)).length (flatN (a ++ kidN hd nk d 0 (ks.take k)))) ∧ Hid (Blk wx pb 52 (arrN hd nk (d : Int))) ∧ Hid (s4.ownBlock ≠ some pb) ∧ Hid (Below w.heap.size w wx))
        case atStart => exact ⟨0, by omega, rfl, by rw [List.take_zero, kidN, List.append_nil]; exact HO6, by rw [← HNK.out]; exact HC6, (by show Value.ownBlock (.slice (some ⟨g, 0, none⟩) n cap) ≠ some pb; simp [Value.ownBlock]; omega), HB6⟩
        case round =>
         obtain ⟨k, hkg, rfl, HO, HC, HNE, HBX⟩ := hrel
         by_cases hlt : k < nk
         · have hki : (k : Int) < (nk : Int) := by omega
           obtain ⟨b, off, hA, hb, hc⟩ := HTR.out (by rw [HNK.out]; omega)
           cases ht : ks.getD k t0 with
           | mk h2 ks2 =>
             have hix := fun W => index_kid hd.ka nk hd.kc k b off hA hlt W
             obtain ⟨e0, e1, e2, e3, e4, e5, e6, e7, e8, e9, e10, e11, e12⟩ := Trs.at hc (by rw [HNK.out]; exact hlt) ht
             have c0 := (HBX.out.cell (p := ⟨b, off + k * 13, none⟩) hb).trans e0
             have c1 := (HBX.out.cell (p := ⟨b, off + k * 13 + 1, none⟩) hb).trans e1
             have c2 := (HBX.out.cell (p := ⟨b, off + k * 13 + 2, none⟩) hb).trans e2
             have c3 := (HBX.out.cell (p := ⟨b, off + k * 13 + 3, none⟩) hb).trans e3
             have c4 := (HBX.out.cell (p := ⟨b, off + k * 13 + 4, none⟩) hb).trans e4
             have c5 := (HBX.out.cell (p := ⟨b, off + k * 13 + 5, none⟩) hb).trans e5
             have c6 := (HBX.out.cell (p := ⟨b, off + k * 13 + 6, none⟩) hb).trans e6
             have c7 := (HBX.out.cell (p := ⟨b, off + k * 13 + 7, none⟩) hb).trans e7
             have c8 := (HBX.out.cell (p := ⟨b, off + k * 13 + 8, none⟩) hb).trans e8
             have c9 := (HBX.out.cell (p := ⟨b, off + k * 13 + 9, none⟩) hb).trans e9
             have c10 := (HBX.out.cell (p := ⟨b, off + k * 13 + 10, none⟩) hb).trans e10
             have c11 := (HBX.out.cell (p := ⟨b, off + k * 13 + 11, none⟩) hb).trans e11
             have c12 := (HBX.out.cell (p := ⟨b, off + k * 13 + 12, none⟩) hb).trans e12
             obtain ⟨x, hx⟩ : ∃ x, deepF hd nk k (ks.getD k t0) = x := ⟨_, rfl⟩
             have HT := hid ht
             have HX := hid hx
             obtain ⟨D, hD⟩ : ∃ D, d + x = D := ⟨_, rfl⟩
             have hx2 : x ≤ 2 := by rw [← hx]; exact deepF_le _ _ _ _
             have hwr : IntKind.i64.wrap ((d : Int) + (x : Int)) = (D : Int) := by rw [IntKind.wrap_i64]; omega
             have HDE := hid hD
             have hdp : ∀ W, Below w.heap.size w W → Calls Tryz.prog 19 #[.agg (arr hd nk), .int .i64 (k : Int)] W fun e w' => e = .returned (.int .i64 (x : Int)) ∧ Below W.heap.size W w' := fun W hW => by
              have := deeper_any hd ks k W (HTR.out.below hW) (by rw [HNK.out]; exact hlt)
              rw [HNK.out, hx, valT_arr, HNK.out] at this
              exact this
             have HDP := hid hdp
             have HO7 := hid (HO.out.alloc (.cells (arr h2 ks2.length) 27))
             have HC7 := hid (HC.out.alloc (.cells (arr h2 ks2.length) 27))
             have HB7 : Hid (Below w.heap.size w (wr.alloc (.cells (arr h2 ks2.length) 27))) := HBX.out.alloc HBX.out.size _
             have HK7 := hid (Blk.new wr 27 (arr h2 ks2.length))
             have HOBK := hid (fun g2 h => (HO.out.lt g2 h).2)
             have hpw := HC.out.lt
             have hp7 : pb < (wr.alloc (.cells (arr h2 ks2.length) 27)).heap.size := by simp; omega
             have hk7 : wr.heap.size < (wr.alloc (.cells (arr h2 ks2.length) 27)).heap.size := by simp
             have hlen : (a ++ kidN hd nk d 0 (ks.take k)).length ≤ 1400 := by rw [List.length_append, kidN_length, List.length_take]; omega
             have HLEN := hid hlen
             clear hc ht hA e0 e1 e2 e3 e4 e5 e6 e7 e8 e9 e10 e11 e12 hx hD hdp hlen
             unfold arr at HDP HO7 HC7 HB7 HK7 hp7 hk7
             go_upto_region 13 with fail
             clear c0 c1 c2 c3 c4 c5 c6 c7 c8 c9 c10 c11 c12 HO HC HBX hix
             generalize (wr.alloc (.cells _ 27)) = W7 at *
             generalize wr.heap.size = kb at *
             obtain ⟨g', rfl⟩ : ∃ g', gk = g' + 1 := ⟨gk - 1, by omega⟩
             have HBD : Hid (Below w.heap.size w W7.drew) := bel_drew HB7.out
             go_region_held3 (fun W => C14 W pb hd nk (d : Int) ∧ C13 W kb h2 ks2.length)
              (first | (exact ⟨blk14 HC9.out, blk13 HK9.out⟩) | (exact ⟨blk14 (HCC.out.alloc _), blk13 (HKC.out.alloc _)⟩) | (exact ⟨blk14 HCC.out, blk13 HKC.out⟩) | (exact ⟨blk14 HC7.out, blk13 HK7.out⟩) | assumption)
              (first
                | ((with_reducible refine (HDP.out _ HBD.out).mono ?_)
                   rintro e w' ⟨rfl, hb5⟩
                   have HBC : Hid (Below W7.heap.size W7 w') := (Rg.bel_drawn (Below.refl W7.heap.size W7) 1).trans hb5
                   have HCC := hid (HC7.out.below HBC.out)
                   have HKC := hid (HK7.out.below HBC.out)
                   clear hb5)
                | (refine step_append_nd (w'.alloc (.cells (arrN h2 ks2.length (D : Int)) 52)) (by rfl) (.tmp 55) (.tmp 66) (by rfl) w.heap.size u4 (a ++ kidN hd nk d 0 (ks.take k)) (by rfl) ((own_le HO7.out HBC.out).alloc (.cells (arrN h2 ks2.length (D : Int)) 52)) w'.heap.size 1 h2 ks2 D (by rfl) (Blk.new w' 52 (arrN h2 ks2.length (D : Int))) HLEN.out (by have := HB7.out.size; have := HBC.out.size; simp; omega) ?_
                   intro v9 w9 hown9 hgr9 hob9
                   have HC9 := hid (blk_grown (HCC.out.alloc (.cells (arrN h2 ks2.length (D : Int)) 52)) hgr9 HNE.out)
                   have HK9 := hid (blk_grown (HKC.out.alloc (.cells (arrN h2 ks2.length (D : Int)) 52)) hgr9 (fun h => Nat.lt_irrefl _ (HOBK.out _ h)))
                   have HO9 := hid hown9
                   have HG9 := hid hgr9
                   have HOB := hid hob9
                   clear hown9 hgr9 hob9))
             have HB9 : Hid (Below w.heap.size w w9) := ((HB7.out.trans (HBC.out.mono HB7.out.size)).alloc (by have := HB7.out.size; have := HBC.out.size; omega) (.cells (arrN h2 ks2.length (D : Int)) 52)).grown HG9.out (by have := HB7.out.size; have := HBC.out.size; simp; omega) (fun g hg => (HO7.out.lt g hg).1)
             have HN9 : Hid (v9.ownBlock ≠ some pb) := by
              show v9.ownBlock ≠ some pb
              rcases HOB.out with h | h
              · rw [h]; exact HNE.out
              · rw [h]
                have := HBC.out.size
                simp
                omega
             have HO10 : Hid (w9.ownsRow w.heap.size 52 14 v9 (a ++ kidN hd nk d 0 (ks.take (k + 1))).length (flatN (a ++ kidN hd nk d 0 (ks.take (k + 1))))) := by
              show w9.ownsRow _ _ _ _ _ _
              rw [kids_next a hd nk d k ks (.mk h2 ks2) x D (by rw [HNK.out]; exact hlt) HT.out HX.out HDE.out]
              exact HO9.out
             clear HOB HG9 HO9 HK9 HCC HKC HBC HO7 HC7 HK7 HB7 HBD
             go_wp2_with fail
             go_roundg g'
             case measure => omega
             case rel => exact ⟨k + 1, by omega, by go_num, HO10, HC9, HN9, HB9⟩
         · obtain rfl : k = nk := by omega
           have htk : ks.take k = ks := by rw [← HNK.out]; exact List.take_length
           rw [htk] at HO
           have HMF : Hid (mostF M (a ++ kidN hd k d 0 ks) = R) := by
            show mostF M (a ++ kidN hd k d 0 ks) = R
            have h1 := HQ1.out
            rw [most_kids HQ.out HK0.out, HM.out, HNK.out] at h1
            exact h1
           have HLL : Hid (∀ x, x ∈ a ++ kidN hd k d 0 ks → Lies w x.1) := fun x hx => by
            rcases List.mem_append.1 hx with h | h
            · exact HLA.out x h
            · exact HKK.out.mem (kid_mem h)
           have hnd : ndsz (a ++ kidN hd k d 0 ks) ≤ go1 := by rw [ndsz_append, ndsz_kids]; rw [szF] at hg; omega
           have hnd3 : ndsz (a ++ kidN hd k d 0 ks) ≤ 700 := by rw [ndsz_append, ndsz_kids]; rw [szF] at q5; omega
           clear htk
           go_wp2_with fail
           go_roundg go1
           case measure => omega
           case rel => exact ⟨a ++ kidN hd k d 0 ks, M, hnd, rfl, HMF.out, HLL.out, HO.out, HBX.out, hnd3⟩
end Go.Proofs.YticmkabafmmlhaaGreatDoor.Ck

set_option linter.unusedVariables false
set_option linter.unusedSimpArgs false
set_option maxRecDepth 100000
set_option maxHeartbeats 2000000
namespace Go.Proofs.YticmkabafmmlhaaGreatDoor.Ck
open Go.RowKit
open Lib (hid)
section
theorem right_any (t : Tr) (w : World) (hT : Tabl w) (hL : Lies w t) (hs : szF t ≤ 700) (hr : rightF okHd t = true) :
 Calls Tryz.prog 10 #[valT t] w fun e w' => e = .returned (.bool true) ∧ Below w.heap.size w w' := by
 obtain ⟨n, hn⟩ : ∃ n, nestF t = n := ⟨_, rfl⟩
 unfold rightF at hr
 rw [Bool.and_eq_true, decide_eq_true_eq] at hr
 obtain ⟨h64, hr⟩ := hr
 have hB : ∀ o, Below w.heap.size w (w.alloc o) := fun o => (Below.refl _ _).alloc (Nat.le_refl _) _
 have HB := hid hB
 have h1 : ∀ W, Below w.heap.size w W → Calls Tryz.prog 8 #[valT t] W fun e w' => e = .returned (.int .i64 (n : Int)) ∧ Below W.heap.size W w' := fun W hW => by
  rw [← hn]; exact nest_any t W (hL.below hW) hs
 have h2 : ∀ W, Below w.heap.size w W → Calls Tryz.prog 20 #[valT t] W fun e w' => e = .returned (.bool true) ∧ Below W.heap.size W w' := fun W hW => by
  exact all_any t W (hT.below hW) (hL.below hW) hs hr
 rw [hn] at h64
 obtain ⟨h, ks⟩ := t
 have HK := hid (Blk.new w 27 (arr h ks.length))
 rw [valT_arr] at h1 h2 ⊢
 have H1 := hid h1
 have H2 := hid h2
 clear h1 h2 hn hr hB hT hL hs
 unfold arr at *
 have d : decide ((n : Int) ≤ 64) = true := by rw [decide_eq_true_eq]; omega
 clear h64
 go_enter Tryz.func10, Tryz.ntmps10
 go_wp2_with fail
 refine (H1.out _ (HB.out _)).mono ?_
 rintro e w1 ⟨rfl, hb1⟩
 have HB1 := hid ((HB.out _).trans (hb1.mono (HB.out _).size))
 have HK1 := hid (HK.out.below hb1)
 clear hb1 H1 HK
 obtain ⟨c0, c1, c2, c3, c4, c5, c6, c7, c8, c9, c10, c11, c12⟩ := blk13 (h := h) (n := ks.length) HK1.out
 go_wp2_with fail
 refine (H2.out _ HB1.out).mono ?_
 rintro e w2 ⟨rfl, hb2⟩
 have HB2 := hid (HB1.out.trans (hb2.mono HB1.out.size))
 clear hb2
 go_wp2_with fail
 go_ret
 exact ⟨rfl, HB2.out⟩
end
end Go.Proofs.YticmkabafmmlhaaGreatDoor.Ck

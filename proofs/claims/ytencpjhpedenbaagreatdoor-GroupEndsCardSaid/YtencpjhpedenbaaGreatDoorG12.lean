/- piles: the groups of elements. Conditions: elements that came in, few, their labels short; the table of powers of ten as it is laid. -/
import Derived.Test.YtencpjhpedenbaaGreatDoorG11
import Derived.Deep.DeepCutAuto
import Derived.Deep.CutBlock
import Derived.Deep.RegionLaw
import Derived.Deep.RegionHeld3
namespace Go.Proofs.YtencpjhpedenbaaGreatDoor
open Go.RowKit Lb
set_option linter.unusedVariables false
set_option linter.unusedSimpArgs false
set_option maxRecDepth 100000
set_option maxHeartbeats 8000000

def PilesP (how : Int) (ns : List ByteArray) (S : List El) (w : World) (e : Ending) (w' : World) : Prop :=
  ∃ σ A c, e = .returned (.slice A σ.length c) ∧ PInv how ns S S.length σ ∧ Pls w' A σ ∧ Below w.heap.size w w'
def MidP (how : Int) (ns : List ByteArray) (S : List El) (w wr : World) (k mp xb : Nat) (y : VV) (O oc n i : Nat) (wx : World) : Prop :=
  ∃ σ r, σ.length = n ∧ i < n ∧ wx.ownsRow w.heap.size 50 2 (.slice (some ⟨O, 0, none⟩) n oc) n (flatV r) ∧ PRows w wx w.heap.size r σ ∧ MapS wx mp (mapOf 0 σ) ∧ Below w.heap.size w wx ∧ Blk wx xb 36 #[y.1, y.2] ∧ n ≤ k + 1 ∧ w.heap.size ≤ mp ∧
    PInv how ns S (k + 1) (σ.set i ((σ.getD i q0).1, (σ.getD i q0).2 ++ [S.getD k z0]))
theorem labels_q (how : Int) (LA NA : Option Addr) (lc nc n m : Nat) (l : List Lab) (ns : List ByteArray) (o : List Lab) (v : Int) (hn : l.length = n) (hm : ns.length = m) (ho : labF how ns l = o) (w : World) (hL : Lbs w LA l) (hN : Sts w NA ns) (hl : n ≤ 65536) (hns : m ≤ 65536) :
    Calls Tryz.prog 43 #[.int .i64 how, .slice NA m nc, .agg #[.slice LA n lc, .int .u64 v]] w (LabP o w) := by
  subst hn; subst hm; subst ho
  exact labelsof_any how LA NA lc nc l ns v w hL hN hl hns
theorem keyof_q (A : Option Addr) (cap n : Nat) (l : List Lab) (b : ByteArray) (hn : l.length = n) (hb : kB l = b) (w : World) (hL : Lbs w A l) (hS : ShortL l) (hP : PT w) (h6 : 4 ≤ w.heap.size) :
    Calls Tryz.prog 44 #[.slice A n cap] w fun e w' => e = .returned (.string b) ∧ Below w.heap.size w w' := by
  subst hn; subst hb
  exact keyof_any A cap l w hL hS hP h6
theorem cell_below {w w' : World} (h : Below w.heap.size w w') {a : Addr} {v : Value} (hc : w.cell? a = some v) : w'.cell? a = some v := (h.cell (World.block_lt_of_cell? _ _ hc)).trans hc
theorem PRows.grownOut {w0 w w' : World} {base b n : Nat} {r : List VV} {σ : List Pl} {v : Value} {xs : List Value} (h : PRows w0 w base r σ) (ho : w.ownsRow b 50 2 v n xs) (hg : w.grownBy w' v.ownBlock) : PRows w0 w' base r σ := by
  cases hb : v.ownBlock with
  | none =>
    rw [hb] at hg
    exact h.far hg (fun g hg => by cases hg) (fun _ _ => .inl rfl)
  | some g =>
    rw [hb] at hg
    refine h.other hg (fun t cs fr hc => ?_)
    obtain ⟨cs2, fr2, h2⟩ := own_type ho hb
    rw [hc] at h2
    injection h2 with h2
    injection h2 with _ h3
    subst h3
    exact ⟨by decide, by decide⟩
theorem LbT.grownOut {w w' : World} {b n : Nat} {A : Option Addr} {l : List Lab} {v : Value} {xs : List Value} (h : LbT w A l) (ho : w.ownsRow b 50 2 v n xs) (hg : w.grownBy w' v.ownBlock) : LbT w' A l :=
  lbs_far h hg (fun g hg cs fr hc => own_apart ho hc (by decide) hg)
theorem map_block {w : World} {mp : Nat} {L : List (ByteArray × Value)} (h : MapS w mp L) : ∀ t cs fr, w.heap[mp]? ≠ some (.cells cs t fr) := by
  obtain ⟨es, clock, h1, _⟩ := h
  intro t cs fr e
  rw [h1] at e; cases e
theorem set_last (σ : List Pl) (o : List Lab) (x : El) : (σ ++ [(o, ([] : List El))]).set σ.length (((σ ++ [(o, ([] : List El))]).getD σ.length q0).1, ((σ ++ [(o, ([] : List El))]).getD σ.length q0).2 ++ [x]) = σ ++ [(o, [x])] := by
  simp
theorem size_at : ∀ (σ : List Pl) (i : Nat), i < σ.length → (σ.getD i q0).2.length ≤ sizeS σ
  | p :: σ, 0, _ => by simp [sizeS]
  | p :: σ, i + 1, h => by
    have := size_at σ i (by simpa using h)
    simp only [sizeS, List.map_cons, List.sum_cons, List.getD_cons_succ] at this ⊢
    omega
theorem size_pushed {how : Int} {ns : List ByteArray} {S : List El} {k : Nat} {σ : List Pl} {i : Nat} {x : El} (h : PInv how ns S (k + 1) (σ.set i ((σ.getD i q0).1, (σ.getD i q0).2 ++ [x]))) (hi : i < σ.length) : (σ.getD i q0).2.length ≤ k := by
  have h1 := size_at (σ.set i ((σ.getD i q0).1, (σ.getD i q0).2 ++ [x])) i (by rw [List.length_set]; exact hi)
  rw [h.size, getP_set_eq _ _ _ hi] at h1
  simp only [List.length_append, List.length_singleton] at h1
  omega
theorem piles_any (how : Int) (A NA : Option Addr) (cap nc : Nat) (S : List El) (ns : List ByteArray) (w : World) (hE : Els w A S) (hN : Sts w NA ns) (hl : S.length ≤ 60) (hns : ns.length ≤ 65536) (hsh : ∀ i, i < S.length → ShortL (S.getD i z0).1) (hP : PT w) (h4 : 4 ≤ w.heap.size) :
    Calls Tryz.prog 27 #[.int .i64 how, .slice NA ns.length nc, .slice A S.length cap] w (PilesP how ns S w) := by
  obtain ⟨i1, hi1, hy0, hy1, hy2⟩ := info_parts elem_info
  obtain ⟨i2, hi2, hz0, hz1, hz2⟩ := info_parts pile_info
  have HE := Lib.hid hE
  have HNS := Lib.hid hN
  have HSH := Lib.hid hsh
  have HP := Lib.hid hP
  unfold PilesP
  have hmm := @run_makeMap Tryz.prog
  clear hE hN hsh hP
  generalize hn : S.length = n at *
  have HN := Lib.hid hn
  clear hn
  generalize hm : ns.length = m at *
  have HM := Lib.hid hm
  clear hm
  go_enter Tryz.func27, Tryz.ntmps27
  go_upto_region 3 with fail
  have HM0 : Hid (MapS (w.alloc (.map #[] 0)) w.heap.size (mapOf 0 [])) := ⟨#[], 0, heap_alloc_new w _, rfl, fun p hp => by cases hp⟩
  have HB0 : Hid (Below w.heap.size w (w.alloc (.map #[] 0))) := (Below.refl _ _).alloc (Nat.le_refl _) _
  generalize w.alloc (.map #[] 0) = w0 at *
  clear hmm
  go_wp2
  go_loopw [7, 10, 11, 12, 13, 17] (fun s7 s10 s11 s12 s13 s17 wr => ∃ (k : Nat) (σ : List Pl) (r : List VV), k ≤ n ∧ s17 = .int .i64 k ∧ Hid (wr.ownsRow w.heap.size 50 2 s7 σ.length (flatV r)) ∧ Hid (PRows w wr w.heap.size r σ) ∧ Hid (MapS wr w.heap.size (mapOf 0 σ)) ∧ Hid (Below w.heap.size w wr) ∧ Hid (PInv how ns S k σ)) (fun _ _ _ _ _ s17 _ => n - (intOf s17).toNat)
  case atStart => exact ⟨0, [], [], Nat.zero_le _, rfl, World.ownsRow_nil _ _ _ _, ⟨rfl, fun i hi => absurd hi (by simp), fun i j hi => absurd hi (by simp)⟩, HM0, HB0, PInv.start _ _ _⟩
  case round =>
    obtain ⟨k, σ, r, hk, rfl, HO, HR, HMP, HB, HI⟩ := hrel
    by_cases hlt : k < n
    · have hkl : k < S.length := by rw [HN.out]; exact hlt
      obtain ⟨b, off, LA, lc, rfl, hb, c1, c2, hL, hlc, hbt⟩ := (HE.out.below HB.out).at_ hkl
      have hel : ElV w (.slice LA (S.getD k z0).1.length lc, .int .u64 (S.getD k z0).2) (S.getD k z0) := by
        obtain ⟨b', off', LA', lc', e', _, c1', c2', hL', hlc', hbt'⟩ := HE.out.at_ hkl
        injection e' with e'; injection e' with e1 e2; subst e1; subst e2
        have hbw : b < w.heap.size := World.block_lt_of_cell? w ⟨b, off + k * 2, none⟩ c1'
        have q1 := (HB.out.cell (p := ⟨b, off + k * 2, none⟩) hbw).symm.trans c1
        rw [c1'] at q1
        injection q1 with q1
        injection q1 with q1 q2 q3
        subst q1; subst q3
        exact ⟨LA', lc', rfl, hL', hlc', hbt'⟩
      have HEL := Lib.hid hel
      have HL := Lib.hid hL
      have hshk := HSH.out k hlt
      have hl40 := hshk.1
      have HSK := Lib.hid hshk
      have HI1 := Lib.hid (@PInv.fresh how ns S k σ HI.out hkl)
      have HI2 := Lib.hid (fun i (hi : i < σ.length) => PInv.old HI.out hkl hi)
      have hfew := HI.out.few
      obtain ⟨XA, xc, hx7, hraw, hxn, _⟩ := Raw.of_own (HR.out.len) HO.out
      obtain ⟨o, ho⟩ : ∃ o, labF how ns (S.getD k z0).1 = o := ⟨_, rfl⟩
      have hos : ShortL o := by rw [← ho]; exact labF_short how ns hshk
      have HOS := Lib.hid hos
      have hO := Lib.hid ho
      have HLQ := Lib.hid (fun W (hW : Below wr.heap.size wr W) n m hn hm v => labels_q how LA NA lc nc n m (S.getD k z0).1 ns o v hn hm ho W (hL.below hW) (HNS.out.below (HB.out.trans (hW.mono HB.out.size))))
      rw [ho] at HI1
      have d : decide (k < n) = true := by simpa using hlt
      have hsz := HB.out.size
      clear hL hel hshk hos ho hlc hbt
      obtain ⟨l, hl'⟩ : ∃ l, (S.getD k z0).1 = l := ⟨_, rfl⟩
      obtain ⟨v, hv'⟩ : ∃ v, (S.getD k z0).2 = v := ⟨_, rfl⟩
      rw [hl'] at c1 HEL HL hl40 HSK HLQ hO
      rw [hv'] at c2 HEL
      clear hl' hv'
      generalize hln : l.length = ln at *
      have HLN := Lib.hid hln
      clear hln
      subst hx7
      go_upto_region 6 with fail
      have HX1 := Lib.hid (Blk.new wr 36 #[.slice LA ln lc, .int .u64 v])
      have HX2 : Hid (Below wr.heap.size wr (wr.alloc (.cells #[.slice LA ln lc, .int .u64 v] 36))) := (Below.refl _ _).alloc (Nat.le_refl _) _
      have hx3 : wr.heap.size < (wr.alloc (.cells #[.slice LA ln lc, .int .u64 v] 36)).heap.size := by simp
      generalize wr.alloc (.cells #[.slice LA ln lc, .int .u64 v] 36) = w1 at *
      have HO1 := Lib.hid (own_below HO.out HX2.out)
      have HR1 := Lib.hid (HR.out.below HX2.out)
      have HM1 := Lib.hid (HMP.out.below HX2.out)
      have HB1 := Lib.hid (HB.out.trans (HX2.out.mono HB.out.size))
      have hsz1 := HB1.out.size
      have HLQ1 := Lib.hid (HLQ.out w1 HX2.out ln m rfl HM.out v (by omega) hns)
      clear hraw hxn HLQ HX2 HO HR HMP HB c1 c2 hb
      generalize wr.heap.size = xb at *
      have x0 := HX1.out.cell 0
      have x1 := HX1.out.cell 1
      simp only [List.getElem?_toArray, List.getElem?_cons_zero, List.getElem?_cons_succ] at x0 x1
      have KQ := Lib.hid (fun W A c b (hb : kB o = b) (hL : Lbs W A o) (hP : PT W) (h4 : 4 ≤ W.heap.size) => keyof_q A c o.length o b rfl hb W hL HOS.out hP h4)
      obtain ⟨kb, hkb⟩ : ∃ b, kB o = b := ⟨_, rfl⟩
      have hkbs : kb.size ≤ 1000000 := by rw [← hkb]; exact kB_size HOS.out
      have HKB := Lib.hid hkb
      have HPW := Lib.hid (fun W (hW : Below w.heap.size w W) => HP.out.below h4 hW)
      obtain ⟨on, hon⟩ : ∃ on, o.length = on := ⟨_, rfl⟩
      unfold LabP at HLQ1
      rw [hon] at HLQ1 KQ
      have HON := Lib.hid hon
      clear hkb hon
      go_wp2_with fail
      refine (HLQ1.out).mono ?_
      rintro e w2 ⟨A2, a2, rfl, ho2, hb2⟩
      have HB2 := Lib.hid (HB1.out.trans (hb2.mono HB1.out.size))
      have HO2 := Lib.hid (own_below HO1.out hb2)
      have HR2 := Lib.hid (HR1.out.below hb2)
      have HM2 := Lib.hid (HM1.out.below hb2)
      have HX3 := Lib.hid (HX1.out.below hb2)
      have HL2 := Lib.hid ho2
      have hs2 := hb2.size
      clear hb2 ho2 x0 x1
      go_wp2_with fail
      refine (KQ.out w2 A2 a2 kb HKB.out HL2.out.1 (HPW.out _ HB2.out) (by omega)).mono ?_
      rintro e w3 ⟨rfl, hb3⟩
      have HB3 := Lib.hid (HB2.out.trans (hb3.mono HB2.out.size))
      have HO3 := Lib.hid (own_below HO2.out hb3)
      have HR3 := Lib.hid (HR2.out.below hb3)
      have HM3 := Lib.hid (HM2.out.below hb3)
      have HX4 := Lib.hid (HX3.out.below hb3)
      have HL3 : Hid (LbT w3 A2 o) := LbT.below ⟨HL2.out.1, HL2.out.2.2⟩ hb3
      have hs3 := hb3.size
      clear hb3
      rcases look_new Tryz.underlying68 zero3 HM3.out kb hkbs with ⟨q, hq, hqe, hrun⟩ | ⟨hno, hrun⟩
      · obtain ⟨i, hi, rfl⟩ := mapOf_mem 0 σ q hq
        rw [Nat.zero_add] at hrun
        simp only at hrun
        obtain ⟨O, oc, hv, _, _⟩ := HO3.out.form (show 0 < σ.length by omega)
        injection hv with e1 _ e3
        subst e1; subst e3
        have HII := Lib.hid (HI2.out i hi)
        have HMID : Hid (MidP how ns S w wr k w.heap.size xb (.slice LA ln lc, .int .u64 v) O xc σ.length i w3) := ⟨σ, r, rfl, hi, HO3.out, HR3.out, HM3.out, HB3.out, HX4.out, by omega, Nat.le_refl _, HII.out⟩
        clear HO3 HR3 HM3 HB3 HX4 HII HL3 HB2 HO2 HR2 HM2 HX3 HL2 KQ HI1 HI2 HB1 HO1 HR1 HM1 HX1 HLQ1
        go_upto_region 12 with fail
        generalize σ.length = n' at *
        clear hrun
        generalize w3 = wz at *
--TAILA
        obtain ⟨σ2, r2, hs2', hi2', ho2', hr2', hm2', hb2', hx2', hnk2, _, hi3'⟩ := HMID.out
        obtain ⟨LA2, lc2, re, h1r, h2r, h3r, h4r, h5r⟩ := hr2'.row i (by rw [hs2']; exact hi2')
        have hq60 : (σ2.getD i q0).2.length ≤ 60 := by have := size_pushed hi3' (by rw [hs2']; exact hi2'); omega
        obtain ⟨ev, hev⟩ : ∃ ev, (r2.getD i v0).2 = ev := ⟨_, rfl⟩
        obtain ⟨q, hq⟩ : ∃ q, (σ2.getD i q0).2.length = q := ⟨_, rfl⟩
        have HRE : Hid (∃ LA lc, (r2.getD i v0).1 = .slice LA (σ2.getD i q0).1.length lc ∧ LbT wz LA (σ2.getD i q0).1 ∧ (LA = none → lc = 0) ∧ wz.ownsRow w.heap.size 36 2 ev q (flatV re) ∧ ElVs w re (σ2.getD i q0).2) := ⟨LA2, lc2, h1r, h2r, h3r, by rw [← hev, ← hq]; exact h4r, h5r⟩
        have cO : wz.cell? ⟨O, i * 2 + 1, none⟩ = some ev := by
          have := ho2'.cells (g := O) rfl _ _ (flatV_at r2 i (by rw [hr2'.len, hs2']; exact hi2')).2
          rw [hev, add_plain, Nat.zero_add] at this
          exact this
        have cF : Hid ((flatV r2)[i * 2 + 1]? = some ev) := by
          have := (flatV_at r2 i (by rw [hr2'.len, hs2']; exact hi2')).2
          rw [hev] at this; exact this
        rw [hev, hq] at h4r
        rw [hq] at hq60
        have HEV := Lib.hid hev
        have HQ := Lib.hid hq
        have OW := Lib.hid h4r
        have OZ := Lib.hid ho2'
        have HX := Lib.hid hx2'
        have BL0 : Hid (Below wz.heap.size wz wz.drew) := (Below.refl _ _).drew
        have BL1 : Hid (Below wz.heap.size wz ((wz.alloc (.cells #[.slice LA ln lc, .int .u64 v] 36)).drew)) := ((Below.refl _ _).alloc (Nat.le_refl _) _).drew
        have OW1 : Hid (((wz.alloc (.cells #[.slice LA ln lc, .int .u64 v] 36)).drew).ownsRow w.heap.size 36 2 ev q (flatV re)) := h4r.alloc _
        have OZ1 : Hid (((wz.alloc (.cells #[.slice LA ln lc, .int .u64 v] 36)).drew).ownsRow w.heap.size 50 2 (.slice (some ⟨O, 0, none⟩) n' xc) n' (flatV r2)) := ho2'.alloc _
        have x0 := hx2'.cell 0
        have x1 := hx2'.cell 1
        simp only [List.getElem?_toArray, List.getElem?_cons_zero, List.getElem?_cons_succ] at x0 x1
        have ya := cell_below BL0.out cO
        have yb := cell_below BL1.out cO
        have xa0 := cell_below BL0.out x0
        have xb0 := cell_below BL1.out x0
        have xa1 := cell_below BL0.out x1
        have xb1 := cell_below BL1.out x1
        have hii : (i : Int) < (n' : Int) := by omega
        have b3 : q + 1 ≤ maxLen := by unfold maxLen; omega
        have b4 : (q + 1) * 32 ≤ 140737488355328 := by omega
        have hbz := hb2'.size
        have b5 : w.heap.size ≤ ((wz.alloc (.cells #[.slice LA ln lc, .int .u64 v] 36)).drew).heap.size := by simp; omega
        have HRR := Lib.hid hr2'
        have HMM := Lib.hid hm2'
        have HBB := Lib.hid hb2'
        have HI3 := Lib.hid hi3'
        have HS2 := Lib.hid hs2'
        clear h1r h2r h3r h4r h5r hev hq ho2' hx2' hr2' hm2' hb2' hi3' hs2' HMID
        refine wp_region_noPanic ?_
        go_region_law
          (refine step_append_lies _ (by rfl) (.tmp 51) (.tmp 53) 23 (by rfl) w.heap.size 36 i1 _ 2 32 Tryz.underlying23 hi1 hy0 hy1 hy2 rfl (by decide) ev q (flatV re) (by rfl) OW1.out ⟨wz.heap.size, 0, none⟩ 1 1 [.slice LA ln lc, .int .u64 v] (by rfl) (by rfl) (two_at wz _ _ _ rfl _) (by intro u hu; simp at hu; rcases hu with rfl | rfl <;> rfl) (by decide) b3 b4 b5 _ rfl ?_
           intro g cp w8 hown8 hg8 hor8 hlt8
           have OZ8 := Lib.hid (OZ1.out.kept hg8 (.inr (fun e => by
             obtain ⟨cs, fr, hc⟩ := own_type (g := O) OZ1.out rfl
             exact own_apart OW1.out hc (by decide) e.symm)))
           have y8 : w8.cell? ⟨O, i * 2 + 1, none⟩ = some ev := by
             rw [OZ8.out.cellAt (i * 2 + 1) (by omega)]
             exact cF.out
           have yf8 := OZ8.out.frozenAt (i * 2 + 1)
           have HOW8 := Lib.hid hown8
           have HG8 := Lib.hid hg8
           have HOR8 := Lib.hid hor8
           clear hown8 hg8 hor8 hlt8)
        all_goals
          refine NoPanic.normal ?_
          clear ya yb xa0 xb0 xa1 xb1 x0 x1 y8 yf8
          have HRP := Lib.hid (PRows.push (HRR.out.below BL1.out) (i := i) (by rw [HS2.out]; exact hi2') HEL.out HEV.out.symm HQ.out.symm (by rw [flatV_append]; exact HOW8.out) (by
            obtain ⟨LA3, lc3, q1, q2, q3, q4, q5⟩ := HRE.out
            exact ⟨LA3, lc3, q1, q2.below BL1.out, q3, OW1.out, q5⟩) HG8.out HOR8.out)
          have HMP8 := Lib.hid ((HMM.out.below BL1.out).grown HG8.out (fun g hg => by
            obtain ⟨cs, fr, hc⟩ := own_type OW1.out hg
            exact ⟨cs, _, fr, hc⟩))
          have HBP8 := Lib.hid ((HBB.out.trans (BL1.out.mono hbz)).grown HG8.out b5 (fun g hg => (OW1.out.lt g hg).1))
          have HOP9 := Lib.hid (row_set OZ8.out (g := O) rfl (.slice (some ⟨g, 0, none⟩) (q + 1) cp) (i := i * 2 + 1) (by rw [flatV_length, HRR.out.len, HS2.out]; omega))
          have hoO := OZ8.out.lt O rfl
          have HRP9 := Lib.hid (HRP.out.other (grown_set w8 O (i * 2 + 1) (.slice (some ⟨g, 0, none⟩) (q + 1) cp)) (fun t cs fr hc => by
            obtain ⟨cs2, fr2, h2⟩ := own_type (g := O) OZ8.out rfl
            rw [hc] at h2
            injection h2 with h2
            injection h2 with _ h3
            subst h3
            exact ⟨by decide, by decide⟩))
          have HMP9 := Lib.hid (HMP8.out.grown (grown_set w8 O (i * 2 + 1) (.slice (some ⟨g, 0, none⟩) (q + 1) cp)) (fun g hg => by
            injection hg with hg; subst hg
            obtain ⟨cs2, fr2, h2⟩ := own_type (g := O) OZ8.out rfl
            exact ⟨cs2, _, fr2, h2⟩))
          have HBP9 := Lib.hid (HBP8.out.setCell (p := ⟨O, i * 2 + 1, none⟩) hoO.1 (.slice (some ⟨g, 0, none⟩) (q + 1) cp))
          clear hoO HG8 HOR8 HOW8 OZ8
          generalize w8.setCell ⟨O, i * 2 + 1, none⟩ (.slice (some ⟨g, 0, none⟩) (q + 1) cp) = w9 at *
          go_wp2_with fail
          go_roundw
          case rel =>
            refine ⟨k + 1, σ2.set i ((σ2.getD i q0).1, (σ2.getD i q0).2 ++ [S.getD k z0]), r2.set i ((r2.getD i v0).1, .slice (some ⟨g, 0, none⟩) (q + 1) cp), by omega, by go_num, ?_, HRP9, ?_, HBP9, HI3⟩
            · rw [List.length_set, HS2.out, flatV_set2 _ _ _ (by rw [HRR.out.len, HS2.out]; exact hi2')]
              exact HOP9
            · rw [mapOf_set]; exact HMP9
          case measure => simp [intOf]; omega
--ENDA
      · have HII := Lib.hid (HI1.out (mapOf_none (by rw [HKB.out]; exact hno)))
        have HNO := Lib.hid hno
        have HSET := Lib.hid (set_last σ o (S.getD k z0))
        have HLEN := Lib.hid HR3.out.len
        clear hno
        generalize hsl : σ.length = sl at *
        have HSL := Lib.hid hsl
        clear hsl
        go_wp2_with fail
        refine (KQ.out w3 A2 a2 kb HKB.out HL3.out.1 (HPW.out _ HB3.out) (by omega)).mono ?_
        rintro e w4 ⟨rfl, hb4⟩
        have HB4 := Lib.hid (HB3.out.trans (hb4.mono HB3.out.size))
        have HO4 := Lib.hid (own_below HO3.out hb4)
        have HR4 := Lib.hid (HR3.out.below hb4)
        have HM4 := Lib.hid (HM3.out.below hb4)
        have HX5 := Lib.hid (HX4.out.below hb4)
        have HL4 := Lib.hid (HL3.out.below hb4)
        have hs4 := hb4.size
        clear hb4 hrun
        obtain ⟨w5, hput, hm5, hg5, hsz5'⟩ := put_new Tryz.underlying68 HM4.out kb (.int .i64 (sl : Nat)) hkbs HNO.out
        have HM5 : Hid (MapS w5 w.heap.size (mapOf 0 (σ ++ [(o, [])]))) := by
          rw [mapOf_append, HKB.out, Nat.zero_add, HSL.out]; exact hm5
        have hcb := map_block HM4.out
        have HO5 := Lib.hid (HO4.out.kept hg5 (.inr (fun e => by
          obtain ⟨cs, fr, hc⟩ := own_type HO4.out e
          exact hcb _ _ _ hc)))
        have HR5 := Lib.hid (HR4.out.other hg5 (fun t cs fr hc => (hcb _ _ _ hc).elim))
        have HL5 := Lib.hid (lbs_far HL4.out hg5 (fun g hg cs fr hc => by injection hg with hg; subst hg; exact hcb _ _ _ hc))
        have HX6 := Lib.hid (HX5.out.grown hg5 (fun e => by injection e with e; subst e; exact hcb _ _ _ HX5.out))
        have HB5 := Lib.hid (HB4.out.grown hg5 HB4.out.size (fun g hg => by injection hg with hg; omega))
        have HSZ5 := Lib.hid hsz5'
        clear hm5 hg5 hcb hsz5'
        go_wp2_with (at_builtin; refine wpList_append_lies _ rfl _ _ 57 rfl w.heap.size 50 i2 _ 2 48 Tryz.underlying57 hi2 hz0 hz1 hz2 rfl (by decide) _ _ _ rfl (HO5.out.alloc _) _ 1 1 [.slice A2 on a2, .slice none 0 0] rfl rfl ?c1 ?c2 (by decide) ?c3 ?c4 ?c5 _ rfl ?_)
        case c1 => exact two_at _ _ _ _ (by simp) _
        case c2 => intro u hu; simp at hu; rcases hu with rfl | rfl <;> rfl
        case c3 => unfold maxLen; omega
        case c4 => omega
        case c5 => have := HB5.out.size; simp; omega
        intro O oc w6 hown6 hg6 hor6 hlt6
        have hz5 := HB5.out.size
        have HAL : Hid (Below w5.heap.size w5 (w5.alloc (.cells #[.slice A2 on a2, .slice none 0 0] 50))) := (Below.refl _ _).alloc (Nat.le_refl _) _
        have HRA := Lib.hid ((HR5.out.below HAL.out).grownOut (HO5.out.alloc _) hg6)
        have HLA := Lib.hid ((HL5.out.below HAL.out).grownOut (HO5.out.alloc _) hg6)
        have HXA := Lib.hid ((HX6.out.alloc _).grown hg6 (fun e => by
          have hx7 := HX6.out.alloc (.cells #[.slice A2 on a2, .slice none 0 0] 50)
          exact own_apart (HO5.out.alloc _) hx7 (by decide) e))
        have HMA := Lib.hid ((HM5.out.below HAL.out).grown hg6 (fun g hg => by
          obtain ⟨cs, fr, hc⟩ := own_type (HO5.out.alloc _) hg
          exact ⟨cs, _, fr, hc⟩))
        have HBA := Lib.hid ((HB5.out.alloc hz5 _).grown hg6 (by simp; omega) (fun g hg => (HO5.out.lt g hg).1))
        have hrl : (r ++ [(Value.slice A2 on a2, Value.slice none 0 0)]).length = sl + 1 := by rw [List.length_append, HLEN.out]; rfl
        have HOA : Hid (w6.ownsRow w.heap.size 50 2 (.slice (some ⟨O, 0, none⟩) (sl + 1) oc) (sl + 1) (flatV (r ++ [(.slice A2 on a2, .slice none 0 0)]))) := by rw [flatV_append]; exact hown6
        have hs1l : (σ ++ [(o, ([] : List El))]).length = sl + 1 := by rw [List.length_append, HSL.out]; rfl
        have hset := HSET.out
        have HII2 : Hid (PInv how ns S (k + 1) ((σ ++ [(o, ([] : List El))]).set sl (((σ ++ [(o, ([] : List El))]).getD sl q0).1, ((σ ++ [(o, ([] : List El))]).getD sl q0).2 ++ [S.getD k z0]))) := by rw [hset]; exact HII.out
        have HMID : Hid (MidP how ns S w wr k w.heap.size xb (.slice LA ln lc, .int .u64 v) O oc (sl + 1) sl w6) := ⟨σ ++ [(o, [])], _, hs1l, by omega, HOA.out, HRA.out.fresh HON.out HLA.out HL2.out.2.1, HMA.out, HBA.out, HXA.out, by omega, Nat.le_refl _, HII2.out⟩
        clear hown6 hg6 hor6 hlt6 hput hrl hs1l hset
        clear HO3 HR3 HM3 HB3 HX4 HII HL3 HB2 HO2 HR2 HM2 HX3 HL2 KQ HI1 HI2 HB1 HO1 HR1 HM1 HX1 HLQ1 HB4 HO4 HR4 HM4 HX5 HL4 HM5 HO5 HR5 HL5 HX6 HB5 HRA HLA HXA HMA HBA HOA HII2 HSET HAL HSZ5
        go_upto_region 12 with fail
        generalize sl + 1 = n' at *
        generalize w6 = wz at *
--TAILB
        obtain ⟨σ2, r2, hs2', hi2', ho2', hr2', hm2', hb2', hx2', hnk2, _, hi3'⟩ := HMID.out
        obtain ⟨LA2, lc2, re, h1r, h2r, h3r, h4r, h5r⟩ := hr2'.row sl (by rw [hs2']; exact hi2')
        have hq60 : (σ2.getD sl q0).2.length ≤ 60 := by have := size_pushed hi3' (by rw [hs2']; exact hi2'); omega
        obtain ⟨ev, hev⟩ : ∃ ev, (r2.getD sl v0).2 = ev := ⟨_, rfl⟩
        obtain ⟨q, hq⟩ : ∃ q, (σ2.getD sl q0).2.length = q := ⟨_, rfl⟩
        have HRE : Hid (∃ LA lc, (r2.getD sl v0).1 = .slice LA (σ2.getD sl q0).1.length lc ∧ LbT wz LA (σ2.getD sl q0).1 ∧ (LA = none → lc = 0) ∧ wz.ownsRow w.heap.size 36 2 ev q (flatV re) ∧ ElVs w re (σ2.getD sl q0).2) := ⟨LA2, lc2, h1r, h2r, h3r, by rw [← hev, ← hq]; exact h4r, h5r⟩
        have cO : wz.cell? ⟨O, sl * 2 + 1, none⟩ = some ev := by
          have := ho2'.cells (g := O) rfl _ _ (flatV_at r2 sl (by rw [hr2'.len, hs2']; exact hi2')).2
          rw [hev, add_plain, Nat.zero_add] at this
          exact this
        have cF : Hid ((flatV r2)[sl * 2 + 1]? = some ev) := by
          have := (flatV_at r2 sl (by rw [hr2'.len, hs2']; exact hi2')).2
          rw [hev] at this; exact this
        rw [hev, hq] at h4r
        rw [hq] at hq60
        have HEV := Lib.hid hev
        have HQ := Lib.hid hq
        have OW := Lib.hid h4r
        have OZ := Lib.hid ho2'
        have HX := Lib.hid hx2'
        have BL0 : Hid (Below wz.heap.size wz wz.drew) := (Below.refl _ _).drew
        have BL1 : Hid (Below wz.heap.size wz ((wz.alloc (.cells #[.slice LA ln lc, .int .u64 v] 36)).drew)) := ((Below.refl _ _).alloc (Nat.le_refl _) _).drew
        have OW1 : Hid (((wz.alloc (.cells #[.slice LA ln lc, .int .u64 v] 36)).drew).ownsRow w.heap.size 36 2 ev q (flatV re)) := h4r.alloc _
        have OZ1 : Hid (((wz.alloc (.cells #[.slice LA ln lc, .int .u64 v] 36)).drew).ownsRow w.heap.size 50 2 (.slice (some ⟨O, 0, none⟩) n' oc) n' (flatV r2)) := ho2'.alloc _
        have x0 := hx2'.cell 0
        have x1 := hx2'.cell 1
        simp only [List.getElem?_toArray, List.getElem?_cons_zero, List.getElem?_cons_succ] at x0 x1
        have ya := cell_below BL0.out cO
        have yb := cell_below BL1.out cO
        have xa0 := cell_below BL0.out x0
        have xb0 := cell_below BL1.out x0
        have xa1 := cell_below BL0.out x1
        have xb1 := cell_below BL1.out x1
        have hii : (sl : Int) < (n' : Int) := by omega
        have b3 : q + 1 ≤ maxLen := by unfold maxLen; omega
        have b4 : (q + 1) * 32 ≤ 140737488355328 := by omega
        have hbz := hb2'.size
        have b5 : w.heap.size ≤ ((wz.alloc (.cells #[.slice LA ln lc, .int .u64 v] 36)).drew).heap.size := by simp; omega
        have HRR := Lib.hid hr2'
        have HMM := Lib.hid hm2'
        have HBB := Lib.hid hb2'
        have HI3 := Lib.hid hi3'
        have HS2 := Lib.hid hs2'
        clear h1r h2r h3r h4r h5r hev hq ho2' hx2' hr2' hm2' hb2' hi3' hs2' HMID
        refine wp_region_noPanic ?_
        go_region_law
          (refine step_append_lies _ (by rfl) (.tmp 51) (.tmp 53) 23 (by rfl) w.heap.size 36 i1 _ 2 32 Tryz.underlying23 hi1 hy0 hy1 hy2 rfl (by decide) ev q (flatV re) (by rfl) OW1.out ⟨wz.heap.size, 0, none⟩ 1 1 [.slice LA ln lc, .int .u64 v] (by rfl) (by rfl) (two_at wz _ _ _ rfl _) (by intro u hu; simp at hu; rcases hu with rfl | rfl <;> rfl) (by decide) b3 b4 b5 _ rfl ?_
           intro g cp w8 hown8 hg8 hor8 hlt8
           have OZ8 := Lib.hid (OZ1.out.kept hg8 (.inr (fun e => by
             obtain ⟨cs, fr, hc⟩ := own_type (g := O) OZ1.out rfl
             exact own_apart OW1.out hc (by decide) e.symm)))
           have y8 : w8.cell? ⟨O, sl * 2 + 1, none⟩ = some ev := by
             rw [OZ8.out.cellAt (sl * 2 + 1) (by omega)]
             exact cF.out
           have yf8 := OZ8.out.frozenAt (sl * 2 + 1)
           have HOW8 := Lib.hid hown8
           have HG8 := Lib.hid hg8
           have HOR8 := Lib.hid hor8
           clear hown8 hg8 hor8 hlt8)
        all_goals
          refine NoPanic.normal ?_
          clear ya yb xa0 xb0 xa1 xb1 x0 x1 y8 yf8
          have HRP := Lib.hid (PRows.push (HRR.out.below BL1.out) (i := sl) (by rw [HS2.out]; exact hi2') HEL.out HEV.out.symm HQ.out.symm (by rw [flatV_append]; exact HOW8.out) (by
            obtain ⟨LA3, lc3, q1, q2, q3, q4, q5⟩ := HRE.out
            exact ⟨LA3, lc3, q1, q2.below BL1.out, q3, OW1.out, q5⟩) HG8.out HOR8.out)
          have HMP8 := Lib.hid ((HMM.out.below BL1.out).grown HG8.out (fun g hg => by
            obtain ⟨cs, fr, hc⟩ := own_type OW1.out hg
            exact ⟨cs, _, fr, hc⟩))
          have HBP8 := Lib.hid ((HBB.out.trans (BL1.out.mono hbz)).grown HG8.out b5 (fun g hg => (OW1.out.lt g hg).1))
          have HOP9 := Lib.hid (row_set OZ8.out (g := O) rfl (.slice (some ⟨g, 0, none⟩) (q + 1) cp) (i := sl * 2 + 1) (by rw [flatV_length, HRR.out.len, HS2.out]; omega))
          have hoO := OZ8.out.lt O rfl
          have HRP9 := Lib.hid (HRP.out.other (grown_set w8 O (sl * 2 + 1) (.slice (some ⟨g, 0, none⟩) (q + 1) cp)) (fun t cs fr hc => by
            obtain ⟨cs2, fr2, h2⟩ := own_type (g := O) OZ8.out rfl
            rw [hc] at h2
            injection h2 with h2
            injection h2 with _ h3
            subst h3
            exact ⟨by decide, by decide⟩))
          have HMP9 := Lib.hid (HMP8.out.grown (grown_set w8 O (sl * 2 + 1) (.slice (some ⟨g, 0, none⟩) (q + 1) cp)) (fun g hg => by
            injection hg with hg; subst hg
            obtain ⟨cs2, fr2, h2⟩ := own_type (g := O) OZ8.out rfl
            exact ⟨cs2, _, fr2, h2⟩))
          have HBP9 := Lib.hid (HBP8.out.setCell (p := ⟨O, sl * 2 + 1, none⟩) hoO.1 (.slice (some ⟨g, 0, none⟩) (q + 1) cp))
          clear hoO HG8 HOR8 HOW8 OZ8
          generalize w8.setCell ⟨O, sl * 2 + 1, none⟩ (.slice (some ⟨g, 0, none⟩) (q + 1) cp) = w9 at *
          go_wp2_with fail
          go_roundw
          case rel =>
            refine ⟨k + 1, σ2.set sl ((σ2.getD sl q0).1, (σ2.getD sl q0).2 ++ [S.getD k z0]), r2.set sl ((r2.getD sl v0).1, .slice (some ⟨g, 0, none⟩) (q + 1) cp), by omega, by go_num, ?_, HRP9, ?_, HBP9, HI3⟩
            · rw [List.length_set, HS2.out, flatV_set2 _ _ _ (by rw [HRR.out.len, HS2.out]; exact hi2')]
              exact HOP9
            · rw [mapOf_set]; exact HMP9
          case measure => simp [intOf]; omega
--ENDB
    · have d : decide (k < n) = false := by simpa using hlt
      obtain rfl : k = n := by omega
      obtain ⟨XA, xc, hx7, hraw, _⟩ := Raw.of_own (HR.out.len) HO.out
      have HRD := Lib.hid (HR.out.read HB.out)
      have HRW := Lib.hid hraw
      subst hx7
      clear hraw HO HR
      go_wp2
      go_ret
      exact ⟨σ, XA, xc, rfl, HI.out, ⟨r, HRW.out, HRD.out⟩, HB.out⟩
end Go.Proofs.YtencpjhpedenbaaGreatDoor

import Derived.Test.YtahphjaelpgjdaaDoorW15
import Derived.StillTailTactics
namespace Go.Proofs.YtahphjaelpgjdaaDoor
open Go.RowKit Rx
set_option linter.unusedVariables false

/-! classes -/
def PP (b : Nat) (T F : Value) (l : ByteArray) (o : Nat) (w : World) (r : Res) (e : Ending) (w' : World) : Prop :=
  ∃ T' F', Moves b T F w T' F' w' ∧ match r with
  | .bad pl c => ∃ p err, e = .returned (.tuple #[pcV p, err]) ∧ ErrAt w' err pl c
  | .ok a m p => e = .returned (.tuple #[pcV p, .nilIface]) ∧ Rdr w' b T' F' l m a o
theorem pp_bad {b : Nat} {T F T' F' : Value} {l : ByteArray} {o : Nat} {w w' : World} {r : Res} {pl c f : Nat} {v : Value} {p : Pc} (hr : r = .bad pl c) (hM : Moves b T F w T' F' w') (hv : v = pcV p) (hb : Blk w' f 74 #[.int .i64 pl, .iface 55 (.int .i64 c)]) :
    PP b T F l o w r (.returned (.tuple #[v, .iface 70 (.pointer (some ⟨f, 0, none⟩))])) w' := by
  subst hr; subst hv; exact ⟨T', F', hM, p, _, rfl, f, rfl, hb⟩
theorem pp_ok {b : Nat} {T F T' F' : Value} {l : ByteArray} {o : Nat} {w w' : World} {r : Res} {a : Nat} {m : Mach} {v : Value} {p : Pc} (hr : r = .ok a m p) (hM : Moves b T F w T' F' w') (hv : v = pcV p) (hR : Rdr w' b T' F' l m a o) :
    PP b T F l o w r (.returned (.tuple #[v, .nilIface])) w' := by
  subst hr; subst hv; exact ⟨T', F', hM, rfl, hR⟩
def pc0 : Pc := ⟨false, 0, 0⟩
theorem pc0_eq : (.agg #[.bool false, .int .u64 0, .int .u64 0, .int .u64 0, .int .u64 0, .int .u64 0, .int .u64 0, .int .u64 0, .int .u64 0] : Value) = pcV pc0 := by
  unfold pcV pcC pc0
  simp only [wv_zero]
/-- the place of a reader, for a loop's measure -/
def atOf (w : World) (b : Nat) : Nat := match w.cell? ⟨b, 12, none⟩ with | some v => (intOf v).toNat | none => 0
theorem Rdr.at_of {w : World} {b : Nat} {T F : Value} {l : ByteArray} {m : Mach} {a o : Nat} (h : Rdr w b T F l m a o) : atOf w b = a := by
  unfold atOf; rw [(rd_cells h).2.2.2.1]; simp [intOf]
theorem blk_ne {w : World} {j k : Nat} {t u : TypeId} {cs ds : Array Value} (h1 : Blk w j t cs) (h2 : Blk w k u ds) (ht : t ≠ u) : j ≠ k := by
  rintro rfl
  unfold Blk at h1 h2
  rw [h1] at h2
  injection h2 with h2
  injection h2 with _ h2
  exact ht h2
theorem below_drew (w : World) : Below w.heap.size w w.drew := ⟨rfl, rfl, rfl, Nat.le_refl _, fun _ _ => rfl⟩
theorem Blk.set4c {w : World} {j t u : Nat} {ty : TypeId} (h : Blk w j ty (setC t)) : Blk ((((w.setCell ⟨j, 0, none⟩ (wv u 0)).setCell ⟨j, 1, none⟩ (wv u 1)).setCell ⟨j, 2, none⟩ (wv u 2)).setCell ⟨j, 3, none⟩ (wv u 3)) j ty (setC u) := by
  have h0 := h.set_ 0 (wv u 0)
  simp only [List.setIfInBounds_toArray, List.set_cons_zero] at h0
  have h1 := h0.set_ 1 (wv u 1)
  simp only [List.setIfInBounds_toArray, List.set_cons_zero, List.set_cons_succ] at h1
  have h2 := h1.set_ 2 (wv u 2)
  simp only [List.setIfInBounds_toArray, List.set_cons_zero, List.set_cons_succ] at h2
  have h3 := h2.set_ 3 (wv u 3)
  simp only [List.setIfInBounds_toArray, List.set_cons_zero, List.set_cons_succ] at h3
  exact h3
set_option maxRecDepth 100000 in
set_option maxHeartbeats 8000000 in
theorem class_no (b a o : Nat) (T F : Value) (l : ByteArray) (m : Mach) (w : World) (hr : Rdr w b T F l m a o) (hl : l.size ≤ 200) (ha : a < l.size) (hn : m.takes.length < 256) (hm : m.follow.length = m.takes.length) (hs : sees l (a + 1) 94 = false) :
    Calls Tryd.prog 78 #[.pointer (some ⟨b, 0, none⟩)] w (PP b T F l o w (classF l a m)) := by
  have hC : ∀ r, itemsF l (l.size + 1) (a + 1) 0 = r → classF l a m = match r with | .bad pl => .bad pl 2 | .ok a1 t => .ok (a1 + 1) (placeM m (t)) (placeP m) := fun r h => by unfold classF; rw [hs]; simp only [Bool.false_eq_true, if_false]; rw [h]; cases r <;> rfl
  have HC := Lib.hid hC
  have HR := Lib.hid (hr.alloc (.cells zero9 85))
  have HM := Lib.hid ((Moves.refl b T F w).alloc (.cells zero9 85))
  have B0 := Lib.hid (Blk.new w 85 zero9)
  have HS := Lib.hid (fun W (hR : Rdr W b T F l m (a + 1) o) => sees_is b (a + 1) l ⟨#[94]⟩ [94] sg_not W hl ha (rd_cells hR).2.2.1 (rd_cells hR).2.2.2.1)
  rw [sees_one, hs] at HS
  have HE := Lib.hid (fun (a1 : Nat) (h1 : a1 ≤ l.size) W (hR : Rdr W b T F l m a1 o) => sees_is b a1 l ⟨#[93]⟩ [93] sg_end W hl h1 (rd_cells hR).2.2.1 (rd_cells hR).2.2.2.1)
  have HFT : Hid (∀ j, w.heap.size ≤ j → ¬ Foot b T F j) := fun j hj hf => by have := (hr.lt_foot hf).1; omega
  have HNL := Lib.hid hn
  have HML := Lib.hid hm
  clear hC hr hn hm hs
  go_enter Tryd.func78, Tryd.ntmps78
  go_upto_region 1 with fail
  generalize hW : w.alloc (.cells zero9 85) = W at *
  clear hW
  have q4 := (rd_cells HR.out).2.2.2.1
  have qf := HR.out.blk.frozen 12
  go_upto_region 2 with fail
  have HR1 := Lib.hid (HR.out.set_at (a + 1) (.int .i64 ((a : Int) + 1)) (by rfl))
  have HM1 := Lib.hid (HM.out.set_foot (foot_self b T F) 12 (.int .i64 ((a : Int) + 1)))
  have B1 := Lib.hid (B0.out.other (k := b) (fun e => HFT.out _ (Nat.le_refl _) (.inl e)) 12 (.int .i64 ((a : Int) + 1)))
  generalize hW : W.setCell ⟨b, 12, none⟩ (.int .i64 ((a : Int) + 1)) = W1 at *
  clear hW HR HM B0 q4 qf
  go_wp2_with fail
  refine (HS.out _ HR1.out).mono ?_
  rintro e w2 ⟨rfl, n2, rfl⟩
  have HR2 := Lib.hid (HR1.out.drewN n2)
  have HM2 := Lib.hid (HM1.out.drewN n2)
  have B2 := Lib.hid (B1.out.drewN n2)
  generalize hW : W1.drewN n2 = W2 at *
  clear hW HR1 HM1 B1 HS
  go_upto_region 5 with fail
  have HR3 := HR2
  have HM3 := HM2
  have B3 := B2
  clear HR2 HM2 B2
  have HFa : Hid (∀ j, W2.heap.size ≤ j → ¬ Foot b T F j) := fun j hj hf => by have := (HR3.out.lt_foot hf).1; omega
  have HRa := Lib.hid (HR3.out.alloc (.cells #[.int .u64 0, .int .u64 0, .int .u64 0, .int .u64 0] 61))
  have HMa := Lib.hid ((Moves.refl b T F W2).alloc (.cells #[.int .u64 0, .int .u64 0, .int .u64 0, .int .u64 0] 61))
  have HG : Hid (Blk (W2.alloc (.cells #[.int .u64 0, .int .u64 0, .int .u64 0, .int .u64 0] 61)) W2.heap.size 61 (setC 0)) := by
    show Blk _ _ _ _
    unfold setC
    rw [wv_zero, wv_zero, wv_zero, wv_zero]
    exact Blk.new _ 61 _
  have hgs : w.heap.size < W2.heap.size := B3.out.lt
  go_wp2_with fail
  generalize hW : W2.alloc (.cells #[.int .u64 0, .int .u64 0, .int .u64 0, .int .u64 0] 61) = W4 at *
  obtain ⟨g, hg⟩ : ∃ g, g = W2.heap.size := ⟨_, rfl⟩
  have hgl : W2.heap.size ≤ g := by omega
  rw [← hg] at HG ⊢
  clear hW hg HR3
  go_loopw [6, 7] (fun s6 s7 wr => ∃ (f : Bool) (k a1 t : Nat), s6 = .bool f ∧ l.size < k + a1 ∧ a1 ≤ l.size ∧ t < 2 ^ 256 ∧ Hid (Rdr wr b T F l m a1 o) ∧ Hid (Moves b T F W2 T F wr) ∧ Hid (Blk wr g 61 (setC t)) ∧
    Hid (itemsF l (l.size + 1) (a + 1) 0 = if f = true then itemsF l k a1 t else if sees l a1 93 = true then .ok a1 t else itemsF l k a1 t)) (fun s6 s7 wr => l.size - atOf wr b)
  case atStart => exact ⟨true, l.size + 1, a + 1, 0, rfl, by omega, by omega, by decide, HRa, HMa, HG, (if_pos rfl).symm⟩
  case round =>
    obtain ⟨f, k, a1, t, rfl, hk1, ha1, ht, HRr, HMr, Gr, HQ⟩ := hrel
    have HMEAS : Hid (atOf wr b = a1) := HRr.out.at_of
    cases f with
    | true =>
      have HI := Lib.hid (item_any b a1 o g t T F l m W2 wr HRr.out hl ha1 HMr.out hgl (HFa.out g hgl) Gr.out)
      obtain ⟨k', rfl⟩ : ∃ k', k = k' + 1 := ⟨k - 1, by omega⟩
      cases hi : itemF l a1 t with
      | bad pl =>
        rw [hi] at HI
        have HF : Hid (itemsF l (l.size + 1) (a + 1) 0 = .bad pl) := by
          show itemsF _ _ _ _ = _
          rw [HQ.out, if_pos rfl]
          conv => lhs; unfold itemsF
          rw [hi]
        have HX := Lib.hid (HC.out _ HF.out)
        clear hi HQ HC HF
        go_wp2_with fail
        refine (HI.out).mono ?_
        rintro e w5 ⟨hm5, err, rfl, f5, rfl, hf5⟩
        have HM5 := Lib.hid (HM3.out.trans hm5)
        have B5 := Lib.hid (B3.out.moves hm5 (HFT.out _ (Nat.le_refl _)))
        have F5 := Lib.hid (hf5.set9_other (j := w.heap.size) (blk_ne hf5 B5.out (by decide)) (.bool false) (.int .u64 0) (.int .u64 0) (.int .u64 0) (.int .u64 0) (.int .u64 0) (.int .u64 0) (.int .u64 0) (.int .u64 0))
        clear hm5 hf5
        obtain ⟨r0, r1, r2, r3, r4, r5, r6, r7, r8⟩ := cells9 B5.out
        obtain ⟨g0, g1, g2, g3, g4, g5, g6, g7, g8⟩ := frozen9 B5.out
        go_wp2
        exact bodyPost_ret (v := .tuple #[.agg zero9, .iface 70 (.pointer (some ⟨f5, 0, none⟩))]) (by simp [results, Tryd.results78, go_sem, r0, r1, r2, r3, r4, r5, r6, r7, r8]) rfl (pp_bad HX.out (HM5.out.set9 (Nat.le_refl _) _ _ _ _ _ _ _ _ _) pc0_eq F5.out)
      | ok a3 t3 =>
        rw [hi] at HI
        have hi' := itemF_ok ht hi
        have HF : Hid (itemsF l (l.size + 1) (a + 1) 0 = if false = true then itemsF l k' a3 t3 else if sees l a3 93 = true then .ok a3 t3 else itemsF l k' a3 t3) := by
          show itemsF _ _ _ _ = _
          rw [HQ.out, if_pos rfl]
          conv => lhs; unfold itemsF
          rw [hi, if_neg (by simp)]
        clear hi HQ
        go_wp2_with fail
        refine (HI.out).mono ?_
        rintro e w5 ⟨hm5, rfl, hR5, hG5⟩
        have HM5 := Lib.hid hm5
        have HR5 := Lib.hid hR5
        have G5 := Lib.hid hG5
        have HA5 : Hid (atOf w5 b = a3) := HR5.out.at_of
        clear hm5 hR5 hG5
        go_wp2
        go_roundw
        case rel => exact ⟨false, k', a3, t3, rfl, by omega, hi'.2.1, hi'.2.2, HR5, HM5, G5, HF⟩
        case measure =>
          rw [HA5.out, HMEAS.out]
          omega
    | false =>
      have HEr := Lib.hid (HE.out a1 ha1 wr HRr.out)
      rw [sees_one] at HEr
      cases hse : sees l a1 93 with
      | false =>
        rw [hse] at HEr
        have hlt1 : Hid (sees l a1 93 = false) := hse
        have HQ2 : Hid (itemsF l (l.size + 1) (a + 1) 0 = itemsF l k a1 t) := by show itemsF _ _ _ _ = _; rw [HQ.out, if_neg (by simp), if_neg (by rw [hlt1.out]; simp)]
        clear hse HQ hlt1
        have HQ := HQ2
        clear HQ2
        go_wp2_with fail
        refine (HEr.out).mono ?_
        rintro e w4 ⟨rfl, n4, rfl⟩
        have HRs := Lib.hid (HRr.out.drewN n4)
        have HMs := Lib.hid (HMr.out.drewN n4)
        have Gs := Lib.hid (Gr.out.drewN n4)
        generalize hW : wr.drewN n4 = Ws at *
        clear hW
        have HI := Lib.hid (item_any b a1 o g t T F l m W2 Ws HRs.out hl ha1 HMs.out hgl (HFa.out g hgl) Gs.out)
        obtain ⟨k', rfl⟩ : ∃ k', k = k' + 1 := ⟨k - 1, by omega⟩
        cases hi : itemF l a1 t with
        | bad pl =>
          rw [hi] at HI
          have HF : Hid (itemsF l (l.size + 1) (a + 1) 0 = .bad pl) := by
            show itemsF _ _ _ _ = _
            rw [HQ.out]
            conv => lhs; unfold itemsF
            rw [hi]
          have HX := Lib.hid (HC.out _ HF.out)
          clear hi HQ HC HF
          go_wp2_with fail
          refine (HI.out).mono ?_
          rintro e w5 ⟨hm5, err, rfl, f5, rfl, hf5⟩
          have HM5 := Lib.hid (HM3.out.trans hm5)
          have B5 := Lib.hid (B3.out.moves hm5 (HFT.out _ (Nat.le_refl _)))
          have F5 := Lib.hid (hf5.set9_other (j := w.heap.size) (blk_ne hf5 B5.out (by decide)) (.bool false) (.int .u64 0) (.int .u64 0) (.int .u64 0) (.int .u64 0) (.int .u64 0) (.int .u64 0) (.int .u64 0) (.int .u64 0))
          clear hm5 hf5
          obtain ⟨r0, r1, r2, r3, r4, r5, r6, r7, r8⟩ := cells9 B5.out
          obtain ⟨g0, g1, g2, g3, g4, g5, g6, g7, g8⟩ := frozen9 B5.out
          go_wp2
          exact bodyPost_ret (v := .tuple #[.agg zero9, .iface 70 (.pointer (some ⟨f5, 0, none⟩))]) (by simp [results, Tryd.results78, go_sem, r0, r1, r2, r3, r4, r5, r6, r7, r8]) rfl (pp_bad HX.out (HM5.out.set9 (Nat.le_refl _) _ _ _ _ _ _ _ _ _) pc0_eq F5.out)
        | ok a3 t3 =>
          rw [hi] at HI
          have hi' := itemF_ok ht hi
          have HF : Hid (itemsF l (l.size + 1) (a + 1) 0 = if false = true then itemsF l k' a3 t3 else if sees l a3 93 = true then .ok a3 t3 else itemsF l k' a3 t3) := by
            show itemsF _ _ _ _ = _
            rw [HQ.out]
            conv => lhs; unfold itemsF
            rw [hi, if_neg (by simp)]
          clear hi HQ
          go_wp2_with fail
          refine (HI.out).mono ?_
          rintro e w5 ⟨hm5, rfl, hR5, hG5⟩
          have HM5 := Lib.hid hm5
          have HR5 := Lib.hid hR5
          have G5 := Lib.hid hG5
          have HA5 : Hid (atOf w5 b = a3) := HR5.out.at_of
          clear hm5 hR5 hG5
          go_wp2
          go_roundw
          case rel => exact ⟨false, k', a3, t3, rfl, by omega, hi'.2.1, hi'.2.2, HR5, HM5, G5, HF⟩
          case measure =>
            rw [HA5.out, HMEAS.out]
            omega
      | true =>
        rw [hse] at HEr
        have HQ2 : Hid (itemsF l (l.size + 1) (a + 1) 0 = .ok a1 t) := by show itemsF _ _ _ _ = _; rw [HQ.out, if_neg (by simp), if_pos hse]
        have hlt1 := sees_lt hse
        clear hse HQ
        have HQ := HQ2
        clear HQ2
        go_wp2_with fail
        refine (HEr.out).mono ?_
        rintro e w4 ⟨rfl, n4, rfl⟩
        have HRs := Lib.hid (HRr.out.drewN n4)
        have HMs := Lib.hid (HMr.out.drewN n4)
        have Gs := Lib.hid (Gr.out.drewN n4)
        generalize hW : wr.drewN n4 = Ws at *
        clear hW HEr
        have HF : Hid (itemsF l (l.size + 1) (a + 1) 0 = .ok a1 t) := HQ.out
        have HX := Lib.hid (HC.out _ HF.out)
        clear HQ HC HF
        have q4 := (rd_cells HRs.out).2.2.2.1
        have qf := HRs.out.blk.frozen 12
        go_upto_region 13 with fail
        have HR6 := Lib.hid (HRs.out.set_at (a1 + 1) (.int .i64 ((a1 : Int) + 1)) (by rfl))
        have HM6 := Lib.hid (HMs.out.set_foot (foot_self b T F) 12 (.int .i64 ((a1 : Int) + 1)))
        have G6 := Lib.hid (Gs.out.other (k := b) (fun e => HFa.out g hgl (.inl e)) 12 (.int .i64 ((a1 : Int) + 1)))
        generalize hW : Ws.setCell ⟨b, 12, none⟩ (.int .i64 ((a1 : Int) + 1)) = W6 at *
        clear hW HRs HMs Gs q4 qf HRr HMr Gr
        have t0 := G6.out.cell 0
        have t1 := G6.out.cell 1
        have t2 := G6.out.cell 2
        have t3 := G6.out.cell 3
        simp only [List.getElem?_toArray, List.getElem?_cons_zero, List.getElem?_cons_succ] at t0 t1 t2 t3
        go_upto_region 15 with fail
        have HR8 := HR6
        have HM8 := HM6
        have G8 := G6
        clear t0 t1 t2 t3 HR6 HM6 G6
        have t0 := G8.out.cell 0
        have t1 := G8.out.cell 1
        have t2 := G8.out.cell 2
        have t3 := G8.out.cell 3
        simp only [List.getElem?_toArray, List.getElem?_cons_zero, List.getElem?_cons_succ] at t0 t1 t2 t3
        have HRd : Hid (Rdr W6.drew b T F l m (a1 + 1) o) := HR8.out.below (below_drew _)
        have HMd := Lib.hid (HM8.out.drew)
        have t0' : W6.drew.cell? ⟨g, 0, none⟩ = some (wv t 0) := t0
        have t1' : W6.drew.cell? ⟨g, 1, none⟩ = some (wv t 1) := t1
        have t2' : W6.drew.cell? ⟨g, 2, none⟩ = some (wv t 2) := t2
        have t3' : W6.drew.cell? ⟨g, 3, none⟩ = some (wv t 3) := t3
        go_still_tail 4, (by kernel_rfl)
        change wpList _ _ _ _ _ W6.drew
        generalize hW : W6.drew = W9 at *
        have HP := Lib.hid (place_any b (a1 + 1) o t T F l m W9 HRd.out HNL.out HML.out)
        clear hW HR8 HM8 t0 t1 t2 t3
        go_wp2_with fail
        refine (HP.out).mono ?_
        rintro e wa ⟨T2, F2, hma, rfl, hra⟩
        have HMa := Lib.hid (HMd.out.trans hma)
        have HRx := Lib.hid hra
        have BA := Lib.hid (B3.out.moves HMa.out (HFT.out _ (Nat.le_refl _)))
        clear hma hra t0' t1' t2' t3'
        obtain ⟨r0, r1, r2, r3, r4, r5, r6, r7, r8⟩ := cells9 BA.out
        obtain ⟨g0, g1, g2, g3, g4, g5, g6, g7, g8⟩ := frozen9 BA.out
        go_wp2
        exact bodyPost_ret (v := .tuple #[pcV (placeP m), .nilIface]) (by simp [results, Tryd.results78, go_sem, r0, r1, r2, r3, r4, r5, r6, r7, r8, placeP]) rfl (pp_ok HX.out ((HM3.out.trans HMa.out).set9 (Nat.le_refl _) _ _ _ _ _ _ _ _ _) rfl (HRx.out.set9 (HRx.out.off BA.out (by decide) (by decide)) _ _ _ _ _ _ _ _ _))
set_option maxRecDepth 100000 in
set_option maxHeartbeats 8000000 in
theorem class_yes (b a o : Nat) (T F : Value) (l : ByteArray) (m : Mach) (w : World) (hr : Rdr w b T F l m a o) (hl : l.size ≤ 200) (ha : a < l.size) (hn : m.takes.length < 256) (hm : m.follow.length = m.takes.length) (hs : sees l (a + 1) 94 = true) :
    Calls Tryd.prog 78 #[.pointer (some ⟨b, 0, none⟩)] w (PP b T F l o w (classF l a m)) := by
  have hC : ∀ r, itemsF l (l.size + 1) (a + 2) 0 = r → classF l a m = match r with | .bad pl => .bad pl 2 | .ok a1 t => .ok (a1 + 1) (placeM m (notS t)) (placeP m) := fun r h => by unfold classF; rw [hs]; simp only [if_true]; rw [h]; cases r <;> rfl
  have HC := Lib.hid hC
  have HR := Lib.hid (hr.alloc (.cells zero9 85))
  have HM := Lib.hid ((Moves.refl b T F w).alloc (.cells zero9 85))
  have B0 := Lib.hid (Blk.new w 85 zero9)
  have HS := Lib.hid (fun W (hR : Rdr W b T F l m (a + 1) o) => sees_is b (a + 1) l ⟨#[94]⟩ [94] sg_not W hl ha (rd_cells hR).2.2.1 (rd_cells hR).2.2.2.1)
  rw [sees_one, hs] at HS
  have HE := Lib.hid (fun (a1 : Nat) (h1 : a1 ≤ l.size) W (hR : Rdr W b T F l m a1 o) => sees_is b a1 l ⟨#[93]⟩ [93] sg_end W hl h1 (rd_cells hR).2.2.1 (rd_cells hR).2.2.2.1)
  have HFT : Hid (∀ j, w.heap.size ≤ j → ¬ Foot b T F j) := fun j hj hf => by have := (hr.lt_foot hf).1; omega
  have hlt := sees_lt hs
  have HNL := Lib.hid hn
  have HML := Lib.hid hm
  clear hC hr hn hm hs
  go_enter Tryd.func78, Tryd.ntmps78
  go_upto_region 1 with fail
  generalize hW : w.alloc (.cells zero9 85) = W at *
  clear hW
  have q4 := (rd_cells HR.out).2.2.2.1
  have qf := HR.out.blk.frozen 12
  go_upto_region 2 with fail
  have HR1 := Lib.hid (HR.out.set_at (a + 1) (.int .i64 ((a : Int) + 1)) (by rfl))
  have HM1 := Lib.hid (HM.out.set_foot (foot_self b T F) 12 (.int .i64 ((a : Int) + 1)))
  have B1 := Lib.hid (B0.out.other (k := b) (fun e => HFT.out _ (Nat.le_refl _) (.inl e)) 12 (.int .i64 ((a : Int) + 1)))
  generalize hW : W.setCell ⟨b, 12, none⟩ (.int .i64 ((a : Int) + 1)) = W1 at *
  clear hW HR HM B0 q4 qf
  go_wp2_with fail
  refine (HS.out _ HR1.out).mono ?_
  rintro e w2 ⟨rfl, n2, rfl⟩
  have HR2 := Lib.hid (HR1.out.drewN n2)
  have HM2 := Lib.hid (HM1.out.drewN n2)
  have B2 := Lib.hid (B1.out.drewN n2)
  generalize hW : W1.drewN n2 = W2 at *
  clear hW HR1 HM1 B1 HS
  have q4 := (rd_cells HR2.out).2.2.2.1
  have qf := HR2.out.blk.frozen 12
  go_upto_region 5 with fail
  have HR3 := Lib.hid (HR2.out.set_at (a + 2) (.int .i64 ((a : Int) + 1 + 1)) (by rw [show (a : Int) + 1 + 1 = ((a + 2 : Nat) : Int) by omega]))
  have HM3 := Lib.hid (HM2.out.set_foot (foot_self b T F) 12 (.int .i64 ((a : Int) + 1 + 1)))
  have B3 := Lib.hid (B2.out.other (k := b) (fun e => HFT.out _ (Nat.le_refl _) (.inl e)) 12 (.int .i64 ((a : Int) + 1 + 1)))
  generalize hW : W2.setCell ⟨b, 12, none⟩ (.int .i64 ((a : Int) + 1 + 1)) = W3 at *
  clear hW HR2 HM2 B2 q4 qf
  have HFa : Hid (∀ j, W3.heap.size ≤ j → ¬ Foot b T F j) := fun j hj hf => by have := (HR3.out.lt_foot hf).1; omega
  have HRa := Lib.hid (HR3.out.alloc (.cells #[.int .u64 0, .int .u64 0, .int .u64 0, .int .u64 0] 61))
  have HMa := Lib.hid ((Moves.refl b T F W3).alloc (.cells #[.int .u64 0, .int .u64 0, .int .u64 0, .int .u64 0] 61))
  have HG : Hid (Blk (W3.alloc (.cells #[.int .u64 0, .int .u64 0, .int .u64 0, .int .u64 0] 61)) W3.heap.size 61 (setC 0)) := by
    show Blk _ _ _ _
    unfold setC
    rw [wv_zero, wv_zero, wv_zero, wv_zero]
    exact Blk.new _ 61 _
  have hgs : w.heap.size < W3.heap.size := B3.out.lt
  go_wp2_with fail
  generalize hW : W3.alloc (.cells #[.int .u64 0, .int .u64 0, .int .u64 0, .int .u64 0] 61) = W4 at *
  obtain ⟨g, hg⟩ : ∃ g, g = W3.heap.size := ⟨_, rfl⟩
  have hgl : W3.heap.size ≤ g := by omega
  rw [← hg] at HG ⊢
  clear hW hg HR3
  go_loopw [6, 7] (fun s6 s7 wr => ∃ (f : Bool) (k a1 t : Nat), s6 = .bool f ∧ l.size < k + a1 ∧ a1 ≤ l.size ∧ t < 2 ^ 256 ∧ Hid (Rdr wr b T F l m a1 o) ∧ Hid (Moves b T F W3 T F wr) ∧ Hid (Blk wr g 61 (setC t)) ∧
    Hid (itemsF l (l.size + 1) (a + 2) 0 = if f = true then itemsF l k a1 t else if sees l a1 93 = true then .ok a1 t else itemsF l k a1 t)) (fun s6 s7 wr => l.size - atOf wr b)
  case atStart => exact ⟨true, l.size + 1, a + 2, 0, rfl, by omega, by omega, by decide, HRa, HMa, HG, (if_pos rfl).symm⟩
  case round =>
    obtain ⟨f, k, a1, t, rfl, hk1, ha1, ht, HRr, HMr, Gr, HQ⟩ := hrel
    have HMEAS : Hid (atOf wr b = a1) := HRr.out.at_of
    cases f with
    | true =>
      have HI := Lib.hid (item_any b a1 o g t T F l m W3 wr HRr.out hl ha1 HMr.out hgl (HFa.out g hgl) Gr.out)
      obtain ⟨k', rfl⟩ : ∃ k', k = k' + 1 := ⟨k - 1, by omega⟩
      cases hi : itemF l a1 t with
      | bad pl =>
        rw [hi] at HI
        have HF : Hid (itemsF l (l.size + 1) (a + 2) 0 = .bad pl) := by
          show itemsF _ _ _ _ = _
          rw [HQ.out, if_pos rfl]
          conv => lhs; unfold itemsF
          rw [hi]
        have HX := Lib.hid (HC.out _ HF.out)
        clear hi HQ HC HF
        go_wp2_with fail
        refine (HI.out).mono ?_
        rintro e w5 ⟨hm5, err, rfl, f5, rfl, hf5⟩
        have HM5 := Lib.hid (HM3.out.trans hm5)
        have B5 := Lib.hid (B3.out.moves hm5 (HFT.out _ (Nat.le_refl _)))
        have F5 := Lib.hid (hf5.set9_other (j := w.heap.size) (blk_ne hf5 B5.out (by decide)) (.bool false) (.int .u64 0) (.int .u64 0) (.int .u64 0) (.int .u64 0) (.int .u64 0) (.int .u64 0) (.int .u64 0) (.int .u64 0))
        clear hm5 hf5
        obtain ⟨r0, r1, r2, r3, r4, r5, r6, r7, r8⟩ := cells9 B5.out
        obtain ⟨g0, g1, g2, g3, g4, g5, g6, g7, g8⟩ := frozen9 B5.out
        go_wp2
        exact bodyPost_ret (v := .tuple #[.agg zero9, .iface 70 (.pointer (some ⟨f5, 0, none⟩))]) (by simp [results, Tryd.results78, go_sem, r0, r1, r2, r3, r4, r5, r6, r7, r8]) rfl (pp_bad HX.out (HM5.out.set9 (Nat.le_refl _) _ _ _ _ _ _ _ _ _) pc0_eq F5.out)
      | ok a3 t3 =>
        rw [hi] at HI
        have hi' := itemF_ok ht hi
        have HF : Hid (itemsF l (l.size + 1) (a + 2) 0 = if false = true then itemsF l k' a3 t3 else if sees l a3 93 = true then .ok a3 t3 else itemsF l k' a3 t3) := by
          show itemsF _ _ _ _ = _
          rw [HQ.out, if_pos rfl]
          conv => lhs; unfold itemsF
          rw [hi, if_neg (by simp)]
        clear hi HQ
        go_wp2_with fail
        refine (HI.out).mono ?_
        rintro e w5 ⟨hm5, rfl, hR5, hG5⟩
        have HM5 := Lib.hid hm5
        have HR5 := Lib.hid hR5
        have G5 := Lib.hid hG5
        have HA5 : Hid (atOf w5 b = a3) := HR5.out.at_of
        clear hm5 hR5 hG5
        go_wp2
        go_roundw
        case rel => exact ⟨false, k', a3, t3, rfl, by omega, hi'.2.1, hi'.2.2, HR5, HM5, G5, HF⟩
        case measure =>
          rw [HA5.out, HMEAS.out]
          omega
    | false =>
      have HEr := Lib.hid (HE.out a1 ha1 wr HRr.out)
      rw [sees_one] at HEr
      cases hse : sees l a1 93 with
      | false =>
        rw [hse] at HEr
        have hlt1 : Hid (sees l a1 93 = false) := hse
        have HQ2 : Hid (itemsF l (l.size + 1) (a + 2) 0 = itemsF l k a1 t) := by show itemsF _ _ _ _ = _; rw [HQ.out, if_neg (by simp), if_neg (by rw [hlt1.out]; simp)]
        clear hse HQ hlt1
        have HQ := HQ2
        clear HQ2
        go_wp2_with fail
        refine (HEr.out).mono ?_
        rintro e w4 ⟨rfl, n4, rfl⟩
        have HRs := Lib.hid (HRr.out.drewN n4)
        have HMs := Lib.hid (HMr.out.drewN n4)
        have Gs := Lib.hid (Gr.out.drewN n4)
        generalize hW : wr.drewN n4 = Ws at *
        clear hW
        have HI := Lib.hid (item_any b a1 o g t T F l m W3 Ws HRs.out hl ha1 HMs.out hgl (HFa.out g hgl) Gs.out)
        obtain ⟨k', rfl⟩ : ∃ k', k = k' + 1 := ⟨k - 1, by omega⟩
        cases hi : itemF l a1 t with
        | bad pl =>
          rw [hi] at HI
          have HF : Hid (itemsF l (l.size + 1) (a + 2) 0 = .bad pl) := by
            show itemsF _ _ _ _ = _
            rw [HQ.out]
            conv => lhs; unfold itemsF
            rw [hi]
          have HX := Lib.hid (HC.out _ HF.out)
          clear hi HQ HC HF
          go_wp2_with fail
          refine (HI.out).mono ?_
          rintro e w5 ⟨hm5, err, rfl, f5, rfl, hf5⟩
          have HM5 := Lib.hid (HM3.out.trans hm5)
          have B5 := Lib.hid (B3.out.moves hm5 (HFT.out _ (Nat.le_refl _)))
          have F5 := Lib.hid (hf5.set9_other (j := w.heap.size) (blk_ne hf5 B5.out (by decide)) (.bool false) (.int .u64 0) (.int .u64 0) (.int .u64 0) (.int .u64 0) (.int .u64 0) (.int .u64 0) (.int .u64 0) (.int .u64 0))
          clear hm5 hf5
          obtain ⟨r0, r1, r2, r3, r4, r5, r6, r7, r8⟩ := cells9 B5.out
          obtain ⟨g0, g1, g2, g3, g4, g5, g6, g7, g8⟩ := frozen9 B5.out
          go_wp2
          exact bodyPost_ret (v := .tuple #[.agg zero9, .iface 70 (.pointer (some ⟨f5, 0, none⟩))]) (by simp [results, Tryd.results78, go_sem, r0, r1, r2, r3, r4, r5, r6, r7, r8]) rfl (pp_bad HX.out (HM5.out.set9 (Nat.le_refl _) _ _ _ _ _ _ _ _ _) pc0_eq F5.out)
        | ok a3 t3 =>
          rw [hi] at HI
          have hi' := itemF_ok ht hi
          have HF : Hid (itemsF l (l.size + 1) (a + 2) 0 = if false = true then itemsF l k' a3 t3 else if sees l a3 93 = true then .ok a3 t3 else itemsF l k' a3 t3) := by
            show itemsF _ _ _ _ = _
            rw [HQ.out]
            conv => lhs; unfold itemsF
            rw [hi, if_neg (by simp)]
          clear hi HQ
          go_wp2_with fail
          refine (HI.out).mono ?_
          rintro e w5 ⟨hm5, rfl, hR5, hG5⟩
          have HM5 := Lib.hid hm5
          have HR5 := Lib.hid hR5
          have G5 := Lib.hid hG5
          have HA5 : Hid (atOf w5 b = a3) := HR5.out.at_of
          clear hm5 hR5 hG5
          go_wp2
          go_roundw
          case rel => exact ⟨false, k', a3, t3, rfl, by omega, hi'.2.1, hi'.2.2, HR5, HM5, G5, HF⟩
          case measure =>
            rw [HA5.out, HMEAS.out]
            omega
      | true =>
        rw [hse] at HEr
        have HQ2 : Hid (itemsF l (l.size + 1) (a + 2) 0 = .ok a1 t) := by show itemsF _ _ _ _ = _; rw [HQ.out, if_neg (by simp), if_pos hse]
        have hlt1 := sees_lt hse
        clear hse HQ
        have HQ := HQ2
        clear HQ2
        go_wp2_with fail
        refine (HEr.out).mono ?_
        rintro e w4 ⟨rfl, n4, rfl⟩
        have HRs := Lib.hid (HRr.out.drewN n4)
        have HMs := Lib.hid (HMr.out.drewN n4)
        have Gs := Lib.hid (Gr.out.drewN n4)
        generalize hW : wr.drewN n4 = Ws at *
        clear hW HEr
        have HF : Hid (itemsF l (l.size + 1) (a + 2) 0 = .ok a1 t) := HQ.out
        have HX := Lib.hid (HC.out _ HF.out)
        clear HQ HC HF
        have q4 := (rd_cells HRs.out).2.2.2.1
        have qf := HRs.out.blk.frozen 12
        go_upto_region 13 with fail
        have HR6 := Lib.hid (HRs.out.set_at (a1 + 1) (.int .i64 ((a1 : Int) + 1)) (by rfl))
        have HM6 := Lib.hid (HMs.out.set_foot (foot_self b T F) 12 (.int .i64 ((a1 : Int) + 1)))
        have G6 := Lib.hid (Gs.out.other (k := b) (fun e => HFa.out g hgl (.inl e)) 12 (.int .i64 ((a1 : Int) + 1)))
        generalize hW : Ws.setCell ⟨b, 12, none⟩ (.int .i64 ((a1 : Int) + 1)) = W6 at *
        clear hW HRs HMs Gs q4 qf HRr HMr Gr
        have t0 := G6.out.cell 0
        have t1 := G6.out.cell 1
        have t2 := G6.out.cell 2
        have t3 := G6.out.cell 3
        simp only [List.getElem?_toArray, List.getElem?_cons_zero, List.getElem?_cons_succ] at t0 t1 t2 t3
        have HN1 := Lib.hid (not_any t ht W6)
        go_wp2_with fail
        refine (HN1.out).mono ?_
        rintro e w7 ⟨rfl, hb7⟩
        have HR7 := Lib.hid (HR6.out.below hb7)
        have HM7 := Lib.hid (HM6.out.below hb7)
        have G7 := Lib.hid (G6.out.below hb7)
        clear hb7 HR6 HM6 G6 t0 t1 t2 t3 HN1
        have t0 := G7.out.cell 0
        have t1 := G7.out.cell 1
        have t2 := G7.out.cell 2
        have t3 := G7.out.cell 3
        simp only [List.getElem?_toArray, List.getElem?_cons_zero, List.getElem?_cons_succ] at t0 t1 t2 t3
        have p0 := G7.out.frozen 0
        have p1 := G7.out.frozen 1
        have p2 := G7.out.frozen 2
        have p3 := G7.out.frozen 3
        go_upto_region 15 with fail
        have HR8 := Lib.hid ((((HR7.out.other (HFa.out g hgl) 0 (wv (notS t) 0)).other (HFa.out g hgl) 1 (wv (notS t) 1)).other (HFa.out g hgl) 2 (wv (notS t) 2)).other (HFa.out g hgl) 3 (wv (notS t) 3))
        have HM8 := Lib.hid ((((HM7.out.set_new (g := g) hgl 0 (wv (notS t) 0)).set_new (g := g) hgl 1 (wv (notS t) 1)).set_new (g := g) hgl 2 (wv (notS t) 2)).set_new (g := g) hgl 3 (wv (notS t) 3))
        have G8 := Lib.hid (G7.out.set4c (u := notS t))
        generalize hW : (((w7.setCell ⟨g, 0, none⟩ (wv (notS t) 0)).setCell ⟨g, 1, none⟩ (wv (notS t) 1)).setCell ⟨g, 2, none⟩ (wv (notS t) 2)).setCell ⟨g, 3, none⟩ (wv (notS t) 3) = W8 at *
        clear hW HR7 HM7 G7 t0 t1 t2 t3 p0 p1 p2 p3
        have t0 := G8.out.cell 0
        have t1 := G8.out.cell 1
        have t2 := G8.out.cell 2
        have t3 := G8.out.cell 3
        simp only [List.getElem?_toArray, List.getElem?_cons_zero, List.getElem?_cons_succ] at t0 t1 t2 t3
        have HRd : Hid (Rdr W8.drew b T F l m (a1 + 1) o) := HR8.out.below (below_drew _)
        have HMd := Lib.hid (HM8.out.drew)
        have t0' : W8.drew.cell? ⟨g, 0, none⟩ = some (wv (notS t) 0) := t0
        have t1' : W8.drew.cell? ⟨g, 1, none⟩ = some (wv (notS t) 1) := t1
        have t2' : W8.drew.cell? ⟨g, 2, none⟩ = some (wv (notS t) 2) := t2
        have t3' : W8.drew.cell? ⟨g, 3, none⟩ = some (wv (notS t) 3) := t3
        go_still_tail 4, (by kernel_rfl)
        change wpList _ _ _ _ _ W8.drew
        generalize hW : W8.drew = W9 at *
        have HP := Lib.hid (place_any b (a1 + 1) o (notS t) T F l m W9 HRd.out HNL.out HML.out)
        clear hW HR8 HM8 t0 t1 t2 t3
        go_wp2_with fail
        refine (HP.out).mono ?_
        rintro e wa ⟨T2, F2, hma, rfl, hra⟩
        have HMa := Lib.hid (HMd.out.trans hma)
        have HRx := Lib.hid hra
        have BA := Lib.hid (B3.out.moves HMa.out (HFT.out _ (Nat.le_refl _)))
        clear hma hra t0' t1' t2' t3'
        obtain ⟨r0, r1, r2, r3, r4, r5, r6, r7, r8⟩ := cells9 BA.out
        obtain ⟨g0, g1, g2, g3, g4, g5, g6, g7, g8⟩ := frozen9 BA.out
        go_wp2
        exact bodyPost_ret (v := .tuple #[pcV (placeP m), .nilIface]) (by simp [results, Tryd.results78, go_sem, r0, r1, r2, r3, r4, r5, r6, r7, r8, placeP]) rfl (pp_ok HX.out ((HM3.out.trans HMa.out).set9 (Nat.le_refl _) _ _ _ _ _ _ _ _ _) rfl (HRx.out.set9 (HRx.out.off BA.out (by decide) (by decide)) _ _ _ _ _ _ _ _ _))
theorem class_any (b a o : Nat) (T F : Value) (l : ByteArray) (m : Mach) (w : World) (hr : Rdr w b T F l m a o) (hl : l.size ≤ 200) (ha : a < l.size) (hn : m.takes.length < 256) (hm : m.follow.length = m.takes.length) :
    Calls Tryd.prog 78 #[.pointer (some ⟨b, 0, none⟩)] w (PP b T F l o w (classF l a m)) := by
  cases hs : sees l (a + 1) 94 with
  | false => exact class_no b a o T F l m w hr hl ha hn hm hs
  | true => exact class_yes b a o T F l m w hr hl ha hn hm hs
end Go.Proofs.YtahphjaelpgjdaaDoor

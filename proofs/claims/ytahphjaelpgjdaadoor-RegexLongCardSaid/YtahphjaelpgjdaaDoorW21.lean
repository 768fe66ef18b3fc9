/- What stands between parentheses, of any depth: the reader's answer is the function's. Condition: a text of at most 200 bytes. -/
import Derived.Test.YtahphjaelpgjdaaDoorW20
namespace Go.Proofs.YtahphjaelpgjdaaDoor
open Go.RowKit Rx
set_option linter.unusedVariables false

theorem sees_par (b a : Nat) (l : ByteArray) (r : Bool) (hs : sees l a 41 = r) (w : World) (hl : l.size ≤ 200) (ha : a ≤ l.size) (c1 : w.cell? ⟨b, 11, none⟩ = some (.string l)) (c2 : w.cell? ⟨b, 12, none⟩ = some (.int .i64 a)) :
    Calls Tryd.prog 51 #[.pointer (some ⟨b, 0, none⟩), .string ⟨#[41]⟩] w fun e w' => e = .returned (.bool r) ∧ ∃ n, w' = w.drewN n := by
  have h := sees_is b a l ⟨#[41]⟩ [41] sg_par w hl ha c1 c2
  rw [sees_one, hs] at h
  exact h
set_option maxRecDepth 100000 in
set_option maxHeartbeats 8000000 in
theorem group_more (b a o d : Nat) (T F : Value) (l : ByteArray) (m : Mach) (w : World) (hr : Rdr w b T F l m a o) (hT : TzT w) (hl : l.size ≤ 200) (ha : a < l.size) (hm : Rx.Good m) (hn : m.takes.length ≤ a) (ho : o < 32) (hg : GC b l (o + 1) (grpF l d)) :
    Calls Tryd.prog 77 #[.pointer (some ⟨b, 0, none⟩)] w (PP b T F l o w (grpF l (d + 1) a m)) := by
  have HR := Lib.hid (hr.alloc (.cells zero9 85))
  have HM := Lib.hid ((Moves.refl b T F w).alloc (.cells zero9 85))
  have B0 := Lib.hid (Blk.new w 85 zero9)
  have HT := Lib.hid (HM.out.tz hr hT)
  have HFT : Hid (∀ j, w.heap.size ≤ j → ¬ Foot b T F j) := fun j hj hf => by have := (hr.lt_foot hf).1; omega
  have HX : Hid (∀ r, altF l (grpF l d) (a + 1) m = r → grpF l (d + 1) a m = match r with | .bad pl c => .bad pl c | .ok a1 m1 p => if sees l a1 41 = true then .ok (a1 + 1) m1 p else .bad a1 2) := fun r h => by
    subst h
    conv => lhs; unfold grpF
    cases altF l (grpF l d) (a + 1) m <;> rfl
  have HFI := Lib.hid (alt_fine (grp_fine l d) (show a + 1 ≤ l.size from ha) hm)
  have HAL := Lib.hid (fun X (hX : Rdr X b T F l m (a + 1) (o + 1)) hT => alt_any b (a + 1) (o + 1) T F l (grpF l d) m X hX hT hl ha hm (by omega) hg (grp_fine l d))
  have ho32 : ((o : Int) == 32) = false := by simp; omega
  clear hr hT hg hm
  go_enter Tryd.func77, Tryd.ntmps77
  go_upto_region 1 with fail
  generalize hW : w.alloc (.cells zero9 85) = W at *
  have hsz : w.heap.size < W.heap.size := B0.out.lt
  clear hW
  have q4 := (rd_cells HR.out).2.2.2.1
  have q5 := (rd_cells HR.out).2.2.2.2
  have f13 := HR.out.blk.frozen 13
  go_upto_region 4 with fail
  have HR1 := Lib.hid (HR.out.set_open (o + 1) (.int .i64 ((o : Int) + 1)) (by rfl))
  have HM1 := Lib.hid (HM.out.set_foot (foot_self b T F) 13 (.int .i64 ((o : Int) + 1)))
  have B1 := Lib.hid (B0.out.other (k := b) (fun e => HFT.out _ (Nat.le_refl _) (.inl e)) 13 (.int .i64 ((o : Int) + 1)))
  have HT1 : Hid (TzT (W.setCell ⟨b, 13, none⟩ (.int .i64 ((o : Int) + 1)))) := ((Moves.refl b T F W).set_foot (foot_self b T F) 13 (.int .i64 ((o : Int) + 1))).tz HR.out HT.out
  generalize hW : W.setCell ⟨b, 13, none⟩ (.int .i64 ((o : Int) + 1)) = W1 at *
  clear hW HR HM B0 HT q4 q5 f13
  have q4 := (rd_cells HR1.out).2.2.2.1
  have f12 := HR1.out.blk.frozen 12
  go_upto_region 5 with fail
  have HR2 := Lib.hid (HR1.out.set_at (a + 1) (.int .i64 ((a : Int) + 1)) (by rfl))
  have HM2 := Lib.hid (HM1.out.set_foot (foot_self b T F) 12 (.int .i64 ((a : Int) + 1)))
  have B2 := Lib.hid (B1.out.other (k := b) (fun e => HFT.out _ (Nat.le_refl _) (.inl e)) 12 (.int .i64 ((a : Int) + 1)))
  have HT2 : Hid (TzT (W1.setCell ⟨b, 12, none⟩ (.int .i64 ((a : Int) + 1)))) := ((Moves.refl b T F W1).set_foot (foot_self b T F) 12 (.int .i64 ((a : Int) + 1))).tz HR1.out HT1.out
  generalize hW : W1.setCell ⟨b, 12, none⟩ (.int .i64 ((a : Int) + 1)) = W2 at *
  clear hW HR1 HM1 B1 HT1 q4 f12
  have HA1 := Lib.hid (HAL.out W2 HR2.out HT2.out)
  clear HAL
  go_wp2_with fail
  refine (HA1.out).mono ?_
  rintro e W3 ⟨T3, F3, hm3, hrest⟩
  have HM3 := Lib.hid (HM2.out.trans hm3)
  have B3 := Lib.hid (B2.out.moves hm3 (HFT.out _ (Nat.le_refl _)))
  have h3l := Lib.hid B3.out.lt
  clear hm3 HA1 HR2 HM2 B2 HT2
  cases hA : altF l (grpF l d) (a + 1) m with
  | bad pl c =>
    rw [hA] at hrest
    obtain ⟨p, err, rfl, f, rfl, hB⟩ := hrest
    have HX1 : Hid (grpF l (d + 1) a m = .bad pl c) := HX.out _ hA
    have B4 := Lib.hid (B3.out.alloc (.cells (pcC p) 85))
    have HM4 := Lib.hid (HM3.out.alloc (.cells (pcC p) 85))
    have F4 := Lib.hid (Blk.alloc hB (.cells (pcC p) 85))
    clear hA hB HX HFI HM3 B3
    obtain ⟨pe, pf, pl'⟩ := p
    go_upto_region 6 with fail
    generalize hW : W3.alloc (.cells (pcC _) 85) = W4 at *
    clear hW
    obtain ⟨r0, r1, r2, r3, r4, r5, r6, r7, r8⟩ := cells9 B4.out
    obtain ⟨g0, g1, g2, g3, g4, g5, g6, g7, g8⟩ := frozen9 B4.out
    go_wp2
    exact bodyPost_ret (v := .tuple #[.agg zero9, .iface 70 (.pointer (some ⟨f, 0, none⟩))]) (by simp [results, Tryd.results77, go_sem, r0, r1, r2, r3, r4, r5, r6, r7, r8]) rfl (pp_bad HX1.out (HM4.out.set9 (Nat.le_refl _) _ _ _ _ _ _ _ _ _) pc0_eq (F4.out.set9_other (blk_ne F4.out B4.out (by decide)) _ _ _ _ _ _ _ _ _))
  | ok a1 m1 p =>
    rw [hA] at hrest
    obtain ⟨rfl, hR3⟩ := hrest
    have ha1 : a1 ≤ l.size := (HFI.out a1 m1 p hA).2.1
    have HX1 : Hid (grpF l (d + 1) a m = if sees l a1 41 = true then .ok (a1 + 1) m1 p else .bad a1 2) := HX.out _ hA
    have B4 := Lib.hid (B3.out.alloc (.cells (pcC p) 85))
    have HM4 := Lib.hid (HM3.out.alloc (.cells (pcC p) 85))
    have HR4 := Lib.hid (hR3.alloc (.cells (pcC p) 85))
    have P4 := Lib.hid (Blk.new W3 85 (pcC p))
    clear hA hR3 HX HFI HM3 B3
    obtain ⟨pe, pf, pl'⟩ := p
    go_upto_region 6 with fail
    have h34 := h3l.out
    generalize hW : W3.alloc (.cells (pcC _) 85) = W4 at *
    generalize hj : W3.heap.size = j3 at *
    clear hW hj
    have HS := Lib.hid (fun r (hs : sees l a1 41 = r) => sees_par b a1 l r hs W4 hl ha1 (rd_cells HR4.out).2.2.1 (rd_cells HR4.out).2.2.2.1)
    cases hs : sees l a1 41 with
    | false =>
      have HS1 := Lib.hid (HS.out false hs)
      have HX2 : Hid (grpF l (d + 1) a m = .bad a1 2) := HX1.out.trans (if_neg (by rw [hs]; simp))
      clear hs HX1 HS
      go_wp2_with fail
      refine (HS1.out).mono ?_
      rintro e w5 ⟨rfl, n5, rfl⟩
      have HR5 := Lib.hid (HR4.out.drewN n5)
      have HM5 := Lib.hid (HM4.out.drewN n5)
      have B5 := Lib.hid (B4.out.drewN n5)
      generalize W4.drewN n5 = W5 at *
      clear HR4 HM4 B4 P4 HS1
      have HB := Lib.hid (bad_any b a1 W5 (rd_cells HR5.out).2.2.2.1)
      go_wp2_with fail
      refine (HB.out).mono ?_
      rintro e w6 ⟨f, rfl, hf, hb⟩
      have B6 := Lib.hid (B5.out.below hb)
      have HM6 := Lib.hid (HM5.out.below hb)
      have F6 := Lib.hid (hf.set9_other (blk_ne hf B6.out (by decide)) (.bool false) (.int .u64 0) (.int .u64 0) (.int .u64 0) (.int .u64 0) (.int .u64 0) (.int .u64 0) (.int .u64 0) (.int .u64 0))
      clear hf hb
      obtain ⟨r0, r1, r2, r3, r4, r5, r6, r7, r8⟩ := cells9 B6.out
      obtain ⟨g0, g1, g2, g3, g4, g5, g6, g7, g8⟩ := frozen9 B6.out
      go_wp2
      exact bodyPost_ret (v := .tuple #[.agg zero9, .iface 70 (.pointer (some ⟨f, 0, none⟩))]) (by simp [results, Tryd.results77, go_sem, r0, r1, r2, r3, r4, r5, r6, r7, r8]) rfl (pp_bad HX2.out (HM6.out.set9 (Nat.le_refl _) _ _ _ _ _ _ _ _ _) pc0_eq F6.out)
    | true =>
      have HS1 := Lib.hid (HS.out true hs)
      have HX2 : Hid (grpF l (d + 1) a m = .ok (a1 + 1) m1 ⟨pe, pf, pl'⟩) := HX1.out.trans (if_pos hs)
      clear hs HX1 HS
      go_wp2_with fail
      refine (HS1.out).mono ?_
      rintro e w5 ⟨rfl, n5, rfl⟩
      have HR5 := Lib.hid (HR4.out.drewN n5)
      have HM5 := Lib.hid (HM4.out.drewN n5)
      have B5 := Lib.hid (B4.out.drewN n5)
      have P5 := Lib.hid (P4.out.drewN n5)
      generalize W4.drewN n5 = W5 at *
      clear HR4 HM4 B4 P4 HS1
      have hnB : w.heap.size ≠ b := fun e => HR5.out.off B5.out (by decide) (by decide) (.inl e)
      have hnP : j3 ≠ b := fun e => HR5.out.off P5.out (by decide) (by decide) (.inl e)
      have q5 := (rd_cells HR5.out).2.2.2.2
      have f13 := HR5.out.blk.frozen 13
      go_upto_region 11 with fail
      have HR6 : Hid (Rdr (W5.setCell ⟨b, 13, none⟩ (.int .i64 o)) b T3 F3 l m1 a1 o) := HR5.out.set_open o _ rfl
      have HM6 := Lib.hid (HM5.out.set_foot (foot_self b T3 F3) 13 (.int .i64 o))
      have B6 := Lib.hid (B5.out.other (k := b) hnB 13 (.int .i64 o))
      have P6 := Lib.hid (P5.out.other (k := b) hnP 13 (.int .i64 o))
      generalize W5.setCell ⟨b, 13, none⟩ (.int .i64 o) = W6 at *
      clear HR5 HM5 B5 P5 q5 f13
      have q4 := (rd_cells HR6.out).2.2.2.1
      have f12 := HR6.out.blk.frozen 12
      go_upto_region 12 with fail
      have HR7 := Lib.hid (HR6.out.set_at (a1 + 1) (.int .i64 ((a1 : Int) + 1)) (by rfl))
      have HM7 := Lib.hid (HM6.out.set_foot (foot_self b T3 F3) 12 (.int .i64 ((a1 : Int) + 1)))
      have B7 := Lib.hid (B6.out.other (k := b) hnB 12 (.int .i64 ((a1 : Int) + 1)))
      have P7 := Lib.hid (P6.out.other (k := b) hnP 12 (.int .i64 ((a1 : Int) + 1)))
      generalize W6.setCell ⟨b, 12, none⟩ (.int .i64 ((a1 : Int) + 1)) = W7 at *
      clear HR6 HM6 B6 P6 q4 f12
      obtain ⟨r0, r1, r2, r3, r4, r5, r6, r7, r8⟩ := cells9 B7.out
      obtain ⟨g0, g1, g2, g3, g4, g5, g6, g7, g8⟩ := frozen9 B7.out
      obtain ⟨x0, x1, x2, x3, x4, x5, x6, x7, x8⟩ := cells9 P7.out
      go_wp2
      exact bodyPost_ret (v := .tuple #[pcV ⟨pe, pf, pl'⟩, .nilIface]) (by simp [results, Tryd.results77, go_sem, r0, r1, r2, r3, r4, r5, r6, r7, r8]) rfl (pp_ok HX2.out (HM7.out.set9 (Nat.le_refl _) _ _ _ _ _ _ _ _ _) rfl (HR7.out.set9 (HR7.out.off B7.out (by decide) (by decide)) _ _ _ _ _ _ _ _ _))
end Go.Proofs.YtahphjaelpgjdaaDoor

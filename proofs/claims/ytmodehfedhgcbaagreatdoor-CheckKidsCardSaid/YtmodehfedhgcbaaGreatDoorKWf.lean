/- What stands between parentheses, of any depth: the reader's answer is the function's. Condition: a text of at most 200 bytes. -/
import Derived.Test.YtmodehfedhgcbaaGreatDoorKWe
namespace Go.Proofs.YtmodehfedhgcbaaGreatDoor.Rg
open Go.RowKit Rx
set_option linter.unusedVariables false

theorem sees_par (b a : Nat) (l : ByteArray) (r : Bool) (hs : sees l a 41 = r) (w : World) (hl : l.size ≤ 200) (ha : a ≤ l.size) (c1 : w.cell? ⟨b, 11, none⟩ = some (.string l)) (c2 : w.cell? ⟨b, 12, none⟩ = some (.int .i64 a)) :
    Calls Tryz.prog 103 #[.pointer (some ⟨b, 0, none⟩), .string ⟨#[41]⟩] w fun e w' => e = .returned (.bool r) ∧ ∃ n, w' = w.drewN n := by
  have h := sees_is b a l ⟨#[41]⟩ [41] sg_par w hl ha c1 c2
  rw [sees_one, hs] at h
  exact h
set_option maxRecDepth 100000 in
set_option maxHeartbeats 8000000 in
theorem group_more (b a o d : Nat) (T F : Value) (l : ByteArray) (m : Mach) (w : World) (hr : Rdr w b T F l m a o) (hT : TzT w) (hl : l.size ≤ 200) (ha : a < l.size) (hm : Rx.Good m) (hn : m.takes.length ≤ a) (ho : o < 32) (hg : GC b l (o + 1) (grpF l d)) :
    Calls Tryz.prog 139 #[.pointer (some ⟨b, 0, none⟩)] w (PP b T F l o w (grpF l (d + 1) a m)) := by
  have HR := Lib.hid (hr.alloc (.cells zero9 144))
  have HM := Lib.hid ((Moves.refl b T F w).alloc (.cells zero9 144))
  have B0 := Lib.hid (Blk.new w 144 zero9)
  have HT := Lib.hid (HM.out.tz hr hT)
  have HFT : Hid (∀ j, w.heap.size ≤ j → ¬ Foot b T F j) := fun j hj hf => by have := (hr.lt_foot hf).1; omega
  have HX : Hid (∀ r, altF l (grpF l d) (a + 1) m = r → grpF l (d + 1) a m = match r with | .bad pl c => .bad pl c | .ok a1 m1 p => if sees l a1 41 = true then .ok (a1 + 1) m1 p else .bad a1 2) := fun r h => by
    subst h
    conv => lhs; unfold grpF
    cases altF l (grpF l d) (a + 1) m <;> rfl
  have HFI := Lib.hid (alt_fine (grp_fine l d) (show a + 1 ≤ l.size from ha) hm)
  have HAL := Lib.hid (fun X (hX : Rdr X b T F l m (a + 1) (o + 1)) hT => alt_any b (a + 1) (o + 1) T F l (grpF l d) m X hX hT hl ha hm (by omega) hg (grp_fine l d))
  have ho32 : ((o : Int) == 32) = false := by simp; omega
  clear hr hT hg hm
  go_enter Tryz.func139, Tryz.ntmps139
  go_upto_region 1 with fail
  generalize hW : w.alloc (.cells zero9 144) = W at *
  have hsz : w.heap.size < W.heap.size := B0.out.lt
  clear hW
  have q4 := (rd_cells HR.out).2.2.2.1
  have q5 := (rd_cells HR.out).2.2.2.2
  have f13 := HR.out.blk.frozen 13
  go_upto_region 4 with fail
  have HR1 := Lib.hid (HR.out.set_open (o + 1) (.int .i64 ((o : Int) + 1)) (by rfl))
  have HM1 := Lib.hid (HM.out.set_foot (foot_self b T F) 13 (.int .i64 ((o : Int) + 1)))
  have B1 := Lib.hid (B0.out.other (k := b) (fun e => HFT.out _ (Nat.le_refl _) (.inl e)) 13 (.int .i64 ((o : Int) + 1)))
  have HT1 : Hid (TzT (W.setCell ⟨b, 13, none⟩ (.int .i64 ((o : Int) + 1)))) := ((Moves.refl b T F W).set_foot (foot_self b T F) 13 (.int .i64 ((o : Int) + 1))).tz HR.out HT.out
  generalize hW : W.setCell ⟨b, 13, none⟩ (.int .i64 ((o : Int) + 1)) = W1 at *
  clear hW HR HM B0 HT q4 q5 f13
  have q4 := (rd_cells HR1.out).2.2.2.1
  have f12 := HR1.out.blk.frozen 12
  go_upto_region 5 with fail
  have HR2 := Lib.hid (HR1.out.set_at (a + 1) (.int .i64 ((a : Int) + 1)) (by rfl))
  have HM2 := Lib.hid (HM1.out.set_foot (foot_self b T F) 12 (.int .i64 ((a : Int) + 1)))
  have B2 := Lib.hid (B1.out.other (k := b) (fun e => HFT.out _ (Nat.le_refl _) (.inl e)) 12 (.int .i64 ((a : Int) + 1)))
  have HT2 : Hid (TzT (W1.setCell ⟨b, 12, none⟩ (.int .i64 ((a : Int) + 1)))) := ((Moves.refl b T F W1).set_foot (foot_self b T F) 12 (.int .i64 ((a : Int) + 1))).tz HR1.out HT1.out
  generalize hW : W1.setCell ⟨b, 12, none⟩ (.int .i64 ((a : Int) + 1)) = W2 at *
  clear hW HR1 HM1 B1 HT1 q4 f12
  have HA1 := Lib.hid (HAL.out W2 HR2.out HT2.out)
  clear HAL
  go_wp2_with fail
  refine (HA1.out).mono ?_
  rintro e W3 ⟨T3, F3, hm3, hrest⟩
  have HM3 := Lib.hid (HM2.out.trans hm3)
  have B3 := Lib.hid (B2.out.moves hm3 (HFT.out _ (Nat.le_refl _)))
  have h3l := Lib.hid B3.out.lt
  clear hm3 HA1 HR2 HM2 B2 HT2
  cases hA : altF l (grpF l d) (a + 1) m with
  | bad pl c =>
    rw [hA] at hrest
    obtain ⟨p, err, rfl, f, rfl, hB⟩ := hrest
    have HX1 : Hid (grpF l (d + 1) a m = .bad pl c) := HX.out _ hA
    have B4 := Lib.hid (B3.out.alloc (.cells (pcC p) 144))
    have HM4 := Lib.hid (HM3.out.alloc (.cells (pcC p) 144))
    have F4 := Lib.hid (Blk.alloc hB (.cells (pcC p) 144))
    clear hA hB HX HFI HM3 B3
    obtain ⟨pe, pf, pl'⟩ := p
    go_upto_region 6 with fail
    generalize hW : W3.alloc (.cells (pcC _) 144) = W4 at *
    clear hW
    obtain ⟨r0, r1, r2, r3, r4, r5, r6, r7, r8⟩ := cells9 B4.out
    obtain ⟨g0, g1, g2, g3, g4, g5, g6, g7, g8⟩ := frozen9 B4.out
    go_wp2
    exact bodyPost_ret (v := .tuple #[.agg zero9, .iface 128 (.pointer (some ⟨f, 0, none⟩))]) (by simp [results, Tryz.results139, go_sem, r0, r1, r2, r3, r4, r5, r6, r7, r8]) rfl (pp_bad HX1.out (HM4.out.set9 (Nat.le_refl _) _ _ _ _ _ _ _ _ _) pc0_eq (F4.out.set9_other (blk_ne F4.out B4.out (by decide)) _ _ _ _ _ _ _ _ _))
  | ok a1 m1 p =>
    rw [hA] at hrest
    obtain ⟨rfl, hR3⟩ := hrest
    have ha1 : a1 ≤ l.size := (HFI.out a1 m1 p hA).2.1
    have HX1 : Hid (grpF l (d + 1) a m = if sees l a1 41 = true then .ok (a1 + 1) m1 p else .bad a1 2) := HX.out _ hA
    have B4 := Lib.hid (B3.out.alloc (.cells (pcC p) 144))
    have HM4 := Lib.hid (HM3.out.alloc (.cells (pcC p) 144))
    have HR4 := Lib.hid (hR3.alloc (.cells (pcC p) 144))
    have P4 := Lib.hid (Blk.new W3 144 (pcC p))
    clear hA hR3 HX HFI HM3 B3
    obtain ⟨pe, pf, pl'⟩ := p
    go_upto_region 6 with fail
    have h34 := h3l.out
    generalize hW : W3.alloc (.cells (pcC _) 144) = W4 at *
    generalize hj : W3.heap.size = j3 at *
    clear hW hj
    have HS := Lib.hid (fun r (hs : sees l a1 41 = r) => sees_par b a1 l r hs W4 hl ha1 (rd_cells HR4.out).2.2.1 (rd_cells HR4.out).2.2.2.1)
    cases hs : sees l a1 41 with
    | false =>
      have HS1 := Lib.hid (HS.out false hs)
      have HX2 : Hid (grpF l (d + 1) a m = .bad a1 2) := HX1.out.trans (if_neg (by rw [hs]; simp))
      clear hs HX1 HS
      go_wp2_with fail
      refine (HS1.out).mono ?_
      rintro e w5 ⟨rfl, n5, rfl⟩
      have HR5 := Lib.hid (HR4.out.drewN n5)
      have HM5 := Lib.hid (HM4.out.drewN n5)
      have B5 := Lib.hid (B4.out.drewN n5)
      generalize W4.drewN n5 = W5 at *
      clear HR4 HM4 B4 P4 HS1
      have HB := Lib.hid (bad_any b a1 W5 (rd_cells HR5.out).2.2.2.1)
      go_wp2_with fail
      refine (HB.out).mono ?_
      rintro e w6 ⟨f, rfl, hf, hb⟩
      have B6 := Lib.hid (B5.out.below hb)
      have HM6 := Lib.hid (HM5.out.below hb)
      have F6 := Lib.hid (hf.set9_other (blk_ne hf B6.out (by decide)) (.bool false) (.int .u64 0) (.int .u64 0) (.int .u64 0) (.int .u64 0) (.int .u64 0) (.int .u64 0) (.int .u64 0) (.int .u64 0))
      clear hf hb
      obtain ⟨r0, r1, r2, r3, r4, r5, r6, r7, r8⟩ := cells9 B6.out
      obtain ⟨g0, g1, g2, g3, g4, g5, g6, g7, g8⟩ := frozen9 B6.out
      go_wp2
      exact bodyPost_ret (v := .tuple #[.agg zero9, .iface 128 (.pointer (some ⟨f, 0, none⟩))]) (by simp [results, Tryz.results139, go_sem, r0, r1, r2, r3, r4, r5, r6, r7, r8]) rfl (pp_bad HX2.out (HM6.out.set9 (Nat.le_refl _) _ _ _ _ _ _ _ _ _) pc0_eq F6.out)
    | true =>
      have HS1 := Lib.hid (HS.out true hs)
      have HX2 : Hid (grpF l (d + 1) a m = .ok (a1 + 1) m1 ⟨pe, pf, pl'⟩) := HX1.out.trans (if_pos hs)
      clear hs HX1 HS
      go_wp2_with fail
      refine (HS1.out).mono ?_
      rintro e w5 ⟨rfl, n5, rfl⟩
      have HR5 := Lib.hid (HR4.out.drewN n5)
      have HM5 := Lib.hid (HM4.out.drewN n5)
      have B5 := Lib.hid (B4.out.drewN n5)
      have P5 := Lib.hid (P4.out.drewN n5)
      generalize W4.drewN n5 = W5 at *
      clear HR4 HM4 B4 P4 HS1
      have hnB : w.heap.size ≠ b := fun e => HR5.out.off B5.out (by decide) (by decide) (.inl e)
      have hnP : j3 ≠ b := fun e => HR5.out.off P5.out (by decide) (by decide) (.inl e)
      have q5 := (rd_cells HR5.out).2.2.2.2
      have f13 := HR5.out.blk.frozen 13
      go_upto_region 11 with fail
      have HR6 : Hid (Rdr (W5.setCell ⟨b, 13, none⟩ (.int .i64 o)) b T3 F3 l m1 a1 o) := HR5.out.set_open o _ rfl
      have HM6 := Lib.hid (HM5.out.set_foot (foot_self b T3 F3) 13 (.int .i64 o))
      have B6 := Lib.hid (B5.out.other (k := b) hnB 13 (.int .i64 o))
      have P6 := Lib.hid (P5.out.other (k := b) hnP 13 (.int .i64 o))
      generalize W5.setCell ⟨b, 13, none⟩ (.int .i64 o) = W6 at *
      clear HR5 HM5 B5 P5 q5 f13
      have q4 := (rd_cells HR6.out).2.2.2.1
      have f12 := HR6.out.blk.frozen 12
      go_upto_region 12 with fail
      have HR7 := Lib.hid (HR6.out.set_at (a1 + 1) (.int .i64 ((a1 : Int) + 1)) (by rfl))
      have HM7 := Lib.hid (HM6.out.set_foot (foot_self b T3 F3) 12 (.int .i64 ((a1 : Int) + 1)))
      have B7 := Lib.hid (B6.out.other (k := b) hnB 12 (.int .i64 ((a1 : Int) + 1)))
      have P7 := Lib.hid (P6.out.other (k := b) hnP 12 (.int .i64 ((a1 : Int) + 1)))
      generalize W6.setCell ⟨b, 12, none⟩ (.int .i64 ((a1 : Int) + 1)) = W7 at *
      clear HR6 HM6 B6 P6 q4 f12
      obtain ⟨r0, r1, r2, r3, r4, r5, r6, r7, r8⟩ := cells9 B7.out
      obtain ⟨g0, g1, g2, g3, g4, g5, g6, g7, g8⟩ := frozen9 B7.out
      obtain ⟨x0, x1, x2, x3, x4, x5, x6, x7, x8⟩ := cells9 P7.out
      go_wp2
      exact bodyPost_ret (v := .tuple #[pcV ⟨pe, pf, pl'⟩, .nilIface]) (by simp [results, Tryz.results139, go_sem, r0, r1, r2, r3, r4, r5, r6, r7, r8]) rfl (pp_ok HX2.out (HM7.out.set9 (Nat.le_refl _) _ _ _ _ _ _ _ _ _) rfl (HR7.out.set9 (HR7.out.off B7.out (by decide) (by decide)) _ _ _ _ _ _ _ _ _))
end Go.Proofs.YtmodehfedhgcbaaGreatDoor.Rg

namespace Go.Proofs.YtmodehfedhgcbaaGreatDoor.Rg
open Go.RowKit Rx
set_option linter.unusedVariables false

theorem kept_alloc {w : World} {a : Addr} {v : Value} (h : w.cell? a = some v) (o : Obj) : (w.alloc o).cell? a = some v := below_cell ((Below.refl _ _).alloc (Nat.le_refl _) o) h
set_option maxRecDepth 100000 in
set_option maxHeartbeats 8000000 in
theorem group_deep (b a : Nat) (T F : Value) (l : ByteArray) (m : Mach) (w : World) (hr : Rdr w b T F l m a 32) (hl : l.size ≤ 200) :
    Calls Tryz.prog 139 #[.pointer (some ⟨b, 0, none⟩)] w (PP b T F l 32 w (grpF l 0 a m)) := by
  have HR := Lib.hid (hr.alloc (.cells zero9 144))
  have HM := Lib.hid ((Moves.refl b T F w).alloc (.cells zero9 144))
  have B0 := Lib.hid (Blk.new w 144 zero9)
  have HFT : Hid (∀ j, w.heap.size ≤ j → ¬ Foot b T F j) := fun j hj hf => by have := (hr.lt_foot hf).1; omega
  clear hr
  go_enter Tryz.func139, Tryz.ntmps139
  go_upto_region 1 with fail
  generalize hW : w.alloc (.cells zero9 144) = W at *
  have hsz : w.heap.size < W.heap.size := B0.out.lt
  clear hW
  have q4 := (rd_cells HR.out).2.2.2.1
  have q5 := (rd_cells HR.out).2.2.2.2
  have HNB : Hid (b ≠ w.heap.size) := fun e => HFT.out _ (Nat.le_refl _) (.inl e.symm)
  have HBA := Lib.hid (B0.out.alloc (.cells #[.int .i64 a, .iface 41 (.int .i64 12)] 130))
  have HMA := Lib.hid ((HM.out.alloc (.cells #[.int .i64 a, .iface 41 (.int .i64 12)] 130)).set9 (Nat.le_refl _) (.bool false) (.int .u64 0) (.int .u64 0) (.int .u64 0) (.int .u64 0) (.int .u64 0) (.int .u64 0) (.int .u64 0) (.int .u64 0))
  have HFA := Lib.hid ((Blk.new W 130 #[.int .i64 a, .iface 41 (.int .i64 12)]).set9_other (j := w.heap.size) (by omega) (.bool false) (.int .u64 0) (.int .u64 0) (.int .u64 0) (.int .u64 0) (.int .u64 0) (.int .u64 0) (.int .u64 0) (.int .u64 0))
  have HMB := Lib.hid ((HM.out.set9 (Nat.le_refl _) (.bool false) (.int .u64 0) (.int .u64 0) (.int .u64 0) (.int .u64 0) (.int .u64 0) (.int .u64 0) (.int .u64 0) (.int .u64 0)).alloc (.cells #[.int .i64 a, .iface 41 (.int .i64 12)] 130))
  have HFB : Hid (Blk ((put9 W w.heap.size (.bool false) (.int .u64 0) (.int .u64 0) (.int .u64 0) (.int .u64 0) (.int .u64 0) (.int .u64 0) (.int .u64 0) (.int .u64 0)).alloc (.cells #[.int .i64 a, .iface 41 (.int .i64 12)] 130)) W.heap.size 130 #[.int .i64 a, .iface 41 (.int .i64 12)]) := by
    have h := Blk.new (put9 W w.heap.size (.bool false) (.int .u64 0) (.int .u64 0) (.int .u64 0) (.int .u64 0) (.int .u64 0) (.int .u64 0) (.int .u64 0) (.int .u64 0)) 130 #[.int .i64 a, .iface 41 (.int .i64 12)]
    have e : (put9 W w.heap.size (.bool false) (.int .u64 0) (.int .u64 0) (.int .u64 0) (.int .u64 0) (.int .u64 0) (.int .u64 0) (.int .u64 0) (.int .u64 0)).heap.size = W.heap.size := by simp [put9, World.setCell]
    rw [e] at h
    exact h
  have HBA2 := Lib.hid (HBA.out.set9 (.bool false) (.int .u64 0) (.int .u64 0) (.int .u64 0) (.int .u64 0) (.int .u64 0) (.int .u64 0) (.int .u64 0) (.int .u64 0))
  have HBB := Lib.hid ((B0.out.set9 (.bool false) (.int .u64 0) (.int .u64 0) (.int .u64 0) (.int .u64 0) (.int .u64 0) (.int .u64 0) (.int .u64 0) (.int .u64 0)).alloc (.cells #[.int .i64 a, .iface 41 (.int .i64 12)] 130))
  obtain ⟨g0, g1, g2, g3, g4, g5, g6, g7, g8⟩ := frozen9 B0.out
  obtain ⟨r0, r1, r2, r3, r4, r5, r6, r7, r8⟩ := cells9 B0.out
  go_wp2_with fail
  go_region_held3 (fun w' => w'.cell? ⟨b, 12, none⟩ = some (.int .i64 a)) ((rw [World.cell?_drew]; first | with_reducible exact q4 | with_reducible exact kept_alloc q4 _ | with_reducible exact kept9 q4 HNB.out | with_reducible exact kept9 (kept_alloc q4 _) HNB.out | with_reducible exact kept_alloc (kept9 q4 HNB.out) _)) (fail)
  all_goals
    clear r0 r1 r2 r3 r4 r5 r6 r7 r8 g0 g1 g2 g3 g4 g5 g6 g7 g8 q4 q5
    unfold put9 at HMA HFA HMB HFB HBA2 HBB
    first
      | (generalize World.alloc (World.setCell _ ⟨w.heap.size, 8, none⟩ _) _ = W9 at *
         obtain ⟨y0, y1, y2, y3, y4, y5, y6, y7, y8⟩ := cells9 HBB.out
         go_wp2
         exact bodyPost_ret (v := .tuple #[.agg zero9, .iface 128 (.pointer (some ⟨W.heap.size, 0, none⟩))]) (by simp [results, Tryz.results139, go_sem, y0, y1, y2, y3, y4, y5, y6, y7, y8]) rfl (pp_bad (T' := T) (F' := F) rfl HMB.out.drew pc0_eq HFB.out))
      | (generalize World.setCell _ ⟨w.heap.size, 8, none⟩ _ = W9 at *
         obtain ⟨y0, y1, y2, y3, y4, y5, y6, y7, y8⟩ := cells9 HBA2.out
         go_wp2
         exact bodyPost_ret (v := .tuple #[.agg zero9, .iface 128 (.pointer (some ⟨W.heap.size, 0, none⟩))]) (by simp [results, Tryz.results139, go_sem, y0, y1, y2, y3, y4, y5, y6, y7, y8]) rfl (pp_bad (T' := T) (F' := F) rfl HMA.out.drew pc0_eq HFA.out))
theorem group_any (b : Nat) (l : ByteArray) (hl : l.size ≤ 200) : ∀ d o, o + d = 32 → GC b l o (grpF l d)
  | 0, o, h => fun T F m a w hr hT ha hm hn => by
    obtain rfl : o = 32 := by omega
    exact group_deep b a T F l m w hr hl
  | d + 1, o, h => fun T F m a w hr hT ha hm hn => group_more b a o d T F l m w hr hT hl ha hm hn (by omega) (group_any b l hl d (o + 1) (by omega))
end Go.Proofs.YtmodehfedhgcbaaGreatDoor.Rg

namespace Go.Proofs.YtmodehfedhgcbaaGreatDoor.Rg
open Go.RowKit Rx
set_option linter.unusedVariables false

/-- a machine in memory -/
abbrev mcC (T F : Value) (p : Pc) (l : ByteArray) (a o : Nat) : Array Value := #[T, F, wv p.last 0, wv p.last 1, wv p.last 2, wv p.last 3, wv p.first 0, wv p.first 1, wv p.first 2, wv p.first 3, .bool p.empty, .string l, .int .i64 a, .int .i64 o]
structure Mem (w : World) (b : Nat) (l : ByteArray) (m : Mach) (p : Pc) : Prop where
  blk : ∃ (T F : Value) (a o : Nat), Blk w b 142 (mcC T F p l a o) ∧ rowS w T m.takes ∧ rowS w F m.follow
  low : 9 ≤ b
  good : Rx.Good m
  pin : PcIn m.takes.length p
  few : m.takes.length ≤ 200
def RdPost (l : ByteArray) (w : World) (r : Res) (e : Ending) (w' : World) : Prop :=
  Below w.heap.size w w' ∧ match r with
  | .bad pl c => ∃ err, e = .returned (.tuple #[.pointer none, err]) ∧ ErrAt w' err pl c
  | .ok a m p => ∃ b, e = .returned (.tuple #[.pointer (some ⟨b, 0, none⟩), .nilIface]) ∧ Mem w' b l m p ∧ w.heap.size ≤ b
theorem rdpost_bad {l : ByteArray} {w w' : World} {r : Res} {pl c f : Nat} (hr : r = .bad pl c) (hb : Below w.heap.size w w') (hf : Blk w' f 130 #[.int .i64 pl, .iface 41 (.int .i64 c)]) : RdPost l w r (.returned (.tuple #[.pointer none, .iface 128 (.pointer (some ⟨f, 0, none⟩))])) w' := by
  subst hr; exact ⟨hb, _, rfl, f, rfl, hf⟩
theorem rdpost_ok {l : ByteArray} {w w' : World} {r : Res} {a b : Nat} {m : Mach} {p : Pc} (hr : r = .ok a m p) (hb : Below w.heap.size w w') (hm : Mem w' b l m p) (hw : w.heap.size ≤ b) : RdPost l w r (.returned (.tuple #[.pointer (some ⟨b, 0, none⟩), .nilIface])) w' := by
  subst hr; exact ⟨hb, b, rfl, hm, hw⟩
theorem row_nil (w : World) : rowS w (.slice none 0 0) [] := ⟨rfl, .inl ⟨rfl, rfl⟩⟩
theorem rdr_new (w : World) (l : ByteArray) (h5 : 9 ≤ w.heap.size) : Rdr (w.alloc (.cells (rdC (.slice none 0 0) (.slice none 0 0) l 0 0) 142)) w.heap.size (.slice none 0 0) (.slice none 0 0) l ⟨[], []⟩ 0 0 :=
  ⟨Blk.new w 142 _, h5, row_nil _, row_nil _, fun g hg => by cases hg⟩
theorem moves_below {b : Nat} {T1 F1 : Value} {w w1 w2 : World} (hb : b = w.heap.size) (h : Moves b (.slice none 0 0) (.slice none 0 0) w1 T1 F1 w2) (h1 : Below w.heap.size w w1) : Below w.heap.size w w2 :=
  ⟨h.os.trans h1.os, h.tape.trans h1.tape, h.output.trans h1.output, Nat.le_trans h1.size h.size, fun j hj => (h.block j (Nat.lt_of_lt_of_le hj h1.size) (fun hf => by
    rcases hf with rfl | hf | hf
    · omega
    · cases hf
    · cases hf)).trans (h1.block j hj)⟩
set_option maxRecDepth 100000 in
set_option maxHeartbeats 4000000 in
theorem read_long (l : ByteArray) (w : World) (hl : 200 < l.size) :
    Calls Tryz.prog 81 #[.string l] w (RdPost l w (readF l)) := by
  have HX : Hid (readF l = .bad 0 2) := if_pos hl
  have hd : decide ((200 : Int) < (l.size : Int)) = true := by simp; omega
  go_enter Tryz.func81, Tryz.ntmps81
  go_wp2
  go_ret2
  exact rdpost_bad HX.out (by go_grown) (Blk.new w 130 _)
set_option maxRecDepth 100000 in
set_option maxHeartbeats 8000000 in
theorem read_short (l : ByteArray) (w : World) (hl : l.size ≤ 200) (h5 : 9 ≤ w.heap.size) (hT : TzT w) :
    Calls Tryz.prog 81 #[.string l] w (RdPost l w (readF l)) := by
  have hX : ∀ r, altF l (grpF l 32) 0 ⟨[], []⟩ = r → readF l = match r with | .bad pl c => .bad pl c | .ok a m p => if a = l.size then .ok a m p else .bad a 2 := fun r h => by
    subst h
    unfold readF
    rw [if_neg (by omega)]
    cases altF l (grpF l 32) 0 ⟨[], []⟩ <;> rfl
  have HX := Lib.hid hX
  have hd : decide ((200 : Int) < (l.size : Int)) = false := by simp; omega
  have HR := Lib.hid (rdr_new w l h5)
  have HT : Hid (TzT (w.alloc (.cells (rdC (.slice none 0 0) (.slice none 0 0) l 0 0) 142))) := hT.below ((Below.refl _ _).alloc (Nat.le_refl _) _)
  have HB := Lib.hid ((Below.refl w.heap.size w).alloc (Nat.le_refl _) (.cells (rdC (.slice none 0 0) (.slice none 0 0) l 0 0) 142))
  have HA := Lib.hid (alt_any w.heap.size 0 0 (.slice none 0 0) (.slice none 0 0) l (grpF l 32) ⟨[], []⟩ _ HR.out HT.out hl (Nat.zero_le _) good_nil (Nat.le_refl _) (group_any w.heap.size l hl 32 0 rfl) (grp_fine l 32))
  have HFI := Lib.hid (alt_fine (grp_fine l 32) (Nat.zero_le l.size) good_nil)
  clear hX hT
  go_enter Tryz.func81, Tryz.ntmps81
  go_wp2_with fail
  generalize w.alloc (.cells _ 142) = W at *
  refine (HA.out).mono ?_
  rintro e W1 ⟨T1, F1, hm1, hrest⟩
  have HB1 := Lib.hid (moves_below rfl hm1 HB.out)
  have HM1 := Lib.hid hm1
  clear hm1 HA
  cases hA : altF l (grpF l 32) 0 ⟨[], []⟩ with
  | bad pl c =>
    rw [hA] at hrest
    obtain ⟨p, err, rfl, f, rfl, hB⟩ := hrest
    have HX1 : Hid (readF l = .bad pl c) := HX.out _ hA
    have HB2 := Lib.hid (HB1.out.alloc HB1.out.size (.cells (pcC p) 144))
    have F2 := Lib.hid (Blk.alloc hB (.cells (pcC p) 144))
    clear hA hB HX HFI HR HT HB HM1 HB1
    obtain ⟨pe, pf, pl'⟩ := p
    go_upto_region 5 with fail
    generalize hW : W1.alloc (.cells (pcC _) 144) = W2 at *
    clear hW
    go_wp2
    go_ret2
    exact rdpost_bad HX1.out HB2.out F2.out
  | ok a m p =>
    rw [hA] at hrest
    obtain ⟨rfl, hR⟩ := hrest
    obtain ⟨f1, f2, f3, f4, f5, f6⟩ := HFI.out a m p hA
    have HX1 : Hid (readF l = if a = l.size then .ok a m p else .bad a 2) := HX.out _ hA
    have HB2 := Lib.hid (HB1.out.alloc HB1.out.size (.cells (pcC p) 144))
    have HR2 := Lib.hid (hR.alloc (.cells (pcC p) 144))
    have P2 := Lib.hid (Blk.new W1 144 (pcC p))
    have HFW : Hid (∀ w2, Moves w.heap.size T1 F1 (W1.alloc (.cells (pcC p) 144)) T1 F1 w2 → Below w.heap.size w w2) := fun w2 h => moves_below rfl ((HM1.out.alloc (.cells (pcC p) 144)).trans h) HB.out
    have HGP : Hid (Rx.Good m ∧ PcIn m.takes.length p ∧ m.takes.length ≤ 200) := ⟨f3, f4, by have : m.takes.length + 0 ≤ a + 0 := f6; omega⟩
    clear hA hR HX HFI HR HT HM1 HB1 HB f1 f3 f4 f5 f6
    obtain ⟨pe, pf, pl'⟩ := p
    go_upto_region 5 with fail
    generalize hW : W1.alloc (.cells (pcC _) 144) = W2 at *
    generalize hj : W1.heap.size = j1 at *
    clear hW hj
    go_upto_region 7 with fail
    by_cases ha : a = l.size
    · have HE := Lib.hid (ended_any w.heap.size a l true (by simp [ha]) W2 hl (rd_cells HR2.out).2.2.1 (rd_cells HR2.out).2.2.2.1)
      have HX2 : Hid (readF l = .ok a m ⟨pe, pf, pl'⟩) := HX1.out.trans (if_pos ha)
      clear HX1
      go_wp2_with fail
      refine (HE.out).mono ?_
      rintro e w3 ⟨rfl, n3, rfl⟩
      have HR3 := Lib.hid (HR2.out.drewN n3)
      have P3 := Lib.hid (P2.out.drewN n3)
      have HFW3 : Hid (∀ w2, Moves w.heap.size T1 F1 (W2.drewN n3) T1 F1 w2 → Below w.heap.size w w2) := fun w2 h => HFW.out w2 (((Moves.refl _ _ _ W2).drewN n3).trans h)
      generalize W2.drewN n3 = W3 at *
      clear HR2 P2 HE HB2 HFW
      obtain ⟨x0, x1, x2, x3, x4, x5, x6, x7, x8⟩ := cells9 P3.out
      have HR4 : Hid (Rdr W3.drew w.heap.size T1 F1 l m a 0) := HR3.out.below (below_drew _)
      have HFW4 : Hid (∀ w2, Moves w.heap.size T1 F1 W3.drew T1 F1 w2 → Below w.heap.size w w2) := fun w2 h => HFW3.out w2 (((Moves.refl _ _ _ W3).drew).trans h)
      go_upto_region 9 with fail
      go_still_tail 4, (by kernel_rfl)
      change wpList _ _ _ _ _ W3.drew
      generalize W3.drew = W4 at *
      have HWH := Lib.hid (whole_any w.heap.size a 0 ⟨pe, pf, pl'⟩ T1 F1 l m W4 HR4.out)
      clear HR3 P3 HFW3 x0 x1 x2 x3 x4 x5 x6 x7 x8
      go_wp2_with fail
      refine (HWH.out).mono ?_
      rintro e w5 ⟨rfl, hm5, hb5, ht5, hf5⟩
      have HB5 := Lib.hid (HFW4.out _ hm5)
      have HME : Hid (Mem w5 w.heap.size l m ⟨pe, pf, pl'⟩) := ⟨⟨T1, F1, a, 0, hb5, ht5, hf5⟩, h5, HGP.out.1, HGP.out.2.1, HGP.out.2.2⟩
      clear hm5 hb5 ht5 hf5
      go_wp2
      go_ret2
      exact rdpost_ok HX2.out HB5.out HME.out (Nat.le_refl _)
    · have HE := Lib.hid (ended_any w.heap.size a l false (by simp; omega) W2 hl (rd_cells HR2.out).2.2.1 (rd_cells HR2.out).2.2.2.1)
      have HX2 : Hid (readF l = .bad a 2) := HX1.out.trans (if_neg ha)
      clear HX1
      go_wp2_with fail
      refine (HE.out).mono ?_
      rintro e w3 ⟨rfl, n3, rfl⟩
      have HR3 := Lib.hid (HR2.out.drewN n3)
      have HB3 : Hid (Below w.heap.size w (W2.drewN n3)) := Below.trans HB2.out ⟨rfl, rfl, rfl, Nat.le_refl _, fun _ _ => rfl⟩
      generalize W2.drewN n3 = W3 at *
      clear HR2 P2 HE HB2 HFW
      have HBD := Lib.hid (bad_any w.heap.size a W3 (rd_cells HR3.out).2.2.2.1)
      go_wp2_with fail
      refine (HBD.out).mono ?_
      rintro e w4 ⟨f, rfl, hf, hb⟩
      have HB4 := Lib.hid (HB3.out.trans (below_of hb.os hb.tape hb.output hb.size (fun k hk => hb.block k (Nat.lt_of_lt_of_le hk HB3.out.size))))
      have F4 := Lib.hid hf
      clear hf hb
      go_wp2
      go_ret2
      exact rdpost_bad HX2.out HB4.out F4.out
theorem read_any (l : ByteArray) (w : World) (h5 : 9 ≤ w.heap.size) (hT : TzT w) : Calls Tryz.prog 81 #[.string l] w (RdPost l w (readF l)) := by
  by_cases h : 200 < l.size
  · exact read_long l w h
  · exact read_short l w (by omega) h5 hT
end Go.Proofs.YtmodehfedhgcbaaGreatDoor.Rg

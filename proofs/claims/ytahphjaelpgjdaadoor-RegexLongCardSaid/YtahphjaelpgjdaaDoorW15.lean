import Derived.Test.YtahphjaelpgjdaaDoorW14
namespace Go.Proofs.YtahphjaelpgjdaaDoor
open Go.RowKit Rx
set_option linter.unusedVariables false

set_option maxRecDepth 100000 in
set_option maxHeartbeats 8000000 in
theorem repeat_q (b a o pf pl : Nat) (pe : Bool) (T F : Value) (l : ByteArray) (m : Mach) (w : World) (hr : Rdr w b T F l m a o) (hT : TzT w) (hp : pl < 2 ^ m.follow.length) (hn : m.follow.length ≤ 256) :
    Calls Tryd.prog 72 #[.pointer (some ⟨b, 0, none⟩), pcV ⟨pe, pf, pl⟩, .int .u8 63] w (ChainP b T F l a o w m ⟨true, pf, pl⟩) := by
  have b0 : Blk ((w.alloc (.cells (pcC ⟨pe, pf, pl⟩) 85)).alloc (.cells zero9 85)) w.heap.size 85 (pcC ⟨pe, pf, pl⟩) := (Blk.new w 85 _).alloc _
  have b2 : Blk ((w.alloc (.cells (pcC ⟨pe, pf, pl⟩) 85)).alloc (.cells zero9 85)) (w.heap.size + 1) 85 zero9 := by
    have := Blk.new (w.alloc (.cells (pcC ⟨pe, pf, pl⟩) 85)) 85 zero9
    rw [World.size_alloc] at this
    exact this
  have HR := Lib.hid ((hr.alloc (.cells (pcC ⟨pe, pf, pl⟩) 85)).alloc (.cells zero9 85))
  have HM := Lib.hid (((Moves.refl b T F w).alloc (.cells (pcC ⟨pe, pf, pl⟩) 85)).alloc (.cells zero9 85))
  have HL := Lib.hid (link_any b a o pl pf T F l m _ HR.out (HM.out.tz hr hT) hp hn)
  have B0 := Lib.hid b0
  have B2 := Lib.hid b2
  clear b0 b2 hT hp hn hr
  go_enter Tryd.func72, Tryd.ntmps72
  go_upto_region 3 with fail
  generalize hW : (w.alloc (.cells (pcC _) 85)).alloc (.cells zero9 85) = w1 at *
  have HR1 := HR
  have HM1 := HM
  have C0 := B0
  have C2 := B2
  clear hW HR HM B0 B2 HL
  obtain ⟨x0, x1, x2, x3, x4, x5, x6, x7, x8⟩ := cells9 C0.out
  obtain ⟨f0, f1, f2, f3, f4, f5, f6, f7, f8⟩ := frozen9 C0.out
  go_upto_region 5 with fail
  have D0 : Hid (Blk (w1.setCell ⟨w.heap.size, 0, none⟩ (.bool true)) w.heap.size 85 (pcC ⟨true, pf, pl⟩)) := by
    have h := C0.out.set_ 0 (.bool true)
    simp only [List.setIfInBounds_toArray, List.set_cons_zero] at h
    exact h
  have D2 := Lib.hid (C2.out.other (k := w.heap.size) (by omega) 0 (.bool true))
  have HR2 := Lib.hid (HR1.out.other (HR1.out.off C0.out (by decide) (by decide)) 0 (.bool true))
  have HM2 := Lib.hid (HM1.out.set_new (g := w.heap.size) (Nat.le_refl _) 0 (.bool true))
  generalize hW : w1.setCell ⟨w.heap.size, 0, none⟩ (.bool true) = w2 at *
  clear hW C0 C2 HR1 HM1 x0 x1 x2 x3 x4 x5 x6 x7 x8 f0 f1 f2 f3 f4 f5 f6 f7 f8
  obtain ⟨x0, x1, x2, x3, x4, x5, x6, x7, x8⟩ := cells9 D0.out
  obtain ⟨r0, r1, r2, r3, r4, r5, r6, r7, r8⟩ := cells9 D2.out
  obtain ⟨g0, g1, g2, g3, g4, g5, g6, g7, g8⟩ := frozen9 D2.out
  go_wp2
  exact bodyPost_ret (v := pcV ⟨true, pf, pl⟩) (by simp [results, Tryd.results72, go_sem, r0, r1, r2, r3, r4, r5, r6, r7, r8]) rfl ⟨rfl, HR2.out.set9 (HR2.out.off D2.out (by decide) (by decide)) _ _ _ _ _ _ _ _ _, HM2.out.set9 (by omega) _ _ _ _ _ _ _ _ _⟩

set_option maxRecDepth 100000 in
set_option maxHeartbeats 8000000 in
theorem repeat_p (b a o pf pl : Nat) (pe : Bool) (T F : Value) (l : ByteArray) (m : Mach) (w : World) (hr : Rdr w b T F l m a o) (hT : TzT w) (hp : pl < 2 ^ m.follow.length) (hn : m.follow.length ≤ 256) :
    Calls Tryd.prog 72 #[.pointer (some ⟨b, 0, none⟩), pcV ⟨pe, pf, pl⟩, .int .u8 43] w (ChainP b T F l a o w (linkM m pl pf) ⟨pe, pf, pl⟩) := by
  have b0 : Blk ((w.alloc (.cells (pcC ⟨pe, pf, pl⟩) 85)).alloc (.cells zero9 85)) w.heap.size 85 (pcC ⟨pe, pf, pl⟩) := (Blk.new w 85 _).alloc _
  have b2 : Blk ((w.alloc (.cells (pcC ⟨pe, pf, pl⟩) 85)).alloc (.cells zero9 85)) (w.heap.size + 1) 85 zero9 := by
    have := Blk.new (w.alloc (.cells (pcC ⟨pe, pf, pl⟩) 85)) 85 zero9
    rw [World.size_alloc] at this
    exact this
  have HR := Lib.hid ((hr.alloc (.cells (pcC ⟨pe, pf, pl⟩) 85)).alloc (.cells zero9 85))
  have HM := Lib.hid (((Moves.refl b T F w).alloc (.cells (pcC ⟨pe, pf, pl⟩) 85)).alloc (.cells zero9 85))
  have HL := Lib.hid (link_any b a o pl pf T F l m _ HR.out (HM.out.tz hr hT) hp hn)
  have B0 := Lib.hid b0
  have B2 := Lib.hid b2
  clear b0 b2 hT hp hn hr
  go_enter Tryd.func72, Tryd.ntmps72
  obtain ⟨x0, x1, x2, x3, x4, x5, x6, x7, x8⟩ := cells9 B0.out
  go_wp2_with fail
  refine (HL.out).mono ?_
  rintro e w1 ⟨rfl, hR1, hM1⟩
  have HR1 := Lib.hid hR1
  have HM1 := Lib.hid (HM.out.trans hM1)
  have C0 := Lib.hid (B0.out.moves hM1 (HR.out.off B0.out (by decide) (by decide)))
  have C2 := Lib.hid (B2.out.moves hM1 (HR.out.off B2.out (by decide) (by decide)))
  clear hR1 hM1 HR HM HL B0 B2 x0 x1 x2 x3 x4 x5 x6 x7 x8
  have D0 := C0
  have D2 := C2
  have HR2 := HR1
  have HM2 := HM1
  clear C0 C2 HR1 HM1
  obtain ⟨x0, x1, x2, x3, x4, x5, x6, x7, x8⟩ := cells9 D0.out
  obtain ⟨r0, r1, r2, r3, r4, r5, r6, r7, r8⟩ := cells9 D2.out
  obtain ⟨g0, g1, g2, g3, g4, g5, g6, g7, g8⟩ := frozen9 D2.out
  go_wp2
  exact bodyPost_ret (v := pcV ⟨pe, pf, pl⟩) (by simp [results, Tryd.results72, go_sem, r0, r1, r2, r3, r4, r5, r6, r7, r8]) rfl ⟨rfl, HR2.out.set9 (HR2.out.off D2.out (by decide) (by decide)) _ _ _ _ _ _ _ _ _, HM2.out.set9 (by omega) _ _ _ _ _ _ _ _ _⟩

set_option maxRecDepth 100000 in
set_option maxHeartbeats 8000000 in
theorem repeat_s (b a o pf pl c : Nat) (pe : Bool) (T F : Value) (l : ByteArray) (m : Mach) (w : World) (hr : Rdr w b T F l m a o) (hT : TzT w) (hp : pl < 2 ^ m.follow.length) (hn : m.follow.length ≤ 256) (h1 : c ≠ 63) (h2 : c ≠ 43) :
    Calls Tryd.prog 72 #[.pointer (some ⟨b, 0, none⟩), pcV ⟨pe, pf, pl⟩, .int .u8 c] w (ChainP b T F l a o w (linkM m pl pf) ⟨true, pf, pl⟩) := by
  have b0 : Blk ((w.alloc (.cells (pcC ⟨pe, pf, pl⟩) 85)).alloc (.cells zero9 85)) w.heap.size 85 (pcC ⟨pe, pf, pl⟩) := (Blk.new w 85 _).alloc _
  have b2 : Blk ((w.alloc (.cells (pcC ⟨pe, pf, pl⟩) 85)).alloc (.cells zero9 85)) (w.heap.size + 1) 85 zero9 := by
    have := Blk.new (w.alloc (.cells (pcC ⟨pe, pf, pl⟩) 85)) 85 zero9
    rw [World.size_alloc] at this
    exact this
  have HR := Lib.hid ((hr.alloc (.cells (pcC ⟨pe, pf, pl⟩) 85)).alloc (.cells zero9 85))
  have HM := Lib.hid (((Moves.refl b T F w).alloc (.cells (pcC ⟨pe, pf, pl⟩) 85)).alloc (.cells zero9 85))
  have HL := Lib.hid (link_any b a o pl pf T F l m _ HR.out (HM.out.tz hr hT) hp hn)
  have B0 := Lib.hid b0
  have B2 := Lib.hid b2
  have e1 : ((c : Int) != 63) = true := by simp; omega
  have e2 : ((c : Int) != 43) = true := by simp; omega
  clear b0 b2 hT hp hn hr
  go_enter Tryd.func72, Tryd.ntmps72
  obtain ⟨x0, x1, x2, x3, x4, x5, x6, x7, x8⟩ := cells9 B0.out
  go_wp2_with fail
  refine (HL.out).mono ?_
  rintro e w1 ⟨rfl, hR1, hM1⟩
  have HR1 := Lib.hid hR1
  have HM1 := Lib.hid (HM.out.trans hM1)
  have C0 := Lib.hid (B0.out.moves hM1 (HR.out.off B0.out (by decide) (by decide)))
  have C2 := Lib.hid (B2.out.moves hM1 (HR.out.off B2.out (by decide) (by decide)))
  clear hR1 hM1 HR HM HL B0 B2 x0 x1 x2 x3 x4 x5 x6 x7 x8
  obtain ⟨x0, x1, x2, x3, x4, x5, x6, x7, x8⟩ := cells9 C0.out
  obtain ⟨f0, f1, f2, f3, f4, f5, f6, f7, f8⟩ := frozen9 C0.out
  go_upto_region 5 with fail
  have D0 : Hid (Blk (w1.setCell ⟨w.heap.size, 0, none⟩ (.bool true)) w.heap.size 85 (pcC ⟨true, pf, pl⟩)) := by
    have h := C0.out.set_ 0 (.bool true)
    simp only [List.setIfInBounds_toArray, List.set_cons_zero] at h
    exact h
  have D2 := Lib.hid (C2.out.other (k := w.heap.size) (by omega) 0 (.bool true))
  have HR2 := Lib.hid (HR1.out.other (HR1.out.off C0.out (by decide) (by decide)) 0 (.bool true))
  have HM2 := Lib.hid (HM1.out.set_new (g := w.heap.size) (Nat.le_refl _) 0 (.bool true))
  generalize hW : w1.setCell ⟨w.heap.size, 0, none⟩ (.bool true) = w2 at *
  clear hW C0 C2 HR1 HM1 x0 x1 x2 x3 x4 x5 x6 x7 x8 f0 f1 f2 f3 f4 f5 f6 f7 f8
  obtain ⟨x0, x1, x2, x3, x4, x5, x6, x7, x8⟩ := cells9 D0.out
  obtain ⟨r0, r1, r2, r3, r4, r5, r6, r7, r8⟩ := cells9 D2.out
  obtain ⟨g0, g1, g2, g3, g4, g5, g6, g7, g8⟩ := frozen9 D2.out
  go_wp2
  exact bodyPost_ret (v := pcV ⟨true, pf, pl⟩) (by simp [results, Tryd.results72, go_sem, r0, r1, r2, r3, r4, r5, r6, r7, r8]) rfl ⟨rfl, HR2.out.set9 (HR2.out.off D2.out (by decide) (by decide)) _ _ _ _ _ _ _ _ _, HM2.out.set9 (by omega) _ _ _ _ _ _ _ _ _⟩

theorem repeat_any (b a o c : Nat) (p : Pc) (T F : Value) (l : ByteArray) (m : Mach) (w : World) (hr : Rdr w b T F l m a o) (hT : TzT w) (hp : p.last < 2 ^ m.follow.length) (hn : m.follow.length ≤ 256) :
    Calls Tryd.prog 72 #[.pointer (some ⟨b, 0, none⟩), pcV p, .int .u8 c] w (ChainP b T F l a o w (repM m p c) (repP p c)) := by
  obtain ⟨pe, pf, pl⟩ := p
  by_cases h1 : c = 63
  · subst h1; exact repeat_q b a o pf pl pe T F l m w hr hT hp hn
  · by_cases h2 : c = 43
    · subst h2; exact repeat_p b a o pf pl pe T F l m w hr hT hp hn
    · have e1 : repM m ⟨pe, pf, pl⟩ c = linkM m pl pf := if_neg h1
      have e2 : repP ⟨pe, pf, pl⟩ c = ⟨true, pf, pl⟩ := if_neg h2
      rw [e1, e2]
      exact repeat_s b a o pf pl c pe T F l m w hr hT hp hn h1 h2

theorem Blk.whole9 {w : World} {g : Nat} {T F l a o v0 v1 v2 v3 v4 v5 v6 v7 v8 x0 x1 x2 x3 x4 x5 x6 x7 x8 : Value} (h : Blk w g 83 #[T, F, x0, x1, x2, x3, x4, x5, x6, x7, x8, l, a, o]) : Blk (((((((((w.setCell ⟨g, 2, none⟩ v0).setCell ⟨g, 3, none⟩ v1).setCell ⟨g, 4, none⟩ v2).setCell ⟨g, 5, none⟩ v3).setCell ⟨g, 6, none⟩ v4).setCell ⟨g, 7, none⟩ v5).setCell ⟨g, 8, none⟩ v6).setCell ⟨g, 9, none⟩ v7).setCell ⟨g, 10, none⟩ v8) g 83 #[T, F, v0, v1, v2, v3, v4, v5, v6, v7, v8, l, a, o] := by
  have h0 := h.set_ 2 v0
  simp only [List.setIfInBounds_toArray, List.set_cons_zero, List.set_cons_succ] at h0
  have h1 := h0.set_ 3 v1
  simp only [List.setIfInBounds_toArray, List.set_cons_zero, List.set_cons_succ] at h1
  have h2 := h1.set_ 4 v2
  simp only [List.setIfInBounds_toArray, List.set_cons_zero, List.set_cons_succ] at h2
  have h3 := h2.set_ 5 v3
  simp only [List.setIfInBounds_toArray, List.set_cons_zero, List.set_cons_succ] at h3
  have h4 := h3.set_ 6 v4
  simp only [List.setIfInBounds_toArray, List.set_cons_zero, List.set_cons_succ] at h4
  have h5 := h4.set_ 7 v5
  simp only [List.setIfInBounds_toArray, List.set_cons_zero, List.set_cons_succ] at h5
  have h6 := h5.set_ 8 v6
  simp only [List.setIfInBounds_toArray, List.set_cons_zero, List.set_cons_succ] at h6
  have h7 := h6.set_ 9 v7
  simp only [List.setIfInBounds_toArray, List.set_cons_zero, List.set_cons_succ] at h7
  have h8 := h7.set_ 10 v8
  simp only [List.setIfInBounds_toArray, List.set_cons_zero, List.set_cons_succ] at h8
  exact h8
theorem Blk.past4 {w : World} {j k : Nat} {t : TypeId} {cs : Array Value} (h : Blk w k t cs) (hj : k ≠ j) (v0 v1 v2 v3 : Value) : Blk ((((w.setCell ⟨j, 2, none⟩ v0).setCell ⟨j, 3, none⟩ v1).setCell ⟨j, 4, none⟩ v2).setCell ⟨j, 5, none⟩ v3) k t cs := (((h.other hj 2 _).other hj 3 _).other hj 4 _).other hj 5 _
set_option maxRecDepth 100000 in
set_option maxHeartbeats 8000000 in
/-- the machine is whole: the reader is read no more -/
theorem whole_any (b a o : Nat) (p : Pc) (T F : Value) (l : ByteArray) (m : Mach) (w : World) (hr : Rdr w b T F l m a o) :
    Calls Tryd.prog 35 #[.pointer (some ⟨b, 0, none⟩), pcV p] w fun e w' => e = .returned (.tuple #[]) ∧ Moves b T F w T F w' ∧
      Blk w' b 83 #[T, F, wv p.last 0, wv p.last 1, wv p.last 2, wv p.last 3, wv p.first 0, wv p.first 1, wv p.first 2, wv p.first 3, .bool p.empty, .string l, .int .i64 a, .int .i64 o] ∧ rowS w' T m.takes ∧ rowS w' F m.follow := by
  obtain ⟨pe, pf, pl⟩ := p
  have HR := Lib.hid (hr.alloc (.cells (pcC ⟨pe, pf, pl⟩) 85))
  have HM := Lib.hid ((Moves.refl b T F w).alloc (.cells (pcC ⟨pe, pf, pl⟩) 85))
  have B0 := Lib.hid (Blk.new w 85 (pcC ⟨pe, pf, pl⟩))
  obtain ⟨x0, x1, x2, x3, x4, x5, x6, x7, x8⟩ := cells9 B0.out
  have c2 : (w.alloc (.cells (pcC ⟨pe, pf, pl⟩) 85)).cell? ⟨b, 2, none⟩ = some (.int .u64 0) := HR.out.blk.cell 2
  have c3 : (w.alloc (.cells (pcC ⟨pe, pf, pl⟩) 85)).cell? ⟨b, 3, none⟩ = some (.int .u64 0) := HR.out.blk.cell 3
  have c4 : (w.alloc (.cells (pcC ⟨pe, pf, pl⟩) 85)).cell? ⟨b, 4, none⟩ = some (.int .u64 0) := HR.out.blk.cell 4
  have c5 : (w.alloc (.cells (pcC ⟨pe, pf, pl⟩) 85)).cell? ⟨b, 5, none⟩ = some (.int .u64 0) := HR.out.blk.cell 5
  have c6 : (w.alloc (.cells (pcC ⟨pe, pf, pl⟩) 85)).cell? ⟨b, 6, none⟩ = some (.int .u64 0) := HR.out.blk.cell 6
  have c7 : (w.alloc (.cells (pcC ⟨pe, pf, pl⟩) 85)).cell? ⟨b, 7, none⟩ = some (.int .u64 0) := HR.out.blk.cell 7
  have c8 : (w.alloc (.cells (pcC ⟨pe, pf, pl⟩) 85)).cell? ⟨b, 8, none⟩ = some (.int .u64 0) := HR.out.blk.cell 8
  have c9 : (w.alloc (.cells (pcC ⟨pe, pf, pl⟩) 85)).cell? ⟨b, 9, none⟩ = some (.int .u64 0) := HR.out.blk.cell 9
  have c10 : (w.alloc (.cells (pcC ⟨pe, pf, pl⟩) 85)).cell? ⟨b, 10, none⟩ = some (.bool false) := HR.out.blk.cell 10
  have f2 := HR.out.blk.frozen 2
  have f3 := HR.out.blk.frozen 3
  have f4 := HR.out.blk.frozen 4
  have f5 := HR.out.blk.frozen 5
  have f6 := HR.out.blk.frozen 6
  have f7 := HR.out.blk.frozen 7
  have f8 := HR.out.blk.frozen 8
  have f9 := HR.out.blk.frozen 9
  have f10 := HR.out.blk.frozen 10
  have hbn : b < w.heap.size := hr.blk.lt
  have HK := Lib.hid hr
  clear hr
  go_enter Tryd.func35, Tryd.ntmps35
  go_upto_region 1 with fail
  generalize hW : w.alloc (.cells (pcC _) 85) = W at *
  clear hW
  go_upto_region 2 with fail
  have hne : b ≠ w.heap.size := by omega
  have hne2 : w.heap.size ≠ b := by omega
  obtain ⟨y0, y1, y2, y3, y4, y5, y6, y7, y8⟩ := cells9 (B0.out.past4 hne2 (wv pl 0) (wv pl 1) (wv pl 2) (wv pl 3))
  go_wp2
  refine bodyPost_end (v := .tuple #[]) (by simp [results, Tryd.results35, go_sem]) rfl ⟨rfl, ?_, ?_, ?_, ?_⟩
  · exact (((((((((HM.out.set_foot (foot_self b T F) _ _).set_foot (foot_self b T F) _ _).set_foot (foot_self b T F) _ _).set_foot (foot_self b T F) _ _).set_foot (foot_self b T F) _ _).set_foot (foot_self b T F) _ _).set_foot (foot_self b T F) _ _).set_foot (foot_self b T F) _ _).set_foot (foot_self b T F) _ _)
  · exact HR.out.blk.whole9
  · exact own_ne (own_ne (own_ne (own_ne (own_ne (own_ne (own_ne (own_ne (own_ne HR.out.tk HR.out.t_b _ _) HR.out.t_b _ _) HR.out.t_b _ _) HR.out.t_b _ _) HR.out.t_b _ _) HR.out.t_b _ _) HR.out.t_b _ _) HR.out.t_b _ _) HR.out.t_b _ _
  · exact own_ne (own_ne (own_ne (own_ne (own_ne (own_ne (own_ne (own_ne (own_ne HR.out.fl HR.out.f_b _ _) HR.out.f_b _ _) HR.out.f_b _ _) HR.out.f_b _ _) HR.out.f_b _ _) HR.out.f_b _ _) HR.out.f_b _ _) HR.out.f_b _ _) HR.out.f_b _ _
end Go.Proofs.YtahphjaelpgjdaaDoor

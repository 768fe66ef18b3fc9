import Derived.Test.YtahphjaelpgjdaaDoorW16
namespace Go.Proofs.YtahphjaelpgjdaaDoor
open Go.RowKit Rx
set_option linter.unusedVariables false

/-! atoms; of a group it is told what it does -/
def GC (b : Nat) (l : ByteArray) (o : Nat) (grp : Nat → Mach → Res) : Prop :=
  ∀ (T F : Value) (m : Mach) (a : Nat) (w : World), Rdr w b T F l m a o → TzT w → a < l.size → Rx.Good m → m.takes.length ≤ a → Calls Tryd.prog 77 #[.pointer (some ⟨b, 0, none⟩)] w (PP b T F l o w (grp a m))
theorem PP.trans {b : Nat} {T F T1 F1 : Value} {l : ByteArray} {o : Nat} {w w1 w' : World} {r : Res} {e : Ending} (h : Moves b T F w T1 F1 w1) (k : PP b T1 F1 l o w1 r e w') : PP b T F l o w r e w' :=
  let ⟨T', F', hm, hr⟩ := k; ⟨T', F', h.trans hm, hr⟩
/-- what a call has answered is laid into a result -/
theorem PP.store {b : Nat} {T F : Value} {l : ByteArray} {o j : Nat} {w W w' : World} {r : Res} {p : Pc} {err : Value} (k : PP b T F l o W r (.returned (.tuple #[pcV p, err])) w') (hM : Moves b T F w T F W) (hj : w.heap.size ≤ j) (hB : Blk w' j 85 zero9) (hb : Blk W j 85 zero9) :
    PP b T F l o w r (.returned (.tuple #[pcV p, err])) (put9 w' j (.bool p.empty) (wv p.first 0) (wv p.first 1) (wv p.first 2) (wv p.first 3) (wv p.last 0) (wv p.last 1) (wv p.last 2) (wv p.last 3)) := by
  obtain ⟨T', F', hm, hr⟩ := k
  refine ⟨T', F', (hM.trans hm).set9 hj _ _ _ _ _ _ _ _ _, ?_⟩
  cases r with
  | bad pl c =>
    obtain ⟨q, err', he, f, hf, hB2⟩ := hr
    exact ⟨q, err', he, f, hf, hB2.set9_other (blk_ne hB2 hB (by decide)) _ _ _ _ _ _ _ _ _⟩
  | ok a m q =>
    exact ⟨hr.1, hr.2.set9 (hr.2.off hB (by decide) (by decide)) _ _ _ _ _ _ _ _ _⟩
set_option maxRecDepth 100000 in
set_option maxHeartbeats 8000000 in
theorem atom_grp (b a o : Nat) (T F : Value) (l : ByteArray) (grp : Nat → Mach → Res) (m : Mach) (w : World) (hr : Rdr w b T F l m a o) (hT : TzT w) (hl : l.size ≤ 200) (ha : a < l.size) (hm : Rx.Good m) (hn : m.takes.length ≤ a) (hg : GC b l o grp) (h1 : by_ l a = 40) :
    Calls Tryd.prog 71 #[.pointer (some ⟨b, 0, none⟩)] w (PP b T F l o w (atomF l grp a m)) := by
  have HX : Hid (atomF l grp a m = grp a m) := by
    show atomF l grp a m = _
    unfold atomF
    rw [if_pos h1]
  have HR := Lib.hid (hr.alloc (.cells zero9 85))
  have HM := Lib.hid ((Moves.refl b T F w).alloc (.cells zero9 85))
  have B0 := Lib.hid (Blk.new w 85 zero9)
  have HFT : Hid (∀ j, w.heap.size ≤ j → ¬ Foot b T F j) := fun j hj hf => by have := (hr.lt_foot hf).1; omega
  have HT := Lib.hid (HM.out.tz hr hT)
  have HGC := Lib.hid hg
  have HMG := Lib.hid hm
  obtain ⟨c, hc⟩ : ∃ c, c = l[a].toNat := ⟨_, rfl⟩
  have hcb : c = by_ l a := by rw [hc, by_eq]
  have hc' : l[a].toNat = c := hc.symm
  clear hr hT hg hm hc
  obtain rfl : c = 40 := by omega
  clear h1 hcb
  go_enter Tryd.func71, Tryd.ntmps71
  go_upto_region 1 with fail
  generalize hW : w.alloc (.cells zero9 85) = W at *
  clear hW
  have q3 := (rd_cells HR.out).2.2.1
  have q4 := (rd_cells HR.out).2.2.2.1
  go_quiet (fail)
  rename_i nq
  have HR1 := Lib.hid (HR.out.drewN nq)
  have HM1 := Lib.hid (HM.out.drewN nq)
  have B1 := Lib.hid (B0.out.drewN nq)
  have HT1 : Hid (TzT (W.drewN nq)) := HT.out
  generalize hW : W.drewN nq = W1 at *
  clear hW HR HM B0 HT q3 q4
  have HC := Lib.hid (HGC.out T F m a W1 HR1.out HT1.out ha HMG.out hn)
  clear HGC
  go_wp2_with fail
  refine (HC.out).mono ?_
  rintro e w2 hpp
  have HP := Lib.hid hpp
  obtain ⟨T2, F2, hm2, hrest⟩ := hpp
  have B2 := Lib.hid (B1.out.moves hm2 (HFT.out _ (Nat.le_refl _)))
  have hv : ∃ p err, e = .returned (.tuple #[pcV p, err]) := by
    clear B2 HP HX
    split at hrest
    · exact ⟨_, _, hrest.choose_spec.choose_spec.1⟩
    · exact ⟨_, _, hrest.1⟩
  obtain ⟨p, err, rfl⟩ := hv
  clear hrest hm2
  obtain ⟨r0, r1, r2, r3, r4, r5, r6, r7, r8⟩ := cells9 B2.out
  obtain ⟨g0, g1, g2, g3, g4, g5, g6, g7, g8⟩ := frozen9 B2.out
  go_wp2
  rw [HX.out]
  exact bodyPost_ret (v := .tuple #[pcV p, err]) (by simp [results, Tryd.results71, go_sem, r0, r1, r2, r3, r4, r5, r6, r7, r8]) rfl (HP.out.store HM1.out (Nat.le_refl _) B2.out B1.out)
set_option maxRecDepth 100000 in
set_option maxHeartbeats 8000000 in
theorem atom_cls (b a o : Nat) (T F : Value) (l : ByteArray) (grp : Nat → Mach → Res) (m : Mach) (w : World) (hr : Rdr w b T F l m a o) (hT : TzT w) (hl : l.size ≤ 200) (ha : a < l.size) (hm : Rx.Good m) (hn : m.takes.length ≤ a) (hg : GC b l o grp) (h1 : by_ l a = 91) :
    Calls Tryd.prog 71 #[.pointer (some ⟨b, 0, none⟩)] w (PP b T F l o w (atomF l grp a m)) := by
  have HX : Hid (atomF l grp a m = classF l a m) := by
    show atomF l grp a m = _
    unfold atomF
    rw [if_neg (by omega), if_pos h1]
  have HR := Lib.hid (hr.alloc (.cells zero9 85))
  have HM := Lib.hid ((Moves.refl b T F w).alloc (.cells zero9 85))
  have B0 := Lib.hid (Blk.new w 85 zero9)
  have HFT : Hid (∀ j, w.heap.size ≤ j → ¬ Foot b T F j) := fun j hj hf => by have := (hr.lt_foot hf).1; omega
  have HT := Lib.hid (HM.out.tz hr hT)
  have HGC := Lib.hid hg
  have HMG := Lib.hid hm
  obtain ⟨c, hc⟩ : ∃ c, c = l[a].toNat := ⟨_, rfl⟩
  have hcb : c = by_ l a := by rw [hc, by_eq]
  have hc' : l[a].toNat = c := hc.symm
  clear hr hT hg hm hc
  obtain rfl : c = 91 := by omega
  clear h1 hcb
  go_enter Tryd.func71, Tryd.ntmps71
  go_upto_region 1 with fail
  generalize hW : w.alloc (.cells zero9 85) = W at *
  clear hW
  have q3 := (rd_cells HR.out).2.2.1
  have q4 := (rd_cells HR.out).2.2.2.1
  go_quiet (fail)
  rename_i nq
  have HR1 := Lib.hid (HR.out.drewN nq)
  have HM1 := Lib.hid (HM.out.drewN nq)
  have B1 := Lib.hid (B0.out.drewN nq)
  have HT1 : Hid (TzT (W.drewN nq)) := HT.out
  generalize hW : W.drewN nq = W1 at *
  clear hW HR HM B0 HT q3 q4
  have HC := Lib.hid (class_any b a o T F l m W1 HR1.out hl ha (by omega) HMG.out.1)
  clear HGC
  go_wp2_with fail
  refine (HC.out).mono ?_
  rintro e w2 hpp
  have HP := Lib.hid hpp
  obtain ⟨T2, F2, hm2, hrest⟩ := hpp
  have B2 := Lib.hid (B1.out.moves hm2 (HFT.out _ (Nat.le_refl _)))
  have hv : ∃ p err, e = .returned (.tuple #[pcV p, err]) := by
    clear B2 HP HX
    split at hrest
    · exact ⟨_, _, hrest.choose_spec.choose_spec.1⟩
    · exact ⟨_, _, hrest.1⟩
  obtain ⟨p, err, rfl⟩ := hv
  clear hrest hm2
  obtain ⟨r0, r1, r2, r3, r4, r5, r6, r7, r8⟩ := cells9 B2.out
  obtain ⟨g0, g1, g2, g3, g4, g5, g6, g7, g8⟩ := frozen9 B2.out
  go_wp2
  rw [HX.out]
  exact bodyPost_ret (v := .tuple #[pcV p, err]) (by simp [results, Tryd.results71, go_sem, r0, r1, r2, r3, r4, r5, r6, r7, r8]) rfl (HP.out.store HM1.out (Nat.le_refl _) B2.out B1.out)
set_option maxRecDepth 100000 in
set_option maxHeartbeats 8000000 in
theorem atom_bad (b a o : Nat) (T F : Value) (l : ByteArray) (grp : Nat → Mach → Res) (m : Mach) (w : World) (hr : Rdr w b T F l m a o) (hT : TzT w) (hl : l.size ≤ 200) (ha : a < l.size) (hm : Rx.Good m) (hn : m.takes.length ≤ a) (hg : GC b l o grp) (h1 : [93, 123, 125, 94, 36, 42, 43, 63].contains (by_ l a) = true) :
    Calls Tryd.prog 71 #[.pointer (some ⟨b, 0, none⟩)] w (PP b T F l o w (atomF l grp a m)) := by
  have HX : Hid (atomF l grp a m = .bad a 2) := by
    show atomF l grp a m = _
    unfold atomF
    have h2 : by_ l a ≠ 40 ∧ by_ l a ≠ 91 := by simp at h1; omega
    rw [if_neg h2.1, if_neg h2.2, if_pos h1]
  have HR := Lib.hid (hr.alloc (.cells zero9 85))
  have HM := Lib.hid ((Moves.refl b T F w).alloc (.cells zero9 85))
  have B0 := Lib.hid (Blk.new w 85 zero9)
  have HFT : Hid (∀ j, w.heap.size ≤ j → ¬ Foot b T F j) := fun j hj hf => by have := (hr.lt_foot hf).1; omega
  have HT := Lib.hid (HM.out.tz hr hT)
  have HGC := Lib.hid hg
  have HMG := Lib.hid hm
  obtain ⟨c, hc⟩ : ∃ c, c = l[a].toNat := ⟨_, rfl⟩
  have hcb : c = by_ l a := by rw [hc, by_eq]
  have hc' : l[a].toNat = c := hc.symm
  clear hr hT hg hm hc
  have h3 : c = 93 ∨ c = 123 ∨ c = 125 ∨ c = 94 ∨ c = 36 ∨ c = 42 ∨ c = 43 ∨ c = 63 := by rw [hcb]; simpa using h1
  clear h1 hcb
  rcases h3 with rfl | rfl | rfl | rfl | rfl | rfl | rfl | rfl
  all_goals
    go_enter Tryd.func71, Tryd.ntmps71
    go_upto_region 1 with fail
    generalize hW : w.alloc (.cells zero9 85) = W at *
    clear hW
    have q3 := (rd_cells HR.out).2.2.1
    have q4 := (rd_cells HR.out).2.2.2.1
    go_quiet (fail)
    rename_i nq
    have HR1 := Lib.hid (HR.out.drewN nq)
    have HM1 := Lib.hid (HM.out.drewN nq)
    have B1 := Lib.hid (B0.out.drewN nq)
    have HT1 : Hid (TzT (W.drewN nq)) := HT.out
    generalize hW : W.drewN nq = W1 at *
    clear hW HR HM B0 HT q3 q4
    have HC := Lib.hid (bad_any b a W1 (rd_cells HR1.out).2.2.2.1)
    clear HGC
    go_wp2_with fail
    refine (HC.out).mono ?_
    rintro e w2 ⟨f, rfl, hf, hb⟩
    have B2 := Lib.hid (B1.out.below hb)
    have HM2 := Lib.hid (HM1.out.below hb)
    have F2 := Lib.hid (hf.set9_other (blk_ne hf B2.out (by decide)) (.bool false) (.int .u64 0) (.int .u64 0) (.int .u64 0) (.int .u64 0) (.int .u64 0) (.int .u64 0) (.int .u64 0) (.int .u64 0))
    clear hf hb
    obtain ⟨r0, r1, r2, r3, r4, r5, r6, r7, r8⟩ := cells9 B2.out
    obtain ⟨g0, g1, g2, g3, g4, g5, g6, g7, g8⟩ := frozen9 B2.out
    go_wp2
    exact bodyPost_ret (v := .tuple #[.agg zero9, .iface 70 (.pointer (some ⟨f, 0, none⟩))]) (by simp [results, Tryd.results71, go_sem, r0, r1, r2, r3, r4, r5, r6, r7, r8]) rfl (pp_bad HX.out (HM2.out.set9 (Nat.le_refl _) _ _ _ _ _ _ _ _ _) pc0_eq F2.out)
set_option maxRecDepth 100000 in
set_option maxHeartbeats 8000000 in
theorem atom_dot (b a o : Nat) (T F : Value) (l : ByteArray) (grp : Nat → Mach → Res) (m : Mach) (w : World) (hr : Rdr w b T F l m a o) (hT : TzT w) (hl : l.size ≤ 200) (ha : a < l.size) (hm : Rx.Good m) (hn : m.takes.length ≤ a) (hg : GC b l o grp) (h1 : by_ l a = 46) :
    Calls Tryd.prog 71 #[.pointer (some ⟨b, 0, none⟩)] w (PP b T F l o w (atomF l grp a m)) := by
  have HX : Hid (atomF l grp a m = .ok (a + 1) (placeM m full) (placeP m)) := by
    show atomF l grp a m = _
    unfold atomF
    rw [if_neg (by omega), if_neg (by omega), if_neg (by rw [h1]; decide), if_pos h1]
  have HR := Lib.hid (hr.alloc (.cells zero9 85))
  have HM := Lib.hid ((Moves.refl b T F w).alloc (.cells zero9 85))
  have B0 := Lib.hid (Blk.new w 85 zero9)
  have HFT : Hid (∀ j, w.heap.size ≤ j → ¬ Foot b T F j) := fun j hj hf => by have := (hr.lt_foot hf).1; omega
  have HT := Lib.hid (HM.out.tz hr hT)
  have HGC := Lib.hid hg
  have HMG := Lib.hid hm
  obtain ⟨c, hc⟩ : ∃ c, c = l[a].toNat := ⟨_, rfl⟩
  have hcb : c = by_ l a := by rw [hc, by_eq]
  have hc' : l[a].toNat = c := hc.symm
  clear hr hT hg hm hc
  obtain rfl : c = 46 := by omega
  clear h1 hcb
  go_enter Tryd.func71, Tryd.ntmps71
  go_upto_region 1 with fail
  generalize hW : w.alloc (.cells zero9 85) = W at *
  clear hW
  have q3 := (rd_cells HR.out).2.2.1
  have q4 := (rd_cells HR.out).2.2.2.1
  go_quiet (fail)
  rename_i nq
  have HR1 := Lib.hid (HR.out.drewN nq)
  have HM1 := Lib.hid (HM.out.drewN nq)
  have B1 := Lib.hid (B0.out.drewN nq)
  have HT1 : Hid (TzT (W.drewN nq)) := HT.out
  generalize hW : W.drewN nq = W1 at *
  clear hW HR HM B0 HT q3 q4
  clear HGC
  have q4 := (rd_cells HR1.out).2.2.2.1
  have qf := HR1.out.blk.frozen 12
  go_upto_region 20 with fail
  have HR2 := Lib.hid (HR1.out.set_at (a + 1) (.int .i64 ((a : Int) + 1)) (by rfl))
  have HM2 := Lib.hid (HM1.out.set_foot (foot_self b T F) 12 (.int .i64 ((a : Int) + 1)))
  have B2 := Lib.hid (B1.out.other (k := b) (fun e => HFT.out _ (Nat.le_refl _) (.inl e)) 12 (.int .i64 ((a : Int) + 1)))
  generalize hW : W1.setCell ⟨b, 12, none⟩ (.int .i64 ((a : Int) + 1)) = W2 at *
  clear hW HR1 HM1 B1 HT1 q4 qf
  have HN0 : Hid (∀ W, Calls Tryd.prog 80 #[.agg #[.int .u64 0, .int .u64 0, .int .u64 0, .int .u64 0]] W fun e w' => e = .returned (setV full) ∧ Below W.heap.size W w') := fun W => by
    have := not_any 0 (by decide) W
    unfold setV at this
    rw [wv_zero, wv_zero, wv_zero, wv_zero] at this
    exact this
  have HPL := Lib.hid (fun X (hX : Rdr X b T F l m (a + 1) o) => place_any b (a + 1) o full T F l m X hX (by omega) HMG.out.1)
  go_region_with (first
    | (go_at_call 80; refine (HN0.out _).mono ?_; rintro e w3 ⟨rfl, hb3⟩
       have HR3 : Hid (Rdr w3 b T F l m (a + 1) o) := ⟨(hb3.block _ HR2.out.blk.lt).trans HR2.out.blk, HR2.out.low, own_below (by exact HR2.out.tk) hb3, own_below (by exact HR2.out.fl) hb3, HR2.out.apart⟩
       have HM3 : Hid (Moves b T F w T F w3) := HM2.out.new (below_of hb3.os hb3.tape hb3.output hb3.size (fun k hk => hb3.block k (Nat.lt_of_lt_of_le hk HM2.out.size)))
       have B3 : Hid (Blk w3 w.heap.size 85 zero9) := (hb3.block _ B2.out.lt).trans B2.out
       clear hb3)
    | (go_at_call 79; refine (HPL.out _ HR3.out).mono ?_; rintro e w4 ⟨T4, F4, hm4, rfl, hr4⟩
       have HM4 := Lib.hid (HM3.out.trans hm4)
       have HR4 := Lib.hid hr4
       have B4 := Lib.hid (B3.out.moves hm4 (HFT.out _ (Nat.le_refl _)))
       clear hm4 hr4
       obtain ⟨r0, r1, r2, r3, r4, r5, r6, r7, r8⟩ := cells9 B4.out
       obtain ⟨g0, g1, g2, g3, g4, g5, g6, g7, g8⟩ := frozen9 B4.out))
  all_goals
    go_wp2
    exact bodyPost_ret (v := .tuple #[pcV (placeP m), .nilIface]) (by simp [results, Tryd.results71, go_sem, r0, r1, r2, r3, r4, r5, r6, r7, r8, placeP]) rfl (pp_ok HX.out (HM4.out.set9 (Nat.le_refl _) _ _ _ _ _ _ _ _ _) rfl (HR4.out.set9 (HR4.out.off B4.out (by decide) (by decide)) _ _ _ _ _ _ _ _ _))
set_option maxRecDepth 100000 in
set_option maxHeartbeats 8000000 in
theorem atom_char (b a o : Nat) (T F : Value) (l : ByteArray) (grp : Nat → Mach → Res) (m : Mach) (w : World) (hr : Rdr w b T F l m a o) (hT : TzT w) (hl : l.size ≤ 200) (ha : a < l.size) (hm : Rx.Good m) (hn : m.takes.length ≤ a) (hg : GC b l o grp) (h1 : by_ l a ≠ 40) (h2 : by_ l a ≠ 91) (h3 : [93, 123, 125, 94, 36, 42, 43, 63].contains (by_ l a) = false) (h4 : by_ l a ≠ 46) :
    Calls Tryd.prog 71 #[.pointer (some ⟨b, 0, none⟩)] w (PP b T F l o w (atomF l grp a m)) := by
  have HX : Hid (atomF l grp a m = match charF l a with | .bad pl => .bad pl 2 | .ok a1 c => .ok a1 (placeM m (2 ^ c)) (placeP m)) := by
    show atomF l grp a m = _
    unfold atomF
    rw [if_neg h1, if_neg h2, if_neg (by rw [h3]; simp), if_neg h4]
    cases charF l a <;> rfl
  have HR := Lib.hid (hr.alloc (.cells zero9 85))
  have HM := Lib.hid ((Moves.refl b T F w).alloc (.cells zero9 85))
  have B0 := Lib.hid (Blk.new w 85 zero9)
  have HFT : Hid (∀ j, w.heap.size ≤ j → ¬ Foot b T F j) := fun j hj hf => by have := (hr.lt_foot hf).1; omega
  have HT := Lib.hid (HM.out.tz hr hT)
  have HGC := Lib.hid hg
  have HMG := Lib.hid hm
  obtain ⟨c, hc⟩ : ∃ c, c = l[a].toNat := ⟨_, rfl⟩
  have hcb : c = by_ l a := by rw [hc, by_eq]
  have hc' : l[a].toNat = c := hc.symm
  clear hr hT hg hm hc
  have h5 : c ≠ 93 ∧ c ≠ 123 ∧ c ≠ 125 ∧ c ≠ 94 ∧ c ≠ 36 ∧ c ≠ 42 ∧ c ≠ 43 ∧ c ≠ 63 := by rw [hcb]; simpa using h3
  have e40 : ((c : Int) == 40) = false := by simp; omega
  have e91 : ((c : Int) == 91) = false := by simp; omega
  have e46 : ((c : Int) == 46) = false := by simp; omega
  have e93 : ((c : Int) == 93) = false := by simp; omega
  have e123 : ((c : Int) == 123) = false := by simp; omega
  have e125 : ((c : Int) == 125) = false := by simp; omega
  have e94 : ((c : Int) == 94) = false := by simp; omega
  have e36 : ((c : Int) == 36) = false := by simp; omega
  have e42 : ((c : Int) == 42) = false := by simp; omega
  have e43 : ((c : Int) == 43) = false := by simp; omega
  have e63 : ((c : Int) == 63) = false := by simp; omega
  clear h1 h2 h3 h4 h5 hcb
  go_enter Tryd.func71, Tryd.ntmps71
  go_upto_region 1 with fail
  generalize hW : w.alloc (.cells zero9 85) = W at *
  clear hW
  have q3 := (rd_cells HR.out).2.2.1
  have q4 := (rd_cells HR.out).2.2.2.1
  go_quiet (fail)
  rename_i nq
  have HR1 := Lib.hid (HR.out.drewN nq)
  have HM1 := Lib.hid (HM.out.drewN nq)
  have B1 := Lib.hid (B0.out.drewN nq)
  have HT1 : Hid (TzT (W.drewN nq)) := HT.out
  generalize hW : W.drewN nq = W1 at *
  clear hW HR HM B0 HT q3 q4
  clear HGC
  have HC := Lib.hid (char_any b a o T F l m W1 HR1.out hl (by omega))
  have HPL := Lib.hid (fun X a1 t (hX : Rdr X b T F l m a1 o) => place_any b a1 o t T F l m X hX (by omega) HMG.out.1)
  cases hc1 : charF l a with
  | bad pl =>
    rw [hc1] at HX HC
    dsimp only at HX
    clear hc1
    go_wp2_with fail
    refine (HC.out).mono ?_
    rintro e w2 ⟨hm2, err, rfl, ⟨f, rfl, hf⟩, hr2⟩
    have HR2 := Lib.hid hr2
    have HM2 := Lib.hid (HM1.out.trans hm2)
    have B2 := Lib.hid (B1.out.moves hm2 (HFT.out _ (Nat.le_refl _)))
    have F2 := Lib.hid hf
    clear hm2 hr2 hf
    go_upto_region 4 with fail
    have HO := Lib.hid (fun W => one_any 0 (by decide) W)
    go_region_with (first
      | (go_at_call 82; refine (HO.out _).mono ?_; rintro e w3 ⟨rfl, hb3⟩
         have HR3 : Hid (Rdr w3 b T F l m pl o) := ⟨(hb3.block _ HR2.out.blk.lt).trans HR2.out.blk, HR2.out.low, own_below (by exact HR2.out.tk) hb3, own_below (by exact HR2.out.fl) hb3, HR2.out.apart⟩
         have HM3 : Hid (Moves b T F w T F w3) := HM2.out.new (below_of hb3.os hb3.tape hb3.output hb3.size (fun k hk => hb3.block k (Nat.lt_of_lt_of_le hk HM2.out.size)))
         have B3 : Hid (Blk w3 w.heap.size 85 zero9) := (hb3.block _ B2.out.lt).trans B2.out
         have F3 : Hid (Blk w3 f 74 #[.int .i64 pl, .iface 55 (.int .i64 2)]) := (hb3.block _ F2.out.lt).trans F2.out
         clear hb3)
      | (go_at_call 79; refine (HPL.out _ _ _ HR3.out).mono ?_; rintro e w4 ⟨T4, F4, hm4, rfl, hr4⟩
         have HM4 := Lib.hid (HM3.out.trans hm4)
         have B4 := Lib.hid (B3.out.moves hm4 (HFT.out _ (Nat.le_refl _)))
         have F4 := Lib.hid (F3.out.moves hm4 (HR3.out.off F3.out (by decide) (by decide)))
         have F5 := Lib.hid (F4.out.set9_other (blk_ne F4.out B4.out (by decide)) (.bool false) (wv (2 ^ m.takes.length) 0) (wv (2 ^ m.takes.length) 1) (wv (2 ^ m.takes.length) 2) (wv (2 ^ m.takes.length) 3) (wv (2 ^ m.takes.length) 0) (wv (2 ^ m.takes.length) 1) (wv (2 ^ m.takes.length) 2) (wv (2 ^ m.takes.length) 3))
         clear hm4 hr4
         obtain ⟨r0, r1, r2, r3, r4, r5, r6, r7, r8⟩ := cells9 B4.out
         obtain ⟨g0, g1, g2, g3, g4, g5, g6, g7, g8⟩ := frozen9 B4.out))
    all_goals
      go_wp2
      exact bodyPost_ret (v := .tuple #[pcV (placeP m), .iface 70 (.pointer (some ⟨f, 0, none⟩))]) (by simp [results, Tryd.results71, go_sem, r0, r1, r2, r3, r4, r5, r6, r7, r8, placeP]) rfl (pp_bad HX.out (HM4.out.set9 (Nat.le_refl _) _ _ _ _ _ _ _ _ _) rfl F5.out)
  | ok a1 d =>
    have hd := (charF_ok hc1).2.2
    rw [hc1] at HX HC
    dsimp only at HX
    clear hc1
    go_wp2_with fail
    refine (HC.out).mono ?_
    rintro e w2 ⟨hm2, rfl, hr2⟩
    have HR2 := Lib.hid hr2
    have HM2 := Lib.hid (HM1.out.trans hm2)
    have B2 := Lib.hid (B1.out.moves hm2 (HFT.out _ (Nat.le_refl _)))
    clear hm2 hr2
    go_upto_region 4 with fail
    have HO := Lib.hid (fun W => one_any d hd W)
    go_region_with (first
      | (go_at_call 82; refine (HO.out _).mono ?_; rintro e w3 ⟨rfl, hb3⟩
         have HR3 : Hid (Rdr w3 b T F l m a1 o) := ⟨(hb3.block _ HR2.out.blk.lt).trans HR2.out.blk, HR2.out.low, own_below (by exact HR2.out.tk) hb3, own_below (by exact HR2.out.fl) hb3, HR2.out.apart⟩
         have HM3 : Hid (Moves b T F w T F w3) := HM2.out.new (below_of hb3.os hb3.tape hb3.output hb3.size (fun k hk => hb3.block k (Nat.lt_of_lt_of_le hk HM2.out.size)))
         have B3 : Hid (Blk w3 w.heap.size 85 zero9) := (hb3.block _ B2.out.lt).trans B2.out
         clear hb3)
      | (go_at_call 79; refine (HPL.out _ _ _ HR3.out).mono ?_; rintro e w4 ⟨T4, F4, hm4, rfl, hr4⟩
         have HM4 := Lib.hid (HM3.out.trans hm4)
         have HR4 := Lib.hid hr4
         have B4 := Lib.hid (B3.out.moves hm4 (HFT.out _ (Nat.le_refl _)))
         clear hm4 hr4
         obtain ⟨r0, r1, r2, r3, r4, r5, r6, r7, r8⟩ := cells9 B4.out
         obtain ⟨g0, g1, g2, g3, g4, g5, g6, g7, g8⟩ := frozen9 B4.out))
    all_goals
      go_wp2
      exact bodyPost_ret (v := .tuple #[pcV (placeP m), .nilIface]) (by simp [results, Tryd.results71, go_sem, r0, r1, r2, r3, r4, r5, r6, r7, r8, placeP]) rfl (pp_ok HX.out (HM4.out.set9 (Nat.le_refl _) _ _ _ _ _ _ _ _ _) rfl (HR4.out.set9 (HR4.out.off B4.out (by decide) (by decide)) _ _ _ _ _ _ _ _ _))
theorem atom_any (b a o : Nat) (T F : Value) (l : ByteArray) (grp : Nat → Mach → Res) (m : Mach) (w : World) (hr : Rdr w b T F l m a o) (hT : TzT w) (hl : l.size ≤ 200) (ha : a < l.size) (hm : Rx.Good m) (hn : m.takes.length ≤ a) (hg : GC b l o grp) :
    Calls Tryd.prog 71 #[.pointer (some ⟨b, 0, none⟩)] w (PP b T F l o w (atomF l grp a m)) := by
  by_cases h1 : by_ l a = 40
  · exact atom_grp b a o T F l grp m w hr hT hl ha hm hn hg h1
  · by_cases h2 : by_ l a = 91
    · exact atom_cls b a o T F l grp m w hr hT hl ha hm hn hg h2
    · cases h3 : [93, 123, 125, 94, 36, 42, 43, 63].contains (by_ l a) with
      | true => exact atom_bad b a o T F l grp m w hr hT hl ha hm hn hg h3
      | false =>
        by_cases h4 : by_ l a = 46
        · exact atom_dot b a o T F l grp m w hr hT hl ha hm hn hg h4
        · exact atom_char b a o T F l grp m w hr hT hl ha hm hn hg h1 h2 h3 h4
end Go.Proofs.YtahphjaelpgjdaaDoor

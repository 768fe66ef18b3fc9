/- Lemmas. No condition. -/
import Derived.Test.YtmodehfedhgcbaaGreatDoorKWd
namespace Go.Proofs.YtmodehfedhgcbaaGreatDoor.Rg
open Go.RowKit Rx
set_option linter.unusedVariables false

/-! atoms; of a group it is told what it does -/
def GC (b : Nat) (l : ByteArray) (o : Nat) (grp : Nat → Mach → Res) : Prop :=
  ∀ (T F : Value) (m : Mach) (a : Nat) (w : World), Rdr w b T F l m a o → TzT w → a < l.size → Rx.Good m → m.takes.length ≤ a → Calls Tryz.prog 139 #[.pointer (some ⟨b, 0, none⟩)] w (PP b T F l o w (grp a m))
theorem PP.trans {b : Nat} {T F T1 F1 : Value} {l : ByteArray} {o : Nat} {w w1 w' : World} {r : Res} {e : Ending} (h : Moves b T F w T1 F1 w1) (k : PP b T1 F1 l o w1 r e w') : PP b T F l o w r e w' :=
  let ⟨T', F', hm, hr⟩ := k; ⟨T', F', h.trans hm, hr⟩
/-- what a call has answered is laid into a result -/
theorem PP.store {b : Nat} {T F : Value} {l : ByteArray} {o j : Nat} {w W w' : World} {r : Res} {p : Pc} {err : Value} (k : PP b T F l o W r (.returned (.tuple #[pcV p, err])) w') (hM : Moves b T F w T F W) (hj : w.heap.size ≤ j) (hB : Blk w' j 144 zero9) (hb : Blk W j 144 zero9) :
    PP b T F l o w r (.returned (.tuple #[pcV p, err])) (put9 w' j (.bool p.empty) (wv p.first 0) (wv p.first 1) (wv p.first 2) (wv p.first 3) (wv p.last 0) (wv p.last 1) (wv p.last 2) (wv p.last 3)) := by
  obtain ⟨T', F', hm, hr⟩ := k
  refine ⟨T', F', (hM.trans hm).set9 hj _ _ _ _ _ _ _ _ _, ?_⟩
  cases r with
  | bad pl c =>
    obtain ⟨q, err', he, f, hf, hB2⟩ := hr
    exact ⟨q, err', he, f, hf, hB2.set9_other (blk_ne hB2 hB (by decide)) _ _ _ _ _ _ _ _ _⟩
  | ok a m q =>
    exact ⟨hr.1, hr.2.set9 (hr.2.off hB (by decide) (by decide)) _ _ _ _ _ _ _ _ _⟩
set_option maxRecDepth 100000 in
set_option maxHeartbeats 8000000 in
theorem atom_grp (b a o : Nat) (T F : Value) (l : ByteArray) (grp : Nat → Mach → Res) (m : Mach) (w : World) (hr : Rdr w b T F l m a o) (hT : TzT w) (hl : l.size ≤ 200) (ha : a < l.size) (hm : Rx.Good m) (hn : m.takes.length ≤ a) (hg : GC b l o grp) (h1 : by_ l a = 40) :
    Calls Tryz.prog 130 #[.pointer (some ⟨b, 0, none⟩)] w (PP b T F l o w (atomF l grp a m)) := by
  have HX : Hid (atomF l grp a m = grp a m) := by
    show atomF l grp a m = _
    unfold atomF
    rw [if_pos h1]
  have HR := Lib.hid (hr.alloc (.cells zero9 144))
  have HM := Lib.hid ((Moves.refl b T F w).alloc (.cells zero9 144))
  have B0 := Lib.hid (Blk.new w 144 zero9)
  have HFT : Hid (∀ j, w.heap.size ≤ j → ¬ Foot b T F j) := fun j hj hf => by have := (hr.lt_foot hf).1; omega
  have HT := Lib.hid (HM.out.tz hr hT)
  have HGC := Lib.hid hg
  have HMG := Lib.hid hm
  obtain ⟨c, hc⟩ : ∃ c, c = l[a].toNat := ⟨_, rfl⟩
  have hcb : c = by_ l a := by rw [hc, by_eq]
  have hc' : l[a].toNat = c := hc.symm
  clear hr hT hg hm hc
  obtain rfl : c = 40 := by omega
  clear h1 hcb
  go_enter Tryz.func130, Tryz.ntmps130
  go_upto_region 1 with fail
  generalize hW : w.alloc (.cells zero9 144) = W at *
  clear hW
  have q3 := (rd_cells HR.out).2.2.1
  have q4 := (rd_cells HR.out).2.2.2.1
  go_quiet (fail)
  rename_i nq
  have HR1 := Lib.hid (HR.out.drewN nq)
  have HM1 := Lib.hid (HM.out.drewN nq)
  have B1 := Lib.hid (B0.out.drewN nq)
  have HT1 : Hid (TzT (W.drewN nq)) := HT.out
  generalize hW : W.drewN nq = W1 at *
  clear hW HR HM B0 HT q3 q4
  have HC := Lib.hid (HGC.out T F m a W1 HR1.out HT1.out ha HMG.out hn)
  clear HGC
  go_wp2_with fail
  refine (HC.out).mono ?_
  rintro e w2 hpp
  have HP := Lib.hid hpp
  obtain ⟨T2, F2, hm2, hrest⟩ := hpp
  have B2 := Lib.hid (B1.out.moves hm2 (HFT.out _ (Nat.le_refl _)))
  have hv : ∃ p err, e = .returned (.tuple #[pcV p, err]) := by
    clear B2 HP HX
    split at hrest
    · exact ⟨_, _, hrest.choose_spec.choose_spec.1⟩
    · exact ⟨_, _, hrest.1⟩
  obtain ⟨p, err, rfl⟩ := hv
  clear hrest hm2
  obtain ⟨r0, r1, r2, r3, r4, r5, r6, r7, r8⟩ := cells9 B2.out
  obtain ⟨g0, g1, g2, g3, g4, g5, g6, g7, g8⟩ := frozen9 B2.out
  go_wp2
  rw [HX.out]
  exact bodyPost_ret (v := .tuple #[pcV p, err]) (by simp [results, Tryz.results130, go_sem, r0, r1, r2, r3, r4, r5, r6, r7, r8]) rfl (HP.out.store HM1.out (Nat.le_refl _) B2.out B1.out)
set_option maxRecDepth 100000 in
set_option maxHeartbeats 8000000 in
theorem atom_cls (b a o : Nat) (T F : Value) (l : ByteArray) (grp : Nat → Mach → Res) (m : Mach) (w : World) (hr : Rdr w b T F l m a o) (hT : TzT w) (hl : l.size ≤ 200) (ha : a < l.size) (hm : Rx.Good m) (hn : m.takes.length ≤ a) (hg : GC b l o grp) (h1 : by_ l a = 91) :
    Calls Tryz.prog 130 #[.pointer (some ⟨b, 0, none⟩)] w (PP b T F l o w (atomF l grp a m)) := by
  have HX : Hid (atomF l grp a m = classF l a m) := by
    show atomF l grp a m = _
    unfold atomF
    rw [if_neg (by omega), if_pos h1]
  have HR := Lib.hid (hr.alloc (.cells zero9 144))
  have HM := Lib.hid ((Moves.refl b T F w).alloc (.cells zero9 144))
  have B0 := Lib.hid (Blk.new w 144 zero9)
  have HFT : Hid (∀ j, w.heap.size ≤ j → ¬ Foot b T F j) := fun j hj hf => by have := (hr.lt_foot hf).1; omega
  have HT := Lib.hid (HM.out.tz hr hT)
  have HGC := Lib.hid hg
  have HMG := Lib.hid hm
  obtain ⟨c, hc⟩ : ∃ c, c = l[a].toNat := ⟨_, rfl⟩
  have hcb : c = by_ l a := by rw [hc, by_eq]
  have hc' : l[a].toNat = c := hc.symm
  clear hr hT hg hm hc
  obtain rfl : c = 91 := by omega
  clear h1 hcb
  go_enter Tryz.func130, Tryz.ntmps130
  go_upto_region 1 with fail
  generalize hW : w.alloc (.cells zero9 144) = W at *
  clear hW
  have q3 := (rd_cells HR.out).2.2.1
  have q4 := (rd_cells HR.out).2.2.2.1
  go_quiet (fail)
  rename_i nq
  have HR1 := Lib.hid (HR.out.drewN nq)
  have HM1 := Lib.hid (HM.out.drewN nq)
  have B1 := Lib.hid (B0.out.drewN nq)
  have HT1 : Hid (TzT (W.drewN nq)) := HT.out
  generalize hW : W.drewN nq = W1 at *
  clear hW HR HM B0 HT q3 q4
  have HC := Lib.hid (class_any b a o T F l m W1 HR1.out hl ha (by omega) HMG.out.1)
  clear HGC
  go_wp2_with fail
  refine (HC.out).mono ?_
  rintro e w2 hpp
  have HP := Lib.hid hpp
  obtain ⟨T2, F2, hm2, hrest⟩ := hpp
  have B2 := Lib.hid (B1.out.moves hm2 (HFT.out _ (Nat.le_refl _)))
  have hv : ∃ p err, e = .returned (.tuple #[pcV p, err]) := by
    clear B2 HP HX
    split at hrest
    · exact ⟨_, _, hrest.choose_spec.choose_spec.1⟩
    · exact ⟨_, _, hrest.1⟩
  obtain ⟨p, err, rfl⟩ := hv
  clear hrest hm2
  obtain ⟨r0, r1, r2, r3, r4, r5, r6, r7, r8⟩ := cells9 B2.out
  obtain ⟨g0, g1, g2, g3, g4, g5, g6, g7, g8⟩ := frozen9 B2.out
  go_wp2
  rw [HX.out]
  exact bodyPost_ret (v := .tuple #[pcV p, err]) (by simp [results, Tryz.results130, go_sem, r0, r1, r2, r3, r4, r5, r6, r7, r8]) rfl (HP.out.store HM1.out (Nat.le_refl _) B2.out B1.out)
set_option maxRecDepth 100000 in
set_option maxHeartbeats 8000000 in
theorem atom_bad (b a o : Nat) (T F : Value) (l : ByteArray) (grp : Nat → Mach → Res) (m : Mach) (w : World) (hr : Rdr w b T F l m a o) (hT : TzT w) (hl : l.size ≤ 200) (ha : a < l.size) (hm : Rx.Good m) (hn : m.takes.length ≤ a) (hg : GC b l o grp) (h1 : [93, 123, 125, 94, 36, 42, 43, 63].contains (by_ l a) = true) :
    Calls Tryz.prog 130 #[.pointer (some ⟨b, 0, none⟩)] w (PP b T F l o w (atomF l grp a m)) := by
  have HX : Hid (atomF l grp a m = .bad a 2) := by
    show atomF l grp a m = _
    unfold atomF
    have h2 : by_ l a ≠ 40 ∧ by_ l a ≠ 91 := by simp at h1; omega
    rw [if_neg h2.1, if_neg h2.2, if_pos h1]
  have HR := Lib.hid (hr.alloc (.cells zero9 144))
  have HM := Lib.hid ((Moves.refl b T F w).alloc (.cells zero9 144))
  have B0 := Lib.hid (Blk.new w 144 zero9)
  have HFT : Hid (∀ j, w.heap.size ≤ j → ¬ Foot b T F j) := fun j hj hf => by have := (hr.lt_foot hf).1; omega
  have HT := Lib.hid (HM.out.tz hr hT)
  have HGC := Lib.hid hg
  have HMG := Lib.hid hm
  obtain ⟨c, hc⟩ : ∃ c, c = l[a].toNat := ⟨_, rfl⟩
  have hcb : c = by_ l a := by rw [hc, by_eq]
  have hc' : l[a].toNat = c := hc.symm
  clear hr hT hg hm hc
  have h3 : c = 93 ∨ c = 123 ∨ c = 125 ∨ c = 94 ∨ c = 36 ∨ c = 42 ∨ c = 43 ∨ c = 63 := by rw [hcb]; simpa using h1
  clear h1 hcb
  rcases h3 with rfl | rfl | rfl | rfl | rfl | rfl | rfl | rfl
  all_goals
    go_enter Tryz.func130, Tryz.ntmps130
    go_upto_region 1 with fail
    generalize hW : w.alloc (.cells zero9 144) = W at *
    clear hW
    have q3 := (rd_cells HR.out).2.2.1
    have q4 := (rd_cells HR.out).2.2.2.1
    go_quiet (fail)
    rename_i nq
    have HR1 := Lib.hid (HR.out.drewN nq)
    have HM1 := Lib.hid (HM.out.drewN nq)
    have B1 := Lib.hid (B0.out.drewN nq)
    have HT1 : Hid (TzT (W.drewN nq)) := HT.out
    generalize hW : W.drewN nq = W1 at *
    clear hW HR HM B0 HT q3 q4
    have HC := Lib.hid (bad_any b a W1 (rd_cells HR1.out).2.2.2.1)
    clear HGC
    go_wp2_with fail
    refine (HC.out).mono ?_
    rintro e w2 ⟨f, rfl, hf, hb⟩
    have B2 := Lib.hid (B1.out.below hb)
    have HM2 := Lib.hid (HM1.out.below hb)
    have F2 := Lib.hid (hf.set9_other (blk_ne hf B2.out (by decide)) (.bool false) (.int .u64 0) (.int .u64 0) (.int .u64 0) (.int .u64 0) (.int .u64 0) (.int .u64 0) (.int .u64 0) (.int .u64 0))
    clear hf hb
    obtain ⟨r0, r1, r2, r3, r4, r5, r6, r7, r8⟩ := cells9 B2.out
    obtain ⟨g0, g1, g2, g3, g4, g5, g6, g7, g8⟩ := frozen9 B2.out
    go_wp2
    exact bodyPost_ret (v := .tuple #[.agg zero9, .iface 128 (.pointer (some ⟨f, 0, none⟩))]) (by simp [results, Tryz.results130, go_sem, r0, r1, r2, r3, r4, r5, r6, r7, r8]) rfl (pp_bad HX.out (HM2.out.set9 (Nat.le_refl _) _ _ _ _ _ _ _ _ _) pc0_eq F2.out)
set_option maxRecDepth 100000 in
set_option maxHeartbeats 8000000 in
theorem atom_dot (b a o : Nat) (T F : Value) (l : ByteArray) (grp : Nat → Mach → Res) (m : Mach) (w : World) (hr : Rdr w b T F l m a o) (hT : TzT w) (hl : l.size ≤ 200) (ha : a < l.size) (hm : Rx.Good m) (hn : m.takes.length ≤ a) (hg : GC b l o grp) (h1 : by_ l a = 46) :
    Calls Tryz.prog 130 #[.pointer (some ⟨b, 0, none⟩)] w (PP b T F l o w (atomF l grp a m)) := by
  have HX : Hid (atomF l grp a m = .ok (a + 1) (placeM m full) (placeP m)) := by
    show atomF l grp a m = _
    unfold atomF
    rw [if_neg (by omega), if_neg (by omega), if_neg (by rw [h1]; decide), if_pos h1]
  have HR := Lib.hid (hr.alloc (.cells zero9 144))
  have HM := Lib.hid ((Moves.refl b T F w).alloc (.cells zero9 144))
  have B0 := Lib.hid (Blk.new w 144 zero9)
  have HFT : Hid (∀ j, w.heap.size ≤ j → ¬ Foot b T F j) := fun j hj hf => by have := (hr.lt_foot hf).1; omega
  have HT := Lib.hid (HM.out.tz hr hT)
  have HGC := Lib.hid hg
  have HMG := Lib.hid hm
  obtain ⟨c, hc⟩ : ∃ c, c = l[a].toNat := ⟨_, rfl⟩
  have hcb : c = by_ l a := by rw [hc, by_eq]
  have hc' : l[a].toNat = c := hc.symm
  clear hr hT hg hm hc
  obtain rfl : c = 46 := by omega
  clear h1 hcb
  go_enter Tryz.func130, Tryz.ntmps130
  go_upto_region 1 with fail
  generalize hW : w.alloc (.cells zero9 144) = W at *
  clear hW
  have q3 := (rd_cells HR.out).2.2.1
  have q4 := (rd_cells HR.out).2.2.2.1
  go_quiet (fail)
  rename_i nq
  have HR1 := Lib.hid (HR.out.drewN nq)
  have HM1 := Lib.hid (HM.out.drewN nq)
  have B1 := Lib.hid (B0.out.drewN nq)
  have HT1 : Hid (TzT (W.drewN nq)) := HT.out
  generalize hW : W.drewN nq = W1 at *
  clear hW HR HM B0 HT q3 q4
  clear HGC
  have q4 := (rd_cells HR1.out).2.2.2.1
  have qf := HR1.out.blk.frozen 12
  go_upto_region 20 with fail
  have HR2 := Lib.hid (HR1.out.set_at (a + 1) (.int .i64 ((a : Int) + 1)) (by rfl))
  have HM2 := Lib.hid (HM1.out.set_foot (foot_self b T F) 12 (.int .i64 ((a : Int) + 1)))
  have B2 := Lib.hid (B1.out.other (k := b) (fun e => HFT.out _ (Nat.le_refl _) (.inl e)) 12 (.int .i64 ((a : Int) + 1)))
  generalize hW : W1.setCell ⟨b, 12, none⟩ (.int .i64 ((a : Int) + 1)) = W2 at *
  clear hW HR1 HM1 B1 HT1 q4 qf
  have HN0 : Hid (∀ W, Calls Tryz.prog 142 #[.agg #[.int .u64 0, .int .u64 0, .int .u64 0, .int .u64 0]] W fun e w' => e = .returned (setV full) ∧ Below W.heap.size W w') := fun W => by
    have := not_any 0 (by decide) W
    unfold setV at this
    rw [wv_zero, wv_zero, wv_zero, wv_zero] at this
    exact this
  have HPL := Lib.hid (fun X (hX : Rdr X b T F l m (a + 1) o) => place_any b (a + 1) o full T F l m X hX (by omega) HMG.out.1)
  go_region_with (first
    | (go_at_call 142; refine (HN0.out _).mono ?_; rintro e w3 ⟨rfl, hb3⟩
       have HR3 : Hid (Rdr w3 b T F l m (a + 1) o) := ⟨(hb3.block _ HR2.out.blk.lt).trans HR2.out.blk, HR2.out.low, own_below (by exact HR2.out.tk) hb3, own_below (by exact HR2.out.fl) hb3, HR2.out.apart⟩
       have HM3 : Hid (Moves b T F w T F w3) := HM2.out.new (below_of hb3.os hb3.tape hb3.output hb3.size (fun k hk => hb3.block k (Nat.lt_of_lt_of_le hk HM2.out.size)))
       have B3 : Hid (Blk w3 w.heap.size 144 zero9) := (hb3.block _ B2.out.lt).trans B2.out
       clear hb3)
    | (go_at_call 141; refine (HPL.out _ HR3.out).mono ?_; rintro e w4 ⟨T4, F4, hm4, rfl, hr4⟩
       have HM4 := Lib.hid (HM3.out.trans hm4)
       have HR4 := Lib.hid hr4
       have B4 := Lib.hid (B3.out.moves hm4 (HFT.out _ (Nat.le_refl _)))
       clear hm4 hr4
       obtain ⟨r0, r1, r2, r3, r4, r5, r6, r7, r8⟩ := cells9 B4.out
       obtain ⟨g0, g1, g2, g3, g4, g5, g6, g7, g8⟩ := frozen9 B4.out))
  all_goals
    go_wp2
    exact bodyPost_ret (v := .tuple #[pcV (placeP m), .nilIface]) (by simp [results, Tryz.results130, go_sem, r0, r1, r2, r3, r4, r5, r6, r7, r8, placeP]) rfl (pp_ok HX.out (HM4.out.set9 (Nat.le_refl _) _ _ _ _ _ _ _ _ _) rfl (HR4.out.set9 (HR4.out.off B4.out (by decide) (by decide)) _ _ _ _ _ _ _ _ _))
set_option maxRecDepth 100000 in
set_option maxHeartbeats 8000000 in
theorem atom_char (b a o : Nat) (T F : Value) (l : ByteArray) (grp : Nat → Mach → Res) (m : Mach) (w : World) (hr : Rdr w b T F l m a o) (hT : TzT w) (hl : l.size ≤ 200) (ha : a < l.size) (hm : Rx.Good m) (hn : m.takes.length ≤ a) (hg : GC b l o grp) (h1 : by_ l a ≠ 40) (h2 : by_ l a ≠ 91) (h3 : [93, 123, 125, 94, 36, 42, 43, 63].contains (by_ l a) = false) (h4 : by_ l a ≠ 46) :
    Calls Tryz.prog 130 #[.pointer (some ⟨b, 0, none⟩)] w (PP b T F l o w (atomF l grp a m)) := by
  have HX : Hid (atomF l grp a m = match charF l a with | .bad pl => .bad pl 2 | .ok a1 c => .ok a1 (placeM m (2 ^ c)) (placeP m)) := by
    show atomF l grp a m = _
    unfold atomF
    rw [if_neg h1, if_neg h2, if_neg (by rw [h3]; simp), if_neg h4]
    cases charF l a <;> rfl
  have HR := Lib.hid (hr.alloc (.cells zero9 144))
  have HM := Lib.hid ((Moves.refl b T F w).alloc (.cells zero9 144))
  have B0 := Lib.hid (Blk.new w 144 zero9)
  have HFT : Hid (∀ j, w.heap.size ≤ j → ¬ Foot b T F j) := fun j hj hf => by have := (hr.lt_foot hf).1; omega
  have HT := Lib.hid (HM.out.tz hr hT)
  have HGC := Lib.hid hg
  have HMG := Lib.hid hm
  obtain ⟨c, hc⟩ : ∃ c, c = l[a].toNat := ⟨_, rfl⟩
  have hcb : c = by_ l a := by rw [hc, by_eq]
  have hc' : l[a].toNat = c := hc.symm
  clear hr hT hg hm hc
  have h5 : c ≠ 93 ∧ c ≠ 123 ∧ c ≠ 125 ∧ c ≠ 94 ∧ c ≠ 36 ∧ c ≠ 42 ∧ c ≠ 43 ∧ c ≠ 63 := by rw [hcb]; simpa using h3
  have e40 : ((c : Int) == 40) = false := by simp; omega
  have e91 : ((c : Int) == 91) = false := by simp; omega
  have e46 : ((c : Int) == 46) = false := by simp; omega
  have e93 : ((c : Int) == 93) = false := by simp; omega
  have e123 : ((c : Int) == 123) = false := by simp; omega
  have e125 : ((c : Int) == 125) = false := by simp; omega
  have e94 : ((c : Int) == 94) = false := by simp; omega
  have e36 : ((c : Int) == 36) = false := by simp; omega
  have e42 : ((c : Int) == 42) = false := by simp; omega
  have e43 : ((c : Int) == 43) = false := by simp; omega
  have e63 : ((c : Int) == 63) = false := by simp; omega
  clear h1 h2 h3 h4 h5 hcb
  go_enter Tryz.func130, Tryz.ntmps130
  go_upto_region 1 with fail
  generalize hW : w.alloc (.cells zero9 144) = W at *
  clear hW
  have q3 := (rd_cells HR.out).2.2.1
  have q4 := (rd_cells HR.out).2.2.2.1
  go_quiet (fail)
  rename_i nq
  have HR1 := Lib.hid (HR.out.drewN nq)
  have HM1 := Lib.hid (HM.out.drewN nq)
  have B1 := Lib.hid (B0.out.drewN nq)
  have HT1 : Hid (TzT (W.drewN nq)) := HT.out
  generalize hW : W.drewN nq = W1 at *
  clear hW HR HM B0 HT q3 q4
  clear HGC
  have HC := Lib.hid (char_any b a o T F l m W1 HR1.out hl (by omega))
  have HPL := Lib.hid (fun X a1 t (hX : Rdr X b T F l m a1 o) => place_any b a1 o t T F l m X hX (by omega) HMG.out.1)
  cases hc1 : charF l a with
  | bad pl =>
    rw [hc1] at HX HC
    dsimp only at HX
    clear hc1
    go_wp2_with fail
    refine (HC.out).mono ?_
    rintro e w2 ⟨hm2, err, rfl, ⟨f, rfl, hf⟩, hr2⟩
    have HR2 := Lib.hid hr2
    have HM2 := Lib.hid (HM1.out.trans hm2)
    have B2 := Lib.hid (B1.out.moves hm2 (HFT.out _ (Nat.le_refl _)))
    have F2 := Lib.hid hf
    clear hm2 hr2 hf
    go_upto_region 4 with fail
    have HO := Lib.hid (fun W => one_any 0 (by decide) W)
    go_region_with (first
      | (go_at_call 144; refine (HO.out _).mono ?_; rintro e w3 ⟨rfl, hb3⟩
         have HR3 : Hid (Rdr w3 b T F l m pl o) := ⟨(hb3.block _ HR2.out.blk.lt).trans HR2.out.blk, HR2.out.low, own_below (by exact HR2.out.tk) hb3, own_below (by exact HR2.out.fl) hb3, HR2.out.apart⟩
         have HM3 : Hid (Moves b T F w T F w3) := HM2.out.new (below_of hb3.os hb3.tape hb3.output hb3.size (fun k hk => hb3.block k (Nat.lt_of_lt_of_le hk HM2.out.size)))
         have B3 : Hid (Blk w3 w.heap.size 144 zero9) := (hb3.block _ B2.out.lt).trans B2.out
         have F3 : Hid (Blk w3 f 130 #[.int .i64 pl, .iface 41 (.int .i64 2)]) := (hb3.block _ F2.out.lt).trans F2.out
         clear hb3)
      | (go_at_call 141; refine (HPL.out _ _ _ HR3.out).mono ?_; rintro e w4 ⟨T4, F4, hm4, rfl, hr4⟩
         have HM4 := Lib.hid (HM3.out.trans hm4)
         have B4 := Lib.hid (B3.out.moves hm4 (HFT.out _ (Nat.le_refl _)))
         have F4 := Lib.hid (F3.out.moves hm4 (HR3.out.off F3.out (by decide) (by decide)))
         have F5 := Lib.hid (F4.out.set9_other (blk_ne F4.out B4.out (by decide)) (.bool false) (wv (2 ^ m.takes.length) 0) (wv (2 ^ m.takes.length) 1) (wv (2 ^ m.takes.length) 2) (wv (2 ^ m.takes.length) 3) (wv (2 ^ m.takes.length) 0) (wv (2 ^ m.takes.length) 1) (wv (2 ^ m.takes.length) 2) (wv (2 ^ m.takes.length) 3))
         clear hm4 hr4
         obtain ⟨r0, r1, r2, r3, r4, r5, r6, r7, r8⟩ := cells9 B4.out
         obtain ⟨g0, g1, g2, g3, g4, g5, g6, g7, g8⟩ := frozen9 B4.out))
    all_goals
      go_wp2
      exact bodyPost_ret (v := .tuple #[pcV (placeP m), .iface 128 (.pointer (some ⟨f, 0, none⟩))]) (by simp [results, Tryz.results130, go_sem, r0, r1, r2, r3, r4, r5, r6, r7, r8, placeP]) rfl (pp_bad HX.out (HM4.out.set9 (Nat.le_refl _) _ _ _ _ _ _ _ _ _) rfl F5.out)
  | ok a1 d =>
    have hd := (charF_ok hc1).2.2
    rw [hc1] at HX HC
    dsimp only at HX
    clear hc1
    go_wp2_with fail
    refine (HC.out).mono ?_
    rintro e w2 ⟨hm2, rfl, hr2⟩
    have HR2 := Lib.hid hr2
    have HM2 := Lib.hid (HM1.out.trans hm2)
    have B2 := Lib.hid (B1.out.moves hm2 (HFT.out _ (Nat.le_refl _)))
    clear hm2 hr2
    go_upto_region 4 with fail
    have HO := Lib.hid (fun W => one_any d hd W)
    go_region_with (first
      | (go_at_call 144; refine (HO.out _).mono ?_; rintro e w3 ⟨rfl, hb3⟩
         have HR3 : Hid (Rdr w3 b T F l m a1 o) := ⟨(hb3.block _ HR2.out.blk.lt).trans HR2.out.blk, HR2.out.low, own_below (by exact HR2.out.tk) hb3, own_below (by exact HR2.out.fl) hb3, HR2.out.apart⟩
         have HM3 : Hid (Moves b T F w T F w3) := HM2.out.new (below_of hb3.os hb3.tape hb3.output hb3.size (fun k hk => hb3.block k (Nat.lt_of_lt_of_le hk HM2.out.size)))
         have B3 : Hid (Blk w3 w.heap.size 144 zero9) := (hb3.block _ B2.out.lt).trans B2.out
         clear hb3)
      | (go_at_call 141; refine (HPL.out _ _ _ HR3.out).mono ?_; rintro e w4 ⟨T4, F4, hm4, rfl, hr4⟩
         have HM4 := Lib.hid (HM3.out.trans hm4)
         have HR4 := Lib.hid hr4
         have B4 := Lib.hid (B3.out.moves hm4 (HFT.out _ (Nat.le_refl _)))
         clear hm4 hr4
         obtain ⟨r0, r1, r2, r3, r4, r5, r6, r7, r8⟩ := cells9 B4.out
         obtain ⟨g0, g1, g2, g3, g4, g5, g6, g7, g8⟩ := frozen9 B4.out))
    all_goals
      go_wp2
      exact bodyPost_ret (v := .tuple #[pcV (placeP m), .nilIface]) (by simp [results, Tryz.results130, go_sem, r0, r1, r2, r3, r4, r5, r6, r7, r8, placeP]) rfl (pp_ok HX.out (HM4.out.set9 (Nat.le_refl _) _ _ _ _ _ _ _ _ _) rfl (HR4.out.set9 (HR4.out.off B4.out (by decide) (by decide)) _ _ _ _ _ _ _ _ _))
theorem atom_any (b a o : Nat) (T F : Value) (l : ByteArray) (grp : Nat → Mach → Res) (m : Mach) (w : World) (hr : Rdr w b T F l m a o) (hT : TzT w) (hl : l.size ≤ 200) (ha : a < l.size) (hm : Rx.Good m) (hn : m.takes.length ≤ a) (hg : GC b l o grp) :
    Calls Tryz.prog 130 #[.pointer (some ⟨b, 0, none⟩)] w (PP b T F l o w (atomF l grp a m)) := by
  by_cases h1 : by_ l a = 40
  · exact atom_grp b a o T F l grp m w hr hT hl ha hm hn hg h1
  · by_cases h2 : by_ l a = 91
    · exact atom_cls b a o T F l grp m w hr hT hl ha hm hn hg h2
    · cases h3 : [93, 123, 125, 94, 36, 42, 43, 63].contains (by_ l a) with
      | true => exact atom_bad b a o T F l grp m w hr hT hl ha hm hn hg h3
      | false =>
        by_cases h4 : by_ l a = 46
        · exact atom_dot b a o T F l grp m w hr hT hl ha hm hn hg h4
        · exact atom_char b a o T F l grp m w hr hT hl ha hm hn hg h1 h2 h3 h4
end Go.Proofs.YtmodehfedhgcbaaGreatDoor.Rg

namespace Go.Proofs.YtmodehfedhgcbaaGreatDoor.Rg
open Go.RowKit Rx
set_option linter.unusedVariables false

/-! a part of a pattern, repeated or not -/
theorem PP.shape {b : Nat} {T F : Value} {l : ByteArray} {o : Nat} {w w' : World} {r : Res} {e : Ending} (h : PP b T F l o w r e w') : ∃ p err, e = .returned (.tuple #[pcV p, err]) := by
  obtain ⟨T', F', hm, hr⟩ := h
  cases r with
  | bad pl c => obtain ⟨p, err, he, _⟩ := hr; exact ⟨p, err, he⟩
  | ok a m p => exact ⟨p, _, hr.1⟩
theorem Blk.pc_of (w : World) (p : Pc) : Blk (put9 (w.alloc (.cells zero9 144)) w.heap.size (.bool p.empty) (wv p.first 0) (wv p.first 1) (wv p.first 2) (wv p.first 3) (wv p.last 0) (wv p.last 1) (wv p.last 2) (wv p.last 3)) w.heap.size 144 (pcC p) := (Blk.new w 144 zero9).set9 _ _ _ _ _ _ _ _ _
def nest9 (w : World) (j : Nat) (p : Pc) : World := put9 w j (.bool p.empty) (wv p.first 0) (wv p.first 1) (wv p.first 2) (wv p.first 3) (wv p.last 0) (wv p.last 1) (wv p.last 2) (wv p.last 3)
set_option maxRecDepth 100000 in
set_option maxHeartbeats 8000000 in
theorem rep_any (b a o : Nat) (T F : Value) (l : ByteArray) (grp : Nat → Mach → Res) (m : Mach) (w : World) (hr : Rdr w b T F l m a o) (hT : TzT w) (hl : l.size ≤ 200) (ha : a < l.size) (hm : Rx.Good m) (hn : m.takes.length ≤ a) (hg : GC b l o grp) (hf : FineG l grp) :
    Calls Tryz.prog 118 #[.pointer (some ⟨b, 0, none⟩)] w (PP b T F l o w (repF l grp a m)) := by
  have HR := Lib.hid (hr.alloc (.cells zero9 144))
  have HM := Lib.hid ((Moves.refl b T F w).alloc (.cells zero9 144))
  have B0 := Lib.hid (Blk.new w 144 zero9)
  have HFT : Hid (∀ j, w.heap.size ≤ j → ¬ Foot b T F j) := fun j hj hf => by have := (hr.lt_foot hf).1; omega
  have HT := Lib.hid (HM.out.tz hr hT)
  have HA := Lib.hid (atom_any b a o T F l grp m _ HR.out HT.out hl ha hm hn hg)
  have HFI := Lib.hid (atom_fine hf ha hm)
  have HX : Hid (∀ r, atomF l grp a m = r → repF l grp a m = match r with | .bad pl c => .bad pl c | .ok a1 m1 p => repL l (l.size + 1) a1 m1 p) := fun r h => by subst h; unfold repF; cases atomF l grp a m <;> rfl
  clear hr hT hg hm hf
  go_enter Tryz.func118, Tryz.ntmps118
  go_wp2_with fail
  refine (HA.out).mono ?_
  rintro e w1 ⟨T1, F1, hm1, hrest⟩
  have HM1 := Lib.hid (HM.out.trans hm1)
  have B1 := Lib.hid (B0.out.moves hm1 (HFT.out _ (Nat.le_refl _)))
  have hlt : w.heap.size < w1.heap.size := B1.out.lt
  have HT1 : Hid (TzT w1) := hm1.tz HR.out HT.out
  have hne : w.heap.size ≠ w1.heap.size := by omega
  clear hm1 HA HR HM B0 HT
  cases hA : atomF l grp a m with
  | bad pl c =>
    rw [hA] at hrest
    obtain ⟨p0, err, rfl, f, rfl, hB⟩ := hrest
    have J1 := Lib.hid (Blk.new w1 144 (pcC p0))
    have JR := Lib.hid (B1.out.alloc (.cells (pcC p0) 144))
    have JM := Lib.hid ((Moves.refl b T1 F1 w1).alloc (.cells (pcC p0) 144))
    have HF := Lib.hid (hB.alloc (.cells (pcC p0) 144))
    have HX1 := Lib.hid (HX.out _ hA)
    clear hA HX HFI hB
    obtain ⟨pe0, pf0, pl0⟩ := p0
    go_upto_region 2 with fail
    generalize hW : w1.alloc (.cells (pcC _) 144) = W2 at *
    clear hW
    refine wp_loop_rounds 1 ?_
    rw [rounds_succ]
    obtain ⟨x0, x1, x2, x3, x4, x5, x6, x7, x8⟩ := cells9 J1.out
    obtain ⟨r0, r1, r2, r3, r4, r5, r6, r7, r8⟩ := cells9 JR.out
    obtain ⟨g0, g1, g2, g3, g4, g5, g6, g7, g8⟩ := frozen9 JR.out
    go_wp2
    exact bodyPost_ret (v := .tuple #[pcV ⟨pe0, pf0, pl0⟩, .iface 128 (.pointer (some ⟨f, 0, none⟩))]) (by simp [results, Tryz.results118, go_sem, r0, r1, r2, r3, r4, r5, r6, r7, r8]) rfl (pp_bad HX1.out ((HM1.out.trans JM.out).set9 (Nat.le_refl _) _ _ _ _ _ _ _ _ _) rfl (HF.out.set9_other (blk_ne HF.out JR.out (by decide)) _ _ _ _ _ _ _ _ _))
  | ok a1 m1 p1 =>
    rw [hA] at hrest
    obtain ⟨rfl, hR1⟩ := hrest
    obtain ⟨f1, f2, f3, f4, f5, f6⟩ := HFI.out a1 m1 p1 hA
    have HX1 := Lib.hid (HX.out _ hA)
    have J1 := Lib.hid (Blk.new w1 144 (pcC p1))
    have HR2 := Lib.hid (hR1.alloc (.cells (pcC p1) 144))
    have JM := Lib.hid ((Moves.refl b T1 F1 w1).alloc (.cells (pcC p1) 144))
    have HFU : Hid (∀ j, w1.heap.size ≤ j → ¬ Foot b T1 F1 j) := fun j hj hf => by have := (hR1.lt_foot hf).1; omega
    have HFB : Hid (¬ Foot b T1 F1 w.heap.size) := hR1.off B1.out (by decide) (by decide)
    have HQ1 : Hid (Rx.Good m1 ∧ PcIn m1.takes.length p1 ∧ m1.takes.length ≤ a1) := ⟨f3, f4, by omega⟩
    clear hA HX HFI f3 f4 f5 f6
    have HR1 := Lib.hid hR1
    clear hR1
    have HJ1 : Hid (∃ p : Pc, p = p1) := ⟨_, rfl⟩
    obtain ⟨pe0, pf0, pl0⟩ := p1
    go_upto_region 2 with fail
    generalize hW : w1.alloc (.cells (pcC _) 144) = W2 at *
    clear hW
    go_loopw [11, 12] (fun s11 s12 wr => ∃ (k a' : Nat) (m' : Mach) (p' : Pc), l.size < k + a' ∧ a' ≤ l.size ∧ Hid (Rdr wr b T1 F1 l m' a' o) ∧ Hid (Moves b T1 F1 w1 T1 F1 wr) ∧ Hid (Blk wr w1.heap.size 144 (pcC p')) ∧ Hid (Rx.Good m' ∧ PcIn m'.takes.length p' ∧ m'.takes.length ≤ a') ∧ Hid (repF l grp a m = repL l k a' m' p')) (fun s11 s12 wr => l.size - atOf wr b)
    case atStart => exact ⟨l.size + 1, a1, m1, ⟨pe0, pf0, pl0⟩, by omega, f2, HR2, JM, J1, HQ1, HX1⟩
    case round =>
      obtain ⟨k, a', m', p', hk, ha', HRr, HMr, Jr, HQr, HE⟩ := hrel
      have HMEAS : Hid (atOf wr b = a') := HRr.out.at_of
      have HTr : Hid (TzT wr) := HMr.out.tz HR1.out HT1.out
      have HS := Lib.hid (sees_is b a' l ⟨#[42, 43, 63]⟩ [42, 43, 63] sg_rep wr hl ha' (rd_cells HRr.out).2.2.1 (rd_cells HRr.out).2.2.2.1)
      obtain ⟨k', rfl⟩ : ∃ k', k = k' + 1 := ⟨k - 1, by omega⟩
      obtain ⟨pe, pf, pl⟩ := p'
      cases hs : seesAny l a' [42, 43, 63] with
      | false =>
        rw [hs] at HS
        have HE2 : Hid (repF l grp a m = .ok a' m' ⟨pe, pf, pl⟩) := by
          show repF l grp a m = _
          rw [HE.out]; unfold repL; rw [hs]; rfl
        clear hs HE HX1
        go_wp2_with fail
        refine (HS.out).mono ?_
        rintro e w3 ⟨rfl, n3, rfl⟩
        have HR3 := Lib.hid (HRr.out.drewN n3)
        have HM3 := Lib.hid (HMr.out.drewN n3)
        have J3 := Lib.hid (Jr.out.drewN n3)
        have B3 := Lib.hid (B1.out.moves HM3.out HFB.out)
        generalize hW : wr.drewN n3 = W3 at *
        clear hW HRr HMr Jr HTr HS
        obtain ⟨x0, x1, x2, x3, x4, x5, x6, x7, x8⟩ := cells9 J3.out
        obtain ⟨r0, r1, r2, r3, r4, r5, r6, r7, r8⟩ := cells9 B3.out
        obtain ⟨g0, g1, g2, g3, g4, g5, g6, g7, g8⟩ := frozen9 B3.out
        go_wp2
        exact bodyPost_ret (v := .tuple #[pcV ⟨pe, pf, pl⟩, .nilIface]) (by simp [results, Tryz.results118, go_sem, r0, r1, r2, r3, r4, r5, r6, r7, r8]) rfl (pp_ok HE2.out ((HM1.out.trans HM3.out).set9 (Nat.le_refl _) _ _ _ _ _ _ _ _ _) rfl (HR3.out.set9 (HR3.out.off B3.out (by decide) (by decide)) _ _ _ _ _ _ _ _ _))
      | true =>
        rw [hs] at HS
        have hlt1 := seesAny_lt hs
        have HE2 : Hid (repF l grp a m = repL l k' (a' + 1) (repM m' ⟨pe, pf, pl⟩ (by_ l a')) (repP ⟨pe, pf, pl⟩ (by_ l a'))) := by
          show repF l grp a m = _
          rw [HE.out]; conv => lhs; unfold repL
          rw [hs]; rfl
        have HQ2 : Hid (Rx.Good (repM m' ⟨pe, pf, pl⟩ (by_ l a')) ∧ PcIn (repM m' ⟨pe, pf, pl⟩ (by_ l a')).takes.length (repP ⟨pe, pf, pl⟩ (by_ l a')) ∧ (repM m' ⟨pe, pf, pl⟩ (by_ l a')).takes.length ≤ a' + 1) := by
          have q := HQr.out.1.rep HQr.out.2.1 (by_ l a')
          refine ⟨q.1, by rw [q.2.2]; exact q.2.1, by rw [q.2.2]; have := HQr.out.2.2; omega⟩
        clear hs HE HX1
        go_wp2_with fail
        refine (HS.out).mono ?_
        rintro e w3 ⟨rfl, n3, rfl⟩
        have HR3 := Lib.hid (HRr.out.drewN n3)
        have HM3 := Lib.hid (HMr.out.drewN n3)
        have J3 := Lib.hid (Jr.out.drewN n3)
        have HT3 : Hid (TzT (wr.drewN n3)) := HTr.out
        generalize hW : wr.drewN n3 = W3 at *
        clear hW HRr HMr Jr HTr HS
        obtain ⟨c, hc⟩ : ∃ c, c = l[a'].toNat := ⟨_, rfl⟩
        have hc' : l[a'].toNat = c := hc.symm
        have HCB : Hid (by_ l a' = c) := by show by_ l a' = c; rw [hc, by_eq]
        have hb0 : (0 : Int) ≤ (a' : Int) := by omega
        have hb1 : (a' : Int) < (l.size : Int) := by omega
        rw [HCB.out] at HE2 HQ2
        have HRP : Hid (∀ X, Rdr X b T1 F1 l m' a' o → TzT X → Calls Tryz.prog 131 #[.pointer (some ⟨b, 0, none⟩), pcV ⟨pe, pf, pl⟩, .int .u8 c] X (ChainP b T1 F1 l a' o X (repM m' ⟨pe, pf, pl⟩ c) (repP ⟨pe, pf, pl⟩ c))) := fun X h1 h2 => repeat_any b a' o c ⟨pe, pf, pl⟩ T1 F1 l m' X h1 h2 (by rw [HQr.out.1.1]; exact HQr.out.2.1.2) (by rw [HQr.out.1.1]; have := HQr.out.2.2; omega)
        have c3 := (rd_cells HR3.out).2.2.1
        have c4 := (rd_cells HR3.out).2.2.2.1
        obtain ⟨x0, x1, x2, x3, x4, x5, x6, x7, x8⟩ := cells9 J3.out
        have HNJ : Hid (b ≠ w1.heap.size) := fun e => HFU.out _ (Nat.le_refl _) (.inl e.symm)
        have HR3d : Hid (Rdr W3.drew b T1 F1 l m' a' o) := HR3.out.below (below_drew _)
        have HT3d : Hid (TzT W3.drew) := HT3.out
        clear hc
        generalize hmq : repM m' ⟨pe, pf, pl⟩ c = mq at *
        generalize hq : repP ⟨pe, pf, pl⟩ c = q at *
        obtain ⟨qe, qf, ql⟩ := q
        clear hq hmq
        go_upto_region 3 with fail
        go_cut [] from 17 to 30 (fun wx => ∃ W6 : World, W6 = wx ∧ Hid (Rdr W6 b T1 F1 l mq a' o) ∧ Hid (Moves b T1 F1 w1 T1 F1 W6) ∧ Hid (Blk W6 w1.heap.size 144 (pcC ⟨qe, qf, ql⟩)))
        case first =>
          clear HE2 HQ2 HQr
          refine wp_region_noPanic ?_
          go_region_with
            (first
              | (go_at_call 131; refine (HRP.out W3.drew HR3d.out HT3d.out).mono ?_; rintro e w5 ⟨rfl, hr5, hm5⟩
                 have HR5 := Lib.hid hr5
                 have k3 := (rd_cells hr5).2.2.1
                 have k4 := (rd_cells hr5).2.2.2.1
                 have HM5 := Lib.hid (HM3.out.drew.trans hm5)
                 have J5 := Lib.hid (Blk.moves (w := W3.drew) (by exact J3.out) hm5 (HFU.out _ (Nat.le_refl _)))
                 obtain ⟨z0, z1, z2, z3, z4, z5, z6, z7, z8⟩ := cells9 J5.out
                 obtain ⟨g0, g1, g2, g3, g4, g5, g6, g7, g8⟩ := frozen9 J5.out
                 clear hr5 hm5))
          all_goals
            have J6 := Lib.hid (J5.out.set9 (.bool qe) (wv qf 0) (wv qf 1) (wv qf 2) (wv qf 3) (wv ql 0) (wv ql 1) (wv ql 2) (wv ql 3))
            have HR6 := Lib.hid (HR5.out.set9 (HFU.out _ (Nat.le_refl _)) (.bool qe) (wv qf 0) (wv qf 1) (wv qf 2) (wv qf 3) (wv ql 0) (wv ql 1) (wv ql 2) (wv ql 3))
            have HM6 := Lib.hid (HM5.out.set9 (Nat.le_refl _) (.bool qe) (wv qf 0) (wv qf 1) (wv qf 2) (wv qf 3) (wv ql 0) (wv ql 1) (wv ql 2) (wv ql 3))
            unfold put9 at J6 HR6 HM6
            refine NoPanic.normal ?_
            generalize hW : (((((((((w5.setCell ⟨w1.heap.size, 0, none⟩ (.bool qe)).setCell ⟨w1.heap.size, 1, none⟩ (wv qf 0)).setCell ⟨w1.heap.size, 2, none⟩ (wv qf 1)).setCell ⟨w1.heap.size, 3, none⟩ (wv qf 2)).setCell ⟨w1.heap.size, 4, none⟩ (wv qf 3)).setCell ⟨w1.heap.size, 5, none⟩ (wv ql 0)).setCell ⟨w1.heap.size, 6, none⟩ (wv ql 1)).setCell ⟨w1.heap.size, 7, none⟩ (wv ql 2)).setCell ⟨w1.heap.size, 8, none⟩ (wv ql 3)) = W6 at *
            clear hW J5 HR5 HM5 k3 k4 c3 c4 x0 x1 x2 x3 x4 x5 x6 x7 x8 z0 z1 z2 z3 z4 z5 z6 z7 z8 g0 g1 g2 g3 g4 g5 g6 g7 g8
            go_wp2_with fail
            go_meet
            exact ⟨_, rfl, HR6, HM6, J6⟩
        case rest =>
          obtain ⟨W6, rfl, HR6, HM6, J6⟩ := hcut
          clear J3 HR3 HM3 HR3d HT3d HT3 c3 c4 x0 x1 x2 x3 x4 x5 x6 x7 x8 hc' HRP
          have c4 := (rd_cells HR6.out).2.2.2.1
          have cf := HR6.out.blk.frozen 12
          go_wp2
          have HR7 := Lib.hid (HR6.out.set_at (a' + 1) (.int .i64 ((a' : Int) + 1)) (by rfl))
          have HM7 := Lib.hid (HM6.out.set_foot (foot_self b T1 F1) 12 (.int .i64 ((a' : Int) + 1)))
          have J7 := Lib.hid (J6.out.other (k := b) (fun e => HNJ.out e.symm) 12 (.int .i64 ((a' : Int) + 1)))
          have HA7 : Hid (atOf (W6.setCell ⟨b, 12, none⟩ (.int .i64 ((a' : Int) + 1))) b = a' + 1) := HR7.out.at_of
          go_roundw
          case rel => exact ⟨k', a' + 1, mq, ⟨qe, qf, ql⟩, by omega, by omega, HR7, HM7, J7, HQ2, HE2⟩
          case measure =>
            rw [HA7.out, HMEAS.out]
            omega
end Go.Proofs.YtmodehfedhgcbaaGreatDoor.Rg

namespace Go.Proofs.YtmodehfedhgcbaaGreatDoor.Rg
open Go.RowKit Rx
set_option linter.unusedVariables false

/-! one part behind another -/
set_option maxRecDepth 100000 in
set_option maxHeartbeats 8000000 in
theorem cat_any (b a o : Nat) (T F : Value) (l : ByteArray) (grp : Nat → Mach → Res) (m : Mach) (w : World) (hr : Rdr w b T F l m a o) (hT : TzT w) (hl : l.size ≤ 200) (ha : a ≤ l.size) (hm : Rx.Good m) (hn : m.takes.length ≤ a) (hg : GC b l o grp) (hf : FineG l grp) :
    Calls Tryz.prog 102 #[.pointer (some ⟨b, 0, none⟩)] w (PP b T F l o w (catF l grp a m)) := by
  have HR := Lib.hid (hr.alloc (.cells zero9 144))
  have HM := Lib.hid ((Moves.refl b T F w).alloc (.cells zero9 144))
  have B0 := Lib.hid (Blk.new w 144 zero9)
  have HT := Lib.hid (HM.out.tz hr hT)
  have HFT : Hid (∀ j, w.heap.size ≤ j → ¬ Foot b T F j) := fun j hj hf => by have := (hr.lt_foot hf).1; omega
  have HG := Lib.hid hg
  have HFG := Lib.hid hf
  have HQ1 : Hid (Rx.Good m ∧ PcIn m.takes.length unit ∧ m.takes.length ≤ a) := ⟨hm, unit_in _, hn⟩
  clear hr hT hg hm hf hn
  go_enter Tryz.func102, Tryz.ntmps102
  go_upto_region 1 with fail
  generalize hW : w.alloc (.cells zero9 144) = W at *
  clear hW
  have J1 : Hid (Blk (W.alloc (.cells #[.bool true, .int .u64 0, .int .u64 0, .int .u64 0, .int .u64 0, .int .u64 0, .int .u64 0, .int .u64 0, .int .u64 0] 144)) W.heap.size 144 (pcC unit)) := by
    show Blk _ _ _ _
    unfold pcC unit
    simp only [wv_zero]
    exact Blk.new W 144 _
  have HR2 := Lib.hid (HR.out.alloc (.cells #[.bool true, .int .u64 0, .int .u64 0, .int .u64 0, .int .u64 0, .int .u64 0, .int .u64 0, .int .u64 0, .int .u64 0] 144))
  have JM := Lib.hid ((Moves.refl b T F W).alloc (.cells #[.bool true, .int .u64 0, .int .u64 0, .int .u64 0, .int .u64 0, .int .u64 0, .int .u64 0, .int .u64 0, .int .u64 0] 144))
  have hlt : w.heap.size < W.heap.size := B0.out.lt
  have hne : w.heap.size ≠ W.heap.size := by omega
  go_upto_region 2 with fail
  generalize hW : W.alloc (.cells #[.bool true, .int .u64 0, .int .u64 0, .int .u64 0, .int .u64 0, .int .u64 0, .int .u64 0, .int .u64 0, .int .u64 0] 144) = W2 at *
  clear hW
  go_loopw [5, 6] (fun s5 s6 wr => ∃ (k a' : Nat) (m' : Mach) (p' : Pc) (T' F' : Value), l.size < k + a' ∧ a' ≤ l.size ∧ Hid (Rdr wr b T' F' l m' a' o) ∧ Hid (Moves b T F W T' F' wr) ∧ Hid (Blk wr W.heap.size 144 (pcC p')) ∧ Hid (Rx.Good m' ∧ PcIn m'.takes.length p' ∧ m'.takes.length ≤ a') ∧ Hid (catF l grp a m = catL l grp k a' m' p')) (fun s5 s6 wr => l.size - atOf wr b)
  case atStart => exact ⟨l.size + 1, a, m, unit, T, F, by omega, ha, HR2, JM, J1, HQ1, rfl⟩
  case round =>
    obtain ⟨k, a', m', p', T1, F1, hk, ha', HRr, HMr, Jr, HQr, HE⟩ := hrel
    have HMEAS : Hid (atOf wr b = a') := HRr.out.at_of
    have HTr : Hid (TzT wr) := HMr.out.tz HR.out HT.out
    obtain ⟨k', rfl⟩ : ∃ k', k = k' + 1 := ⟨k - 1, by omega⟩
    obtain ⟨pe, pf, pl⟩ := p'
    by_cases hlt1 : a' < l.size
    · have HEN := Lib.hid (ended_any b a' l false (by simp; omega) wr hl (rd_cells HRr.out).2.2.1 (rd_cells HRr.out).2.2.2.1)
      have HS := Lib.hid (fun n => sees_is b a' l ⟨#[124, 41]⟩ [124, 41] sg_cat (wr.drewN n) hl ha' (rd_cells HRr.out).2.2.1 (rd_cells HRr.out).2.2.2.1)
      cases hs : seesAny l a' [124, 41] with
      | true =>
        rw [hs] at HS
        have HE2 : Hid (catF l grp a m = .ok a' m' ⟨pe, pf, pl⟩) := by
          show catF l grp a m = _
          rw [HE.out]; unfold catL; rw [if_neg (by rw [hs]; simp)]
        clear hs HE
        go_wp2_with fail
        refine (HEN.out).mono ?_
        rintro e w3 ⟨rfl, n3, rfl⟩
        go_wp2_with fail
        refine (HS.out n3).mono ?_
        rintro e w4 ⟨rfl, n4, rfl⟩
        have HR3 := Lib.hid ((HRr.out.drewN n3).drewN n4)
        have HM3 := Lib.hid ((HMr.out.drewN n3).drewN n4)
        have J3 := Lib.hid ((Jr.out.drewN n3).drewN n4)
        have B3 := Lib.hid (B0.out.moves HM3.out (HFT.out _ (Nat.le_refl _)))
        generalize hW : (wr.drewN n3).drewN n4 = W3 at *
        clear hW HRr HMr Jr HTr HS HEN
        obtain ⟨x0, x1, x2, x3, x4, x5, x6, x7, x8⟩ := cells9 J3.out
        obtain ⟨r0, r1, r2, r3, r4, r5, r6, r7, r8⟩ := cells9 B3.out
        obtain ⟨g0, g1, g2, g3, g4, g5, g6, g7, g8⟩ := frozen9 B3.out
        go_wp2
        exact bodyPost_ret (v := .tuple #[pcV ⟨pe, pf, pl⟩, .nilIface]) (by simp [results, Tryz.results102, go_sem, r0, r1, r2, r3, r4, r5, r6, r7, r8]) rfl (pp_ok HE2.out ((HM.out.trans HM3.out).set9 (Nat.le_refl _) _ _ _ _ _ _ _ _ _) rfl (HR3.out.set9 (HR3.out.off B3.out (by decide) (by decide)) _ _ _ _ _ _ _ _ _))
      | false =>
        rw [hs] at HS
        have HRE := Lib.hid (fun X (hX : Rdr X b T1 F1 l m' a' o) (hT : TzT X) => rep_any b a' o T1 F1 l grp m' X hX hT hl hlt1 HQr.out.1 HQr.out.2.2 HG.out HFG.out)
        have HFI := Lib.hid (rep_fine HFG.out hlt1 HQr.out.1)
        have HE2 : Hid (∀ r, repF l grp a' m' = r → catF l grp a m = match r with | .bad pl c => .bad pl c | .ok a1 m1 p => catL l grp k' a1 (chainM m1 ⟨pe, pf, pl⟩ p) (chainP ⟨pe, pf, pl⟩ p)) := fun r h => by
          rw [HE.out]; conv => lhs; unfold catL
          rw [if_pos ⟨hlt1, hs⟩, h]
          cases r <;> rfl
        clear hs HE
        go_wp2_with fail
        refine (HEN.out).mono ?_
        rintro e w3 ⟨rfl, n3, rfl⟩
        go_wp2_with fail
        refine (HS.out n3).mono ?_
        rintro e w4 ⟨rfl, n4, rfl⟩
        have HR3 := Lib.hid ((HRr.out.drewN n3).drewN n4)
        have HM3 := Lib.hid ((HMr.out.drewN n3).drewN n4)
        have J3 := Lib.hid ((Jr.out.drewN n3).drewN n4)
        have HT3 : Hid (TzT ((wr.drewN n3).drewN n4)) := HTr.out
        generalize hW : (wr.drewN n3).drewN n4 = W3 at *
        clear hW HRr HMr Jr HTr HS HEN
        go_wp2_with fail
        refine (HRE.out W3 HR3.out HT3.out).mono ?_
        rintro e w4 ⟨T2, F2, hm4, hrest⟩
        have HM4 := Lib.hid (HM3.out.trans hm4)
        have J4 := Lib.hid (J3.out.moves hm4 (HR3.out.off J3.out (by decide) (by decide)))
        have B4 := Lib.hid (B0.out.moves HM4.out (HFT.out _ (Nat.le_refl _)))
        have HT4 : Hid (TzT w4) := hm4.tz HR3.out HT3.out
        have hj1 : W.heap.size < w4.heap.size := J4.out.lt
        clear hm4 HRE HR3 HM3 J3 HT3
        cases hA : repF l grp a' m' with
        | bad plc cc =>
          rw [hA] at hrest
          obtain ⟨p0, err, rfl, f, rfl, hB⟩ := hrest
          have HX1 := Lib.hid (HE2.out _ hA)
          have HF := Lib.hid (hB.alloc (.cells (pcC p0) 144))
          have BB := Lib.hid (B4.out.alloc (.cells (pcC p0) 144))
          have MM := Lib.hid (HM4.out.alloc (.cells (pcC p0) 144))
          clear hA hB HE2 HFI
          obtain ⟨pe0, pf0, pl0⟩ := p0
          go_upto_region 4 with fail
          generalize hW : w4.alloc (.cells (pcC _) 144) = W5 at *
          clear hW
          obtain ⟨r0, r1, r2, r3, r4, r5, r6, r7, r8⟩ := cells9 BB.out
          obtain ⟨g0, g1, g2, g3, g4, g5, g6, g7, g8⟩ := frozen9 BB.out
          go_wp2
          exact bodyPost_ret (v := .tuple #[.agg zero9, .iface 128 (.pointer (some ⟨f, 0, none⟩))]) (by simp [results, Tryz.results102, go_sem, r0, r1, r2, r3, r4, r5, r6, r7, r8]) rfl (pp_bad HX1.out ((HM.out.trans MM.out).set9 (Nat.le_refl _) _ _ _ _ _ _ _ _ _) pc0_eq (HF.out.set9_other (blk_ne HF.out BB.out (by decide)) _ _ _ _ _ _ _ _ _))
        | ok a2 m2 q2 =>
          rw [hA] at hrest
          obtain ⟨rfl, hR4⟩ := hrest
          obtain ⟨f1, f2, f3, f4, f5, f6⟩ := HFI.out a2 m2 q2 hA
          have HX1 : Hid (catF l grp a m = catL l grp k' a2 (chainM m2 ⟨pe, pf, pl⟩ q2) (chainP ⟨pe, pf, pl⟩ q2)) := HE2.out _ hA
          have hgc := f3.chain (HQr.out.2.1.mono f5) f4
          have HQ2 : Hid (Rx.Good (chainM m2 ⟨pe, pf, pl⟩ q2) ∧ PcIn (chainM m2 ⟨pe, pf, pl⟩ q2).takes.length (chainP ⟨pe, pf, pl⟩ q2) ∧ (chainM m2 ⟨pe, pf, pl⟩ q2).takes.length ≤ a2) := ⟨hgc.1, hgc.2, by have e : (chainM m2 ⟨pe, pf, pl⟩ q2).takes.length = m2.takes.length := rfl; have := HQr.out.2.2; omega⟩
          have HCH : Hid (∀ X, Rdr X b T2 F2 l m2 a2 o → TzT X → Calls Tryz.prog 119 #[.pointer (some ⟨b, 0, none⟩), pcV ⟨pe, pf, pl⟩, pcV q2] X (ChainP b T2 F2 l a2 o X (chainM m2 ⟨pe, pf, pl⟩ q2) (chainP ⟨pe, pf, pl⟩ q2))) := fun X h1 h2 => chain_any b a2 o ⟨pe, pf, pl⟩ q2 T2 F2 l m2 X h1 h2 (by rw [f3.1]; exact (HQr.out.2.1.mono f5).2) (by rw [f3.1]; have := HQr.out.2.2; omega)
          have HR5 := Lib.hid (hR4.alloc (.cells (pcC q2) 144))
          have HM5 := Lib.hid (HM4.out.alloc (.cells (pcC q2) 144))
          have J5 := Lib.hid (J4.out.alloc (.cells (pcC q2) 144))
          have K5 := Lib.hid (Blk.new w4 144 (pcC q2))
          have HT5 : Hid (TzT (w4.alloc (.cells (pcC q2) 144))) := HT4.out.below ((Below.refl _ _).alloc (Nat.le_refl _) _)
          clear hA HE2 HFI hgc f3 f4 f5 f6 hR4 HM4 J4 B4 HT4 HQr
          generalize hcm : chainM m2 ⟨pe, pf, pl⟩ q2 = cm at *
          generalize hcp : chainP ⟨pe, pf, pl⟩ q2 = q at *
          clear hcm hcp
          obtain ⟨xe, xf, xl⟩ := q2
          obtain ⟨qe, qf, ql⟩ := q
          go_upto_region 4 with fail
          generalize hW : w4.alloc (.cells (pcC _) 144) = W5 at *
          clear hW
          have HNJ : Hid (w4.heap.size ≠ W.heap.size) := by show _ ≠ _; omega
          have HNB : Hid (b ≠ W.heap.size) := fun e => HR5.out.off J5.out (by decide) (by decide) (.inl e.symm)
          have HFJ : Hid (¬ Foot b T2 F2 W.heap.size) := HR5.out.off J5.out (by decide) (by decide)
          have HFK : Hid (¬ Foot b T2 F2 w4.heap.size) := HR5.out.off K5.out (by decide) (by decide)
          have HR5d : Hid (Rdr W5.drew b T2 F2 l m2 a2 o) := HR5.out.below (below_drew _)
          have HT5d : Hid (TzT W5.drew) := HT5.out
          obtain ⟨x0, x1, x2, x3, x4, x5, x6, x7, x8⟩ := cells9 J5.out
          obtain ⟨y0, y1, y2, y3, y4, y5, y6, y7, y8⟩ := cells9 K5.out
          go_upto_region 6 with fail
          go_region_with
              (first
                | (go_at_call 119; refine (HCH.out W5.drew HR5d.out HT5d.out).mono ?_; rintro e w6 ⟨rfl, hr6, hm6⟩
                   have HR6 := Lib.hid hr6
                   have HM6 := Lib.hid (HM5.out.drew.trans hm6)
                   have J6 := Lib.hid (Blk.moves (w := W5.drew) (by exact J5.out) hm6 HFJ.out)
                   have K6 := Lib.hid (Blk.moves (w := W5.drew) (by exact K5.out) hm6 HFK.out)
                   obtain ⟨k0, k1, k2, k3, k4, k5, k6, k7, k8⟩ := cells9 K6.out
                   obtain ⟨z0, z1, z2, z3, z4, z5, z6, z7, z8⟩ := cells9 J6.out
                   obtain ⟨g0, g1, g2, g3, g4, g5, g6, g7, g8⟩ := frozen9 J6.out
                   clear hr6 hm6))
          all_goals
            have J7 := Lib.hid (J6.out.set9 (.bool qe) (wv qf 0) (wv qf 1) (wv qf 2) (wv qf 3) (wv ql 0) (wv ql 1) (wv ql 2) (wv ql 3))
            have HR7 := Lib.hid (HR6.out.set9 HFJ.out (.bool qe) (wv qf 0) (wv qf 1) (wv qf 2) (wv qf 3) (wv ql 0) (wv ql 1) (wv ql 2) (wv ql 3))
            have HM7 := Lib.hid (HM6.out.set9 (Nat.le_refl _) (.bool qe) (wv qf 0) (wv qf 1) (wv qf 2) (wv qf 3) (wv ql 0) (wv ql 1) (wv ql 2) (wv ql 3))
            unfold put9 at J7 HR7 HM7
            generalize hW : (((((((((w6.setCell ⟨W.heap.size, 0, none⟩ (.bool qe)).setCell ⟨W.heap.size, 1, none⟩ (wv qf 0)).setCell ⟨W.heap.size, 2, none⟩ (wv qf 1)).setCell ⟨W.heap.size, 3, none⟩ (wv qf 2)).setCell ⟨W.heap.size, 4, none⟩ (wv qf 3)).setCell ⟨W.heap.size, 5, none⟩ (wv ql 0)).setCell ⟨W.heap.size, 6, none⟩ (wv ql 1)).setCell ⟨W.heap.size, 7, none⟩ (wv ql 2)).setCell ⟨W.heap.size, 8, none⟩ (wv ql 3)) = W6 at *
            clear hW J6 HR6 HM6 K6 J5 HR5 HM5 HR5d HT5d HT5 K5 x0 x1 x2 x3 x4 x5 x6 x7 x8 y0 y1 y2 y3 y4 y5 y6 y7 y8 z0 z1 z2 z3 z4 z5 z6 z7 z8 g0 g1 g2 g3 g4 g5 g6 g7 g8 k0 k1 k2 k3 k4 k5 k6 k7 k8 HCH
            have HA7 : Hid (atOf W6 b = a2) := HR7.out.at_of
            go_wp2
            go_roundw
            case rel => exact ⟨k', a2, cm, ⟨qe, qf, ql⟩, T2, F2, by omega, f2, HR7, HM7, J7, HQ2, HX1⟩
            case measure =>
              rw [HA7.out, HMEAS.out]
              omega
    · obtain rfl : a' = l.size := by omega
      have HEN := Lib.hid (ended_any b l.size l true (by simp) wr hl (rd_cells HRr.out).2.2.1 (rd_cells HRr.out).2.2.2.1)
      have HE2 : Hid (catF l grp a m = .ok l.size m' ⟨pe, pf, pl⟩) := by
        show catF l grp a m = _
        rw [HE.out]; unfold catL; rw [if_neg (by omega)]
      clear HE
      go_wp2_with fail
      refine (HEN.out).mono ?_
      rintro e w3 ⟨rfl, n3, rfl⟩
      have HR3 := Lib.hid (HRr.out.drewN n3)
      have HM3 := Lib.hid (HMr.out.drewN n3)
      have J3 := Lib.hid (Jr.out.drewN n3)
      have B3 := Lib.hid (B0.out.moves HM3.out (HFT.out _ (Nat.le_refl _)))
      generalize hW : wr.drewN n3 = W3 at *
      clear hW HRr HMr Jr HTr HEN
      obtain ⟨x0, x1, x2, x3, x4, x5, x6, x7, x8⟩ := cells9 J3.out
      obtain ⟨r0, r1, r2, r3, r4, r5, r6, r7, r8⟩ := cells9 B3.out
      obtain ⟨g0, g1, g2, g3, g4, g5, g6, g7, g8⟩ := frozen9 B3.out
      go_wp2
      exact bodyPost_ret (v := .tuple #[pcV ⟨pe, pf, pl⟩, .nilIface]) (by simp [results, Tryz.results102, go_sem, r0, r1, r2, r3, r4, r5, r6, r7, r8]) rfl (pp_ok HE2.out ((HM.out.trans HM3.out).set9 (Nat.le_refl _) _ _ _ _ _ _ _ _ _) rfl (HR3.out.set9 (HR3.out.off B3.out (by decide) (by decide)) _ _ _ _ _ _ _ _ _))
end Go.Proofs.YtmodehfedhgcbaaGreatDoor.Rg

namespace Go.Proofs.YtmodehfedhgcbaaGreatDoor.Rg
open Go.RowKit Rx
set_option linter.unusedVariables false

/-! one part or another -/
def altMeas (s : Value) (n : Nat) : Nat := match s with | .nilIface => n | _ => 0
def AltRel (b : Nat) (l : ByteArray) (o : Nat) (grp : Nat → Mach → Res) (target : Res) (p' : Pc) (T' F' s5 : Value) (wr : World) : Prop :=
  (∃ (k a' : Nat) (m' : Mach), s5 = .nilIface ∧ l.size < k + a' ∧ a' ≤ l.size ∧ Rdr wr b T' F' l m' a' o ∧ (Rx.Good m' ∧ PcIn m'.takes.length p' ∧ m'.takes.length ≤ a') ∧ target = altL l grp k a' m' p') ∨
  (∃ (f pl c : Nat), s5 = .iface 128 (.pointer (some ⟨f, 0, none⟩)) ∧ Blk wr f 130 #[.int .i64 pl, .iface 41 (.int .i64 c)] ∧ target = .bad pl c)
set_option maxRecDepth 100000 in
set_option maxHeartbeats 8000000 in
/-- the loop of an alternative, from what its first part has left on -/
theorem alt_any (b a o : Nat) (T F : Value) (l : ByteArray) (grp : Nat → Mach → Res) (m : Mach) (w : World) (hr : Rdr w b T F l m a o) (hT : TzT w) (hl : l.size ≤ 200) (ha : a ≤ l.size) (hm : Rx.Good m) (hn : m.takes.length ≤ a) (hg : GC b l o grp) (hf : FineG l grp) :
    Calls Tryz.prog 87 #[.pointer (some ⟨b, 0, none⟩)] w (PP b T F l o w (altF l grp a m)) := by
  have HR := Lib.hid (hr.alloc (.cells zero9 144))
  have HM := Lib.hid ((Moves.refl b T F w).alloc (.cells zero9 144))
  have B0 := Lib.hid (Blk.new w 144 zero9)
  have HT := Lib.hid (HM.out.tz hr hT)
  have HFT : Hid (∀ j, w.heap.size ≤ j → ¬ Foot b T F j) := fun j hj hf => by have := (hr.lt_foot hf).1; omega
  have HG := Lib.hid hg
  have HFG := Lib.hid hf
  have HFI := Lib.hid (cat_fine hf ha hm)
  have HCA := Lib.hid (cat_any b a o T F l grp m _ HR.out HT.out hl ha hm hn hg hf)
  have HX : Hid (∀ r, catF l grp a m = r → altF l grp a m = match r with | .bad pl c => .bad pl c | .ok a1 m1 p => altL l grp (l.size + 1) a1 m1 p) := fun r h => by subst h; unfold altF; cases catF l grp a m <;> rfl
  have HNN := Lib.hid hn
  clear hr hT hg hm hf hn
  go_enter Tryz.func87, Tryz.ntmps87
  go_upto_region 1 with fail
  generalize hW : w.alloc (.cells zero9 144) = W at *
  clear hW
  have hlt : w.heap.size < W.heap.size := B0.out.lt
  go_wp2_with fail
  refine (HCA.out).mono ?_
  rintro e w1 ⟨T1, F1, hm1, hrest⟩
  have HM1 := Lib.hid hm1
  have HSH : Hid (∃ p s5, e = .returned (.tuple #[pcV p, s5]) ∧ AltRel b l o grp (altF l grp a m) p T1 F1 s5 (w1.alloc (.cells (pcC p) 144))) := by
    cases hA : catF l grp a m with
    | bad pl c =>
      rw [hA] at hrest
      obtain ⟨p, err, he, f, hf, hB⟩ := hrest
      exact ⟨p, err, he, .inr ⟨f, pl, c, hf, hB.alloc _, HX.out _ hA⟩⟩
    | ok a1 m1 p1 =>
      rw [hA] at hrest
      obtain ⟨f1, f2, f3, f4, f5, f6⟩ := HFI.out a1 m1 p1 hA
      exact ⟨p1, .nilIface, hrest.1, .inl ⟨l.size + 1, a1, m1, rfl, by omega, f2, hrest.2.alloc _, ⟨f3, f4, by have := HNN.out; omega⟩, HX.out _ hA⟩⟩
  obtain ⟨p1, s5, rfl, hrel1⟩ := HSH.out
  have HREL1 := Lib.hid hrel1
  have J1 := Lib.hid (Blk.new w1 144 (pcC p1))
  have JM := Lib.hid (hm1.alloc (.cells (pcC p1) 144))
  have hj1 : W.heap.size ≤ w1.heap.size := hm1.size
  clear hrel1 hrest HSH HCA HFI HX hm1 HNN
  obtain ⟨pe0, pf0, pl0⟩ := p1
  go_upto_region 2 with fail
  generalize hW : w1.alloc (.cells (pcC _) 144) = W2 at *
  generalize hj : w1.heap.size = j1 at *
  clear hW hj
  go_loopw [5, 6] (fun s5 s6 wr => ∃ (p' : Pc) (T' F' : Value), Hid (Moves b T F W T' F' wr) ∧ Hid (Blk wr j1 144 (pcC p')) ∧ Hid (AltRel b l o grp (altF l grp a m) p' T' F' s5 wr)) (fun s5 s6 wr => altMeas s5 (l.size + 1 - atOf wr b))
  case atStart => exact ⟨⟨pe0, pf0, pl0⟩, T1, F1, JM, J1, HREL1⟩
  case round =>
    obtain ⟨p', T1, F1, HMr, Jr, HREL⟩ := hrel
    obtain ⟨pe, pf, pl⟩ := p'
    rcases HREL.out with ⟨k, a', m', rfl, hk, ha', hRr, hQr, hEr⟩ | ⟨f, plc, cc, rfl, hB, hEr⟩
    · have HRr := Lib.hid hRr
      have HQr := Lib.hid hQr
      have HE := Lib.hid hEr
      have HMEAS : Hid (atOf wr b = a') := hRr.at_of
      have HTr : Hid (TzT wr) := HMr.out.tz HR.out HT.out
      clear hRr hQr hEr HREL
      obtain ⟨k', rfl⟩ : ∃ k', k = k' + 1 := ⟨k - 1, by omega⟩
      have HS := Lib.hid (sees_is b a' l ⟨#[124]⟩ [124] sg_bar wr hl ha' (rd_cells HRr.out).2.2.1 (rd_cells HRr.out).2.2.2.1)
      rw [sees_one] at HS
      cases hs : sees l a' 124 with
      | false =>
        rw [hs] at HS
        have HE2 : Hid (altF l grp a m = .ok a' m' ⟨pe, pf, pl⟩) := by
          show altF l grp a m = _
          rw [HE.out]; unfold altL; rw [hs]; rfl
        clear hs HE
        go_wp2_with fail
        refine (HS.out).mono ?_
        rintro e w3 ⟨rfl, n3, rfl⟩
        have HR3 := Lib.hid (HRr.out.drewN n3)
        have HM3 := Lib.hid (HMr.out.drewN n3)
        have J3 := Lib.hid (Jr.out.drewN n3)
        have B3 := Lib.hid (B0.out.moves HM3.out (HFT.out _ (Nat.le_refl _)))
        generalize hW : wr.drewN n3 = W3 at *
        clear hW HRr HMr Jr HTr HS
        obtain ⟨x0, x1, x2, x3, x4, x5, x6, x7, x8⟩ := cells9 J3.out
        obtain ⟨r0, r1, r2, r3, r4, r5, r6, r7, r8⟩ := cells9 B3.out
        obtain ⟨g0, g1, g2, g3, g4, g5, g6, g7, g8⟩ := frozen9 B3.out
        have hne : w.heap.size ≠ j1 := by omega
        go_wp2
        exact bodyPost_ret (v := .tuple #[pcV ⟨pe, pf, pl⟩, .nilIface]) (by simp [results, Tryz.results87, go_sem, r0, r1, r2, r3, r4, r5, r6, r7, r8]) rfl (pp_ok HE2.out ((HM.out.trans HM3.out).set9 (Nat.le_refl _) _ _ _ _ _ _ _ _ _) rfl (HR3.out.set9 (HR3.out.off B3.out (by decide) (by decide)) _ _ _ _ _ _ _ _ _))
      | true =>
        rw [hs] at HS
        have hlt1 := sees_lt hs
        have HCA := Lib.hid (fun X (hX : Rdr X b T1 F1 l m' (a' + 1) o) (hT : TzT X) => cat_any b (a' + 1) o T1 F1 l grp m' X hX hT hl hlt1 HQr.out.1 (by have := HQr.out.2.2; omega) HG.out HFG.out)
        have HFI := Lib.hid (cat_fine HFG.out (show a' + 1 ≤ l.size from hlt1) HQr.out.1)
        have HE2 : Hid (∀ r, catF l grp (a' + 1) m' = r → altF l grp a m = match r with | .bad pl c => .bad pl c | .ok a1 m1 p => altL l grp k' a1 m1 (eitherP ⟨pe, pf, pl⟩ p)) := fun r h => by
          rw [HE.out]; conv => lhs; unfold altL
          rw [if_pos hs, h]
          cases r <;> rfl
        clear hs HE
        go_wp2_with fail
        refine (HS.out).mono ?_
        rintro e w3 ⟨rfl, n3, rfl⟩
        have HR3 := Lib.hid (HRr.out.drewN n3)
        have HM3 := Lib.hid (HMr.out.drewN n3)
        have J3 := Lib.hid (Jr.out.drewN n3)
        have HT3 : Hid (TzT (wr.drewN n3)) := HTr.out
        generalize hW : wr.drewN n3 = W3 at *
        clear hW HRr HMr Jr HTr HS
        have c4 := (rd_cells HR3.out).2.2.2.1
        have cf := HR3.out.blk.frozen 12
        have HNB : Hid (j1 ≠ b) := fun e => HR3.out.off J3.out (by decide) (by decide) (.inl e)
        go_upto_region 4 with fail
        have HR3a := Lib.hid ((HR3.out.set_at (a' + 1) (.int .i64 ((a' : Int) + 1)) (by rfl)).alloc (.cells zero9 144))
        have HM3a := Lib.hid ((HM3.out.set_foot (foot_self b T1 F1) 12 (.int .i64 ((a' : Int) + 1))).alloc (.cells zero9 144))
        have J3a := Lib.hid ((J3.out.other HNB.out 12 (.int .i64 ((a' : Int) + 1))).alloc (.cells zero9 144))
        have K3 := Lib.hid (Blk.new (W3.setCell ⟨b, 12, none⟩ (.int .i64 ((a' : Int) + 1))) 144 zero9)
        have HT3a : Hid (TzT ((W3.setCell ⟨b, 12, none⟩ (.int .i64 ((a' : Int) + 1))).alloc (.cells zero9 144))) := HM3a.out.tz HR.out HT.out
        have hj2 : W.heap.size ≤ (W3.setCell ⟨b, 12, none⟩ (.int .i64 ((a' : Int) + 1))).heap.size := (HM3.out.set_foot (foot_self b T1 F1) 12 (.int .i64 ((a' : Int) + 1))).size
        have hjk : j1 ≠ (W3.setCell ⟨b, 12, none⟩ (.int .i64 ((a' : Int) + 1))).heap.size := fun e => by have := (J3.out.other HNB.out 12 (.int .i64 ((a' : Int) + 1))).lt; omega
        clear HR3 HM3 J3 HT3 c4 cf
        generalize hW : W3.setCell ⟨b, 12, none⟩ (.int .i64 ((a' : Int) + 1)) = W4 at *
        clear hW
        go_upto_region 5 with fail
        generalize hW : W4.alloc (.cells zero9 144) = W4a at *
        generalize hj : W4.heap.size = j2 at *
        clear hW hj
        go_wp2_with fail
        refine (HCA.out W4a HR3a.out HT3a.out).mono ?_
        rintro e w4 ⟨T2, F2, hm4, hrest⟩
        have HM4 := Lib.hid (HM3a.out.trans hm4)
        have J4 := Lib.hid (J3a.out.moves hm4 (HR3a.out.off J3a.out (by decide) (by decide)))
        have K4 := Lib.hid (K3.out.moves hm4 (HR3a.out.off K3.out (by decide) (by decide)))
        clear hm4 HCA HR3a HM3a J3a K3 HT3a
        cases hA : catF l grp (a' + 1) m' with
        | bad plc cc =>
          rw [hA] at hrest
          obtain ⟨p0, err, rfl, f, rfl, hB⟩ := hrest
          have HX1 : Hid (altF l grp a m = .bad plc cc) := HE2.out _ hA
          have F4 := Lib.hid hB
          clear hA hB HE2 HFI HQr
          have HEI : Hid (∀ X, Calls Tryz.prog 104 #[.pointer (some ⟨b, 0, none⟩), pcV ⟨pe, pf, pl⟩, pcV p0] X fun e w' => e = .returned (pcV (eitherP ⟨pe, pf, pl⟩ p0)) ∧ Below X.heap.size X w') := fun X => either_any b ⟨pe, pf, pl⟩ p0 X
          obtain ⟨xe, xf, xl⟩ := p0
          generalize hcp : eitherP ⟨pe, pf, pl⟩ ⟨xe, xf, xl⟩ = q at *
          obtain ⟨qe, qf, ql⟩ := q
          obtain ⟨x0, x1, x2, x3, x4, x5, x6, x7, x8⟩ := cells9 K4.out
          obtain ⟨g0, g1, g2, g3, g4, g5, g6, g7, g8⟩ := frozen9 K4.out
          have K5 := Lib.hid (K4.out.set9 (.bool xe) (wv xf 0) (wv xf 1) (wv xf 2) (wv xf 3) (wv xl 0) (wv xl 1) (wv xl 2) (wv xl 3))
          have J5 := Lib.hid (J4.out.set9_other hjk (.bool xe) (wv xf 0) (wv xf 1) (wv xf 2) (wv xf 3) (wv xl 0) (wv xl 1) (wv xl 2) (wv xl 3))
          have HM5 := Lib.hid (HM4.out.set9 (j := j2) hj2 (.bool xe) (wv xf 0) (wv xf 1) (wv xf 2) (wv xf 3) (wv xl 0) (wv xl 1) (wv xl 2) (wv xl 3))
          have F5 := Lib.hid (F4.out.set9_other (blk_ne F4.out K4.out (by decide)) (.bool xe) (wv xf 0) (wv xf 1) (wv xf 2) (wv xf 3) (wv xl 0) (wv xl 1) (wv xl 2) (wv xl 3))
          unfold put9 at K5 J5 HM5 F5
          go_upto_region 6 with fail
          generalize hW : (((((((((w4.setCell ⟨j2, 0, none⟩ (.bool xe)).setCell ⟨j2, 1, none⟩ (wv xf 0)).setCell ⟨j2, 2, none⟩ (wv xf 1)).setCell ⟨j2, 3, none⟩ (wv xf 2)).setCell ⟨j2, 4, none⟩ (wv xf 3)).setCell ⟨j2, 5, none⟩ (wv xl 0)).setCell ⟨j2, 6, none⟩ (wv xl 1)).setCell ⟨j2, 7, none⟩ (wv xl 2)).setCell ⟨j2, 8, none⟩ (wv xl 3)) = W5 at *
          clear hW hcp K4 J4 HM4 x0 x1 x2 x3 x4 x5 x6 x7 x8 g0 g1 g2 g3 g4 g5 g6 g7 g8
          obtain ⟨x0, x1, x2, x3, x4, x5, x6, x7, x8⟩ := cells9 J5.out
          obtain ⟨y0, y1, y2, y3, y4, y5, y6, y7, y8⟩ := cells9 K5.out
          have HNJ : Hid (j2 ≠ j1) := fun e => hjk e.symm
          go_region_with
            (first
              | (go_at_call 104; refine (HEI.out W5.drew).mono ?_; rintro e w6 ⟨rfl, hb6⟩
                 have HM6 := Lib.hid (HM5.out.drew.below hb6)
                 have J6 := Lib.hid (Blk.below (w := W5.drew) (by exact J5.out) hb6)
                 have K6 := Lib.hid (Blk.below (w := W5.drew) (by exact K5.out) hb6)
                 have F6 := Lib.hid (Blk.below (w := W5.drew) (by exact F5.out) hb6)
                 obtain ⟨k0, k1, k2, k3, k4, k5, k6, k7, k8⟩ := cells9 K6.out
                 obtain ⟨z0, z1, z2, z3, z4, z5, z6, z7, z8⟩ := cells9 J6.out
                 obtain ⟨g0, g1, g2, g3, g4, g5, g6, g7, g8⟩ := frozen9 J6.out
                 clear hb6))
          all_goals
            have J8 := Lib.hid (J6.out.set9 (.bool qe) (wv qf 0) (wv qf 1) (wv qf 2) (wv qf 3) (wv ql 0) (wv ql 1) (wv ql 2) (wv ql 3))
            have HM8 := Lib.hid (HM6.out.set9 hj1 (.bool qe) (wv qf 0) (wv qf 1) (wv qf 2) (wv qf 3) (wv ql 0) (wv ql 1) (wv ql 2) (wv ql 3))
            have F8 := Lib.hid (F6.out.set9_other (blk_ne F6.out J6.out (by decide)) (.bool qe) (wv qf 0) (wv qf 1) (wv qf 2) (wv qf 3) (wv ql 0) (wv ql 1) (wv ql 2) (wv ql 3))
            unfold put9 at J8 HM8 F8
            generalize hW : (((((((((w6.setCell ⟨j1, 0, none⟩ (.bool qe)).setCell ⟨j1, 1, none⟩ (wv qf 0)).setCell ⟨j1, 2, none⟩ (wv qf 1)).setCell ⟨j1, 3, none⟩ (wv qf 2)).setCell ⟨j1, 4, none⟩ (wv qf 3)).setCell ⟨j1, 5, none⟩ (wv ql 0)).setCell ⟨j1, 6, none⟩ (wv ql 1)).setCell ⟨j1, 7, none⟩ (wv ql 2)).setCell ⟨j1, 8, none⟩ (wv ql 3)) = W8 at *
            clear hW J6 HM6 K6 J5 HM5 K5 x0 x1 x2 x3 x4 x5 x6 x7 x8 y0 y1 y2 y3 y4 y5 y6 y7 y8 z0 z1 z2 z3 z4 z5 z6 z7 z8 g0 g1 g2 g3 g4 g5 g6 g7 g8 k0 k1 k2 k3 k4 k5 k6 k7 k8 HEI
            have HREL : Hid (AltRel b l o grp (altF l grp a m) ⟨qe, qf, ql⟩ T2 F2 (.iface 128 (.pointer (some ⟨f, 0, none⟩))) W8) := .inr ⟨f, plc, cc, rfl, F8.out, HX1.out⟩
            go_wp2
            go_roundw
            case rel => exact ⟨⟨qe, qf, ql⟩, T2, F2, HM8, J8, HREL⟩
            case measure =>
              unfold altMeas
              rw [HMEAS.out]
              show 0 < l.size + 1 - a'
              omega
        | ok a2 m2 q2 =>
          rw [hA] at hrest
          obtain ⟨rfl, hR4⟩ := hrest
          obtain ⟨f1, f2, f3, f4, f5, f6⟩ := HFI.out a2 m2 q2 hA
          have HX1 : Hid (altF l grp a m = altL l grp k' a2 m2 (eitherP ⟨pe, pf, pl⟩ q2)) := HE2.out _ hA
          have HQ2 : Hid (Rx.Good m2 ∧ PcIn m2.takes.length (eitherP ⟨pe, pf, pl⟩ q2) ∧ m2.takes.length ≤ a2) := ⟨f3, either_in (HQr.out.2.1.mono f5) f4, by have := HQr.out.2.2; omega⟩
          have HR4 := Lib.hid hR4
          clear hA HE2 HFI f3 f4 f5 f6 hR4 HQr
          have HEI : Hid (∀ X, Calls Tryz.prog 104 #[.pointer (some ⟨b, 0, none⟩), pcV ⟨pe, pf, pl⟩, pcV q2] X fun e w' => e = .returned (pcV (eitherP ⟨pe, pf, pl⟩ q2)) ∧ Below X.heap.size X w') := fun X => either_any b ⟨pe, pf, pl⟩ q2 X
          obtain ⟨xe, xf, xl⟩ := q2
          generalize hcp : eitherP ⟨pe, pf, pl⟩ ⟨xe, xf, xl⟩ = q at *
          obtain ⟨qe, qf, ql⟩ := q
          obtain ⟨x0, x1, x2, x3, x4, x5, x6, x7, x8⟩ := cells9 K4.out
          obtain ⟨g0, g1, g2, g3, g4, g5, g6, g7, g8⟩ := frozen9 K4.out
          have K5 := Lib.hid (K4.out.set9 (.bool xe) (wv xf 0) (wv xf 1) (wv xf 2) (wv xf 3) (wv xl 0) (wv xl 1) (wv xl 2) (wv xl 3))
          have J5 := Lib.hid (J4.out.set9_other hjk (.bool xe) (wv xf 0) (wv xf 1) (wv xf 2) (wv xf 3) (wv xl 0) (wv xl 1) (wv xl 2) (wv xl 3))
          have HM5 := Lib.hid (HM4.out.set9 (j := j2) hj2 (.bool xe) (wv xf 0) (wv xf 1) (wv xf 2) (wv xf 3) (wv xl 0) (wv xl 1) (wv xl 2) (wv xl 3))
          have HR5 := Lib.hid (HR4.out.set9 (HR4.out.off K4.out (by decide) (by decide)) (.bool xe) (wv xf 0) (wv xf 1) (wv xf 2) (wv xf 3) (wv xl 0) (wv xl 1) (wv xl 2) (wv xl 3))
          unfold put9 at K5 J5 HM5 HR5
          go_upto_region 6 with fail
          generalize hW : (((((((((w4.setCell ⟨j2, 0, none⟩ (.bool xe)).setCell ⟨j2, 1, none⟩ (wv xf 0)).setCell ⟨j2, 2, none⟩ (wv xf 1)).setCell ⟨j2, 3, none⟩ (wv xf 2)).setCell ⟨j2, 4, none⟩ (wv xf 3)).setCell ⟨j2, 5, none⟩ (wv xl 0)).setCell ⟨j2, 6, none⟩ (wv xl 1)).setCell ⟨j2, 7, none⟩ (wv xl 2)).setCell ⟨j2, 8, none⟩ (wv xl 3)) = W5 at *
          clear hW hcp K4 J4 HM4 x0 x1 x2 x3 x4 x5 x6 x7 x8 g0 g1 g2 g3 g4 g5 g6 g7 g8
          obtain ⟨x0, x1, x2, x3, x4, x5, x6, x7, x8⟩ := cells9 J5.out
          obtain ⟨y0, y1, y2, y3, y4, y5, y6, y7, y8⟩ := cells9 K5.out
          have HNJ : Hid (j2 ≠ j1) := fun e => hjk e.symm
          go_region_with
            (first
              | (go_at_call 104; refine (HEI.out W5.drew).mono ?_; rintro e w6 ⟨rfl, hb6⟩
                 have HM6 := Lib.hid (HM5.out.drew.below hb6)
                 have J6 := Lib.hid (Blk.below (w := W5.drew) (by exact J5.out) hb6)
                 have K6 := Lib.hid (Blk.below (w := W5.drew) (by exact K5.out) hb6)
                 have HR6 := Lib.hid (Rdr.below (w := W5.drew) (by exact HR5.out.below (below_drew _)) hb6)
                 obtain ⟨k0, k1, k2, k3, k4, k5, k6, k7, k8⟩ := cells9 K6.out
                 obtain ⟨z0, z1, z2, z3, z4, z5, z6, z7, z8⟩ := cells9 J6.out
                 obtain ⟨g0, g1, g2, g3, g4, g5, g6, g7, g8⟩ := frozen9 J6.out
                 clear hb6))
          all_goals
            have J8 := Lib.hid (J6.out.set9 (.bool qe) (wv qf 0) (wv qf 1) (wv qf 2) (wv qf 3) (wv ql 0) (wv ql 1) (wv ql 2) (wv ql 3))
            have HM8 := Lib.hid (HM6.out.set9 hj1 (.bool qe) (wv qf 0) (wv qf 1) (wv qf 2) (wv qf 3) (wv ql 0) (wv ql 1) (wv ql 2) (wv ql 3))
            have HR8 := Lib.hid (HR6.out.set9 (HR6.out.off J6.out (by decide) (by decide)) (.bool qe) (wv qf 0) (wv qf 1) (wv qf 2) (wv qf 3) (wv ql 0) (wv ql 1) (wv ql 2) (wv ql 3))
            unfold put9 at J8 HM8 HR8
            generalize hW : (((((((((w6.setCell ⟨j1, 0, none⟩ (.bool qe)).setCell ⟨j1, 1, none⟩ (wv qf 0)).setCell ⟨j1, 2, none⟩ (wv qf 1)).setCell ⟨j1, 3, none⟩ (wv qf 2)).setCell ⟨j1, 4, none⟩ (wv qf 3)).setCell ⟨j1, 5, none⟩ (wv ql 0)).setCell ⟨j1, 6, none⟩ (wv ql 1)).setCell ⟨j1, 7, none⟩ (wv ql 2)).setCell ⟨j1, 8, none⟩ (wv ql 3)) = W8 at *
            clear hW J6 HM6 K6 J5 HM5 K5 x0 x1 x2 x3 x4 x5 x6 x7 x8 y0 y1 y2 y3 y4 y5 y6 y7 y8 z0 z1 z2 z3 z4 z5 z6 z7 z8 g0 g1 g2 g3 g4 g5 g6 g7 g8 k0 k1 k2 k3 k4 k5 k6 k7 k8 HEI
            have HREL : Hid (AltRel b l o grp (altF l grp a m) ⟨qe, qf, ql⟩ T2 F2 .nilIface W8) := .inl ⟨k', a2, m2, rfl, by omega, f2, HR8.out, HQ2.out, HX1.out⟩
            have HA8 : Hid (atOf W8 b = a2) := HR8.out.at_of
            go_wp2
            go_roundw
            case rel => exact ⟨⟨qe, qf, ql⟩, T2, F2, HM8, J8, HREL⟩
            case measure =>
              unfold altMeas
              rw [HA8.out, HMEAS.out]
              show l.size + 1 - a2 < l.size + 1 - a'
              omega
    · have HE2 := Lib.hid hEr
      have HF := Lib.hid hB
      have B3 := Lib.hid (B0.out.moves HMr.out (HFT.out _ (Nat.le_refl _)))
      clear hB hEr HREL
      obtain ⟨x0, x1, x2, x3, x4, x5, x6, x7, x8⟩ := cells9 Jr.out
      obtain ⟨r0, r1, r2, r3, r4, r5, r6, r7, r8⟩ := cells9 B3.out
      obtain ⟨g0, g1, g2, g3, g4, g5, g6, g7, g8⟩ := frozen9 B3.out
      have hne : w.heap.size ≠ j1 := by omega
      go_wp2
      exact bodyPost_ret (v := .tuple #[pcV ⟨pe, pf, pl⟩, .iface 128 (.pointer (some ⟨f, 0, none⟩))]) (by simp [results, Tryz.results87, go_sem, r0, r1, r2, r3, r4, r5, r6, r7, r8]) rfl (pp_bad HE2.out ((HM.out.trans HMr.out).set9 (Nat.le_refl _) _ _ _ _ _ _ _ _ _) rfl (HF.out.set9_other (blk_ne HF.out B3.out (by decide)) _ _ _ _ _ _ _ _ _))
end Go.Proofs.YtmodehfedhgcbaaGreatDoor.Rg

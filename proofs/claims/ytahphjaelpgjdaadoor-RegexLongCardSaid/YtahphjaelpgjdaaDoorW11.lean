import Derived.Test.YtahphjaelpgjdaaDoorW10
import Derived.Deep.AppendLies
import Derived.Deep.RegionLaw
namespace Go.Proofs.YtahphjaelpgjdaaDoor
open Go.RowKit Rx
set_option linter.unusedVariables false

/-! a new place -/
abbrev pcC (p : Pc) : Array Value := #[.bool p.empty, wv p.first 0, wv p.first 1, wv p.first 2, wv p.first 3, wv p.last 0, wv p.last 1, wv p.last 2, wv p.last 3]
abbrev pcV (p : Pc) : Value := .agg (pcC p)
theorem own_shape {w : World} {base e s n : Nat} {v : Value} {xs : List Value} (h : w.ownsRow base e s v n xs) : ∃ A c, v = .slice A n c := by
  rcases h.2 with ⟨hv, hn⟩ | ⟨g, cap, cur, hv, _⟩
  · exact ⟨none, 0, by rw [hv, hn]⟩
  · exact ⟨_, _, hv⟩
theorem set_info : (Tryd.prog.info? 61).map (fun i => (i.zero, i.size, i.bytes)) = some (some (.agg #[.int .u64 0, .int .u64 0, .int .u64 0, .int .u64 0]), 4, 32) := by kernel_rfl
def Q4 (w : World) (ad : Addr) (x0 x1 x2 x3 : Value) : Prop := ∀ j u, ([x0, x1, x2, x3] : List Value)[j]? = some u → w.cell? (ad.add j) = some u
theorem quad_at (W : World) (x0 x1 x2 x3 : Value) (g : Nat) (h : g = W.heap.size) (t : TypeId) : Q4 (W.alloc (.cells #[x0, x1, x2, x3] t)) ⟨g, 0, none⟩ x0 x1 x2 x3 := by
  subst h
  intro j u hu
  match j, hu with
  | 0, hu => simp at hu; subst hu; simp [Addr.add, World.cell?_alloc_at]
  | 1, hu => simp at hu; subst hu; simp [Addr.add, World.cell?_alloc_at]
  | 2, hu => simp at hu; subst hu; simp [Addr.add, World.cell?_alloc_at]
  | 3, hu => simp at hu; subst hu; simp [Addr.add, World.cell?_alloc_at]
  | j + 4, hu => simp at hu
theorem flatS_snoc (l : List Nat) (t : Nat) : flatS (l ++ [t]) = flatS l ++ [wv t 0, wv t 1, wv t 2, wv t 3] := by rw [flatS_append]; rfl
theorem fl_new {w : World} {base e s n g : Nat} {v : Value} {xs : List Value} (h : w.ownsRow base e s v n xs) (hg : w.heap.size ≤ g) : v.ownBlock ≠ some g := fun e => by have := (h.lt g e).2; omega
/-- a row of the reader has grown, and the reader is told -/
theorem grown_takes {w1 W w2 : World} {b a o t g n cap : Nat} {T F T' : Value} {l : ByteArray} {m : Mach} (hR : Rdr w1 b T F l m a o) (hW : Below w1.heap.size w1 W) (hn : m.takes.length = n)
    (hT' : T' = .slice (some ⟨g, 0, none⟩) (n + 1) cap) (hown : w2.ownsRow 5 61 4 T' (n + 1) (flatS m.takes ++ [wv t 0, wv t 1, wv t 2, wv t 3])) (hg : W.grownBy w2 T.ownBlock) (hat : T.ownBlock = some g ∨ w1.heap.size ≤ g) :
    Rdr (w2.setCell ⟨b, 0, none⟩ T') b T' F l ⟨m.takes ++ [t], m.follow⟩ a o ∧ Moves b T F w1 T' F (w2.setCell ⟨b, 0, none⟩ T') := by
  have hb' : Blk w2 b 83 (rdC T F l a o) := (hR.blk.below hW).grown hg hR.t_b
  have hF : rowS w2 F m.follow := (own_below hR.fl hW).kept hg (by
    cases hF : F.ownBlock with
    | none => exact .inl rfl
    | some k => exact .inr (fun e => hR.apart k e.symm hF))
  have hob : T'.ownBlock = some g := by rw [hT']; rfl
  have htb : T'.ownBlock ≠ some b := by
    rw [hob]
    intro e
    injection e with e
    subst e
    rcases hat with h | h
    · exact hR.t_b h
    · have := hR.blk.lt; omega
  refine ⟨⟨hb'.set_ 0 _, hR.low, ?_, own_ne hF hR.f_b _ _, ?_⟩, ?_⟩
  · refine own_ne ?_ htb _ _
    show w2.ownsRow 5 61 4 T' (m.takes ++ [t]).length (flatS (m.takes ++ [t]))
    rw [flatS_snoc, List.length_append, List.length_singleton, hn]
    exact hown
  · intro k hk
    rw [hob] at hk
    injection hk with hk
    subst hk
    rcases hat with h | h
    · exact hR.apart g h
    · exact fl_new hR.fl h
  · have h1 : Moves b T F w1 T' F w2 := ⟨hg.os.trans hW.os, hg.tape.trans hW.tape, hg.output.trans hW.output, Nat.le_trans hW.size hg.size,
      fun j hj hn => (hg.block j (Nat.lt_of_lt_of_le hj hW.size) (fun e => hn (.inr (.inl e.symm)))).trans (hW.block j hj),
      fun j hj hf => by
        rcases hf with rfl | hf | hf
        · exact .inl rfl
        · rw [hob] at hf
          injection hf with hf
          subst hf
          rcases hat with h | h
          · exact .inr (.inl h)
          · omega
        · exact .inr (.inr hf)⟩
    exact h1.set_foot (.inl rfl) 0 _
theorem grown_follow {w1 W w2 : World} {b a o t g n cap : Nat} {T F F' : Value} {l : ByteArray} {m : Mach} (hR : Rdr w1 b T F l m a o) (hW : Below w1.heap.size w1 W) (hn : m.follow.length = n)
    (hF' : F' = .slice (some ⟨g, 0, none⟩) (n + 1) cap) (hown : w2.ownsRow 5 61 4 F' (n + 1) (flatS m.follow ++ [wv t 0, wv t 1, wv t 2, wv t 3])) (hg : W.grownBy w2 F.ownBlock) (hat : F.ownBlock = some g ∨ w1.heap.size ≤ g) :
    Rdr (w2.setCell ⟨b, 1, none⟩ F') b T F' l ⟨m.takes, m.follow ++ [t]⟩ a o ∧ Moves b T F w1 T F' (w2.setCell ⟨b, 1, none⟩ F') := by
  have hb' : Blk w2 b 83 (rdC T F l a o) := (hR.blk.below hW).grown hg hR.f_b
  have hT : rowS w2 T m.takes := (own_below hR.tk hW).kept hg (by
    cases hT : T.ownBlock with
    | none => exact .inl rfl
    | some k => exact .inr (fun e => hR.apart k hT e.symm))
  have hob : F'.ownBlock = some g := by rw [hF']; rfl
  have htb : F'.ownBlock ≠ some b := by
    rw [hob]
    intro e
    injection e with e
    subst e
    rcases hat with h | h
    · exact hR.f_b h
    · have := hR.blk.lt; omega
  refine ⟨⟨hb'.set_ 1 _, hR.low, own_ne hT hR.t_b _ _, ?_, ?_⟩, ?_⟩
  · refine own_ne ?_ htb _ _
    show w2.ownsRow 5 61 4 F' (m.follow ++ [t]).length (flatS (m.follow ++ [t]))
    rw [flatS_snoc, List.length_append, List.length_singleton, hn]
    exact hown
  · intro k hk hk2
    rw [hob] at hk2
    injection hk2 with hk2
    subst hk2
    rcases hat with h | h
    · exact hR.apart g hk h
    · exact fl_new hR.tk h hk
  · have h1 : Moves b T F w1 T F' w2 := ⟨hg.os.trans hW.os, hg.tape.trans hW.tape, hg.output.trans hW.output, Nat.le_trans hW.size hg.size,
      fun j hj hn => (hg.block j (Nat.lt_of_lt_of_le hj hW.size) (fun e => hn (.inr (.inr e.symm)))).trans (hW.block j hj),
      fun j hj hf => by
        rcases hf with rfl | hf | hf
        · exact .inl rfl
        · exact .inr (.inl hf)
        · rw [hob] at hf
          injection hf with hf
          subst hf
          rcases hat with h | h
          · exact .inr (.inr h)
          · omega⟩
    exact h1.set_foot (.inl rfl) 1 _
/-- nine cells are written -/
abbrev put9 (w : World) (j : Nat) (v0 v1 v2 v3 v4 v5 v6 v7 v8 : Value) : World := (((((((((w.setCell ⟨j, 0, none⟩ v0).setCell ⟨j, 1, none⟩ v1).setCell ⟨j, 2, none⟩ v2).setCell ⟨j, 3, none⟩ v3).setCell ⟨j, 4, none⟩ v4).setCell ⟨j, 5, none⟩ v5).setCell ⟨j, 6, none⟩ v6).setCell ⟨j, 7, none⟩ v7).setCell ⟨j, 8, none⟩ v8)
theorem Moves.set9 {b : Nat} {T F T1 F1 : Value} {w0 w : World} (h : Moves b T F w0 T1 F1 w) {j : Nat} (hj : w0.heap.size ≤ j) (v0 v1 v2 v3 v4 v5 v6 v7 v8 : Value) : Moves b T F w0 T1 F1 (put9 w j v0 v1 v2 v3 v4 v5 v6 v7 v8) :=
  (((((((((h.set_new hj 0 v0).set_new hj 1 v1).set_new hj 2 v2).set_new hj 3 v3).set_new hj 4 v4).set_new hj 5 v5).set_new hj 6 v6).set_new hj 7 v7).set_new hj 8 v8)
theorem Rdr.set9 {w : World} {b : Nat} {T F : Value} {l : ByteArray} {m : Mach} {a o j : Nat} (h : Rdr w b T F l m a o) (hj : ¬ Foot b T F j) (v0 v1 v2 v3 v4 v5 v6 v7 v8 : Value) : Rdr (put9 w j v0 v1 v2 v3 v4 v5 v6 v7 v8) b T F l m a o :=
  (((((((((h.other hj 0 v0).other hj 1 v1).other hj 2 v2).other hj 3 v3).other hj 4 v4).other hj 5 v5).other hj 6 v6).other hj 7 v7).other hj 8 v8)
theorem Blk.set9 {w : World} {j : Nat} {t : TypeId} {x0 x1 x2 x3 x4 x5 x6 x7 x8 : Value} (h : Blk w j t #[x0, x1, x2, x3, x4, x5, x6, x7, x8]) (v0 v1 v2 v3 v4 v5 v6 v7 v8 : Value) : Blk (put9 w j v0 v1 v2 v3 v4 v5 v6 v7 v8) j t #[v0, v1, v2, v3, v4, v5, v6, v7, v8] := by
  have h0 := h.set_ 0 v0
  simp only [List.setIfInBounds_toArray, List.set_cons_zero] at h0
  have h1 := h0.set_ 1 v1
  simp only [List.setIfInBounds_toArray, List.set_cons_zero, List.set_cons_succ] at h1
  have h2 := h1.set_ 2 v2
  simp only [List.setIfInBounds_toArray, List.set_cons_zero, List.set_cons_succ] at h2
  have h3 := h2.set_ 3 v3
  simp only [List.setIfInBounds_toArray, List.set_cons_zero, List.set_cons_succ] at h3
  have h4 := h3.set_ 4 v4
  simp only [List.setIfInBounds_toArray, List.set_cons_zero, List.set_cons_succ] at h4
  have h5 := h4.set_ 5 v5
  simp only [List.setIfInBounds_toArray, List.set_cons_zero, List.set_cons_succ] at h5
  have h6 := h5.set_ 6 v6
  simp only [List.setIfInBounds_toArray, List.set_cons_zero, List.set_cons_succ] at h6
  have h7 := h6.set_ 7 v7
  simp only [List.setIfInBounds_toArray, List.set_cons_zero, List.set_cons_succ] at h7
  have h8 := h7.set_ 8 v8
  simp only [List.setIfInBounds_toArray, List.set_cons_zero, List.set_cons_succ] at h8
  exact h8
theorem Blk.set9_other {w : World} {j k : Nat} {t : TypeId} {cs : Array Value} (h : Blk w k t cs) (hj : k ≠ j) (v0 v1 v2 v3 v4 v5 v6 v7 v8 : Value) : Blk (put9 w j v0 v1 v2 v3 v4 v5 v6 v7 v8) k t cs :=
  (((((((((h.other hj 0 v0).other hj 1 v1).other hj 2 v2).other hj 3 v3).other hj 4 v4).other hj 5 v5).other hj 6 v6).other hj 7 v7).other hj 8 v8)
set_option maxRecDepth 100000 in
set_option maxHeartbeats 8000000 in
theorem place_any (b a o t : Nat) (T F : Value) (l : ByteArray) (m : Mach) (w : World) (hr : Rdr w b T F l m a o) (hn : m.takes.length < 256) (hm : m.follow.length = m.takes.length) :
    Calls Tryd.prog 79 #[.pointer (some ⟨b, 0, none⟩), setV t] w fun e w' => ∃ T' F', Moves b T F w T' F' w' ∧ e = .returned (pcV (placeP m)) ∧ Rdr w' b T' F' l (placeM m t) a o := by
  have HA := Lib.hid (fun k g W n hk hgb => add_any n k g hk W hgb)
  obtain ⟨A, c, rfl⟩ := own_shape hr.tk
  have HR := Lib.hid hr
  clear hr
  have q0 := fun o1 o2 o3 => (rd_cells (((HR.out.alloc o1).alloc o2).alloc o3)).1
  generalize hN : m.takes.length = n at *
  have HNN := Lib.hid hN
  clear hN
  obtain ⟨i0, hi0, hz0, hz1, hz2⟩ := info_parts set_info
  go_enter Tryd.func79, Tryd.ntmps79
  go_wp2_with fail
  have HB0 : Hid (Blk (((w.alloc (.cells #[wv t 0, wv t 1, wv t 2, wv t 3] 61)).alloc (.cells #[.bool false, .int .u64 0, .int .u64 0, .int .u64 0, .int .u64 0, .int .u64 0, .int .u64 0, .int .u64 0, .int .u64 0] 85)).alloc (.cells #[.int .u64 0, .int .u64 0, .int .u64 0, .int .u64 0] 61)) (w.heap.size + 1 + 1) 61 (setC 0)) := by
    show Blk _ _ _ _
    unfold setC
    rw [wv_zero, wv_zero, wv_zero, wv_zero]
    have := Blk.new ((w.alloc (.cells #[wv t 0, wv t 1, wv t 2, wv t 3] 61)).alloc (.cells #[.bool false, .int .u64 0, .int .u64 0, .int .u64 0, .int .u64 0, .int .u64 0, .int .u64 0, .int .u64 0, .int .u64 0] 85)) 61 #[.int .u64 0, .int .u64 0, .int .u64 0, .int .u64 0]
    rw [World.size_alloc, World.size_alloc] at this
    exact this
  have HB1 := Lib.hid (((Blk.new w 61 (setC t)).alloc (.cells #[.bool false, .int .u64 0, .int .u64 0, .int .u64 0, .int .u64 0, .int .u64 0, .int .u64 0, .int .u64 0, .int .u64 0] 85)).alloc (.cells #[.int .u64 0, .int .u64 0, .int .u64 0, .int .u64 0] 61))
  have HB2 : Hid (Blk (((w.alloc (.cells #[wv t 0, wv t 1, wv t 2, wv t 3] 61)).alloc (.cells #[.bool false, .int .u64 0, .int .u64 0, .int .u64 0, .int .u64 0, .int .u64 0, .int .u64 0, .int .u64 0, .int .u64 0] 85)).alloc (.cells #[.int .u64 0, .int .u64 0, .int .u64 0, .int .u64 0] 61)) (w.heap.size + 1) 85 #[.bool false, .int .u64 0, .int .u64 0, .int .u64 0, .int .u64 0, .int .u64 0, .int .u64 0, .int .u64 0, .int .u64 0]) := by
    have := (Blk.new (w.alloc (.cells #[wv t 0, wv t 1, wv t 2, wv t 3] 61)) 85 #[.bool false, .int .u64 0, .int .u64 0, .int .u64 0, .int .u64 0, .int .u64 0, .int .u64 0, .int .u64 0, .int .u64 0]).alloc (.cells #[.int .u64 0, .int .u64 0, .int .u64 0, .int .u64 0] 61)
    rw [World.size_alloc] at this
    exact this
  have HR0 := Lib.hid (((HR.out.alloc (.cells #[wv t 0, wv t 1, wv t 2, wv t 3] 61)).alloc (.cells #[.bool false, .int .u64 0, .int .u64 0, .int .u64 0, .int .u64 0, .int .u64 0, .int .u64 0, .int .u64 0, .int .u64 0] 85)).alloc (.cells #[.int .u64 0, .int .u64 0, .int .u64 0, .int .u64 0] 61))
  have HM0 := Lib.hid ((((Moves.refl b (.slice A n c) F w).alloc (.cells #[wv t 0, wv t 1, wv t 2, wv t 3] 61)).alloc (.cells #[.bool false, .int .u64 0, .int .u64 0, .int .u64 0, .int .u64 0, .int .u64 0, .int .u64 0, .int .u64 0, .int .u64 0] 85)).alloc (.cells #[.int .u64 0, .int .u64 0, .int .u64 0, .int .u64 0] 61))
  have HFT : Hid (∀ j, w.heap.size ≤ j → ¬ Foot b (.slice A n c) F j) := fun j hj hf => by have := (HR.out.lt_foot hf).1; omega
  refine (HA.out n _ _ 0 hn HB0.out).mono ?_
  rintro e w1 ⟨rfl, hb, hg⟩
  rw [Nat.zero_or] at hb
  have HB0' := Lib.hid hb
  have HB1' := Lib.hid (HB1.out.grown hg (by intro e; injection e; omega))
  have HB2' := Lib.hid (HB2.out.grown hg (by intro e; injection e; omega))
  have HR1 := Lib.hid (HR0.out.grown (HFT.out _ (by omega)) hg)
  have HM1 := Lib.hid (HM0.out.grown (by omega) hg)
  clear hb hg HR0 HM0 HB0 HB1 HB2 q0 HA
  have q0 := (rd_cells HR1.out).1
  have qf := HR1.out.blk.frozen 0
  have x0 := HB1'.out.cell 0
  have x1 := HB1'.out.cell 1
  have x2 := HB1'.out.cell 2
  have x3 := HB1'.out.cell 3
  simp only [List.getElem?_toArray, List.getElem?_cons_zero, List.getElem?_cons_succ] at x0 x1 x2 x3
  have q0a := fun o => (rd_cells (HR1.out.alloc o)).1
  have HTK := Lib.hid HR1.out.tk
  have HTK' : Hid (∀ o : Obj, (w1.alloc o).ownsRow 5 61 4 (.slice A n c) n (flatS m.takes)) := fun o => by have := own_below HTK.out ((Below.refl _ _).alloc (Nat.le_refl _) o); rw [HNN.out] at this; exact this
  have hb1 : n + 1 ≤ maxLen := by unfold maxLen; omega
  have hb2 : (n + 1) * 32 ≤ 140737488355328 := by omega
  have hb3 : 5 ≤ w1.heap.size := by have := HR1.out.low; have := HR1.out.blk.lt; omega
  have BM := Lib.hid hb1
  clear hb1
  go_upto_region 3 with fail
  go_cut [] from 12 to 21 (fun wx => ∃ (T' : Value) (W2 : World), W2 = wx ∧ Hid (Rdr W2 b T' F l ⟨m.takes ++ [t], m.follow⟩ a o) ∧ Hid (Moves b (.slice A n c) F w1 T' F W2))
  case first =>
    refine wp_region_noPanic ?_
    go_region_law
      (first
        | (refine step_append_lies _ (by rfl) (.tmp 16) (.tmp 18) 58 (by rfl) 5 61 i0 _ 4 32 Tryd.underlying58 hi0 hz0 hz1 hz2 rfl (by decide) (.slice A n c) n (flatS m.takes) (by rfl) (HTK'.out _) ⟨w1.heap.size, 0, none⟩ 1 1 [wv t 0, wv t 1, wv t 2, wv t 3] (by rfl) (by rfl) (quad_at w1 _ _ _ _ _ rfl 61) (flatS_one [t]) (by decide) BM.out hb2 (by simp; omega) (w1.heap.size + 1) (by simp) ?_
           intro g cap w2 hown hgrow hat hlt
           have hg1 : (w1.alloc (.cells #[wv t 0, wv t 1, wv t 2, wv t 3] 61)).grownBy w2 (Value.slice A n c).ownBlock := ⟨hgrow.os, hgrow.tape, hgrow.output, hgrow.size, hgrow.block⟩
           have hbl := (HR1.out.blk.alloc (.cells #[wv t 0, wv t 1, wv t 2, wv t 3] 61)).grown hg1 HR1.out.t_b
           have z0 := hbl.cell 0
           have zf := hbl.frozen 0
           have HP := Lib.hid (grown_takes HR1.out ((Below.refl _ _).alloc (Nat.le_refl _) (.cells #[wv t 0, wv t 1, wv t 2, wv t 3] 61)) HNN.out rfl hown hg1 (hat.imp id (fun h => by omega)))
           clear hown hgrow hat hg1 hbl))
    all_goals
      refine NoPanic.normal ?_
      go_wp2_with fail
      go_meet
      exact ⟨_, _, rfl, HP.out.1, HP.out.2⟩
  case rest =>
    obtain ⟨T', W2, rfl, HR2, HM12⟩ := hcut
    have HB0b := Lib.hid (HB0'.out.moves HM12.out (HFT.out _ (by omega)))
    have HB2b := Lib.hid (HB2'.out.moves HM12.out (HFT.out _ (by omega)))
    have HM2 := Lib.hid (HM1.out.trans HM12.out)
    have HFa : Hid (¬ Foot b T' F (w.heap.size + 1 + 1)) := fun hf => HFT.out _ (by omega) (HM12.out.foot _ HB0'.out.lt hf)
    have HFb : Hid (¬ Foot b T' F (w.heap.size + 1)) := fun hf => HFT.out _ (by omega) (HM12.out.foot _ HB2'.out.lt hf)
    clear q0 q0a qf x0 x1 x2 x3 HTK HTK' hb3 HB1' HB0' HB2' HM1
    have hfl : m.follow.length = n := hm
    have hsh := own_shape HR2.out.fl
    dsimp only at hsh
    rw [hfl] at hsh
    obtain ⟨A2, c2, rfl⟩ := hsh
    have HFL := Lib.hid hfl
    clear hfl
    have q0 := (rd_cells HR2.out).2.1
    have q0a := fun o => (rd_cells (HR2.out.alloc o)).2.1
    have qf := HR2.out.blk.frozen 1
    have HTK' : Hid (∀ o : Obj, (W2.alloc o).ownsRow 5 61 4 (.slice A2 n c2) n (flatS m.follow)) := fun o => by have := own_below HR2.out.fl ((Below.refl _ _).alloc (Nat.le_refl _) o); rw [HFL.out] at this; exact this
    have hb3 : 5 ≤ W2.heap.size := by have := HR2.out.low; have := HR2.out.blk.lt; omega
    go_upto_region 4 with fail
    go_cut [] from 22 to 31 (fun wx => ∃ (F' : Value) (W3 : World), W3 = wx ∧ Hid (Rdr W3 b T' F' l ⟨m.takes ++ [t], m.follow ++ [0]⟩ a o) ∧ Hid (Moves b T' (.slice A2 n c2) W2 T' F' W3))
    case first =>
      go_wp2_with (at_builtin; (first
        | (refine wpList_append_lies _ rfl (.tmp 26) (.tmp 28) 58 rfl 5 61 i0 _ 4 32 Tryd.underlying58 hi0 hz0 hz1 hz2 rfl (by decide) (.slice A2 n c2) n (flatS m.follow) rfl (HTK'.out _) ⟨W2.heap.size, 0, none⟩ 1 1 [.int .u64 0, .int .u64 0, .int .u64 0, .int .u64 0] rfl rfl (quad_at W2 _ _ _ _ _ rfl 61) (flatS_one [0]) (by decide) BM.out hb2 (by simp; omega) (W2.heap.size + 1) (by simp) ?_
           intro g cap w2 hown hgrow hat hlt
           have hg1 : (W2.alloc (.cells #[.int .u64 0, .int .u64 0, .int .u64 0, .int .u64 0] 61)).grownBy w2 (Value.slice A2 n c2).ownBlock := ⟨hgrow.os, hgrow.tape, hgrow.output, hgrow.size, hgrow.block⟩
           have hbl := (HR2.out.blk.alloc (.cells #[.int .u64 0, .int .u64 0, .int .u64 0, .int .u64 0] 61)).grown hg1 HR2.out.f_b
           have z0 : w2.cell? ⟨b, 1, none⟩ = some (.slice A2 n c2) := hbl.cell 1
           have zf := hbl.frozen 1
           have hown' : w2.ownsRow 5 61 4 (.slice (some ⟨g, 0, none⟩) (n + 1) cap) (n + 1) (flatS m.follow ++ [wv 0 0, wv 0 1, wv 0 2, wv 0 3]) := by rw [wv_zero, wv_zero, wv_zero, wv_zero]; exact hown
           have HP := Lib.hid (grown_follow HR2.out ((Below.refl _ _).alloc (Nat.le_refl _) (.cells #[.int .u64 0, .int .u64 0, .int .u64 0, .int .u64 0] 61)) HFL.out rfl hown' hg1 (hat.imp id (fun h => by omega)))
           clear hown hown' hgrow hat hg1 hbl)))
      go_meet
      exact ⟨_, _, rfl, HP.out.1, HP.out.2⟩
    case rest =>
      obtain ⟨F', W3, rfl, HR3, HM23⟩ := hcut
      have HM3 := Lib.hid (HM2.out.trans HM23.out)
      have HB0c := Lib.hid (HB0b.out.moves HM23.out HFa.out)
      have HB2c := Lib.hid (HB2b.out.moves HM23.out HFb.out)
      have r0 := HB2c.out.cell 0
      have r1 := HB2c.out.cell 1
      have r2 := HB2c.out.cell 2
      have r3 := HB2c.out.cell 3
      have r4 := HB2c.out.cell 4
      have r5 := HB2c.out.cell 5
      have r6 := HB2c.out.cell 6
      have r7 := HB2c.out.cell 7
      have r8 := HB2c.out.cell 8
      have p0 := HB2c.out.frozen 0
      have p1 := HB2c.out.frozen 1
      have p2 := HB2c.out.frozen 2
      have p3 := HB2c.out.frozen 3
      have p4 := HB2c.out.frozen 4
      have p5 := HB2c.out.frozen 5
      have p6 := HB2c.out.frozen 6
      have p7 := HB2c.out.frozen 7
      have p8 := HB2c.out.frozen 8
      have k0 := HB0c.out.cell 0
      have k1 := HB0c.out.cell 1
      have k2 := HB0c.out.cell 2
      have k3 := HB0c.out.cell 3
      simp only [List.getElem?_toArray, List.getElem?_cons_zero, List.getElem?_cons_succ] at r0 r1 r2 r3 r4 r5 r6 r7 r8 k0 k1 k2 k3
      clear q0 q0a qf
      have HFc : Hid (¬ Foot b T' F' (w.heap.size + 1)) := HR3.out.off HB2c.out (by decide) (by decide)
      go_wp2
      refine bodyPost_ret (v := pcV (placeP m)) (by simp [results, Tryd.results79, go_sem, r0, r1, r2, r3, r4, r5, r6, r7, r8, placeP, HNN.out]) rfl ⟨T', F', HM3.out.set9 (Nat.le_succ _) _ _ _ _ _ _ _ _ _, rfl, HR3.out.set9 HFc.out _ _ _ _ _ _ _ _ _⟩
end Go.Proofs.YtahphjaelpgjdaaDoor

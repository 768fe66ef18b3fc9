import Derived.Test.YtahphjaelpgjdaaDoorW9
namespace Go.Proofs.YtahphjaelpgjdaaDoor
open Go.RowKit Rx
set_option linter.unusedVariables false

/-! a byte of a class, or some in a row -/
abbrev setC (t : Nat) : Array Value := #[wv t 0, wv t 1, wv t 2, wv t 3]
def ItemPost (b : Nat) (T F : Value) (l : ByteArray) (m : Mach) (o g : Nat) (w0 : World) (r : CR) (e : Ending) (w' : World) : Prop :=
  Moves b T F w0 T F w' ∧ match r with
  | .bad pl => ∃ err, e = .returned err ∧ ErrAt w' err pl 2
  | .ok a t => e = .returned .nilIface ∧ Rdr w' b T F l m a o ∧ Blk w' g 61 (setC t)
theorem itemPost_bad {b : Nat} {T F : Value} {l : ByteArray} {m : Mach} {o g : Nat} {w0 w' : World} {r : CR} {pl f : Nat} (hr : r = .bad pl) (hM : Moves b T F w0 T F w') (hb : Blk w' f 74 #[.int .i64 pl, .iface 55 (.int .i64 2)]) :
    ItemPost b T F l m o g w0 r (.returned (.iface 70 (.pointer (some ⟨f, 0, none⟩)))) w' := by
  subst hr; exact ⟨hM, _, rfl, ⟨f, rfl, hb⟩⟩
theorem itemPost_ok {b : Nat} {T F : Value} {l : ByteArray} {m : Mach} {o g : Nat} {w0 w' : World} {r : CR} {a t : Nat} (hr : r = .ok a t) (hM : Moves b T F w0 T F w') (hR : Rdr w' b T F l m a o) (hb : Blk w' g 61 (setC t)) :
    ItemPost b T F l m o g w0 r (.returned .nilIface) w' := by
  subst hr; exact ⟨hM, rfl, hR, hb⟩
theorem Rdr.grown {w w' : World} {b : Nat} {T F : Value} {l : ByteArray} {m : Mach} {a o k : Nat} (h : Rdr w b T F l m a o) (hk : ¬ Foot b T F k) (hg : w.grownBy w' (some k)) : Rdr w' b T F l m a o :=
  ⟨h.blk.grown hg (fun e => hk (by injection e with e; exact .inl e)), h.low, h.tk.kept hg (.inr fun e => hk (.inr (.inl e))), h.fl.kept hg (.inr fun e => hk (.inr (.inr e))), h.apart⟩
theorem Moves.grown {b : Nat} {T F T1 F1 : Value} {w w1 w2 : World} {g : Nat} (h : Moves b T F w T1 F1 w1) (hg : w.heap.size ≤ g) (k : w1.grownBy w2 (some g)) : Moves b T F w T1 F1 w2 :=
  h.new ⟨k.os, k.tape, k.output, k.size, fun j hj => k.block j (by have := h.size; omega) (fun e => by injection e; omega)⟩
set_option maxRecDepth 100000 in
set_option maxHeartbeats 8000000 in
theorem item_any (b a o g t : Nat) (T F : Value) (l : ByteArray) (m : Mach) (w0 w : World) (hr : Rdr w b T F l m a o) (hl : l.size ≤ 200) (ha : a ≤ l.size)
    (hM : Moves b T F w0 T F w) (hg : w0.heap.size ≤ g) (hn : ¬ Foot b T F g) (hb : Blk w g 61 (setC t)) :
    Calls Tryd.prog 85 #[.pointer (some ⟨b, 0, none⟩), .pointer (some ⟨g, 0, none⟩)] w (ItemPost b T F l m o g w0 (itemF l a t)) := by
  have HC := Lib.hid (cchar_any b a o T F l m w hr hl ha)
  have HM := Lib.hid hM
  have HG := Lib.hid hb
  have HN := Lib.hid hn
  have HA := Lib.hid (fun k g W n hk hgb => add_any n k g hk W hgb)
  clear hM hb hn hr
  cases hc : ccharF l a with
  | bad pl =>
    rw [hc] at HC
    have H1 : Hid (itemF l a t = .bad pl) := by show itemF l a t = _; unfold itemF; rw [hc]
    clear hc
    go_enter Tryd.func85, Tryd.ntmps85
    go_wp2_with fail
    refine (HC.out).mono ?_
    rintro e w1 ⟨hm, err, rfl, ⟨f, rfl, hf⟩, _⟩
    have HM1 := Lib.hid (HM.out.trans hm)
    have HF := Lib.hid hf
    clear hm hf
    go_wp2
    go_ret
    exact itemPost_bad H1.out HM1.out HF.out
  | ok a1 lo =>
    have k1 := ccharF_ok hc
    rw [hc] at HC
    have HS := Lib.hid (fun W (hR : Rdr W b T F l m a1 o) => sees_is b a1 l ⟨#[45]⟩ [45] sg_dash W hl k1.2.1 (rd_cells hR).2.2.1 (rd_cells hR).2.2.2.1)
    rw [sees_one] at HS
    obtain ⟨ha1, hle1, hlo⟩ := k1
    cases hs : sees l a1 45 with
    | false =>
      rw [hs] at HS
      have H1 : Hid (itemF l a t = .ok a1 (addR t lo 1)) := by show itemF l a t = _; unfold itemF; rw [hc]; dsimp only; rw [hs]; rfl
      clear hc hs
      go_enter Tryd.func85, Tryd.ntmps85
      go_wp2_with fail
      refine (HC.out).mono ?_
      rintro e w1 ⟨hm, rfl, hR⟩
      have HM1 := Lib.hid (HM.out.trans hm)
      have HR1 := Lib.hid hR
      have HG1 := Lib.hid (HG.out.moves hm HN.out)
      clear hm hR HC
      go_wp2_with fail
      refine (HS.out _ HR1.out).mono ?_
      rintro e w2 ⟨rfl, n2, rfl⟩
      have HM2 := Lib.hid (HM1.out.drewN n2)
      have HR2 := Lib.hid (HR1.out.drewN n2)
      have HG2 : Hid (Blk (w1.drewN n2) g 61 (setC t)) := HG1.out
      generalize w1.drewN n2 = W at *
      clear HM1 HR1 HG1 HM HG HS
      go_wp2
      go_loopw [8] (fun s8 wr => ∃ k : Nat, s8 = .int .i64 k ∧ lo ≤ k ∧ k ≤ lo + 1 ∧ Hid (Blk wr g 61 (setC (addR t lo (k - lo)))) ∧ Hid (Rdr wr b T F l m a1 o) ∧ Hid (Moves b T F w0 T F wr)) (fun s8 _ => (lo + 1 - intOf s8).toNat)
      case atStart => exact ⟨lo, rfl, Nat.le_refl _, by omega, by rw [Nat.sub_self]; exact HG2, HR2, HM2⟩
      case round =>
        obtain ⟨k, rfl, hk1, hk2, HGr, HRr, HMr⟩ := hrel
        by_cases hk : k ≤ lo
        · have HA1 := Lib.hid (HA.out k g wr (addR t lo (k - lo)) (by omega) HGr.out)
          go_wp2_with fail
          refine (HA1.out).mono ?_
          rintro e w3 ⟨rfl, hb3, hg3⟩
          have HG3 : Hid (Blk w3 g 61 (setC (addR t lo (k + 1 - lo)))) := by
            show Blk w3 g 61 _
            rw [show k + 1 - lo = (k - lo) + 1 by omega]
            show Blk w3 g 61 (setC (addR t lo (k - lo) ||| 2 ^ (lo + (k - lo))))
            rw [show lo + (k - lo) = k by omega]
            exact hb3
          have HR3 := Lib.hid (HRr.out.grown HN.out hg3)
          have HM3 := Lib.hid (HMr.out.grown hg hg3)
          clear hb3 hg3 HA1
          go_wp2
          go_roundw
          case rel => exact ⟨k + 1, by go_num, by omega, by omega, HG3, HR3, HM3⟩
          case measure => simp [intOf]; omega
        · obtain rfl : k = lo + 1 := by omega
          go_wp2
          go_ret
          exact itemPost_ok H1.out HMr.out HRr.out (by have := HGr.out; rwa [show lo + 1 - lo = 1 by omega] at this)
    | true =>
      rw [hs] at HS
      have hlt1 := sees_lt hs
      have HC2 := Lib.hid (fun W (hR : Rdr W b T F l m (a1 + 1) o) => cchar_any b (a1 + 1) o T F l m W hR hl hlt1)
      cases hc2 : ccharF l (a1 + 1) with
      | bad pl =>
        rw [hc2] at HC2
        have H1 : Hid (itemF l a t = .bad pl) := by show itemF l a t = _; unfold itemF; simp [hc, hs, hc2]
        clear hc hs hc2
        go_enter Tryd.func85, Tryd.ntmps85
        go_wp2_with fail
        refine (HC.out).mono ?_
        rintro e w1 ⟨hm, rfl, hR⟩
        have HM1 := Lib.hid (HM.out.trans hm)
        have HR1 := Lib.hid hR
        clear hm hR HC
        go_wp2_with fail
        refine (HS.out _ HR1.out).mono ?_
        rintro e w2 ⟨rfl, n2, rfl⟩
        have HM2 := Lib.hid (HM1.out.drewN n2)
        have HR2 := Lib.hid (HR1.out.drewN n2)
        generalize w1.drewN n2 = W at *
        clear HM1 HR1 HM HG HS
        have q4 := (rd_cells HR2.out).2.2.2.1
        have qf := HR2.out.blk.frozen 12
        go_wp2_with fail
        refine (HC2.out _ (HR2.out.set_at (a1 + 1) _ (by rfl))).mono ?_
        rintro e w3 ⟨hm, err, rfl, ⟨f, rfl, hf⟩, _⟩
        have HM3 := Lib.hid ((HM2.out.set_foot (foot_self b T F) 12 _).trans hm)
        have HF := Lib.hid hf
        clear hm hf q4 qf HC2
        go_wp2
        go_ret
        exact itemPost_bad H1.out HM3.out HF.out
      | ok a2 hi =>
        rw [hc2] at HC2
        have k2 := ccharF_ok hc2
        obtain ⟨ha2, hle2, hhi⟩ := k2
        by_cases hlh : hi < lo
        · have H1 : Hid (itemF l a t = .bad (a2 - 1)) := by show itemF l a t = _; unfold itemF; simp [hc, hs, hc2, hlh]
          clear hc hs hc2
          go_enter Tryd.func85, Tryd.ntmps85
          go_wp2_with fail
          refine (HC.out).mono ?_
          rintro e w1 ⟨hm, rfl, hR⟩
          have HM1 := Lib.hid (HM.out.trans hm)
          have HR1 := Lib.hid hR
          clear hm hR HC
          go_wp2_with fail
          refine (HS.out _ HR1.out).mono ?_
          rintro e w2 ⟨rfl, n2, rfl⟩
          have HM2 := Lib.hid (HM1.out.drewN n2)
          have HR2 := Lib.hid (HR1.out.drewN n2)
          generalize w1.drewN n2 = W at *
          clear HM1 HR1 HM HG HS
          have q4 := (rd_cells HR2.out).2.2.2.1
          have qf := HR2.out.blk.frozen 12
          go_wp2_with fail
          refine (HC2.out _ (HR2.out.set_at (a1 + 1) _ (by rfl))).mono ?_
          rintro e w3 ⟨hm, rfl, hR⟩
          have HM3 := Lib.hid ((HM2.out.set_foot (foot_self b T F) 12 _).trans hm)
          have HR3 := Lib.hid hR
          clear hm hR q4 qf HC2 HM2 HR2
          have q4 := (rd_cells HR3.out).2.2.2.1
          have qf := HR3.out.blk.frozen 12
          go_wp2_with fail
          have HR4 : Hid (Rdr (w3.setCell ⟨b, 12, none⟩ (.int .i64 ((a2 : Int) - 1))) b T F l m (a2 - 1) o) := HR3.out.set_at (a2 - 1) _ (by rw [show ((a2 - 1 : Nat) : Int) = (a2 : Int) - 1 by omega])
          refine (bad_any b (a2 - 1) _ (rd_cells HR4.out).2.2.2.1).mono ?_
          rintro e w4 ⟨f, rfl, hbk, hbl⟩
          have HM4 := Lib.hid ((HM3.out.set_foot (foot_self b T F) 12 _).below hbl)
          have HBK := Lib.hid hbk
          clear hbk hbl q4 qf
          go_wp2
          go_ret
          exact itemPost_bad H1.out HM4.out HBK.out
        · have H1 : Hid (itemF l a t = .ok a2 (addR t lo (hi + 1 - lo))) := by show itemF l a t = _; unfold itemF; simp [hc, hs, hc2, hlh]
          clear hc hs hc2
          go_enter Tryd.func85, Tryd.ntmps85
          go_wp2_with fail
          refine (HC.out).mono ?_
          rintro e w1 ⟨hm, rfl, hR⟩
          have HM1 := Lib.hid (HM.out.trans hm)
          have HR1 := Lib.hid hR
          have HG1 := Lib.hid (HG.out.moves hm HN.out)
          clear hm hR HC
          go_wp2_with fail
          refine (HS.out _ HR1.out).mono ?_
          rintro e w2 ⟨rfl, n2, rfl⟩
          have HM2 := Lib.hid (HM1.out.drewN n2)
          have HR2 := Lib.hid (HR1.out.drewN n2)
          have HG2 : Hid (Blk (w1.drewN n2) g 61 (setC t)) := HG1.out
          generalize w1.drewN n2 = W at *
          clear HM1 HR1 HG1 HM HG HS
          have q4 := (rd_cells HR2.out).2.2.2.1
          have qf := HR2.out.blk.frozen 12
          go_wp2_with fail
          have HG2' : Hid (Blk (W.setCell ⟨b, 12, none⟩ (.int .i64 ((a1 : Int) + 1))) g 61 (setC t)) := HG2.out.other (fun e => HN.out (.inl e)) 12 _
          refine (HC2.out _ (HR2.out.set_at (a1 + 1) _ (by rfl))).mono ?_
          rintro e w3 ⟨hm, rfl, hR⟩
          have HM3 := Lib.hid ((HM2.out.set_foot (foot_self b T F) 12 _).trans hm)
          have HR3 := Lib.hid hR
          have HG3 := Lib.hid (HG2'.out.moves hm HN.out)
          clear hm hR q4 qf HC2 HM2 HR2 HG2 HG2'
          have HM2 := HM3
          have HR2 := HR3
          have HG2 := HG3
          clear HM3 HR3 HG3
          go_wp2
          go_loopw [8] (fun s8 wr => ∃ k : Nat, s8 = .int .i64 k ∧ lo ≤ k ∧ k ≤ hi + 1 ∧ Hid (Blk wr g 61 (setC (addR t lo (k - lo)))) ∧ Hid (Rdr wr b T F l m a2 o) ∧ Hid (Moves b T F w0 T F wr)) (fun s8 _ => (hi + 1 - intOf s8).toNat)
          case atStart => exact ⟨lo, rfl, Nat.le_refl _, by omega, by rw [Nat.sub_self]; exact HG2, HR2, HM2⟩
          case round =>
            obtain ⟨k, rfl, hk1, hk2, HGr, HRr, HMr⟩ := hrel
            by_cases hk : k ≤ hi
            · have HA1 := Lib.hid (HA.out k g wr (addR t lo (k - lo)) (by omega) HGr.out)
              go_wp2_with fail
              refine (HA1.out).mono ?_
              rintro e w3 ⟨rfl, hb3, hg3⟩
              have HG3 : Hid (Blk w3 g 61 (setC (addR t lo (k + 1 - lo)))) := by
                show Blk w3 g 61 _
                rw [show k + 1 - lo = (k - lo) + 1 by omega]
                show Blk w3 g 61 (setC (addR t lo (k - lo) ||| 2 ^ (lo + (k - lo))))
                rw [show lo + (k - lo) = k by omega]
                exact hb3
              have HR3 := Lib.hid (HRr.out.grown HN.out hg3)
              have HM3 := Lib.hid (HMr.out.grown hg hg3)
              clear hb3 hg3 HA1
              go_wp2
              go_roundw
              case rel => exact ⟨k + 1, by go_num, by omega, by omega, HG3, HR3, HM3⟩
              case measure => simp [intOf]; omega
            · obtain rfl : k = hi + 1 := by omega
              go_wp2
              go_ret
              exact itemPost_ok H1.out HMr.out HRr.out HGr.out
end Go.Proofs.YtahphjaelpgjdaaDoor

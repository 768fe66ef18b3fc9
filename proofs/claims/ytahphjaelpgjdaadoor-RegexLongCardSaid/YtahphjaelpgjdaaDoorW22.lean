/- A whole pattern is read: the machine, or the place and the kind of what is wrong. No condition on the pattern. -/
import Derived.Test.YtahphjaelpgjdaaDoorW21a
namespace Go.Proofs.YtahphjaelpgjdaaDoor
open Go.RowKit Rx
set_option linter.unusedVariables false

/-- a machine in memory -/
abbrev mcC (T F : Value) (p : Pc) (l : ByteArray) (a o : Nat) : Array Value := #[T, F, wv p.last 0, wv p.last 1, wv p.last 2, wv p.last 3, wv p.first 0, wv p.first 1, wv p.first 2, wv p.first 3, .bool p.empty, .string l, .int .i64 a, .int .i64 o]
structure Mem (w : World) (b : Nat) (l : ByteArray) (m : Mach) (p : Pc) : Prop where
  blk : ∃ (T F : Value) (a o : Nat), Blk w b 83 (mcC T F p l a o) ∧ rowS w T m.takes ∧ rowS w F m.follow
  low : 5 ≤ b
  good : Rx.Good m
  pin : PcIn m.takes.length p
  few : m.takes.length ≤ 200
def RdPost (l : ByteArray) (w : World) (r : Res) (e : Ending) (w' : World) : Prop :=
  Below w.heap.size w w' ∧ match r with
  | .bad pl c => ∃ err, e = .returned (.tuple #[.pointer none, err]) ∧ ErrAt w' err pl c
  | .ok a m p => ∃ b, e = .returned (.tuple #[.pointer (some ⟨b, 0, none⟩), .nilIface]) ∧ Mem w' b l m p ∧ w.heap.size ≤ b
theorem rdpost_bad {l : ByteArray} {w w' : World} {r : Res} {pl c f : Nat} (hr : r = .bad pl c) (hb : Below w.heap.size w w') (hf : Blk w' f 74 #[.int .i64 pl, .iface 55 (.int .i64 c)]) : RdPost l w r (.returned (.tuple #[.pointer none, .iface 70 (.pointer (some ⟨f, 0, none⟩))])) w' := by
  subst hr; exact ⟨hb, _, rfl, f, rfl, hf⟩
theorem rdpost_ok {l : ByteArray} {w w' : World} {r : Res} {a b : Nat} {m : Mach} {p : Pc} (hr : r = .ok a m p) (hb : Below w.heap.size w w') (hm : Mem w' b l m p) (hw : w.heap.size ≤ b) : RdPost l w r (.returned (.tuple #[.pointer (some ⟨b, 0, none⟩), .nilIface])) w' := by
  subst hr; exact ⟨hb, b, rfl, hm, hw⟩
theorem row_nil (w : World) : rowS w (.slice none 0 0) [] := ⟨rfl, .inl ⟨rfl, rfl⟩⟩
theorem rdr_new (w : World) (l : ByteArray) (h5 : 5 ≤ w.heap.size) : Rdr (w.alloc (.cells (rdC (.slice none 0 0) (.slice none 0 0) l 0 0) 83)) w.heap.size (.slice none 0 0) (.slice none 0 0) l ⟨[], []⟩ 0 0 :=
  ⟨Blk.new w 83 _, h5, row_nil _, row_nil _, fun g hg => by cases hg⟩
theorem moves_below {b : Nat} {T1 F1 : Value} {w w1 w2 : World} (hb : b = w.heap.size) (h : Moves b (.slice none 0 0) (.slice none 0 0) w1 T1 F1 w2) (h1 : Below w.heap.size w w1) : Below w.heap.size w w2 :=
  ⟨h.os.trans h1.os, h.tape.trans h1.tape, h.output.trans h1.output, Nat.le_trans h1.size h.size, fun j hj => (h.block j (Nat.lt_of_lt_of_le hj h1.size) (fun hf => by
    rcases hf with rfl | hf | hf
    · omega
    · cases hf
    · cases hf)).trans (h1.block j hj)⟩
set_option maxRecDepth 100000 in
set_option maxHeartbeats 4000000 in
theorem read_long (l : ByteArray) (w : World) (hl : 200 < l.size) :
    Calls Tryd.prog 19 #[.string l] w (RdPost l w (readF l)) := by
  have HX : Hid (readF l = .bad 0 2) := if_pos hl
  have hd : decide ((200 : Int) < (l.size : Int)) = true := by simp; omega
  go_enter Tryd.func19, Tryd.ntmps19
  go_wp2
  go_ret2
  exact rdpost_bad HX.out (by go_grown) (Blk.new w 74 _)
set_option maxRecDepth 100000 in
set_option maxHeartbeats 8000000 in
theorem read_short (l : ByteArray) (w : World) (hl : l.size ≤ 200) (h5 : 5 ≤ w.heap.size) (hT : TzT w) :
    Calls Tryd.prog 19 #[.string l] w (RdPost l w (readF l)) := by
  have hX : ∀ r, altF l (grpF l 32) 0 ⟨[], []⟩ = r → readF l = match r with | .bad pl c => .bad pl c | .ok a m p => if a = l.size then .ok a m p else .bad a 2 := fun r h => by
    subst h
    unfold readF
    rw [if_neg (by omega)]
    cases altF l (grpF l 32) 0 ⟨[], []⟩ <;> rfl
  have HX := Lib.hid hX
  have hd : decide ((200 : Int) < (l.size : Int)) = false := by simp; omega
  have HR := Lib.hid (rdr_new w l h5)
  have HT : Hid (TzT (w.alloc (.cells (rdC (.slice none 0 0) (.slice none 0 0) l 0 0) 83))) := hT.below ((Below.refl _ _).alloc (Nat.le_refl _) _)
  have HB := Lib.hid ((Below.refl w.heap.size w).alloc (Nat.le_refl _) (.cells (rdC (.slice none 0 0) (.slice none 0 0) l 0 0) 83))
  have HA := Lib.hid (alt_any w.heap.size 0 0 (.slice none 0 0) (.slice none 0 0) l (grpF l 32) ⟨[], []⟩ _ HR.out HT.out hl (Nat.zero_le _) good_nil (Nat.le_refl _) (group_any w.heap.size l hl 32 0 rfl) (grp_fine l 32))
  have HFI := Lib.hid (alt_fine (grp_fine l 32) (Nat.zero_le l.size) good_nil)
  clear hX hT
  go_enter Tryd.func19, Tryd.ntmps19
  go_wp2_with fail
  generalize w.alloc (.cells _ 83) = W at *
  refine (HA.out).mono ?_
  rintro e W1 ⟨T1, F1, hm1, hrest⟩
  have HB1 := Lib.hid (moves_below rfl hm1 HB.out)
  have HM1 := Lib.hid hm1
  clear hm1 HA
  cases hA : altF l (grpF l 32) 0 ⟨[], []⟩ with
  | bad pl c =>
    rw [hA] at hrest
    obtain ⟨p, err, rfl, f, rfl, hB⟩ := hrest
    have HX1 : Hid (readF l = .bad pl c) := HX.out _ hA
    have HB2 := Lib.hid (HB1.out.alloc HB1.out.size (.cells (pcC p) 85))
    have F2 := Lib.hid (Blk.alloc hB (.cells (pcC p) 85))
    clear hA hB HX HFI HR HT HB HM1 HB1
    obtain ⟨pe, pf, pl'⟩ := p
    go_upto_region 5 with fail
    generalize hW : W1.alloc (.cells (pcC _) 85) = W2 at *
    clear hW
    go_wp2
    go_ret2
    exact rdpost_bad HX1.out HB2.out F2.out
  | ok a m p =>
    rw [hA] at hrest
    obtain ⟨rfl, hR⟩ := hrest
    obtain ⟨f1, f2, f3, f4, f5, f6⟩ := HFI.out a m p hA
    have HX1 : Hid (readF l = if a = l.size then .ok a m p else .bad a 2) := HX.out _ hA
    have HB2 := Lib.hid (HB1.out.alloc HB1.out.size (.cells (pcC p) 85))
    have HR2 := Lib.hid (hR.alloc (.cells (pcC p) 85))
    have P2 := Lib.hid (Blk.new W1 85 (pcC p))
    have HFW : Hid (∀ w2, Moves w.heap.size T1 F1 (W1.alloc (.cells (pcC p) 85)) T1 F1 w2 → Below w.heap.size w w2) := fun w2 h => moves_below rfl ((HM1.out.alloc (.cells (pcC p) 85)).trans h) HB.out
    have HGP : Hid (Rx.Good m ∧ PcIn m.takes.length p ∧ m.takes.length ≤ 200) := ⟨f3, f4, by have : m.takes.length + 0 ≤ a + 0 := f6; omega⟩
    clear hA hR HX HFI HR HT HM1 HB1 HB f1 f3 f4 f5 f6
    obtain ⟨pe, pf, pl'⟩ := p
    go_upto_region 5 with fail
    generalize hW : W1.alloc (.cells (pcC _) 85) = W2 at *
    generalize hj : W1.heap.size = j1 at *
    clear hW hj
    go_upto_region 7 with fail
    by_cases ha : a = l.size
    · have HE := Lib.hid (ended_any w.heap.size a l true (by simp [ha]) W2 hl (rd_cells HR2.out).2.2.1 (rd_cells HR2.out).2.2.2.1)
      have HX2 : Hid (readF l = .ok a m ⟨pe, pf, pl'⟩) := HX1.out.trans (if_pos ha)
      clear HX1
      go_wp2_with fail
      refine (HE.out).mono ?_
      rintro e w3 ⟨rfl, n3, rfl⟩
      have HR3 := Lib.hid (HR2.out.drewN n3)
      have P3 := Lib.hid (P2.out.drewN n3)
      have HFW3 : Hid (∀ w2, Moves w.heap.size T1 F1 (W2.drewN n3) T1 F1 w2 → Below w.heap.size w w2) := fun w2 h => HFW.out w2 (((Moves.refl _ _ _ W2).drewN n3).trans h)
      generalize W2.drewN n3 = W3 at *
      clear HR2 P2 HE HB2 HFW
      obtain ⟨x0, x1, x2, x3, x4, x5, x6, x7, x8⟩ := cells9 P3.out
      have HR4 : Hid (Rdr W3.drew w.heap.size T1 F1 l m a 0) := HR3.out.below (below_drew _)
      have HFW4 : Hid (∀ w2, Moves w.heap.size T1 F1 W3.drew T1 F1 w2 → Below w.heap.size w w2) := fun w2 h => HFW3.out w2 (((Moves.refl _ _ _ W3).drew).trans h)
      go_upto_region 9 with fail
      go_still_tail 4, (by kernel_rfl)
      change wpList _ _ _ _ _ W3.drew
      generalize W3.drew = W4 at *
      have HWH := Lib.hid (whole_any w.heap.size a 0 ⟨pe, pf, pl'⟩ T1 F1 l m W4 HR4.out)
      clear HR3 P3 HFW3 x0 x1 x2 x3 x4 x5 x6 x7 x8
      go_wp2_with fail
      refine (HWH.out).mono ?_
      rintro e w5 ⟨rfl, hm5, hb5, ht5, hf5⟩
      have HB5 := Lib.hid (HFW4.out _ hm5)
      have HME : Hid (Mem w5 w.heap.size l m ⟨pe, pf, pl'⟩) := ⟨⟨T1, F1, a, 0, hb5, ht5, hf5⟩, h5, HGP.out.1, HGP.out.2.1, HGP.out.2.2⟩
      clear hm5 hb5 ht5 hf5
      go_wp2
      go_ret2
      exact rdpost_ok HX2.out HB5.out HME.out (Nat.le_refl _)
    · have HE := Lib.hid (ended_any w.heap.size a l false (by simp; omega) W2 hl (rd_cells HR2.out).2.2.1 (rd_cells HR2.out).2.2.2.1)
      have HX2 : Hid (readF l = .bad a 2) := HX1.out.trans (if_neg ha)
      clear HX1
      go_wp2_with fail
      refine (HE.out).mono ?_
      rintro e w3 ⟨rfl, n3, rfl⟩
      have HR3 := Lib.hid (HR2.out.drewN n3)
      have HB3 : Hid (Below w.heap.size w (W2.drewN n3)) := Below.trans HB2.out ⟨rfl, rfl, rfl, Nat.le_refl _, fun _ _ => rfl⟩
      generalize W2.drewN n3 = W3 at *
      clear HR2 P2 HE HB2 HFW
      have HBD := Lib.hid (bad_any w.heap.size a W3 (rd_cells HR3.out).2.2.2.1)
      go_wp2_with fail
      refine (HBD.out).mono ?_
      rintro e w4 ⟨f, rfl, hf, hb⟩
      have HB4 := Lib.hid (HB3.out.trans (below_of hb.os hb.tape hb.output hb.size (fun k hk => hb.block k (Nat.lt_of_lt_of_le hk HB3.out.size))))
      have F4 := Lib.hid hf
      clear hf hb
      go_wp2
      go_ret2
      exact rdpost_bad HX2.out HB4.out F4.out
theorem read_any (l : ByteArray) (w : World) (h5 : 5 ≤ w.heap.size) (hT : TzT w) : Calls Tryd.prog 19 #[.string l] w (RdPost l w (readF l)) := by
  by_cases h : 200 < l.size
  · exact read_long l w h
  · exact read_short l w (by omega) h5 hT
end Go.Proofs.YtahphjaelpgjdaaDoor

/- isPick: what it answers, as a function. Conditions: the tables as they are laid; matchers lie in memory. -/
import Derived.Test.YticmkabafmmlhaaGreatDoorN12j
set_option linter.unusedVariables false
set_option linter.unusedSimpArgs false
set_option maxRecDepth 100000
set_option maxHeartbeats 8000000
namespace Go.Proofs.YticmkabafmmlhaaGreatDoor.Ck
open Go.RowKit Lx
open Lib (hid)
def pickH (h : Hd) : Hd := ⟨h.k, h.o, h.v, ⟨#[]⟩, none, 0, [], 0, 0, false, 0, h.how, h.na, h.nc, h.ns, h.bo, h.ka, h.kc⟩
theorem pick_set {W : World} {b n : Nat} {t : TypeId} {h : Hd} (c : Blk W b t (arr h n)) : Blk ((((((W.setCell ⟨b, 3, none⟩ (.string ⟨#[]⟩)).setCell ⟨b, 4, none⟩ (.slice none 0 0)).setCell ⟨b, 5, none⟩ (.int .i64 0)).setCell ⟨b, 6, none⟩ (.int .i64 0)).setCell ⟨b, 7, none⟩ (.bool false)).setCell ⟨b, 8, none⟩ (.int .i64 0)) b t (arr (pickH h) n) := (((((c.set_ 3 _).set_ 4 _).set_ 5 _).set_ 6 _).set_ 7 _).set_ 8 _
theorem pick_below {B b : Nat} {w W : World} (h : Below B w W) (hb : B ≤ b) : Below B w ((((((W.setCell ⟨b, 3, none⟩ (.string ⟨#[]⟩)).setCell ⟨b, 4, none⟩ (.slice none 0 0)).setCell ⟨b, 5, none⟩ (.int .i64 0)).setCell ⟨b, 6, none⟩ (.int .i64 0)).setCell ⟨b, 7, none⟩ (.bool false)).setCell ⟨b, 8, none⟩ (.int .i64 0)) :=
 set_below (set_below (set_below (set_below (set_below (set_below h hb 3 _) hb 4 _) hb 5 _) hb 6 _) hb 7 _) hb 8 _
def PureOk (h : Hd) : Prop := 0 ≤ h.wd ∧ h.wd ≤ 35184372088832 ∧ -35184372088832 ≤ h.off ∧ h.off ≤ 35184372088832 ∧ (h.ha = true ∨ h.tm = 0) ∧ -1125899906842624 ≤ h.tm ∧ h.tm ≤ 1125899906842624 ∧ h.tm.tmod 1000 = 0
instance (h : Hd) : Decidable (PureOk h) := by unfold PureOk; infer_instance
def nameOk (s : ByteArray) : Bool := s.toList.isEmpty || freeB s
def pickOk (h : Hd) (n : Nat) : Bool := (nameOk h.s && (msB h.ms && decide (PureOk h))) && bareF h.o h.v ⟨#[]⟩ 0 0 0 false 0 h.how h.ns.length h.bo n
theorem pick_ok (h : Hd) (ks : List Tr) (w : World) (hok : pickOk h ks.length = true) (hM : Mts w h.ma h.ms) (h9 : 10 ≤ w.heap.size) (hZ : Rg.TzT w) (hU : Rg.Tabs w) :
 Calls Tryz.prog 40 #[valT (.mk h ks)] w fun e w' => e = .returned (.bool true) ∧ Below w.heap.size w w' := by
 obtain ⟨k0, o, v, s, ma, mc, ms, wd, off, ha, tm, how, na, nc, ns, bo, ka, kc⟩ := h
 unfold pickOk nameOk at hok
 simp only [Bool.and_eq_true, decide_eq_true_eq] at hok
 obtain ⟨⟨hnm, hm, hp⟩, hb⟩ := hok
 obtain ⟨p1, p2, p3, p4, p5, p6, p7, p8⟩ := hp
 rw [valT_arr]
 dsimp only at hM hnm hm hb p1 p2 p3 p4 p5 p6 p7 p8 ⊢
 have HBR := hid (fun W => bare_is (k := k0) (mp := none) (mc := 0) (np := na) (nc := nc) (kp := ka) (kc := kc) hb W)
 have hB : ∀ o, Below w.heap.size w (w.alloc o) := fun o => (Below.refl _ _).alloc (Nat.le_refl _) _
 obtain ⟨X, hX⟩ : ∃ X, arr ⟨k0, o, v, s, ma, mc, ms, wd, off, ha, tm, how, na, nc, ns, bo, ka, kc⟩ ks.length = X := ⟨_, rfl⟩
 rw [hX]
 have HF := hid (free_ok s (w.alloc (.cells X 49)))
 have HM := hid (fun W (hW : Below w.heap.size w W) => ms_is ma ms mc true hm W (hM.below hW) (by have := hW.size; omega) (hZ.below hW) (hU.below (by have := hU.size; omega) hW))
 have HK := hid (Blk.new w 49 X)
 have HB := hid (hB (.cells X 49))
 have P8 := hid p8
 clear hb hB hM hZ hU hm h9 p8
 unfold exV at HBR
 unfold arr at hX
 dsimp only at hX
 subst hX
 generalize hln : ns.length = ln at *
 generalize ks.length = lk at *
 generalize hlm : ms.length = lm at *
 have hz0 : tm = 0 → (tm.tmod 1000 == 0) = true := fun e => by rw [e]; rfl
 have HZ0 := hid hz0
 clear hz0
 have P5 := hid p5
 clear p5
 go_enter Tryz.func40, Tryz.ntmps40
 go_upto_region 1 with fail
 generalize Value.agg #[.int .i64 k0, .int .i64 o, .int .u64 (v : Int), .string s, .slice ma lm mc, .int .i64 wd, .int .i64 off, .bool ha, .int .i64 tm, .int .i64 how, .slice na ln nc, .bool bo, .slice ka lk kc] = X0
 go_cut [3] from 4 to 73 (fun s3 wx => s3 = .bool true ∧ Hid (Blk wx w.heap.size 49 #[.int .i64 k0, .int .i64 o, .int .u64 (v : Int), .string s, .slice ma lm mc, .int .i64 wd, .int .i64 off, .bool ha, .int .i64 tm, .int .i64 how, .slice na ln nc, .bool bo, .slice ka lk kc]) ∧ Hid (Below w.heap.size w wx))
 case first =>
  clear HBR
  cases he : s.toList.isEmpty with
  | true =>
    clear HF hlm hln hnm
    go_wp2_with fail
    refine (HM.out _ HB.out).mono ?_
    rintro e w1 ⟨rfl, hb1⟩
    have HK1 := hid (HK.out.below hb1)
    have HB1 := hid (HB.out.trans (hb1.mono HB.out.size))
    clear hb1 HM HB HK
    have c5 := HK1.out.cell 5
    have c6 := HK1.out.cell 6
    have c7 := HK1.out.cell 7
    have c8 := HK1.out.cell 8
    simp at c5 c6 c7 c8
    have hx := P5.out
    cases ha with
    | true =>
      clear hx
      go_wp2_with fail
      all_goals go_meet
      all_goals refine ⟨congrArg Value.bool ?_, HK1, HB1⟩
      all_goals exact beq_iff_eq.2 P8.out
    | false =>
      have hx0 : tm = 0 := by simpa using hx
      subst hx0
      clear hx
      go_wp2_with fail
      all_goals go_meet
      all_goals refine ⟨congrArg Value.bool ?_, HK1, HB1⟩
      all_goals first | rfl | exact beq_iff_eq.2 P8.out
  | false =>
    rw [he, Bool.false_or] at hnm
    have HF2 := hid (HF.out hnm)
    clear hlm hln hnm HF
    go_wp2_with fail
    refine (HF2.out).mono ?_
    rintro e w1 ⟨rfl, hb1⟩
    have HK1 := hid (HK.out.below hb1)
    have HB1 := hid (HB.out.trans (hb1.mono HB.out.size))
    clear hb1 HB HK HF2
    have c4 := HK1.out.cell 4
    have c7 := HK1.out.cell 7
    have c8 := HK1.out.cell 8
    simp at c4 c7 c8
    go_wp2_with fail
    refine (HM.out _ HB1.out).mono ?_
    rintro e w2 ⟨rfl, hb2⟩
    have HK2 := hid (HK1.out.below hb2)
    have HB2 := hid (HB1.out.trans (hb2.mono HB1.out.size))
    clear hb2 HM c4 c7 c8
    have c5 := HK2.out.cell 5
    have c6 := HK2.out.cell 6
    have c7 := HK2.out.cell 7
    have c8 := HK2.out.cell 8
    simp at c5 c6 c7 c8
    have hx := P5.out
    cases ha with
    | true =>
      clear hx
      go_wp2_with fail
      all_goals go_meet
      all_goals refine ⟨congrArg Value.bool ?_, HK2, HB2⟩
      all_goals exact beq_iff_eq.2 P8.out
    | false =>
      have hx0 : tm = 0 := by simpa using hx
      subst hx0
      clear hx
      go_wp2_with fail
      all_goals go_meet
      all_goals refine ⟨congrArg Value.bool ?_, HK2, HB2⟩
      all_goals first | rfl | exact beq_iff_eq.2 P8.out
 case rest =>
  obtain ⟨hs3, HKC, HBC⟩ := hcut
  clear HF HM HK HB P5 P8 HZ0 hnm p1 p2 p3 p4 p6 p7
  subst hs3
  have HK3 := hid (pick_set (h := ⟨k0, o, v, s, ma, mc, ms, wd, off, ha, tm, how, na, nc, ns, bo, ka, kc⟩) (n := lk) (by unfold arr; dsimp only; rw [hlm, hln]; exact HKC.out))
  have HB3 := hid (pick_below HBC.out (Nat.le_refl _))
  have c3 := HKC.out.cell 3
  have c4 := HKC.out.cell 4
  have c5 := HKC.out.cell 5
  have c6 := HKC.out.cell 6
  have c7 := HKC.out.cell 7
  have c8 := HKC.out.cell 8
  simp at c3 c4 c5 c6 c7 c8
  have f3 := Blk.frozen HKC.out 3
  have f4 := Blk.frozen HKC.out 4
  have f5 := Blk.frozen HKC.out 5
  have f6 := Blk.frozen HKC.out 6
  have f7 := Blk.frozen HKC.out 7
  have f8 := Blk.frozen HKC.out 8
  go_upto_region 3 with fail
  clear c3 c4 c5 c6 c7 c8 f3 f4 f5 f6 f7 f8 HKC HBC
  generalize World.setCell _ ⟨w.heap.size, 8, none⟩ _ = W3 at *
  obtain ⟨c0, c1, c2, c3, c4, c5, c6, c7, c8, c9, c10, c11, c12⟩ := blk13 HK3.out
  unfold pickH at c0 c1 c2 c3 c4 c5 c6 c7 c8 c9 c10 c11 c12
  dsimp only [List.length_nil] at c0 c1 c2 c3 c4 c5 c6 c7 c8 c9 c10 c11 c12
  rw [hln] at c10
  go_wp2_with fail
  refine (HBR.out _).mono ?_
  rintro e w4 ⟨rfl, hb4⟩
  have HB4 := hid (HB3.out.trans (hb4.mono HB3.out.size))
  clear hb4
  go_wp2_with fail
  go_ret
  exact ⟨rfl, HB4.out⟩
end Go.Proofs.YticmkabafmmlhaaGreatDoor.Ck

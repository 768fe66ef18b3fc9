/- The writer's matchers: what they put. Conditions: what is laid; they lie in memory, each of a known sign. -/
import Derived.Test.YticmkabafmmlhaaGreatDoorPkj
import Derived.Test.YticmkabafmmlhaaGreatDoorN26j
import Derived.Deep.RegionHeld3
import Derived.StillTailTactics
import Derived.Laws.EntriesVeiled
set_option linter.unusedVariables false
set_option linter.unusedSimpArgs false
set_option maxHeartbeats 4000000
namespace Go.Proofs.YticmkabafmmlhaaGreatDoor.Ck
open Go.RowKit
open Lib (hid)
set_option maxRecDepth 100000
def sgs : Array Value := #[.string ⟨#[]⟩, .string ⟨#[61]⟩, .string ⟨#[33, 61]⟩, .string ⟨#[61, 126]⟩, .string ⟨#[33, 126]⟩]
theorem sg_at (op : Int) (h1 : 1 ≤ op) (h4 : op ≤ 4) : sgs[op.toNat]? = some (.string (signT op)) := by
 have hcase : op = 1 ∨ op = 2 ∨ op = 3 ∨ op = 4 := by omega
 rcases hcase with rfl | rfl | rfl | rfl <;> rfl
theorem index_sg (sb : Nat) (op : Int) (h1 : 1 ≤ op) (h4 : op ≤ 4) (W : World) : (Instr.indexAt 125 (.pointer (some ⟨sb, 0, none⟩)) (.int .i64 op)).run Tryz.prog W = .ok (.pointer (some ⟨sb, op.toNat, none⟩)) W := by
 have hs : ∀ W, (sizeOf 9).run Tryz.prog W = .ok 1 W := fun W => by kernel_rfl
 have hcase : op = 1 ∨ op = 2 ∨ op = 3 ∨ op = 4 := by omega
 rcases hcase with rfl | rfl | rfl | rfl <;> (simp [Instr.indexAt, run_underlying Tryz.underlying125, asIntOf, hs, Addr.add]; rfl)
abbrev MS (mb sb : Nat) (op : Int) (nm v : ByteArray) (W : World) : Prop :=
 ((W.cell? ⟨mb, 0, none⟩ = some (.int .i64 op) ∧ W.cell? ⟨mb, 1, none⟩ = some (.string nm) ∧ W.cell? ⟨mb, 2, none⟩ = some (.string v)) ∧ W.cell? ⟨sb, op.toNat, none⟩ = some (.string (signT op))) ∧
 Hid (Blk W mb 39 #[.int .i64 op, .string nm, .string v] ∧ Blk W sb 125 sgs)
theorem MS.of {mb sb : Nat} {op : Int} {nm v : ByteArray} {W : World} (h1 : Blk W mb 39 #[.int .i64 op, .string nm, .string v]) (h2 : Blk W sb 125 sgs) (ho : 1 ≤ op ∧ op ≤ 4) : MS mb sb op nm v W :=
 ⟨⟨⟨h1.cell 0, h1.cell 1, h1.cell 2⟩, (h2.cell op.toNat).trans (sg_at op ho.1 ho.2)⟩, hid ⟨h1, h2⟩⟩
theorem MS.below {mb sb : Nat} {op : Int} {nm v : ByteArray} {W W' : World} (h : MS mb sb op nm v W) (ho : 1 ≤ op ∧ op ≤ 4) (hb : Below W.heap.size W W') : MS mb sb op nm v W' :=
 MS.of (h.2.out.1.below hb) (h.2.out.2.below hb) ho
theorem MS.kept {b mb sb : Nat} {op : Int} {nm v : ByteArray} {W W' : World} (h : MS mb sb op nm v W) (ho : 1 ≤ op ∧ op ≤ 4) (hk : Kept b W W') (h1 : mb ≠ b) (h2 : sb ≠ b) : MS mb sb op nm v W' :=
 MS.of (hk.blk h.2.out.1 h1 (by decide)) (hk.blk h.2.out.2 h2 (by decide)) ho
theorem mats_put {w0 : World} {b : Nat} (A : Option Addr) (c : Nat) (l : List Mt) (hE : Env w0) (hM : Mts w0 A l) (hop : ∀ k, k < l.length → 1 ≤ (l.getD k m0).1 ∧ (l.getD k m0).1 ≤ 4 ∧ (l.getD k m0).2.2.size ≤ 1000) (hn : l.length ≤ 700) : MatC w0 b A l.length c (matT l) := by
 intro acc w hw hb hl
 unfold matT at hl ⊢
 obtain ⟨n, hnn⟩ : ∃ n, l.length = n := ⟨_, rfl⟩
 rw [hnn] at hl hop hn ⊢
 obtain ⟨o, ho⟩ : ∃ o, (fun k => matO (l.getD k m0)) = o := ⟨_, rfl⟩
 rw [ho] at hl ⊢
 have hok : ∀ k, o k = matO (l.getD k m0) := fun k => by rw [← ho]
 clear ho
 obtain ⟨K, hK⟩ : ∃ K : Nat → List UInt8, ∀ k, acc ++ [123] ++ argF o k = K k := ⟨_, fun _ => rfl⟩
 obtain ⟨r, hr⟩ : ∃ r, K n ++ [125] = r := ⟨_, rfl⟩
 have hrr : acc ++ ([123] ++ argF o n ++ [125]) = r := by rw [← hr, ← hK]; simp only [List.append_assoc]
 have hlr : r.length ≤ 140737488355328 := by rw [← hrr, List.length_append]; exact hl
 have HKL := hid (fun k (hk : k ≤ n) => by
  have h1 := argF_le o k n hk
  have h2 : (K n).length ≤ r.length := by rw [← hr, List.length_append]; omega
  rw [← hK, List.length_append] at h2 ⊢
  omega : ∀ k, k ≤ n → (K k).length ≤ 140737488355328)
 have hst : ∀ k, K k ++ (commaF k ++ matO (l.getD k m0)) = K (k + 1) := fun k => by rw [← hK, ← hK, argF, hok]; simp only [List.append_assoc]
 have HKN := hid hst
 have HR := hid hr
 have HK0 : Hid (acc ++ [123] = K 0) := by rw [← hK]; exact (List.append_nil _).symm
 rw [hrr]
 have HS0 := hid ((St.first hw hb).alloc (.cells sgs 125))
 have HS := hid (St.first HS0.out.wr HS0.out.low)
 have HPU := hid (putC w0 b (w.alloc (.cells sgs 125)))
 unfold PutC at HPU
 have HBL := hid (Blk.new w 125 sgs)
 have hgb : w.heap.size ≠ b := by have := hw.lt; omega
 have HBK := hid (fun (x : List UInt8) (W : World) (hW : St w0 b x (w.alloc (.cells sgs 125)) W) => HS.out.blk hW HBL.out hgb (by decide))
 have HO := hid (fun W (hW : St w0 b r (w.alloc (.cells sgs 125)) W) => (HS0.out.over hW).end_)
 have HZ : Hid ((w.alloc (.cells sgs 125)).heap.size = w.heap.size + 1) := World.size_alloc _ _
 have HMT := hid hM
 have HNN := hid hnn
 have HOP := hid hop
 have HQD := hid (fun (s t : ByteArray) (ht : t = ⟨(quoteF s.data.toList).toArray⟩) (hs : s.size ≤ 1000) W (hW : Below w0.heap.size w0 W) => quoted_any s t ht hs W (hE.ml.below hW))
 have hbw : b < w.heap.size := hw.lt.2
 have HLR := hid hlr
 clear hlr hrr hr hK hok hst hl hop hb hw HS0 HBL hM hnn hE
 unfold sgs at *
 go_enter Tryz.func56, Tryz.ntmps56
 go_wp2_with fail
 generalize w.alloc (.cells _ 125) = w1 at *
 have HP1 := HPU.out acc [⟨#[123]⟩] 1 rfl _ rfl _ HS.out (by decide) (K 0) HK0.out (HKL.out 0 (Nat.zero_le _))
 rw [HZ.out] at HP1
 refine HP1.mono ?_
 rintro e w2 hq
 obtain ⟨rfl, h2⟩ := HS.out.out hq
 have HS2 := hid h2
 clear hq h2 HP1
 go_wp2_with fail
 go_loopw [13] (fun s13 wr => ∃ k : Nat, k ≤ n ∧ s13 = .int .i64 k ∧ Hid (St w0 b (K k) w1 wr)) (fun s13 _ => n - (intOf s13).toNat)
 case atStart => exact ⟨0, Nat.zero_le _, rfl, HS2⟩
 case round =>
  obtain ⟨k, hk, rfl, HX⟩ := hrel
  by_cases hlt : k < n
  · have hki : (k : Int) < (n : Int) := by omega
    obtain ⟨kb, off, hA, hkb, hc⟩ := (HMT.out.below HX.out.low) (by rw [HNN.out]; omega)
    obtain ⟨c0, c1, c2⟩ := hc k (by rw [HNN.out]; exact hlt)
    have hix := fun W => index_mt A n c k kb off hA hlt W
    obtain ⟨op1, op4, hvs⟩ := HOP.out k hlt
    have hkn := HKN.out k
    obtain ⟨⟨op, nm, vl⟩, hm⟩ : ∃ m, l.getD k m0 = m := ⟨_, rfl⟩
    rw [hm] at c0 c1 c2 op1 op4 hvs hkn
    dsimp only at c0 c1 c2 op1 op4 hvs hkn
    obtain ⟨tc, htc⟩ : ∃ t : ByteArray, t = ⟨(commaF k).toArray⟩ := ⟨_, rfl⟩
    obtain ⟨tq, htq⟩ : ∃ t : ByteArray, t = ⟨(quoteF vl.data.toList).toArray⟩ := ⟨_, rfl⟩
    have HCM := hid (fun W => comma_any k tc htc W)
    have HX5 := hid (HX.out.alloc (.cells #[.int .i64 op, .string nm, .string vl] 39))
    have HMS := hid (MS.of (Blk.new wr 39 #[.int .i64 op, .string nm, .string vl]) ((HBK.out _ _ HX.out).alloc _) ⟨op1, op4⟩)
    have hsg := fun W => index_sg w.heap.size op op1 op4 W
    have HO14 : Hid (1 ≤ op ∧ op ≤ 4) := hid ⟨op1, op4⟩
    have hg5 : wr.heap.size ≠ b := by have := HX.out.wr.lt; omega
    have hcat : K k ++ cat [tc, nm, signT op, tq] = K (k + 1) := by
     rw [← hkn, htc, htq]
     unfold matO
     simp [cat]
    have HQQ := hid (fun W (hW : St w0 b (K k) w1 W) => HQD.out vl tq htq hvs W hW.low)
    have HCT := hid hcat
    have HL1 := hid (HKL.out (k + 1) hlt)
    clear hc hm hA htc htq hvs hkn hcat
    go_upto_region 5 with fail
    clear c0 c1 c2 hix
    generalize wr.alloc (.cells _ 39) = W5 at *
    clear op1 op4
    go_region_held3 (fun W => ((W.cell? ⟨wr.heap.size, 0, none⟩ = some (.int .i64 op) ∧ W.cell? ⟨wr.heap.size, 1, none⟩ = some (.string nm) ∧ W.cell? ⟨wr.heap.size, 2, none⟩ = some (.string vl)) ∧ W.cell? ⟨w.heap.size, op.toNat, none⟩ = some (.string (signT op))))
     (first | (exact (HMS.out.below HO14.out (Rg.bel_drawn (Below.refl _ _) 1)).1) | (exact hM7.1) | (exact (hM7.below HO14.out ((Below.refl _ _).alloc (Nat.le_refl _) _)).1) | (exact hM8.1) | assumption)
     (first
       | (go_at_call 82
          (with_reducible refine (HCM.out _).mono ?_)
          rintro e w6 ⟨rfl, rfl⟩)
       | (go_at_call 55
          refine (HQQ.out _ (HX5.out.drawn 1)).mono ?_
          rintro e w7 ⟨rfl, hb7⟩
          have HX7 := hid ((HX5.out.drawn 1).below hb7)
          have hM7 := (HMS.out.below HO14.out (Rg.bel_drawn (Below.refl _ _) 1)).below HO14.out hb7
          clear hb7)
       | (go_at_call 53
          refine (HPU.out (K k) [tc, nm, _, tq] 4 rfl _ rfl _ HX7.out (by decide) (K (k + 1)) HCT.out HL1.out).mono ?_
          rintro e w8 hq
          have hM8 := hM7.kept HO14.out hq.2.2.2 hg5 hgb
          obtain ⟨rfl, h8⟩ := HX7.out.out hq
          have HX8 := hid h8
          clear hq h8))
    go_wp2_with fail
    go_roundw
    case rel => exact ⟨k + 1, by omega, by go_num, HX8⟩
    case measure => simp [intOf]; omega
  · have d : decide (k < n) = false := by simpa using hlt
    obtain rfl : n = k := by omega
    go_wp2_with fail
    refine (HPU.out _ [⟨#[125]⟩] 1 rfl _ rfl _ HX.out (by decide) r HR.out HLR.out).mono ?_
    rintro e w4 hq
    obtain ⟨rfl, h4⟩ := HX.out.out hq
    have HS4 := hid h4
    clear hq h4
    go_wp2_with fail
    go_end0
    exact HO.out _ HS4.out
end Go.Proofs.YticmkabafmmlhaaGreatDoor.Ck

set_option linter.unusedVariables false
set_option linter.unusedSimpArgs false
set_option maxHeartbeats 4000000
namespace Go.Proofs.YticmkabafmmlhaaGreatDoor.Ck
open Go.RowKit
open Lib (hid)
set_option maxRecDepth 100000
def ops : Array Value := #[.string ⟨#[]⟩, .string ⟨#[61, 61]⟩, .string ⟨#[33, 61]⟩, .string ⟨#[62]⟩, .string ⟨#[60]⟩, .string ⟨#[62, 61]⟩, .string ⟨#[60, 61]⟩, .string ⟨#[43]⟩, .string ⟨#[45]⟩, .string ⟨#[42]⟩, .string ⟨#[47]⟩, .string ⟨#[37]⟩]
theorem op_at (op : Int) (h1 : 1 ≤ op) (h4 : op ≤ 11) : ops[op.toNat]? = some (.string (opT op)) := by
 have hcase : op = 1 ∨ op = 2 ∨ op = 3 ∨ op = 4 ∨ op = 5 ∨ op = 6 ∨ op = 7 ∨ op = 8 ∨ op = 9 ∨ op = 10 ∨ op = 11 := by omega
 rcases hcase with rfl | rfl | rfl | rfl | rfl | rfl | rfl | rfl | rfl | rfl | rfl <;> rfl
theorem index_op (sb : Nat) (op : Int) (h1 : 1 ≤ op) (h4 : op ≤ 11) (W : World) : (Instr.indexAt 129 (.pointer (some ⟨sb, 0, none⟩)) (.int .i64 op)).run Tryz.prog W = .ok (.pointer (some ⟨sb, op.toNat, none⟩)) W := by
 have hs : ∀ W, (sizeOf 9).run Tryz.prog W = .ok 1 W := fun W => by kernel_rfl
 have hcase : op = 1 ∨ op = 2 ∨ op = 3 ∨ op = 4 ∨ op = 5 ∨ op = 6 ∨ op = 7 ∨ op = 8 ∨ op = 9 ∨ op = 10 ∨ op = 11 := by omega
 rcases hcase with rfl | rfl | rfl | rfl | rfl | rfl | rfl | rfl | rfl | rfl | rfl <;> (simp [Instr.indexAt, run_underlying Tryz.underlying129, asIntOf, hs, Addr.add]; rfl)
abbrev C13k (W : World) (b o : Nat) (h : Hd) (n : Nat) : Prop :=
 W.cell? ⟨b, o, none⟩ = some (.int .i64 h.k) ∧ W.cell? ⟨b, o + 1, none⟩ = some (.int .i64 h.o) ∧ W.cell? ⟨b, o + 2, none⟩ = some (.int .u64 (h.v : Int)) ∧ W.cell? ⟨b, o + 3, none⟩ = some (.string h.s) ∧ W.cell? ⟨b, o + 4, none⟩ = some (.slice h.ma h.ms.length h.mc) ∧ W.cell? ⟨b, o + 5, none⟩ = some (.int .i64 h.wd) ∧ W.cell? ⟨b, o + 6, none⟩ = some (.int .i64 h.off) ∧ W.cell? ⟨b, o + 7, none⟩ = some (.bool h.ha) ∧ W.cell? ⟨b, o + 8, none⟩ = some (.int .i64 h.tm) ∧ W.cell? ⟨b, o + 9, none⟩ = some (.int .i64 h.how) ∧ W.cell? ⟨b, o + 10, none⟩ = some (.slice h.na h.ns.length h.nc) ∧ W.cell? ⟨b, o + 11, none⟩ = some (.bool h.bo) ∧ W.cell? ⟨b, o + 12, none⟩ = some (.slice h.ka n h.kc)
theorem right_put {w0 : World} {b : Nat} (h : Hd) (ks : List Tr) (so : Bool) (out : List UInt8) (ho : 1 ≤ h.o ∧ h.o ≤ 11) (hk : 1 < ks.length) (hT : Trs w0 h.ka ks) (hso : wrapF h 1 (ks.getD 1 t0) = so) (hP : PartC w0 b 16 (ks.getD 1 t0) out) (hH : HowC w0 b h ks.length onS ignoringS (howT h onS ignoringS)) : PartC w0 b 61 (.mk h ks) (rightT h so out) := by
 intro acc w hw hb hl
 obtain ⟨n, hnn⟩ : ∃ n, ks.length = n := ⟨_, rfl⟩
 obtain ⟨a1, ha1⟩ : ∃ a, acc ++ ([32] ++ (opT h.o).data.toList ++ [32]) = a := ⟨_, rfl⟩
 obtain ⟨a2, ha2⟩ : ∃ a, a1 ++ boolT h.bo = a := ⟨_, rfl⟩
 obtain ⟨a3, ha3⟩ : ∃ a, a2 ++ howT h onS ignoringS = a := ⟨_, rfl⟩
 obtain ⟨r, hr⟩ : ∃ a, a3 ++ wrapT so out = a := ⟨_, rfl⟩
 have hrr : acc ++ rightT h so out = r := by rw [← hr, ← ha3, ← ha2, ← ha1]; unfold rightT; simp only [List.append_assoc]
 have hlr : r.length ≤ 140737488355328 := by rw [← hrr, List.length_append]; exact hl
 have hl3 : a3.length ≤ 140737488355328 := by rw [← hr, List.length_append] at hlr; omega
 have hl2 : a2.length ≤ 140737488355328 := by rw [← ha3, List.length_append] at hl3; omega
 have hl1 : a1.length ≤ 140737488355328 := by rw [← ha2, List.length_append] at hl2; omega
 rw [hrr]
 obtain ⟨w2, hw2⟩ : ∃ w2, (w.alloc (.cells (arr h n) 49)).alloc (.cells ops 129) = w2 := ⟨_, rfl⟩
 have HS0 : Hid (St w0 b acc w w2) := by rw [← hw2]; exact ((St.first hw hb).alloc _).alloc _
 have HS := hid (St.first HS0.out.wr HS0.out.low)
 have HPU := hid (putC w0 b w2)
 unfold PutC at HPU
 have hbl : Blk w2 w.heap.size 49 (arr h n) := by rw [← hw2]; exact (Blk.new w 49 (arr h n)).alloc _
 have hol : Blk w2 (w.heap.size + 1) 129 ops := by
  rw [← hw2]
  have := Blk.new (w.alloc (.cells (arr h n) 49)) 129 ops
  rwa [World.size_alloc] at this
 have hgb : w.heap.size ≠ b := by have := hw.lt; omega
 have hgb2 : w.heap.size + 1 ≠ b := by have := hw.lt; omega
 have HZ : Hid (w2.heap.size = w.heap.size + 1 + 1) := by show _ = _; rw [← hw2, World.size_alloc, World.size_alloc]
 have HBB := hid (fun (x : List UInt8) (W : World) (hW : St w0 b x w2 W) => HS.out.blk hW hbl hgb (by decide))
 have HBK := hid (fun (x : List UInt8) (W : World) (hW : St w0 b x w2 W) => blk13 (h := h) (n := n) (HBB.out x W hW))
 have HO := hid (fun W (hW : St w0 b r w2 W) => (HS0.out.over hW).end_)
 have hop2 := (hol.cell h.o.toNat).trans (op_at h.o ho.1 ho.2)
 have hix2 := fun W => index_op (w.heap.size + 1) h.o ho.1 ho.2 W
 have HHO := hid (fun W (hW : St w0 b a2 w2 W) => by
  have := hH a2 W hW.wr hW.low (by rw [← List.length_append, ha3]; exact hl3)
  rw [ha3, hnn] at this
  exact this)
 have HWR := hid (fun W (hW : St w0 b a3 w2 W) => by
  have := wrap_put (ks.getD 1 t0) out so hP a3 W hW.wr hW.low (by rw [← List.length_append, hr]; exact hlr)
  rw [hr] at this
  exact this)
 have HWD : Hid (∀ W, Below w0.heap.size w0 W → Calls Tryz.prog 37 #[valT (.mk h ks), .int .i64 1] W fun e w' => e = .returned (.bool so) ∧ Below W.heap.size W w') := fun W hW => by
  have := wrapped_any h ks 1 W (hT.below hW) hk
  rw [hso] at this
  exact this
 have HA1 := hid ha1
 have HA2 := hid ha2
 have HR := hid hr
 have HTR := hid hT
 have HKP : Hid (1 < ks.length) := hk
 have HNN := hid hnn
 cases ht : ks.getD 1 t0 with
 | mk h2 ks2 =>
 obtain ⟨kb, off, hA, hkb, hc⟩ := HTR.out (by have := HKP.out; omega)
 have HC0 : Hid (C13k w0 kb (off + 1 * 13) h2 ks2.length) := Trs.at hc HKP.out ht
 have HKB : Hid (kb < w0.heap.size) := hkb
 have hix : ∀ W, (Instr.indexAt 25 (.slice h.ka n h.kc) (.int .i64 1)).run Tryz.prog W = .ok (.pointer (some ⟨kb, off + 1 * 13, none⟩)) W := fun W => index_kid h.ka n h.kc 1 kb off hA (by have := HKP.out; have := HNN.out; omega) W
 rw [ht, valT_arr] at HWR
 rw [valT_arr, hnn] at HWD
 rw [valT_arr, hnn]
 clear hrr hl hr ha1 ha2 ha3 hw hb hP hT ht hk hso hnn hol hbl hH hlr ho hA hkb hc
 have HCK : Hid (∀ W, Below w0.heap.size w0 W → C13k W kb (off + 1 * 13) h2 ks2.length) := fun W hW => by
  obtain ⟨c0, c1, c2, c3, c4, c5, c6, c7, c8, c9, c10, c11, c12⟩ := HC0.out
  exact ⟨(hW.cell (p := ⟨kb, off + 1 * 13, none⟩) HKB.out).trans c0, (hW.cell (p := ⟨kb, off + 1 * 13 + 1, none⟩) HKB.out).trans c1, (hW.cell (p := ⟨kb, off + 1 * 13 + 2, none⟩) HKB.out).trans c2, (hW.cell (p := ⟨kb, off + 1 * 13 + 3, none⟩) HKB.out).trans c3, (hW.cell (p := ⟨kb, off + 1 * 13 + 4, none⟩) HKB.out).trans c4, (hW.cell (p := ⟨kb, off + 1 * 13 + 5, none⟩) HKB.out).trans c5, (hW.cell (p := ⟨kb, off + 1 * 13 + 6, none⟩) HKB.out).trans c6, (hW.cell (p := ⟨kb, off + 1 * 13 + 7, none⟩) HKB.out).trans c7, (hW.cell (p := ⟨kb, off + 1 * 13 + 8, none⟩) HKB.out).trans c8, (hW.cell (p := ⟨kb, off + 1 * 13 + 9, none⟩) HKB.out).trans c9, (hW.cell (p := ⟨kb, off + 1 * 13 + 10, none⟩) HKB.out).trans c10, (hW.cell (p := ⟨kb, off + 1 * 13 + 11, none⟩) HKB.out).trans c11, (hW.cell (p := ⟨kb, off + 1 * 13 + 12, none⟩) HKB.out).trans c12⟩
 clear HC0
 unfold arr ops at *
 go_enter Tryz.func61, Tryz.ntmps61
 have k1 := (HBK.out _ _ HS.out).2.1
 go_wp2_with fail
 have HP1 := HPU.out acc [⟨#[32]⟩, opT h.o, ⟨#[32]⟩] 3 rfl _ rfl _ HS.out (by decide) a1 (by rw [← HA1.out]; simp [cat]) hl1
 refine HP1.mono ?_
 rintro e w3 hq
 obtain ⟨rfl, h3⟩ := HS.out.out hq
 have HS3 := hid h3
 clear hq h3 HP1 k1 hop2 hix2 hw2
 have c11 := (HBK.out _ _ HS3.out).2.2.2.2.2.2.2.2.2.2.2.1
 obtain ⟨bo, hbo⟩ : ∃ bo, h.bo = bo := ⟨_, rfl⟩
 rw [hbo] at c11 HA2
 have HBO := hid hbo
 clear hbo
 go_upto_if 16 with fail
 go_cut [] from 14 to 19 (fun wx => Hid (St w0 b a2 w2 wx))
 case first =>
  cases bo with
  | true =>
    go_wp2_with fail
    refine (HPU.out a1 [⟨#[98, 111, 111, 108, 32]⟩] 1 rfl _ rfl _ HS3.out (by decide) a2 (by rw [← HA2.out]; rfl) hl2).mono ?_
    rintro e w4 hq
    obtain ⟨rfl, h4⟩ := HS3.out.out hq
    have HS4 := hid h4
    clear hq h4
    go_wp2_with fail
    go_meet
    case rel => exact HS4.out
  | false =>
    obtain rfl : a1 = a2 := by rw [← HA2.out]; unfold boolT; rw [if_neg (by decide), List.append_nil]
    go_wp2_with fail
    go_meet
    case rel => exact HS3.out
 case rest =>
  clear HS3 c11
  have HS4 := hid hcut.out
  clear hcut
  obtain ⟨c0, c1, c2, c3, c4, c5, c6, c7, c8, c9, c10, c11, c12⟩ := HBK.out _ _ HS4.out
  go_wp2_with fail
  refine (HHO.out _ HS4.out).mono ?_
  rintro e w5 hq
  obtain ⟨rfl, h5⟩ := HS4.out.out hq
  have HS5 := hid h5
  clear hq h5 c0 c1 c2 c3 c4 c5 c6 c7 c8 c9 c10 c11 c12
  go_upto_region 6 with fail
  go_region_held3 (fun W => C13 W w.heap.size h n ∧ C13k W kb (off + 1 * 13) h2 ks2.length)
   (first | (exact ⟨HBK.out _ _ (HS5.out.drawn 1), HCK.out _ (HS5.out.drawn 1).low⟩) | (exact ⟨HBK.out _ _ HX7.out, HCK.out _ HX7.out.low⟩) | (exact ⟨HBK.out _ _ HX8.out, HCK.out _ HX8.out.low⟩) | assumption)
   (first
     | (go_at_call 37
        refine (HWD.out _ (HS5.out.drawn 1).low).mono ?_
        rintro e w7 ⟨rfl, hb7⟩
        have HX7 := hid ((HS5.out.drawn 1).below hb7)
        clear hb7)
     | (go_at_call 62
        refine (HWR.out _ HX7.out).mono ?_
        rintro e w8 hq
        obtain ⟨rfl, h8⟩ := HX7.out.out hq
        have HX8 := hid h8
        clear hq h8))
  all_goals (
   go_wp2_with fail
   go_end0
   exact HO.out _ HX8.out)
end Go.Proofs.YticmkabafmmlhaaGreatDoor.Ck

set_option linter.unusedVariables false
set_option linter.unusedSimpArgs false
set_option maxHeartbeats 4000000
namespace Go.Proofs.YticmkabafmmlhaaGreatDoor.Ck
open Go.RowKit
open Lib (hid)
set_option maxRecDepth 100000
def fnP : Array Value := #[.nilFunc, .func (.func 30) #[] #[], .func (.func 31) #[] #[], .func (.func 32) #[] #[], .func (.func 33) #[] #[], .func (.func 34) #[] #[], .func (.func 35) #[] #[], .func (.func 36) #[] #[]]
theorem part_put {w0 : World} {b : Nat} (h : Hd) (ks : List Tr) (out : List UInt8) (j : Nat) (hj : h.k = (j : Int)) (h1 : 1 ≤ j) (h7 : j ≤ 7) (hP : PartC w0 b (29 + j) (.mk h ks) out) : PartC w0 b 16 (.mk h ks) out := by
 intro acc w hw hb hl
 obtain ⟨n, hnn⟩ : ∃ n, ks.length = n := ⟨_, rfl⟩
 obtain ⟨r, hr⟩ : ∃ a, acc ++ out = a := ⟨_, rfl⟩
 have hlr : r.length ≤ 140737488355328 := by rw [← hr, List.length_append]; exact hl
 rw [hr]
 obtain ⟨w2, hw2⟩ : ∃ w2, (w.alloc (.cells (arr h n) 49)).alloc (.cells fnP 64) = w2 := ⟨_, rfl⟩
 have HS0 : Hid (St w0 b acc w w2) := by rw [← hw2]; exact ((St.first hw hb).alloc _).alloc _
 have HS := hid (St.first HS0.out.wr HS0.out.low)
 have hbl : Blk w2 w.heap.size 49 (arr h n) := by rw [← hw2]; exact (Blk.new w 49 (arr h n)).alloc _
 have hol : Blk w2 (w.heap.size + 1) 64 fnP := by
  rw [← hw2]
  have := Blk.new (w.alloc (.cells (arr h n) 49)) 64 fnP
  rwa [World.size_alloc] at this
 have HF := hid hol
 have HO := hid (fun W (hW : St w0 b r w2 W) => (HS0.out.over hW).end_)
 obtain ⟨c0, c1, c2, c3, c4, c5, c6, c7, c8, c9, c10, c11, c12⟩ := blk13 (h := h) (n := n) hbl
 have HC := hid (hP.call w2)
 unfold CallC at HC
 rw [valT_arr, hnn] at HC ⊢
 clear hl hw hb hP hnn hbl hol HS0
 unfold arr fnP at *
 rw [hj] at HC c0 hw2 ⊢
 go_enter Tryz.func16, Tryz.ntmps16
 go_upto_region 2 with fail
 clear hw2
 have : j = 1 ∨ j = 2 ∨ j = 3 ∨ j = 4 ∨ j = 5 ∨ j = 6 ∨ j = 7 := by omega
 clear h1 h7 hj
 rcases this with rfl | rfl | rfl | rfl | rfl | rfl | rfl
 · have hf := HF.out.cell 1
   simp at hf
   have hz1 : ((1 : Nat) : Int) = 1 := rfl
   rw [hz1] at c0
   clear hz1
   go_still_tail 7, (by kernel_rfl)
   change wpList _ _ _ _ _ w2.drew
   go_wp2_with fail
   refine (HC.out acc _ (HS.out.drawn 1) r hr hlr).mono ?_
   rintro e w3 hq
   obtain ⟨rfl, h3⟩ := (HS.out.drawn 1).out hq
   have HS3 := hid h3
   clear hq h3
   go_wp2_with fail
   go_end0
   exact HO.out _ HS3.out
 · have hf := HF.out.cell 2
   simp at hf
   have hz1 : ((2 : Nat) : Int) = 2 := rfl
   rw [hz1] at c0
   clear hz1
   go_still_tail 7, (by kernel_rfl)
   change wpList _ _ _ _ _ w2.drew
   go_wp2_with fail
   refine (HC.out acc _ (HS.out.drawn 1) r hr hlr).mono ?_
   rintro e w3 hq
   obtain ⟨rfl, h3⟩ := (HS.out.drawn 1).out hq
   have HS3 := hid h3
   clear hq h3
   go_wp2_with fail
   go_end0
   exact HO.out _ HS3.out
 · have hf := HF.out.cell 3
   simp at hf
   have hz1 : ((3 : Nat) : Int) = 3 := rfl
   rw [hz1] at c0
   clear hz1
   go_still_tail 7, (by kernel_rfl)
   change wpList _ _ _ _ _ w2.drew
   go_wp2_with fail
   refine (HC.out acc _ (HS.out.drawn 1) r hr hlr).mono ?_
   rintro e w3 hq
   obtain ⟨rfl, h3⟩ := (HS.out.drawn 1).out hq
   have HS3 := hid h3
   clear hq h3
   go_wp2_with fail
   go_end0
   exact HO.out _ HS3.out
 · have hf := HF.out.cell 4
   simp at hf
   have hz1 : ((4 : Nat) : Int) = 4 := rfl
   rw [hz1] at c0
   clear hz1
   go_still_tail 7, (by kernel_rfl)
   change wpList _ _ _ _ _ w2.drew
   go_wp2_with fail
   refine (HC.out acc _ (HS.out.drawn 1) r hr hlr).mono ?_
   rintro e w3 hq
   obtain ⟨rfl, h3⟩ := (HS.out.drawn 1).out hq
   have HS3 := hid h3
   clear hq h3
   go_wp2_with fail
   go_end0
   exact HO.out _ HS3.out
 · have hf := HF.out.cell 5
   simp at hf
   have hz1 : ((5 : Nat) : Int) = 5 := rfl
   rw [hz1] at c0
   clear hz1
   go_still_tail 7, (by kernel_rfl)
   change wpList _ _ _ _ _ w2.drew
   go_wp2_with fail
   refine (HC.out acc _ (HS.out.drawn 1) r hr hlr).mono ?_
   rintro e w3 hq
   obtain ⟨rfl, h3⟩ := (HS.out.drawn 1).out hq
   have HS3 := hid h3
   clear hq h3
   go_wp2_with fail
   go_end0
   exact HO.out _ HS3.out
 · have hf := HF.out.cell 6
   simp at hf
   have hz1 : ((6 : Nat) : Int) = 6 := rfl
   rw [hz1] at c0
   clear hz1
   go_still_tail 7, (by kernel_rfl)
   change wpList _ _ _ _ _ w2.drew
   go_wp2_with fail
   refine (HC.out acc _ (HS.out.drawn 1) r hr hlr).mono ?_
   rintro e w3 hq
   obtain ⟨rfl, h3⟩ := (HS.out.drawn 1).out hq
   have HS3 := hid h3
   clear hq h3
   go_wp2_with fail
   go_end0
   exact HO.out _ HS3.out
 · have hf := HF.out.cell 7
   simp at hf
   have hz1 : ((7 : Nat) : Int) = 7 := rfl
   rw [hz1] at c0
   clear hz1
   go_still_tail 7, (by kernel_rfl)
   change wpList _ _ _ _ _ w2.drew
   go_wp2_with fail
   refine (HC.out acc _ (HS.out.drawn 1) r hr hlr).mono ?_
   rintro e w3 hq
   obtain ⟨rfl, h3⟩ := (HS.out.drawn 1).out hq
   have HS3 := hid h3
   clear hq h3
   go_wp2_with fail
   go_end0
   exact HO.out _ HS3.out
end Go.Proofs.YticmkabafmmlhaaGreatDoor.Ck

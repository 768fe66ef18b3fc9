/- long, how: what they put. Conditions: what is laid; a writer made behind the first world. -/
import Derived.Test.YticmkabafmmlhaaGreatDoorPdj
import Derived.Deep.RegionHeld3
import Derived.Deep.CutRange
import Derived.Test.YticmkabafmmlhaaGreatDoorN18j
set_option linter.unusedVariables false
set_option linter.unusedSimpArgs false
namespace Go.Proofs.YticmkabafmmlhaaGreatDoor.Ck
open Go.RowKit
set_option maxRecDepth 100000
def longT (v : Int) : List UInt8 := (if v < 0 then [45] else []) ++ Sp.textF v.natAbs
theorem long_any (v : Int) (h1 : -35184372088832 ≤ v) (h2 : v ≤ 35184372088832) (t : ByteArray) (ht : t = ⟨(longT v).toArray⟩) (w : World) (hU : Sp.UnitsB w) (hP : Sp.Pow w) (hL : (longT v).length ≤ 200) :
 Calls Tryz.prog 57 #[.int .i64 v] w fun e w' => e = .returned (.string t) ∧ Below w.heap.size w w' := by
 obtain ⟨n, hn⟩ : ∃ n, v.natAbs = n := ⟨_, rfl⟩
 have HT := Lib.hid (Sp.text_yes n w hU hP (by omega))
 obtain ⟨s, hs⟩ : ∃ s : ByteArray, (⟨(Sp.textF n).toArray⟩ : ByteArray) = s := ⟨_, rfl⟩
 rw [hs] at HT
 have hz : s.data.toList = Sp.textF n := by rw [← hs]
 have hsz : s.size ≤ 200 := by
  unfold longT at hL
  rw [hn, List.length_append] at hL
  rw [Lib.size_eq, hz]; omega
 by_cases h0 : v < 0
 · have d : decide (v < 0) = true := decide_eq_true h0
   have hw : IntKind.i64.wrap (-v) = (n : Int) := by rw [IntKind.wrap_i64]; omega
   have a1 : ∀ W, (Op.stringOp .add ⟨#[45]⟩ s).run Tryz.prog W = .ok (.string t) W := fun W => by
    rw [run_string_add_sum _ _ _ (by show 1 + s.size ≤ _; omega), ht]
    unfold longT
    rw [if_pos h0, hn, ← hz]; rfl
   clear hs hz ht hL hn hU hP
   go_enter Tryz.func57, Tryz.ntmps57
   go_wp2_with fail
   refine (HT.out).mono ?_
   rintro e w1 ⟨rfl, hb⟩
   go_wp2_with fail
   go_ret
   exact ⟨rfl, hb⟩
 · have d : decide (v < 0) = false := decide_eq_false h0
   obtain rfl : v = (n : Int) := by omega
   have a1 : ∀ W, (Op.stringOp .add ⟨#[]⟩ s).run Tryz.prog W = .ok (.string t) W := fun W => by
    rw [run_string_add_sum _ _ _ (by show 0 + s.size ≤ _; omega), ht]
    unfold longT
    rw [if_neg h0, hn, ← hz]; rfl
   clear hs hz ht hL hn hU hP
   go_enter Tryz.func57, Tryz.ntmps57
   go_wp2_with fail
   refine (HT.out).mono ?_
   rintro e w1 ⟨rfl, hb⟩
   go_wp2_with fail
   go_ret
   exact ⟨rfl, hb⟩
end Go.Proofs.YticmkabafmmlhaaGreatDoor.Ck

set_option linter.unusedVariables false
set_option linter.unusedSimpArgs false
set_option maxHeartbeats 4000000
namespace Go.Proofs.YticmkabafmmlhaaGreatDoor.Ck
open Go.RowKit
open Lib (hid)
set_option maxRecDepth 100000
def pM (h : Hd) (m : List UInt8) : List UInt8 := if (decide (0 < h.ms.length) || h.s.toList.isEmpty) = true then m else []
def pW (v : Int) : List UInt8 := if v = 0 then [] else [91] ++ longT v ++ [93]
def pA (ha : Bool) (tm : Int) : List UInt8 := if ha = true then [32, 64, 32] ++ Lib.itoa (tm.tdiv 1000) else []
def pO (v : Int) : List UInt8 := if v = 0 then [] else [32, 111, 102, 102, 115, 101, 116, 32] ++ longT v
def pickT (h : Hd) (m : List UInt8) : List UInt8 := h.s.data.toList ++ pM h m ++ pW h.wd ++ pA h.ha h.tm ++ pO h.off
def MatC (w0 : World) (b : Nat) (A : Option Addr) (n c : Nat) (out : List UInt8) : Prop := ∀ (acc : List UInt8) (w : World), Wr w0.heap.size b acc w → Below w0.heap.size w0 w → acc.length + out.length ≤ 140737488355328 →
 Calls Tryz.prog 56 #[.pointer (some ⟨b, 0, none⟩), .slice A n c] w (OutP w0.heap.size b (acc ++ out) w)
theorem itoa_any (n : Int) (h1 : -1125899906842624 ≤ n) (h2 : n ≤ 1125899906842624) (t : ByteArray) (ht : t = ⟨(Lib.itoa n).toArray⟩) (w : World) (hP : Sp.Pow w) :
 Calls Tryz.prog 58 #[.int .i64 n, .int .i64 10] w fun e w' => e = .returned (.string t) ∧ Below w.heap.size w w' := by
 subst ht
 refine (Tryz.strconv_FormatInt_10 n (by omega) (by omega) w hP).mono fun e w' ⟨h1, k, os, h2⟩ => ⟨h1, ?_⟩
 subst h2
 exact ⟨rfl, rfl, rfl, by rw [Sort.size_grow]; show w.heap.size ≤ w.heap.size + _; omega, fun i hi => Sort.heap_grow_old (w.drewN k) os hi⟩
theorem cat_str (s : ByteArray) : cat [s] = s.data.toList := by show s.data.toList ++ [] = _; rw [List.append_nil]
theorem div_thousand (tm : Int) (h1 : -1125899906842624 ≤ tm) (h2 : tm ≤ 1125899906842624) : -1125899906842624 ≤ tm.tdiv 1000 ∧ tm.tdiv 1000 ≤ 1125899906842624 := by
 rcases Int.le_total 0 tm with h | h
 · rw [Int.tdiv_eq_ediv_of_nonneg h]; omega
 · have e : tm.tdiv 1000 = -((-tm).tdiv 1000) := by rw [Int.neg_tdiv]; omega
   rw [e, Int.tdiv_eq_ediv_of_nonneg (by omega)]; omega
theorem St.over {w0 : World} {b : Nat} {acc x : List UInt8} {w w1 W : World} (h1 : St w0 b acc w w1) (h : St w0 b x w1 W) : St w0 b x w W := ⟨h.wr, h.low, h1.bel.trans h.bel, h1.kept.trans h.kept, h.size⟩
structure PickOk (h : Hd) : Prop where
 w1 : 0 ≤ h.wd
 w2 : h.wd ≤ 35184372088832
 o1 : -35184372088832 ≤ h.off
 o2 : h.off ≤ 35184372088832
 t1 : -1125899906842624 ≤ h.tm
 t2 : h.tm ≤ 1125899906842624
 lw : (longT h.wd).length ≤ 200
 lo : (longT h.off).length ≤ 200
theorem pick_put {w0 : World} {b : Nat} (h : Hd) (ks : List Tr) (m : List UInt8) (hE : Env w0) (hM : MatC w0 b h.ma h.ms.length h.mc m) (hP : PickOk h) : PartC w0 b 32 (.mk h ks) (pickT h m) := by
 intro acc w hw hb hl
 obtain ⟨a1, ha1⟩ : ∃ a, acc ++ h.s.data.toList = a := ⟨_, rfl⟩
 obtain ⟨a2, ha2⟩ : ∃ a, a1 ++ pM h m = a := ⟨_, rfl⟩
 obtain ⟨a3, ha3⟩ : ∃ a, a2 ++ pW h.wd = a := ⟨_, rfl⟩
 obtain ⟨a4, ha4⟩ : ∃ a, a3 ++ pA h.ha h.tm = a := ⟨_, rfl⟩
 obtain ⟨a5, ha5⟩ : ∃ a, a4 ++ pO h.off = a := ⟨_, rfl⟩
 have hout : acc ++ pickT h m = a5 := by unfold pickT; rw [← ha5, ← ha4, ← ha3, ← ha2, ← ha1]; simp only [List.append_assoc]
 have hl5 : a5.length ≤ 140737488355328 := by rw [← hout, List.length_append]; exact hl
 have hl4 : a4.length ≤ 140737488355328 := by rw [← ha5, List.length_append] at hl5; omega
 have hl3 : a3.length ≤ 140737488355328 := by rw [← ha4, List.length_append] at hl4; omega
 have hl2 : a2.length ≤ 140737488355328 := by rw [← ha3, List.length_append] at hl3; omega
 have hl1 : a1.length ≤ 140737488355328 := by rw [← ha2, List.length_append] at hl2; omega
 rw [hout]
 have HPN := hid (fun (x : List UInt8) (l : List ByteArray) (n : Nat) (hn : l.length = n) (cs : Array Value) (hcs : cs = strs l) W (hW : St w0 b x (w.alloc (.cells (arr h ks.length) 49)) W) (h9 : n ≤ 1000) (y : List UInt8) (hy : x ++ cat l = y) (hy2 : y.length ≤ 140737488355328) => by
  have := put_new w0.heap.size b x l n hn cs hcs W hW.wr h9 (by rw [← List.length_append, hy]; exact hy2) hW.size
  rw [hy] at this
  exact this)
 have HS0 := hid ((St.first hw hb).alloc (.cells (arr h ks.length) 49))
 have HS := hid (St.first HS0.out.wr HS0.out.low)
 have HO := hid (fun W (hW : St w0 b a5 (w.alloc (.cells (arr h ks.length) 49)) W) => (HS0.out.over hW).end_)
 have HZ : Hid ((w.alloc (.cells (arr h ks.length) 49)).heap.size = w.heap.size + 1) := World.size_alloc _ _
 have hgb : w.heap.size ≠ b := by have := hw.lt; omega
 have HBL := hid (Blk.new w 49 (arr h ks.length))
 have HMC := hid (fun W (hW : St w0 b a1 (w.alloc (.cells (arr h ks.length) 49)) W) (y : List UInt8) (hy : a1 ++ m = y) (hy2 : y.length ≤ 140737488355328) => by
  have := hM a1 W hW.wr hW.low (by rw [← List.length_append, hy]; exact hy2)
  rw [hy] at this
  exact this)
 have HLW := hid (fun W (hW : Below w0.heap.size w0 W) => long_any h.wd (by have := hP.w1; omega) hP.w2 _ rfl W (hE.un.below (by have := hE.vt.size; omega) hW) (hE.pw.below hW) hP.lw)
 have HLO := hid (fun W (hW : Below w0.heap.size w0 W) => long_any h.off hP.o1 hP.o2 _ rfl W (hE.un.below (by have := hE.vt.size; omega) hW) (hE.pw.below hW) hP.lo)
 have hdv := div_thousand h.tm hP.t1 hP.t2
 have HIT := hid (fun W (hW : Below w0.heap.size w0 W) => itoa_any (h.tm.tdiv 1000) hdv.1 hdv.2 _ rfl W (hE.pw.below hW))
 clear hw hb hl hM hE hout
 obtain ⟨k, o, v, s, ma, mc, ms, wd, off, ha, tm, how, na, nc, ns, bo, ka, kc⟩ := h
 rw [valT_arr]
 unfold arr at *
 dsimp only at *
 have hdt : IntKind.i64.wrap (tm.tdiv 1000) = tm.tdiv 1000 := by rw [IntKind.wrap_i64]; omega
 have HA1 := hid ha1
 have HA2 := hid ha2
 have HA3 := hid ha3
 have HA4 := hid ha4
 have HA5 := hid ha5
 clear ha1 ha2 ha3 ha4 ha5 hdv hP
 clear HS0
 generalize hgs : w.heap.size = g at *
 obtain ⟨X, hX⟩ : ∃ X : Array Value, X = #[.int .i64 k, .int .i64 o, .int .u64 (v : Int), .string s, .slice ma ms.length mc, .int .i64 wd, .int .i64 off, .bool ha, .int .i64 tm, .int .i64 how, .slice na ns.length nc, .bool bo, .slice ka ks.length kc] := ⟨_, rfl⟩
 go_enter Tryz.func32, Tryz.ntmps32
 have c3 := HBL.out.cell 3
 simp at c3
 go_wp2_with fail
 generalize w.alloc (.cells _ 49) = w1 at *
 have HP1 := HPN.out acc [s] 1 rfl #[.string s] rfl w1 HS.out (by decide) a1 (by rw [cat_str]; exact HA1.out) hl1
 rw [HZ.out] at HP1
 refine HP1.mono ?_
 rintro e w2 hq
 obtain ⟨rfl, h2⟩ := HS.out.out hq
 have HBK := hid (fun (x : List UInt8) (W : World) (hW : St w0 b x w1 W) => blk13 (h := ⟨k, o, v, s, ma, mc, ms, wd, off, ha, tm, how, na, nc, ns, bo, ka, kc⟩) (n := ks.length) (HS.out.blk hW HBL.out hgb (by decide)))
 have HS2 := hid h2
 clear HP1 hq c3 h2 HBL HS
 obtain ⟨c0, c1, c2, c3, c4, c5, c6, c7, c8, c9, c10, c11, c12⟩ := HBK.out _ _ HS2.out
 dsimp only at c0 c1 c2 c3 c4 c5 c6 c7 c8 c9 c10 c11 c12
 obtain ⟨cb, hcb⟩ : ∃ cb, (decide (0 < ms.length) || s.toList.isEmpty) = cb := ⟨_, rfl⟩
 go_upto_region 2 with fail
 have HCB := hid hcb
 clear hcb
 go_cut [20] from 10 to 20 (fun s20 wx => s20 = .bool cb ∧ Hid (St w0 b a1 w1 wx))
 case first =>
  by_cases hm : 0 < ms.length
  · obtain rfl : true = cb := by rw [← HCB.out, decide_eq_true hm]; rfl
    have d : decide (0 < (ms.length : Int)) = true := by rw [decide_eq_true_eq]; omega
    go_wp2_with fail
    go_meet
    case rel => exact ⟨rfl, HS2.out⟩
  · have d : decide (0 < (ms.length : Int)) = false := by rw [decide_eq_false_iff_not]; omega
    obtain rfl : s.toList.isEmpty = cb := by rw [← HCB.out, decide_eq_false hm, Bool.false_or]
    go_wp2_with fail
    go_meet
    case rel => exact ⟨rfl, HS2.out⟩
 case rest =>
  obtain ⟨rfl, HSc⟩ := hcut
  clear HS2 c0 c1 c2 c3 c4 c5 c6 c7 c8 c9 c10 c11 c12
  obtain ⟨c0, c1, c2, c3, c4, c5, c6, c7, c8, c9, c10, c11, c12⟩ := HBK.out _ _ HSc.out
  dsimp only at c0 c1 c2 c3 c4 c5 c6 c7 c8 c9 c10 c11 c12
  go_upto_if 20 with fail
  go_cut [] from 20 to 25 (fun wx => Hid (St w0 b a2 w1 wx))
  case first =>
   cases cb with
   | true =>
     go_wp2_with fail
     have HM1 := HMC.out _ HSc.out a2 (by rw [← HA2.out]; unfold pM; rw [if_pos HCB.out]) hl2
     refine HM1.mono ?_
     rintro e w5 hq
     obtain ⟨rfl, h5⟩ := HSc.out.out hq
     have HS5 := hid h5
     clear HM1 hq h5
     go_wp2_with fail
     go_meet
     case rel => exact HS5.out
   | false =>
     obtain rfl : a1 = a2 := by rw [← HA2.out]; unfold pM; rw [if_neg (by rw [HCB.out]; decide), List.append_nil]
     go_wp2_with fail
     go_meet
     case rel => exact HSc.out
  case rest =>
   clear HCB HSc
   clear c0 c1 c2 c3 c4 c5 c6 c7 c8 c9 c10 c11 c12
   have HSc := hid hcut.out
   clear hcut
   obtain ⟨c0, c1, c2, c3, c4, c5, c6, c7, c8, c9, c10, c11, c12⟩ := HBK.out _ _ HSc.out
   dsimp only at c0 c1 c2 c3 c4 c5 c6 c7 c8 c9 c10 c11 c12
   go_upto_if 29 with fail
   go_cut [] from 29 to 36 (fun wx => Hid (St w0 b a3 w1 wx))
   case first =>
    by_cases hw : wd = 0
    · obtain rfl : a2 = a3 := by rw [← HA3.out]; unfold pW; rw [if_pos hw, List.append_nil]
      subst hw
      go_wp2_with fail
      go_meet
      case rel => exact HSc.out
    · have d : decide (wd = 0) = false := decide_eq_false hw
      go_wp2_with fail
      refine (HLW.out _ HSc.out.low).mono ?_
      rintro e w4 ⟨rfl, hb4⟩
      have HS4 := hid (HSc.out.below hb4)
      clear hb4 c0 c1 c2 c3 c4 c5 c6 c7 c8 c9 c10 c11 c12
      go_wp2_with fail
      have HP1 := HPN.out a2 [⟨#[91]⟩, ⟨(longT wd).toArray⟩, ⟨#[93]⟩] 3 rfl _ rfl _ HS4.out (by decide) a3 (by rw [← HA3.out]; unfold pW; rw [if_neg hw]; simp [cat]) hl3
      refine HP1.mono ?_
      rintro e w5 hq
      obtain ⟨rfl, h5⟩ := HS4.out.out hq
      have HS5 := hid h5
      clear HP1 hq h5
      go_wp2_with fail
      go_meet
      case rel => exact HS5.out
   case rest =>
    clear HSc
    clear c0 c1 c2 c3 c4 c5 c6 c7 c8 c9 c10 c11 c12
    have HSc := hid hcut.out
    clear hcut
    obtain ⟨c0, c1, c2, c3, c4, c5, c6, c7, c8, c9, c10, c11, c12⟩ := HBK.out _ _ HSc.out
    dsimp only at c0 c1 c2 c3 c4 c5 c6 c7 c8 c9 c10 c11 c12
    go_upto_if 39 with fail
    go_cut [] from 39 to 47 (fun wx => Hid (St w0 b a4 w1 wx))
    case first =>
     cases ha with
     | false =>
      obtain rfl : a3 = a4 := by rw [← HA4.out]; unfold pA; rw [if_neg (by decide), List.append_nil]
      go_wp2_with fail
      go_meet
      case rel => exact HSc.out
     | true =>
      go_wp2_with fail
      refine (HIT.out _ HSc.out.low).mono ?_
      rintro e w4 ⟨rfl, hb4⟩
      have HS4 := hid (HSc.out.below hb4)
      clear hb4 c0 c1 c2 c3 c4 c5 c6 c7 c8 c9 c10 c11 c12
      go_wp2_with fail
      have HP1 := HPN.out a3 [⟨#[32, 64, 32]⟩, ⟨(Lib.itoa (tm.tdiv 1000)).toArray⟩] 2 rfl _ rfl _ HS4.out (by decide) a4 (by rw [← HA4.out]; unfold pA; rw [if_pos rfl]; simp [cat]) hl4
      refine HP1.mono ?_
      rintro e w5 hq
      obtain ⟨rfl, h5⟩ := HS4.out.out hq
      have HS5 := hid h5
      clear HP1 hq h5
      go_wp2_with fail
      go_meet
      case rel => exact HS5.out
    case rest =>
     clear HSc
     clear c0 c1 c2 c3 c4 c5 c6 c7 c8 c9 c10 c11 c12
     have HSc := hid hcut.out
     clear hcut
     obtain ⟨c0, c1, c2, c3, c4, c5, c6, c7, c8, c9, c10, c11, c12⟩ := HBK.out _ _ HSc.out
     dsimp only at c0 c1 c2 c3 c4 c5 c6 c7 c8 c9 c10 c11 c12
     by_cases hw : off = 0
     · obtain rfl : a4 = a5 := by rw [← HA5.out]; unfold pO; rw [if_pos hw, List.append_nil]
       subst hw
       go_wp2_with fail
       go_end0
       exact HO.out _ HSc.out
     · have d : decide (off = 0) = false := decide_eq_false hw
       go_wp2_with fail
       refine (HLO.out _ HSc.out.low).mono ?_
       rintro e w4 ⟨rfl, hb4⟩
       have HS4 := hid (HSc.out.below hb4)
       clear hb4 c0 c1 c2 c3 c4 c5 c6 c7 c8 c9 c10 c11 c12
       go_wp2_with fail
       have HP1 := HPN.out a4 [⟨#[32, 111, 102, 102, 115, 101, 116, 32]⟩, ⟨(longT off).toArray⟩] 2 rfl _ rfl _ HS4.out (by decide) a5 (by rw [← HA5.out]; unfold pO; rw [if_neg hw]; simp [cat]) hl5
       refine HP1.mono ?_
       rintro e w5 hq
       obtain ⟨rfl, h5⟩ := HS4.out.out hq
       have HS5 := hid h5
       clear HP1 hq h5
       go_wp2_with fail
       go_end0
       exact HO.out _ HS5.out
end Go.Proofs.YticmkabafmmlhaaGreatDoor.Ck

set_option linter.unusedVariables false
set_option linter.unusedSimpArgs false
set_option maxHeartbeats 4000000
namespace Go.Proofs.YticmkabafmmlhaaGreatDoor.Ck
open Go.RowKit
open Lib (hid)
set_option maxRecDepth 100000
def PutC (w0 : World) (b : Nat) (w1 : World) : Prop := ∀ (x : List UInt8) (l : List ByteArray) (n : Nat) (hn : l.length = n) (cs : Array Value) (hcs : cs = strs l) W (hW : St w0 b x w1 W) (h9 : n ≤ 1000) (y : List UInt8) (hy : x ++ cat l = y) (hy2 : y.length ≤ 140737488355328),
 Calls Tryz.prog 53 #[.pointer (some ⟨b, 0, none⟩), .slice (some ⟨W.heap.size, 0, none⟩) n n] (W.alloc (.cells cs 9)) (OutP w0.heap.size b y W)
theorem putC (w0 : World) (b : Nat) (w1 : World) : PutC w0 b w1 := fun x l n hn cs hcs W hW h9 y hy hy2 => by
 have := put_new w0.heap.size b x l n hn cs hcs W hW.wr h9 (by rw [← List.length_append, hy]; exact hy2) hW.size
 rw [hy] at this
 exact this
def CallC (w0 : World) (b : Nat) (w1 : World) (fn : Nat) (v : Value) (out : List UInt8) : Prop := ∀ (x : List UInt8) W (hW : St w0 b x w1 W) (y : List UInt8) (hy : x ++ out = y) (hy2 : y.length ≤ 140737488355328),
 Calls Tryz.prog fn #[.pointer (some ⟨b, 0, none⟩), v] W (OutP w0.heap.size b y W)
theorem PartC.call {w0 : World} {b fn : Nat} {t : Tr} {out : List UInt8} (h : PartC w0 b fn t out) (w1 : World) : CallC w0 b w1 fn (valT t) out := fun x W hW y hy hy2 => by
 have := h x W hW.wr hW.low (by rw [← List.length_append, hy]; exact hy2)
 rw [hy] at this
 exact this
def wrapT (so : Bool) (out : List UInt8) : List UInt8 := if so = true then [40] ++ out ++ [41] else out
theorem wrap_put {w0 : World} {b : Nat} (t : Tr) (out : List UInt8) (so : Bool) (hP : PartC w0 b 16 t out) : ∀ (acc : List UInt8) (w : World), Wr w0.heap.size b acc w → Below w0.heap.size w0 w → acc.length + (wrapT so out).length ≤ 140737488355328 →
 Calls Tryz.prog 62 #[.pointer (some ⟨b, 0, none⟩), valT t, .bool so] w (OutP w0.heap.size b (acc ++ wrapT so out) w) := by
 intro acc w hw hb hl
 obtain ⟨h, ks⟩ := t
 have HS0 := hid ((St.first hw hb).alloc (.cells (arr h ks.length) 49))
 have HS := hid (St.first HS0.out.wr HS0.out.low)
 have HPU := hid (putC w0 b (w.alloc (.cells (arr h ks.length) 49)))
 unfold PutC at HPU
 have HCA := hid (hP.call (w.alloc (.cells (arr h ks.length) 49)))
 unfold CallC at HCA
 have HBL := hid (Blk.new w 49 (arr h ks.length))
 have hgb : w.heap.size ≠ b := by have := hw.lt; omega
 have HBK := hid (fun (x : List UInt8) (W : World) (hW : St w0 b x (w.alloc (.cells (arr h ks.length) 49)) W) => blk13 (h := h) (n := ks.length) (HS.out.blk hW HBL.out hgb (by decide)))
 cases so with
 | false =>
   have hr : acc ++ wrapT false out = acc ++ out := rfl
   have HO := hid (fun W (hW : St w0 b (acc ++ out) (w.alloc (.cells (arr h ks.length) 49)) W) => (HS0.out.over hW).end_)
   have hl1 : (acc ++ out).length ≤ 140737488355328 := by rw [List.length_append]; exact hl
   rw [hr]
   clear hr hl hw hb hP HS0 HBL
   rw [valT_arr] at HCA ⊢
   unfold arr at *
   obtain ⟨c0, c1, c2, c3, c4, c5, c6, c7, c8, c9, c10, c11, c12⟩ := HBK.out _ _ HS.out
   go_enter Tryz.func62, Tryz.ntmps62
   go_wp2_with fail
   refine (HCA.out acc _ HS.out _ rfl hl1).mono ?_
   rintro e w2 hq
   obtain ⟨rfl, h2⟩ := HS.out.out hq
   have HS2 := hid h2
   clear hq h2
   go_wp2_with fail
   go_end0
   exact HO.out _ HS2.out
 | true =>
   obtain ⟨a1, ha1⟩ : ∃ a1, acc ++ [40] = a1 := ⟨_, rfl⟩
   obtain ⟨a2, ha2⟩ : ∃ a2, a1 ++ out = a2 := ⟨_, rfl⟩
   obtain ⟨a3, ha3⟩ : ∃ a3, a2 ++ [41] = a3 := ⟨_, rfl⟩
   have hr : acc ++ wrapT true out = a3 := by rw [← ha3, ← ha2, ← ha1]; unfold wrapT; rw [if_pos rfl]; simp only [List.append_assoc]
   have hl3 : a3.length ≤ 140737488355328 := by rw [← hr, List.length_append]; exact hl
   have hl2 : a2.length ≤ 140737488355328 := by rw [← ha3, List.length_append] at hl3; omega
   have hl1 : a1.length ≤ 140737488355328 := by rw [← ha2, List.length_append] at hl2; omega
   have HO := hid (fun W (hW : St w0 b a3 (w.alloc (.cells (arr h ks.length) 49)) W) => (HS0.out.over hW).end_)
   have HA1 := hid ha1
   have HA2 := hid ha2
   have HA3 := hid ha3
   rw [hr]
   have HZ : Hid ((w.alloc (.cells (arr h ks.length) 49)).heap.size = w.heap.size + 1) := World.size_alloc _ _
   clear hr hl hw hb hP HS0 HBL ha1 ha2 ha3
   rw [valT_arr] at HCA ⊢
   unfold arr at *
   go_enter Tryz.func62, Tryz.ntmps62
   go_wp2_with fail
   have HP1 := HPU.out acc [⟨#[40]⟩] 1 rfl _ rfl _ HS.out (by decide) a1 (by rw [← HA1.out]; rfl) hl1
   rw [HZ.out] at HP1
   refine HP1.mono ?_
   rintro e w2 hq
   obtain ⟨rfl, h2⟩ := HS.out.out hq
   have HS2 := hid h2
   clear hq h2 HP1
   obtain ⟨c0, c1, c2, c3, c4, c5, c6, c7, c8, c9, c10, c11, c12⟩ := HBK.out _ _ HS2.out
   go_wp2_with fail
   refine (HCA.out a1 _ HS2.out a2 HA2.out hl2).mono ?_
   rintro e w3 hq
   obtain ⟨rfl, h3⟩ := HS2.out.out hq
   have HS3 := hid h3
   clear hq h3 c0 c1 c2 c3 c4 c5 c6 c7 c8 c9 c10 c11 c12
   go_wp2_with fail
   refine (HPU.out a2 [⟨#[41]⟩] 1 rfl _ rfl _ HS3.out (by decide) a3 (by rw [← HA3.out]; rfl) hl3).mono ?_
   rintro e w4 hq
   obtain ⟨rfl, h4⟩ := HS3.out.out hq
   have HS4 := hid h4
   clear hq h4
   go_wp2_with fail
   go_end0
   exact HO.out _ HS4.out
def argF (o : Nat → List UInt8) : Nat → List UInt8
 | 0 => []
 | k + 1 => argF o k ++ (commaF k ++ o k)
theorem argF_le (o : Nat → List UInt8) (k : Nat) : ∀ n, k ≤ n → (argF o k).length ≤ (argF o n).length
 | 0, h => by obtain rfl : k = 0 := by omega
              exact Nat.le_refl _
 | n + 1, h => by
   by_cases e : k = n + 1
   · rw [e]; exact Nat.le_refl _
   · have := argF_le o k n (by omega)
     rw [argF, List.length_append]; omega
theorem args_put {w0 : World} {b : Nat} (h : Hd) (ks : List Tr) (o : Nat → List UInt8) (hk : ∀ k, k < ks.length → PartC w0 b 16 (ks.getD k t0) (o k)) (hT : Trs w0 h.ka ks) (hn : ks.length ≤ 700) : PartC w0 b 59 (.mk h ks) ([40] ++ argF o ks.length ++ [41]) := by
 intro acc w hw hb hl
 obtain ⟨n, hnn⟩ : ∃ n, ks.length = n := ⟨_, rfl⟩
 rw [hnn] at hl hk hn ⊢
 obtain ⟨K, hK⟩ : ∃ K : Nat → List UInt8, ∀ k, acc ++ [40] ++ argF o k = K k := ⟨_, fun _ => rfl⟩
 obtain ⟨M, hM⟩ : ∃ M : Nat → List UInt8, ∀ k, K k ++ commaF k = M k := ⟨_, fun _ => rfl⟩
 obtain ⟨r, hr⟩ : ∃ r, K n ++ [41] = r := ⟨_, rfl⟩
 have hrr : acc ++ ([40] ++ argF o n ++ [41]) = r := by rw [← hr, ← hK]; simp only [List.append_assoc]
 have hlr : r.length ≤ 140737488355328 := by rw [← hrr, List.length_append]; exact hl
 have HKL := hid (fun k (hk : k ≤ n) => by
  have h1 := argF_le o k n hk
  have h2 : (K n).length ≤ r.length := by rw [← hr, List.length_append]; omega
  rw [← hK, List.length_append] at h2 ⊢
  omega : ∀ k, k ≤ n → (K k).length ≤ 140737488355328)
 have hst : ∀ k, M k ++ o k = K (k + 1) := fun k => by rw [← hM, ← hK, ← hK, argF]; simp only [List.append_assoc]
 have HKN := hid hst
 have HML := hid (fun k (hk : k < n) => by
  have := HKL.out (k + 1) hk
  rw [← hst, List.length_append] at this
  omega : ∀ k, k < n → (M k).length ≤ 140737488355328)
 have HM := hid hM
 have HR := hid hr
 have HK0 : Hid (acc ++ [40] = K 0) := by rw [← hK]; exact (List.append_nil _).symm
 rw [hrr]
 have HS0 := hid ((St.first hw hb).alloc (.cells (arr h n) 49))
 have HS := hid (St.first HS0.out.wr HS0.out.low)
 have HPU := hid (putC w0 b (w.alloc (.cells (arr h n) 49)))
 unfold PutC at HPU
 have HCA := hid (fun k hk2 => (hk k hk2).call (w.alloc (.cells (arr h n) 49)))
 unfold CallC at HCA
 have HBL := hid (Blk.new w 49 (arr h n))
 have hgb : w.heap.size ≠ b := by have := hw.lt; omega
 have HBK := hid (fun (x : List UInt8) (W : World) (hW : St w0 b x (w.alloc (.cells (arr h n) 49)) W) => blk13 (h := h) (n := n) (HS.out.blk hW HBL.out hgb (by decide)))
 have HO := hid (fun W (hW : St w0 b r (w.alloc (.cells (arr h n) 49)) W) => (HS0.out.over hW).end_)
 have HZ : Hid ((w.alloc (.cells (arr h n) 49)).heap.size = w.heap.size + 1) := World.size_alloc _ _
 have HTR := hid hT
 have HNN := hid hnn
 have HBW : Hid (b < w.heap.size) := hw.lt.2
 rw [valT_arr, hnn]
 clear hrr hr hK hM hst hl hk hb hw HS0 HBL hT hnn
 unfold arr at *
 go_enter Tryz.func59, Tryz.ntmps59
 go_wp2_with fail
 generalize w.alloc (.cells _ 49) = w1 at *
 have HP1 := HPU.out acc [⟨#[40]⟩] 1 rfl _ rfl _ HS.out (by decide) (K 0) HK0.out (HKL.out 0 (Nat.zero_le _))
 rw [HZ.out] at HP1
 refine HP1.mono ?_
 rintro e w2 hq
 obtain ⟨rfl, h2⟩ := HS.out.out hq
 have HS2 := hid h2
 clear hq h2 HP1
 obtain ⟨c0, c1, c2, c3, c4, c5, c6, c7, c8, c9, c10, c11, c12⟩ := HBK.out _ _ HS2.out
 go_wp2_with fail
 clear c0 c1 c2 c3 c4 c5 c6 c7 c8 c9 c10 c11 c12
 go_loopw [13] (fun s13 wr => ∃ k : Nat, k ≤ n ∧ s13 = .int .i64 k ∧ Hid (St w0 b (K k) w1 wr)) (fun s13 _ => n - (intOf s13).toNat)
 case atStart => exact ⟨0, Nat.zero_le _, rfl, HS2⟩
 case round =>
  obtain ⟨k, hk, rfl, HX⟩ := hrel
  by_cases hlt : k < n
  · have hki : (k : Int) < (n : Int) := by omega
    obtain ⟨kb, off, hA, hkb, hc⟩ := (HTR.out.below HX.out.low) (by rw [HNN.out]; omega)
    have HCK := hid (HCA.out k hlt)
    cases ht : ks.getD k t0 with
    | mk h2 ks2 =>
      rw [ht, valT_arr] at HCK
      have hix := fun W => index_kid h.ka n h.kc k kb off hA hlt W
      obtain ⟨c0, c1, c2, c3, c4, c5, c6, c7, c8, c9, c10, c11, c12⟩ := Trs.at hc (by rw [HNN.out]; exact hlt) ht
      have HX5 := hid (HX.out.alloc (.cells (arr h2 ks2.length) 27))
      have HB5 := hid (Blk.new wr 27 (arr h2 ks2.length))
      have hg5 : wr.heap.size ≠ b := by have := HX.out.wr.lt; omega
      obtain ⟨tc, htc⟩ : ∃ t : ByteArray, t = ⟨(commaF k).toArray⟩ := ⟨_, rfl⟩
      have HCM := hid (fun W => comma_any k tc htc W)
      have HTC := hid htc
      have HZ5 : Hid ((wr.alloc (.cells (arr h2 ks2.length) 27)).heap.size = wr.heap.size + 1) := World.size_alloc _ _
      clear hc ht hA htc
      unfold arr at *
      go_wp2_with fail
      refine (HCM.out _).mono ?_
      rintro e w6 ⟨rfl, rfl⟩
      clear c0 c1 c2 c3 c4 c5 c6 c7 c8 c9 c10 c11 c12
      generalize wr.alloc (.cells _ 27) = W5 at *
      go_wp2_with fail
      have HP1 := HPU.out (K k) [tc] 1 rfl _ rfl _ HX5.out (by decide) (M k) (by rw [cat_str, HTC.out]; exact HM.out k) (HML.out k hlt)
      refine HP1.mono ?_
      rintro e w6 hq
      have HB6 := hid (hq.2.2.2.blk HB5.out hg5 (by decide))
      obtain ⟨rfl, h6⟩ := HX5.out.out hq
      have HX6 := hid h6
      clear HP1 hq h6
      obtain ⟨c0, c1, c2, c3, c4, c5, c6, c7, c8, c9, c10, c11, c12⟩ := blk13 (h := h2) (n := ks2.length) HB6.out
      go_wp2_with fail
      refine (HCK.out (M k) _ HX6.out (K (k + 1)) (HKN.out k) (HKL.out (k + 1) hlt)).mono ?_
      rintro e w7 hq
      obtain ⟨rfl, h7⟩ := HX6.out.out hq
      have HX7 := hid h7
      clear hq h7 c0 c1 c2 c3 c4 c5 c6 c7 c8 c9 c10 c11 c12
      go_wp2_with fail
      go_roundw
      case rel => exact ⟨k + 1, by omega, by go_num, HX7⟩
      case measure => simp [intOf]; omega
  · have d : decide (k < n) = false := by simpa using hlt
    obtain rfl : n = k := by omega
    go_wp2_with fail
    refine (HPU.out _ [⟨#[41]⟩] 1 rfl _ rfl _ HX.out (by decide) r HR.out hlr).mono ?_
    rintro e w4 hq
    obtain ⟨rfl, h4⟩ := HX.out.out hq
    have HS4 := hid h4
    clear hq h4
    go_wp2_with fail
    go_end0
    exact HO.out _ HS4.out
end Go.Proofs.YticmkabafmmlhaaGreatDoor.Ck

set_option linter.unusedVariables false
set_option linter.unusedSimpArgs false
set_option maxHeartbeats 2000000
namespace Go.Proofs.YticmkabafmmlhaaGreatDoor.Ck
open Go.RowKit
open Lib (hid)
set_option maxRecDepth 100000
theorem call_put {w0 : World} {b : Nat} (h : Hd) (ks : List Tr) (out : List UInt8) (hP : PartC w0 b 59 (.mk h ks) out) : PartC w0 b 33 (.mk h ks) (h.s.data.toList ++ out) := by
 intro acc w hw hb hl
 obtain ⟨n, hnn⟩ : ∃ n, ks.length = n := ⟨_, rfl⟩
 obtain ⟨a1, ha1⟩ : ∃ a, acc ++ h.s.data.toList = a := ⟨_, rfl⟩
 obtain ⟨r, hr⟩ : ∃ a, a1 ++ out = a := ⟨_, rfl⟩
 have hrr : acc ++ (h.s.data.toList ++ out) = r := by rw [← hr, ← ha1, List.append_assoc]
 have hlr : r.length ≤ 140737488355328 := by rw [← hrr, List.length_append]; exact hl
 have hl1 : a1.length ≤ 140737488355328 := by rw [← hr, List.length_append] at hlr; omega
 rw [hrr]
 have HS0 := hid ((St.first hw hb).alloc (.cells (arr h n) 49))
 have HS := hid (St.first HS0.out.wr HS0.out.low)
 have HPU := hid (putC w0 b (w.alloc (.cells (arr h n) 49)))
 unfold PutC at HPU
 have HBL := hid (Blk.new w 49 (arr h n))
 have hgb : w.heap.size ≠ b := by have := hw.lt; omega
 have HBK := hid (fun (x : List UInt8) (W : World) (hW : St w0 b x (w.alloc (.cells (arr h n) 49)) W) => blk13 (h := h) (n := n) (HS.out.blk hW HBL.out hgb (by decide)))
 have HO := hid (fun W (hW : St w0 b r (w.alloc (.cells (arr h n) 49)) W) => (HS0.out.over hW).end_)
 have HZ : Hid ((w.alloc (.cells (arr h n) 49)).heap.size = w.heap.size + 1) := World.size_alloc _ _
 have HCA := hid (hP.call (w.alloc (.cells (arr h n) 49)))
 unfold CallC at HCA
 have HA1 := hid ha1
 have HR := hid hr
 rw [valT_arr, hnn] at HCA ⊢
 clear hrr hl hr ha1 hw hb HS0 HBL hP hnn
 unfold arr at *
 go_enter Tryz.func33, Tryz.ntmps33
 have c3 := (HBK.out _ _ HS.out).2.2.2.1
 go_wp2_with fail
 generalize w.alloc (.cells _ 49) = w1 at *
 have HP1 := HPU.out acc [h.s] 1 rfl _ rfl _ HS.out (by decide) a1 (by rw [cat_str]; exact HA1.out) hl1
 rw [HZ.out] at HP1
 refine HP1.mono ?_
 rintro e w2 hq
 obtain ⟨rfl, h2⟩ := HS.out.out hq
 have HS2 := hid h2
 clear hq h2 HP1 c3
 obtain ⟨c0, c1, c2, c3, c4, c5, c6, c7, c8, c9, c10, c11, c12⟩ := HBK.out _ _ HS2.out
 go_wp2_with fail
 refine (HCA.out a1 _ HS2.out r HR.out hlr).mono ?_
 rintro e w3 hq
 obtain ⟨rfl, h3⟩ := HS2.out.out hq
 have HS3 := hid h3
 clear hq h3 c0 c1 c2 c3 c4 c5 c6 c7 c8 c9 c10 c11 c12
 go_wp2_with fail
 go_end0
 exact HO.out _ HS3.out
def HowC (w0 : World) (b : Nat) (h : Hd) (n : Nat) (x y : ByteArray) (out : List UInt8) : Prop := ∀ (acc : List UInt8) (w : World), Wr w0.heap.size b acc w → Below w0.heap.size w0 w → acc.length + out.length ≤ 140737488355328 →
 Calls Tryz.prog 60 #[.pointer (some ⟨b, 0, none⟩), .agg (arr h n), .slice (some ⟨w.heap.size, 0, none⟩) 2 2] (w.alloc (.cells #[.string x, .string y] 9)) (OutP w0.heap.size b (acc ++ out) w)
def sepT (how : Int) : List UInt8 := if how = 0 then [] else [32]
theorem group_put {w0 : World} {b : Nat} (h : Hd) (ks : List Tr) (ho out : List UInt8) (hH : HowC w0 b h ks.length ⟨#[98, 121]⟩ ⟨#[119, 105, 116, 104, 111, 117, 116]⟩ ho) (hP : PartC w0 b 59 (.mk h ks) out) : PartC w0 b 34 (.mk h ks) (h.s.data.toList ++ sepT h.how ++ ho ++ out) := by
 intro acc w hw hb hl
 obtain ⟨n, hnn⟩ : ∃ n, ks.length = n := ⟨_, rfl⟩
 obtain ⟨a1, ha1⟩ : ∃ a, acc ++ h.s.data.toList = a := ⟨_, rfl⟩
 obtain ⟨a2, ha2⟩ : ∃ a, a1 ++ sepT h.how = a := ⟨_, rfl⟩
 obtain ⟨a3, ha3⟩ : ∃ a, a2 ++ ho = a := ⟨_, rfl⟩
 obtain ⟨r, hr⟩ : ∃ a, a3 ++ out = a := ⟨_, rfl⟩
 have hrr : acc ++ (h.s.data.toList ++ sepT h.how ++ ho ++ out) = r := by rw [← hr, ← ha3, ← ha2, ← ha1]; simp only [List.append_assoc]
 have hlr : r.length ≤ 140737488355328 := by rw [← hrr, List.length_append]; exact hl
 have hl3 : a3.length ≤ 140737488355328 := by rw [← hr, List.length_append] at hlr; omega
 have hl2 : a2.length ≤ 140737488355328 := by rw [← ha3, List.length_append] at hl3; omega
 have hl1 : a1.length ≤ 140737488355328 := by rw [← ha2, List.length_append] at hl2; omega
 rw [hrr]
 have HS0 := hid ((St.first hw hb).alloc (.cells (arr h n) 49))
 have HS := hid (St.first HS0.out.wr HS0.out.low)
 have HPU := hid (putC w0 b (w.alloc (.cells (arr h n) 49)))
 unfold PutC at HPU
 have HBL := hid (Blk.new w 49 (arr h n))
 have hgb : w.heap.size ≠ b := by have := hw.lt; omega
 have HBK := hid (fun (x : List UInt8) (W : World) (hW : St w0 b x (w.alloc (.cells (arr h n) 49)) W) => blk13 (h := h) (n := n) (HS.out.blk hW HBL.out hgb (by decide)))
 have HO := hid (fun W (hW : St w0 b r (w.alloc (.cells (arr h n) 49)) W) => (HS0.out.over hW).end_)
 have HZ : Hid ((w.alloc (.cells (arr h n) 49)).heap.size = w.heap.size + 1) := World.size_alloc _ _
 have HCA := hid (hP.call (w.alloc (.cells (arr h n) 49)))
 unfold CallC at HCA
 have HHO := hid (fun W (hW : St w0 b a2 (w.alloc (.cells (arr h n) 49)) W) => by
  have := hH a2 W hW.wr hW.low (by rw [← List.length_append, ha3]; exact hl3)
  rw [ha3, hnn] at this
  exact this)
 have HA1 := hid ha1
 have HA2 := hid ha2
 have HR := hid hr
 rw [valT_arr, hnn] at HCA ⊢
 clear hrr hl hr ha1 ha2 ha3 hw hb HS0 HBL hP hH hnn
 unfold arr at *
 go_enter Tryz.func34, Tryz.ntmps34
 have c3 := (HBK.out _ _ HS.out).2.2.2.1
 go_wp2_with fail
 generalize w.alloc (.cells _ 49) = w1 at *
 have HP1 := HPU.out acc [h.s] 1 rfl _ rfl _ HS.out (by decide) a1 (by rw [cat_str]; exact HA1.out) hl1
 rw [HZ.out] at HP1
 refine HP1.mono ?_
 rintro e w2 hq
 obtain ⟨rfl, h2⟩ := HS.out.out hq
 have HS2 := hid h2
 clear hq h2 HP1 c3
 obtain ⟨c0, c1, c2, c3, c4, c5, c6, c7, c8, c9, c10, c11, c12⟩ := HBK.out _ _ HS2.out
 go_upto_if 13 with fail
 go_cut [] from 10 to 16 (fun wx => Hid (St w0 b a2 w1 wx))
 case first =>
  by_cases h0 : h.how = 0
  · obtain rfl : a1 = a2 := by rw [← HA2.out]; unfold sepT; rw [if_pos h0, List.append_nil]
    rw [h0] at *
    go_wp2_with fail
    go_meet
    case rel => exact HS2.out
  · have d : decide (h.how = 0) = false := decide_eq_false h0
    clear c0 c1 c2 c3 c4 c5 c6 c7 c8 c9 c10 c11 c12
    go_wp2_with fail
    refine (HPU.out a1 [⟨#[32]⟩] 1 rfl _ rfl _ HS2.out (by decide) a2 (by rw [← HA2.out]; unfold sepT; rw [if_neg h0]; rfl) hl2).mono ?_
    rintro e w4 hq
    obtain ⟨rfl, h4⟩ := HS2.out.out hq
    have HS4 := hid h4
    clear hq h4
    go_wp2_with fail
    go_meet
    case rel => exact HS4.out
 case rest =>
  clear c0 c1 c2 c3 c4 c5 c6 c7 c8 c9 c10 c11 c12 HS2
  have HS2 := hid hcut.out
  clear hcut
  obtain ⟨c0, c1, c2, c3, c4, c5, c6, c7, c8, c9, c10, c11, c12⟩ := HBK.out _ _ HS2.out
  go_wp2_with fail
  refine (HHO.out _ HS2.out).mono ?_
  rintro e w5 hq
  obtain ⟨rfl, h5⟩ := HS2.out.out hq
  have HS5 := hid h5
  clear hq h5 c0 c1 c2 c3 c4 c5 c6 c7 c8 c9 c10 c11 c12
  obtain ⟨c0, c1, c2, c3, c4, c5, c6, c7, c8, c9, c10, c11, c12⟩ := HBK.out _ _ HS5.out
  go_wp2_with fail
  refine (HCA.out a3 _ HS5.out r HR.out hlr).mono ?_
  rintro e w3 hq
  obtain ⟨rfl, h3⟩ := HS5.out.out hq
  have HS3 := hid h3
  clear hq h3 c0 c1 c2 c3 c4 c5 c6 c7 c8 c9 c10 c11 c12
  go_wp2_with fail
  go_end0
  exact HO.out _ HS3.out
end Go.Proofs.YticmkabafmmlhaaGreatDoor.Ck

/- The writer's less: what they put. Conditions: what the parts put. -/
import Derived.Test.YticmkabafmmlhaaGreatDoorPhj
import Derived.Deep.RegionWith
import Derived.Deep.RegionHeld3
set_option linter.unusedVariables false
set_option linter.unusedSimpArgs false
set_option maxHeartbeats 2000000
namespace Go.Proofs.YticmkabafmmlhaaGreatDoor.Ck
open Go.RowKit
open Lib (hid)
set_option maxRecDepth 100000
def kindF : Tr → Int
 | .mk h _ => h.k
theorem St.drawn {w0 : World} {b : Nat} {acc : List UInt8} {w W : World} (h : St w0 b acc w W) (k : Nat) : St w0 b acc w (W.drewN k) := h.below (Rg.bel_drawn (Below.refl _ _) k)
theorem less_put {w0 : World} {b : Nat} (h : Hd) (ks : List Tr) (out : List UInt8) (hk : 0 < ks.length) (hT : Trs w0 h.ka ks) (hP : PartC w0 b 16 (ks.getD 0 t0) out) : PartC w0 b 36 (.mk h ks) ([45] ++ wrapT (kindF (ks.getD 0 t0) == 6) out) := by
 intro acc w hw hb hl
 obtain ⟨n, hnn⟩ : ∃ n, ks.length = n := ⟨_, rfl⟩
 obtain ⟨q, hq⟩ : ∃ q, (kindF (ks.getD 0 t0) == 6) = q := ⟨_, rfl⟩
 rw [hq] at hl ⊢
 obtain ⟨a1, ha1⟩ : ∃ a, acc ++ [45] = a := ⟨_, rfl⟩
 obtain ⟨r, hr⟩ : ∃ a, a1 ++ wrapT q out = a := ⟨_, rfl⟩
 have hrr : acc ++ ([45] ++ wrapT q out) = r := by rw [← hr, ← ha1, List.append_assoc]
 have hlr : r.length ≤ 140737488355328 := by rw [← hrr, List.length_append]; exact hl
 have hl1 : a1.length ≤ 140737488355328 := by rw [← hr, List.length_append] at hlr; omega
 rw [hrr]
 have HS0 := hid ((St.first hw hb).alloc (.cells (arr h n) 49))
 have HS := hid (St.first HS0.out.wr HS0.out.low)
 have HPU := hid (putC w0 b (w.alloc (.cells (arr h n) 49)))
 unfold PutC at HPU
 have HBL := hid (Blk.new w 49 (arr h n))
 have hgb : w.heap.size ≠ b := by have := hw.lt; omega
 have HBK := hid (fun (x : List UInt8) (W : World) (hW : St w0 b x (w.alloc (.cells (arr h n) 49)) W) => blk13 (h := h) (n := n) (HS.out.blk hW HBL.out hgb (by decide)))
 have HO := hid (fun W (hW : St w0 b r (w.alloc (.cells (arr h n) 49)) W) => (HS0.out.over hW).end_)
 have HZ : Hid ((w.alloc (.cells (arr h n) 49)).heap.size = w.heap.size + 1) := World.size_alloc _ _
 have HWR := hid (fun W (hW : St w0 b a1 (w.alloc (.cells (arr h n) 49)) W) => by
  have := wrap_put (ks.getD 0 t0) out q hP a1 W hW.wr hW.low (by rw [← List.length_append, hr]; exact hlr)
  rw [hr] at this
  exact this)
 have HA1 := hid ha1
 have HTR := hid hT
 have HKP : Hid (0 < ks.length) := hk
 rw [valT_arr, hnn]
 cases ht : ks.getD 0 t0 with
 | mk h2 ks2 =>
 rw [ht] at hq
 have hq2 : (h2.k == 6) = q := hq
 rw [ht, valT_arr] at HWR
 have HT := hid ht
 clear hrr hl hr ha1 hw hb HS0 HBL hP hT ht hk hq
 have HNN := hid hnn
 clear hnn
 unfold arr at *
 go_enter Tryz.func36, Tryz.ntmps36
 go_wp2_with fail
 generalize w.alloc (.cells _ 49) = w1 at *
 have HP1 := HPU.out acc [⟨#[45]⟩] 1 rfl _ rfl _ HS.out (by decide) a1 HA1.out hl1
 rw [HZ.out] at HP1
 refine HP1.mono ?_
 rintro e w2 hq
 obtain ⟨rfl, h2'⟩ := HS.out.out hq
 have HS2 := hid h2'
 clear hq h2' HP1
 have k12 := (HBK.out _ _ HS2.out).2.2.2.2.2.2.2.2.2.2.2.2
 obtain ⟨kb, off, hA, hkb, hc⟩ := (HTR.out.below HS2.out.low) HKP.out
 have hix : ∀ W, (Instr.indexAt 25 (.slice h.ka n h.kc) (.int .i64 0)).run Tryz.prog W = .ok (.pointer (some ⟨kb, off, none⟩)) W := fun W => by
  have := index_kid h.ka n h.kc 0 kb off hA (by have := HKP.out; have := HNN.out; omega) W
  rw [Nat.zero_mul, Nat.add_zero] at this
  exact this
 obtain ⟨c0, c1, c2, c3, c4, c5, c6, c7, c8, c9, c10, c11, c12⟩ := Trs.at hc HKP.out HT.out
 rw [Nat.zero_mul] at c0 c1 c2 c3 c4 c5 c6 c7 c8 c9 c10 c11 c12
 simp only [Nat.add_zero] at c0 c1 c2 c3 c4 c5 c6 c7 c8 c9 c10 c11 c12
 clear hc hA hkb
 go_upto_region 2 with fail
 go_region_with (go_at_call 62; refine (HWR.out _ ?_).mono ?_; exact HS2.out.drawn _; rintro e w3 hq; obtain ⟨rfl, h3⟩ := (HS2.out.drawn 1).out hq; have HS3 := hid h3; clear hq h3)
 all_goals (go_end0; exact HO.out _ HS3.out)
end Go.Proofs.YticmkabafmmlhaaGreatDoor.Ck

set_option linter.unusedVariables false
set_option linter.unusedSimpArgs false
set_option maxHeartbeats 2000000
namespace Go.Proofs.YticmkabafmmlhaaGreatDoor.Ck
open Go.RowKit
open Lib (hid)
set_option maxRecDepth 100000
def howT (h : Hd) (x y : ByteArray) : List UInt8 := if h.how = 0 then [] else (if h.how = 1 then x else y).data.toList ++ [32, 40] ++ Lib.join (h.ns.map (·.data.toList)) [44, 32] ++ [41, 32]
theorem join_names {w0 : World} (h : Hd) (hN : Nms w0 h.na h.ns) (hc : h.ns.length ≤ h.nc) (hl : (Lib.join (h.ns.map (·.data.toList)) [44, 32]).length ≤ 140737488355328) (hn : h.ns.length ≤ 140737488355328) (t : ByteArray) (ht : t = ⟨(Lib.join (h.ns.map (·.data.toList)) [44, 32]).toArray⟩) (W : World) (hW : Below w0.heap.size w0 W) :
 Calls Tryz.prog 85 #[.slice h.na h.ns.length h.nc, .string ⟨#[44, 32]⟩] W fun e w' => e = .returned (.string t) ∧ Below W.heap.size W w' := by
 subst ht
 by_cases h0 : h.ns.length = 0
 · have hz : h.ns = [] := List.length_eq_zero_iff.1 h0
   rw [hz]
   refine (Tryz.strings_Join_none h.na h.nc ⟨#[44, 32]⟩ W).mono ?_
   rintro e w' ⟨rfl, rfl⟩
   exact ⟨rfl, Below.refl _ _⟩
 · obtain ⟨kb, off, hA, hb, hcell⟩ := (hN.below hW) (by omega)
   rw [hA]
   refine Tryz.strings_Join kb off h.nc h.ns ⟨#[44, 32]⟩ W (fun j x hx => ?_) hb hn hc hl
   have hj : j < h.ns.length := (List.getElem?_eq_some_iff.1 hx).1
   rw [hcell j hj, List.getD_eq_getElem?_getD, hx]
   rfl
theorem how_put {w0 : World} {b : Nat} (h : Hd) (n : Nat) (x y : ByteArray) (h02 : h.how = 0 ∨ h.how = 1 ∨ h.how = 2) (hN : Nms w0 h.na h.ns) (hc : h.ns.length ≤ h.nc) (hn : h.ns.length ≤ 140737488355328) : HowC w0 b h n x y (howT h x y) := by
 intro acc w hw hb hl
 obtain ⟨r, hr⟩ : ∃ a, acc ++ howT h x y = a := ⟨_, rfl⟩
 have hlr : r.length ≤ 140737488355328 := by rw [← hr, List.length_append]; exact hl
 rw [hr]
 obtain ⟨w2, hw2⟩ : ∃ w2, (w.alloc (.cells #[.string x, .string y] 9)).alloc (.cells (arr h n) 49) = w2 := ⟨_, rfl⟩
 have HS0 : Hid (St w0 b acc w w2) := by rw [← hw2]; exact ((St.first hw hb).alloc _).alloc _
 have HS := hid (St.first HS0.out.wr HS0.out.low)
 have HPU := hid (putC w0 b w2)
 unfold PutC at HPU
 have HBL : Hid (Blk w2 (w.heap.size + 1) 49 (arr h n)) := by
  show Blk _ _ _ _
  rw [← hw2]
  have := Blk.new (w.alloc (.cells #[.string x, .string y] 9)) 49 (arr h n)
  rwa [World.size_alloc] at this
 have HWL : Hid (Blk w2 w.heap.size 9 #[.string x, .string y]) := by show Blk _ _ _ _; rw [← hw2]; exact (Blk.new w 9 #[.string x, .string y]).alloc _
 have hgb : w.heap.size ≠ b := by have := hw.lt; omega
 have hgb2 : w.heap.size + 1 ≠ b := by have := hw.lt; omega
 have HBK := hid (fun (z : List UInt8) (W : World) (hW : St w0 b z w2 W) => blk13 (h := h) (n := n) (HS.out.blk hW HBL.out hgb2 (by decide)))
 have HWK := hid (fun (z : List UInt8) (W : World) (hW : St w0 b z w2 W) => HS.out.blk hW HWL.out hgb (by decide))
 have HO := hid (fun W (hW : St w0 b r w2 W) => (HS0.out.over hW).end_)
 have HR := hid hr
 by_cases h0 : h.how = 0
 · have hr0 : acc = r := by rw [← hr]; unfold howT; rw [if_pos h0, List.append_nil]
   subst hr0
   clear hr HR hl hw hb HS0 HBL HWL h02 hN hc hn
   obtain ⟨k, o, v, s, ma, mc, ms, wd, off, ha, tm, how, na, nc, ns, bo, ka, kc⟩ := h
   unfold arr at *
   dsimp only at *
   subst h0
   have k9 : w2.cell? ⟨w.heap.size + 1, 9, none⟩ = some (.int .i64 0) := (HBK.out _ _ HS.out).2.2.2.2.2.2.2.2.2.1
   go_enter Tryz.func60, Tryz.ntmps60
   go_wp2_with fail
   go_end0
   exact HO.out _ HS.out
 · have d : (h.how != 0) = true := by simp [h0]
   obtain ⟨t, ht⟩ : ∃ t : ByteArray, t = ⟨(Lib.join (h.ns.map (·.data.toList)) [44, 32]).toArray⟩ := ⟨_, rfl⟩
   obtain ⟨u, hu⟩ : ∃ u : ByteArray, (if h.how = 1 then x else y) = u := ⟨_, rfl⟩
   have hcat : acc ++ cat [u, ⟨#[32, 40]⟩, t, ⟨#[41, 32]⟩] = r := by rw [← hr]; unfold howT; rw [if_neg h0, hu, ht]; simp [cat]
   have hlj : (Lib.join (h.ns.map (·.data.toList)) [44, 32]).length ≤ 140737488355328 := by
    have : (Lib.join (h.ns.map (·.data.toList)) [44, 32]).length ≤ (howT h x y).length := by unfold howT; rw [if_neg h0]; simp only [List.length_append]; omega
    omega
   have HJ := hid (fun W hW => join_names h hN hc hlj hn t ht W hW)
   have HCT := hid hcat
   obtain ⟨j, hj2, hj, hju⟩ : ∃ j : Nat, j < 2 ∧ h.how = (j : Int) + 1 ∧ (#[.string x, .string y] : Array Value)[j]? = some (.string u) := by
    rcases h02 with h2 | h2 | h2
    · exact absurd h2 h0
    · exact ⟨0, by decide, h2, by rw [← hu, if_pos h2]; rfl⟩
    · exact ⟨1, by decide, h2, by rw [← hu, if_neg (by omega)]; rfl⟩
   have hwr : IntKind.i64.wrap (h.how - 1) = (j : Int) := by rw [IntKind.wrap_i64]; omega
   have hs9 : ∀ W, (sizeOf 9).run Tryz.prog W = .ok 1 W := fun W => by kernel_rfl
   have hixw : ∀ W, (Instr.indexAt 24 (.slice (some ⟨w.heap.size, 0, none⟩) 2 2) (.int .i64 (j : Int))).run Tryz.prog W = .ok (.pointer (some ⟨w.heap.size, j, none⟩)) W := fun W => by simp [Instr.indexAt, run_underlying Tryz.underlying24, asIntOf, hs9, hj2, Addr.add]; exact fun h => h.symm
   have HSS : Hid (∀ (z : List UInt8) (W : World), St w0 b z w2 W → (W.cell? ⟨w.heap.size + 1, 9, none⟩ = some (.int .i64 h.how) ∧ W.cell? ⟨w.heap.size + 1, 10, none⟩ = some (.slice h.na h.ns.length h.nc)) ∧ W.cell? ⟨w.heap.size, j, none⟩ = some (.string u)) := fun z W hW =>
    ⟨⟨(HBK.out z W hW).2.2.2.2.2.2.2.2.2.1, (HBK.out z W hW).2.2.2.2.2.2.2.2.2.2.1⟩, ((HWK.out z W hW).cell j).trans hju⟩
   have k9 : w2.cell? ⟨w.heap.size + 1, 9, none⟩ = some (.int .i64 h.how) := (HSS.out _ _ HS.out).1.1
   clear hr HR hl hw hb HS0 HBL HWL h02 hN hc hn hcat ht hu hlj hs9 hju hj HBK HWK h0
   obtain ⟨k, o, v, s, ma, mc, ms, wd, off, ha, tm, how, na, nc, ns, bo, ka, kc⟩ := h
   unfold arr at *
   dsimp only at *
   have hji : (j : Int) < 2 := by omega
   go_enter Tryz.func60, Tryz.ntmps60
   go_upto_region 2 with fail
   clear k9 hw2
   go_region_held3 (fun W => (W.cell? ⟨w.heap.size + 1, 9, none⟩ = some (.int .i64 how) ∧ W.cell? ⟨w.heap.size + 1, 10, none⟩ = some (.slice na ns.length nc)) ∧ W.cell? ⟨w.heap.size, j, none⟩ = some (.string u))
    (first | (exact HSS.out _ _ (HS.out.drawn 1)) | (exact HSS.out _ _ HS5.out) | (exact HSS.out _ _ (HS5.out.alloc _)) | (exact HSS.out _ _ HS6.out) | assumption)
    (first
      | (go_at_call 85
         refine (HJ.out _ (HS.out.drawn 1).low).mono ?_
         rintro e w5 ⟨rfl, hb5⟩
         have HS5 := hid ((HS.out.drawn 1).below hb5)
         clear hb5)
      | (go_at_call 53
         refine (HPU.out acc _ 4 rfl _ rfl _ HS5.out (by decide) r HCT.out hlr).mono ?_
         rintro e w6 hq
         obtain ⟨rfl, h6⟩ := HS5.out.out hq
         have HS6 := hid h6
         clear hq h6))
   all_goals (go_wp2_with fail; go_end0; exact HO.out _ HS6.out)
end Go.Proofs.YticmkabafmmlhaaGreatDoor.Ck

set_option linter.unusedVariables false
set_option linter.unusedSimpArgs false
namespace Go.Proofs.YticmkabafmmlhaaGreatDoor.Ck
open Go.RowKit
def signL : List ByteArray := [⟨#[]⟩, ⟨#[61]⟩, ⟨#[33, 61]⟩, ⟨#[61, 126]⟩, ⟨#[33, 126]⟩]
def signT (o : Int) : ByteArray := signL.getD o.toNat n0
def opL : List ByteArray := [⟨#[]⟩, ⟨#[61, 61]⟩, ⟨#[33, 61]⟩, ⟨#[62]⟩, ⟨#[60]⟩, ⟨#[62, 61]⟩, ⟨#[60, 61]⟩, ⟨#[43]⟩, ⟨#[45]⟩, ⟨#[42]⟩, ⟨#[47]⟩, ⟨#[37]⟩]
def opT (o : Int) : ByteArray := opL.getD o.toNat n0
def matO (m : Mt) : List UInt8 := m.2.1.data.toList ++ (signT m.1).data.toList ++ quoteF m.2.2.data.toList
def matT (l : List Mt) : List UInt8 := [123] ++ argF (fun k => matO (l.getD k m0)) l.length ++ [125]
def boolT (b : Bool) : List UInt8 := if b = true then [98, 111, 111, 108, 32] else []
def byS : ByteArray := ⟨#[98, 121]⟩
def withoutS : ByteArray := ⟨#[119, 105, 116, 104, 111, 117, 116]⟩
def onS : ByteArray := ⟨#[111, 110]⟩
def ignoringS : ByteArray := ⟨#[105, 103, 110, 111, 114, 105, 110, 103]⟩
def rightT (h : Hd) (so : Bool) (out : List UInt8) : List UInt8 := [32] ++ (opT h.o).data.toList ++ [32] ++ boolT h.bo ++ howT h onS ignoringS ++ wrapT so out
mutual
def printF : Tr → List UInt8
 | .mk h ks =>
   if h.k = 1 then numT h.v else if h.k = 2 then quoteF h.s.data.toList else if h.k = 3 then pickT h (matT h.ms)
   else if h.k = 4 then h.s.data.toList ++ ([40] ++ argF (fun k => (printL ks).getD k []) ks.length ++ [41])
   else if h.k = 5 then h.s.data.toList ++ sepT h.how ++ howT h byS withoutS ++ ([40] ++ argF (fun k => (printL ks).getD k []) ks.length ++ [41])
   else if h.k = 6 then wrapT (wrapF h 0 (ks.getD 0 t0)) ((printL ks).getD 0 []) ++ rightT h (wrapF h 1 (ks.getD 1 t0)) ((printL ks).getD 1 [])
   else [45] ++ wrapT (kindF (ks.getD 0 t0) == 6) ((printL ks).getD 0 [])
def printL : List Tr → List (List UInt8)
 | [] => []
 | t :: ts => printF t :: printL ts
end
theorem printL_at : ∀ (l : List Tr) (k : Nat), k < l.length → (printL l).getD k [] = printF (l.getD k t0)
 | [], k, h => by simp at h
 | t :: ts, 0, _ => by rw [printL]; rfl
 | t :: ts, k + 1, h => by rw [printL]; simpa using printL_at ts k (by simpa using h)
def InT (a s : List UInt8) : Prop := ∃ x y, s = x ++ a ++ y
theorem InT.refl (a : List UInt8) : InT a a := ⟨[], [], by simp⟩
theorem InT.right {a s : List UInt8} (h : InT a s) (t : List UInt8) : InT a (s ++ t) := by
 obtain ⟨x, y, rfl⟩ := h
 exact ⟨x, y ++ t, by simp⟩
theorem InT.left {a s : List UInt8} (h : InT a s) (t : List UInt8) : InT a (t ++ s) := by
 obtain ⟨x, y, rfl⟩ := h
 exact ⟨t ++ x, y, by simp⟩
theorem in_wrap (so : Bool) (out : List UInt8) : InT out (wrapT so out) := by
 unfold wrapT
 split
 · exact ((InT.refl out).left _).right _
 · exact InT.refl out
theorem in_arg (o : Nat → List UInt8) {k : Nat} : ∀ n, k < n → InT (o k) (argF o n)
 | 0, h => by omega
 | n + 1, h => by
   rw [argF]
   by_cases e : k = n
   · subst e
     exact ((InT.refl (o k)).left _).left _
   · exact (in_arg o n (by omega)).right _
def sumN (f : Nat → Nat) : Nat → Nat
 | 0 => 0
 | k + 1 => sumN f k + f k
theorem sumN_front (f : Nat → Nat) : ∀ n, sumN f (n + 1) = f 0 + sumN (fun k => f (k + 1)) n
 | 0 => by rw [sumN, sumN, sumN]; omega
 | n + 1 => by rw [sumN, sumN_front f n, sumN]; omega
theorem sumN_le (f g : Nat → Nat) : ∀ n, (∀ k, k < n → f k ≤ g k) → sumN f n ≤ sumN g n
 | 0, _ => Nat.le_refl _
 | n + 1, h => by
   have := sumN_le f g n fun k hk => h k (by omega)
   have := h n (by omega)
   rw [sumN, sumN]; omega
theorem sumN_const (c : Nat) : ∀ n, sumN (fun _ => c) n = c * n
 | 0 => rfl
 | n + 1 => by rw [sumN, sumN_const c n, Nat.mul_succ]
theorem sumN_mul (c : Nat) (f : Nat → Nat) : ∀ n, sumN (fun k => c * f k) n = c * sumN f n
 | 0 => rfl
 | n + 1 => by rw [sumN, sumN_mul c f n, sumN, Nat.mul_add]
theorem sumN_sz : ∀ l : List Tr, sumN (fun k => szF (l.getD k t0)) l.length = szL l
 | [] => by rw [szL]; rfl
 | t :: ts => by
   rw [List.length_cons, sumN_front, szL, ← sumN_sz ts]
   rfl
theorem comma_len (k : Nat) : (commaF k).length ≤ 2 := by unfold commaF; split <;> decide
theorem argF_len (o : Nat → List UInt8) : ∀ n, (argF o n).length ≤ sumN (fun k => (o k).length + 2) n
 | 0 => Nat.zero_le _
 | n + 1 => by
   have := argF_len o n
   have := comma_len n
   rw [argF, sumN, List.length_append, List.length_append]; omega
theorem join_len (c : Nat) : ∀ l : List ByteArray, (∀ x, x ∈ l → x.size ≤ c) → (Lib.join (l.map (·.data.toList)) [44, 32]).length ≤ (c + 2) * l.length
 | [], _ => Nat.zero_le _
 | [x], h => by
   have := h x (by simp)
   rw [Lib.size_eq] at this
   show (Lib.join [x.data.toList] [44, 32]).length ≤ _
   rw [Lib.join_one, List.length_singleton]; omega
 | x :: y :: l, h => by
   have h1 := h x (by simp)
   have h2 := join_len c (y :: l) fun z hz => h z (List.mem_cons_of_mem _ hz)
   rw [Lib.size_eq] at h1
   have e : Lib.join ((x :: y :: l).map (·.data.toList)) [44, 32] = x.data.toList ++ [44, 32] ++ Lib.join ((y :: l).map (·.data.toList)) [44, 32] := by
    simp [Lib.join, List.intercalate]
   have e2 : (c + 2) * (x :: y :: l).length = (c + 2) * (y :: l).length + (c + 2) := by rw [List.length_cons, Nat.mul_succ]
   rw [e, e2, List.length_append, List.length_append]
   have : ([44, 32] : List UInt8).length = 2 := rfl
   omega
theorem wrap_len (so : Bool) (out : List UInt8) : (wrapT so out).length ≤ out.length + 2 := by
 unfold wrapT
 split
 · simp
 · omega
theorem dec_len (v : Nat) (h : v < 18446744073709551616) : (Lib.decDigits v).length ≤ 20 := by
 rw [Lib.decDigits_length]
 by_cases h0 : v = 0
 · subst h0; rw [Lib.nDigits]; decide
 · have := Vt.nD_le v h
   unfold Vt.nD at this
   rwa [if_neg h0] at this
theorem name_len (k : Nat) : (Sp.nameAt k).length ≤ 2 := by
 by_cases h : k < 7
 · have : ∀ k, k < 7 → (Sp.nameAt k).length ≤ 2 := by decide
   exact this k h
 · unfold Sp.nameAt
   rw [List.getD_eq_getElem?_getD, List.getElem?_eq_none (by show 7 ≤ k; omega)]
   decide
theorem go_len : ∀ (f k v : Nat), v < 18446744073709551616 → (Sp.textGo f k v).length ≤ 22 * f
 | 0, _, _, _ => Nat.le_refl _
 | f + 1, k, v, h => by
   have h1 := go_len f (k + 1) (v % Sp.sizeAt k) (Nat.lt_of_le_of_lt (Nat.mod_le _ _) h)
   have h2 := dec_len (v / Sp.sizeAt k) (Nat.lt_of_le_of_lt (Nat.div_le_self _ _) h)
   have h3 := name_len k
   rw [Sp.textGo, List.length_append]
   split
   · rw [List.length_append]; omega
   · rw [List.length_nil]; omega
theorem long_len (v : Int) (h1 : -35184372088832 ≤ v) (h2 : v ≤ 35184372088832) : (longT v).length ≤ 155 := by
 unfold longT Sp.textF
 have := go_len 7 0 v.natAbs (by omega)
 rw [List.length_append]
 have h3 : (if v < 0 then [45] else ([] : List UInt8)).length ≤ 1 := by split <;> decide
 have h4 : (if v.natAbs = 0 then [48, 115] else Sp.textGo 7 0 v.natAbs).length ≤ 154 := by
  split
  · decide
  · exact this
 omega
theorem itoa_len (n : Int) (h1 : -1125899906842624 ≤ n) (h2 : n ≤ 1125899906842624) : (Lib.itoa n).length ≤ 21 := by
 unfold Lib.itoa
 split
 · have := dec_len n.natAbs (by omega)
   rw [List.length_cons]; omega
 · have := dec_len n.toNat (by omega)
   omega
theorem sgn_len (b : Bool) : (Vt.sgn b).length ≤ 1 := by cases b <;> decide
theorem frac_len (ds : List UInt8) : (Vt.fracT ds).length ≤ ds.length + 1 := by
 unfold Vt.fracT
 split
 · simp
 · simp
theorem exp_len (y : Int) : (Vt.expT y).length ≤ 4 := by
 unfold Vt.expT Vt.powT
 split <;> (rw [List.length_cons]; split <;> (try split) <;> simp)
theorem g_len (neg : Bool) (ds : List UInt8) (dp : Int) (h : ds.length ≤ 20) : (Vt.gText neg ds dp).length ≤ 60 := by
 have hs := sgn_len neg
 have hf := frac_len ds
 have he := exp_len (Vt.expOf ds (dp - 1))
 unfold Vt.gText
 split
 · unfold Vt.efgE
   simp only [List.length_append, List.length_cons, List.length_nil]
   omega
 · unfold Vt.fText
   split
   · split
     · simp only [List.length_append, List.length_cons, List.length_nil, List.length_take, List.length_drop]
       omega
     · simp only [List.length_append, List.length_replicate]
       omega
   · split
     · simp only [List.length_append, List.length_cons, List.length_nil, List.length_replicate]
       omega
     · simp only [List.length_append, List.length_cons, List.length_nil]
       omega
theorem fin_len (neg : Bool) (mant : Nat) (E : Int) : (Vt.fmtFin neg mant E).length ≤ 60 := by
 unfold Vt.fmtFin
 refine g_len _ _ _ ?_
 rw [List.length_take]
 refine Nat.le_trans (Nat.min_le_right _ _) ?_
 unfold Vt.dgs
 rw [List.length_map, List.length_range]
 refine Vt.nD_le _ ?_
 have := Vt.sfD_in (mant * 2 ^ (64 - Lib.bitLen mant)) (E - ((64 - Lib.bitLen mant : Nat) : Int) - 52)
 omega
theorem num_len (v : Nat) : (numT v).length ≤ 60 := by
 have h : (Vt.fmtF v).length ≤ 60 := by
  unfold Vt.fmtF
  split
  · unfold Vt.specT
    split
    · decide
    · split <;> decide
  · split
    · split
      · have := sgn_len (decide (9223372036854775808 ≤ v))
        simp only [List.length_append, List.length_cons, List.length_nil]
        omega
      · exact fin_len _ _ _
    · exact fin_len _ _ _
 unfold numT Lib.trimPrefix
 split
 · rw [List.length_drop]; omega
 · exact h
theorem sign_len (o : Int) : (signT o).data.toList.length ≤ 2 := by
 unfold signT
 generalize o.toNat = k
 match k with
 | 0 => decide
 | 1 => decide
 | 2 => decide
 | 3 => decide
 | 4 => decide
 | k + 5 => exact Nat.zero_le 2
theorem op_len (o : Int) : (opT o).data.toList.length ≤ 2 := by
 unfold opT
 generalize o.toNat = k
 match k with
 | 0 => decide
 | 1 => decide
 | 2 => decide
 | 3 => decide
 | 4 => decide
 | 5 => decide
 | 6 => decide
 | 7 => decide
 | 8 => decide
 | 9 => decide
 | 10 => decide
 | 11 => decide
 | k + 12 => exact Nat.zero_le 2
theorem mat_len (l : List Mt) (h : l.all mtOk = true) : (matT l).length ≤ 7158 * l.length + 2 := by
 have h1 : ∀ k, k < l.length → (fun k => (matO (l.getD k m0)).length + 2) k ≤ (fun _ => 7158) k := fun k hk => by
  have hm := List.all_eq_true.1 h (l.getD k m0) (by rw [List.getD_eq_getElem?_getD, List.getElem?_eq_getElem hk]; exact List.getElem_mem hk)
  unfold mtOk at hm
  rw [Bool.and_eq_true, decide_eq_true_eq, decide_eq_true_eq, Lib.size_eq, Lib.size_eq] at hm
  have hs := sign_len (l.getD k m0).1
  have hq := quote_len (l.getD k m0).2.2.data.toList
  show (matO (l.getD k m0)).length + 2 ≤ 7158
  unfold matO
  rw [List.length_append, List.length_append]
  omega
 have h2 := argF_len (fun k => matO (l.getD k m0)) l.length
 have h3 := sumN_le _ _ l.length h1
 rw [sumN_const] at h3
 unfold matT
 simp only [List.length_append, List.length_cons, List.length_nil]
 omega
theorem how_len (h : Hd) (x y : ByteArray) (hx : x.size ≤ 8) (hy : y.size ≤ 8) (hn : h.ns.all nmOk = true) : (howT h x y).length ≤ 402 * h.ns.length + 12 := by
 have := join_len 400 h.ns fun z hz => by
  have := List.all_eq_true.1 hn z hz
  unfold nmOk at this
  exact of_decide_eq_true this
 unfold howT
 split
 · simp
 · have hu : (if h.how = 1 then x else y).data.toList.length ≤ 8 := by
    split
    · rwa [← Lib.size_eq]
    · rwa [← Lib.size_eq]
   simp only [List.length_append, List.length_cons, List.length_nil]
   omega
theorem pick_len (h : Hd) (hP : PickOk h) (hs : h.s.size ≤ 400) (hm : h.ms.all mtOk = true) : (pickT h (matT h.ms)).length ≤ 1000 + 7158 * h.ms.length := by
 have h1 := mat_len h.ms hm
 have h2 := long_len h.wd (by have := hP.w1; omega) hP.w2
 have h3 := long_len h.off hP.o1 hP.o2
 have hd := div_thousand h.tm hP.t1 hP.t2
 have h4 := itoa_len (h.tm.tdiv 1000) hd.1 hd.2
 have a1 : (pM h (matT h.ms)).length ≤ (matT h.ms).length := by unfold pM; split <;> simp
 have a2 : (pW h.wd).length ≤ 157 := by
  unfold pW
  split
  · simp
  · simp only [List.length_append, List.length_cons, List.length_nil]; omega
 have a3 : (pA h.ha h.tm).length ≤ 24 := by
  unfold pA
  split
  · simp only [List.length_append, List.length_cons, List.length_nil]; omega
  · simp
 have a4 : (pO h.off).length ≤ 163 := by
  unfold pO
  split
  · simp
  · simp only [List.length_append, List.length_cons, List.length_nil]; omega
 rw [Lib.size_eq] at hs
 unfold pickT
 simp only [List.length_append]
 omega
end Go.Proofs.YticmkabafmmlhaaGreatDoor.Ck

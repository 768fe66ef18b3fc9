/- What is left of a pattern behind a byte, as a function. Condition: a machine that the reader has made. -/
import Derived.Test.YtahphjaelpgjdaaDoorW23
namespace Go.Proofs.YtahphjaelpgjdaaDoor
open Go.RowKit Rx
set_option linter.unusedVariables false

theorem TzT.bel {w w' : World} {B : Nat} (h : TzT w) (hb : Below B w w') (h5 : 2 ≤ B) : TzT w' := fun t ht => (hb.cell (p := ⟨1, idx t, none⟩) (show (1 : Nat) < B by omega)).trans (h t ht)
abbrev put5 (w : World) (j : Nat) (v0 v1 v2 v3 v4 : Value) : World := ((((w.setCell ⟨j, 0, none⟩ v0).setCell ⟨j, 1, none⟩ v1).setCell ⟨j, 2, none⟩ v2).setCell ⟨j, 3, none⟩ v3).setCell ⟨j, 4, none⟩ v4
theorem Blk.set5 {w : World} {j : Nat} {t : TypeId} {x0 x1 x2 x3 x4 : Value} (h : Blk w j t #[x0, x1, x2, x3, x4]) (v0 v1 v2 v3 v4 : Value) : Blk (put5 w j v0 v1 v2 v3 v4) j t #[v0, v1, v2, v3, v4] := by
  have h0 := h.set_ 0 v0
  simp only [List.setIfInBounds_toArray, List.set_cons_zero] at h0
  have h1 := h0.set_ 1 v1
  simp only [List.setIfInBounds_toArray, List.set_cons_zero, List.set_cons_succ] at h1
  have h2 := h1.set_ 2 v2
  simp only [List.setIfInBounds_toArray, List.set_cons_zero, List.set_cons_succ] at h2
  have h3 := h2.set_ 3 v3
  simp only [List.setIfInBounds_toArray, List.set_cons_zero, List.set_cons_succ] at h3
  have h4 := h3.set_ 4 v4
  simp only [List.setIfInBounds_toArray, List.set_cons_zero, List.set_cons_succ] at h4
  exact h4
theorem below5 {B : Nat} {w0 w : World} (h : Below B w0 w) {j : Nat} (hj : B ≤ j) (v0 v1 v2 v3 v4 : Value) : Below B w0 (put5 w j v0 v1 v2 v3 v4) :=
  ((((h.setCell (p := ⟨j, 0, none⟩) hj v0).setCell (p := ⟨j, 1, none⟩) hj v1).setCell (p := ⟨j, 2, none⟩) hj v2).setCell (p := ⟨j, 3, none⟩) hj v3).setCell (p := ⟨j, 4, none⟩) hj v4
theorem Blk.set5_other {w : World} {j k : Nat} {t : TypeId} {cs : Array Value} (h : Blk w k t cs) (hj : k ≠ j) (v0 v1 v2 v3 v4 : Value) : Blk (put5 w j v0 v1 v2 v3 v4) k t cs := ((((h.other hj 0 _).other hj 1 _).other hj 2 _).other hj 3 _).other hj 4 _
set_option maxRecDepth 100000 in
set_option maxHeartbeats 8000000 in
theorem behind_any (mb nx c : Nat) (dn : Bool) (l : ByteArray) (m : Mach) (p : Pc) (w : World) (hm : Mem w mb l m p) (hT : TzT w) (hnx : nx < 2 ^ m.takes.length) (hc : c < 256) :
    Calls Tryd.prog 21 #[.pointer (some ⟨mb, 0, none⟩), rsV nx dn, .int .u8 c] w fun e w' => e = .returned (rsV (behF m p.last nx c).1 (behF m p.last nx c).2) ∧ Below w.heap.size w w' := by
  obtain ⟨wB, hwB⟩ : ∃ wB, wB = (((w.alloc (.cells #[.pointer (some ⟨mb, 0, none⟩)] 52)).alloc (.cells (rsC nx dn) 63)).alloc (.cells #[.int .u8 c] 5)).alloc (.cells zero5 63) := ⟨_, rfl⟩
  have hsz : wB.heap.size = w.heap.size + 1 + 1 + 1 + 1 := by rw [hwB]; simp
  have hbel : Below w.heap.size w wB := by rw [hwB]; go_grown
  have hb1 : Blk wB w.heap.size 52 #[.pointer (some ⟨mb, 0, none⟩)] := by rw [hwB]; exact (((Blk.new w 52 _).alloc _).alloc _).alloc _
  have hb2 : Blk wB (w.heap.size + 1 + 1) 5 #[.int .u8 c] := by
    rw [hwB]
    have := (Blk.new ((w.alloc (.cells #[.pointer (some ⟨mb, 0, none⟩)] 52)).alloc (.cells (rsC nx dn) 63)) 5 #[.int .u8 c]).alloc (.cells zero5 63)
    rw [World.size_alloc, World.size_alloc] at this
    exact this
  have hbn : Blk wB (w.heap.size + 1) 63 (rsC nx dn) := by
    rw [hwB]
    have := ((Blk.new (w.alloc (.cells #[.pointer (some ⟨mb, 0, none⟩)] 52)) 63 (rsC nx dn)).alloc (.cells #[.int .u8 c] 5)).alloc (.cells zero5 63)
    rw [World.size_alloc] at this
    exact this
  have hbr : Blk wB (w.heap.size + 1 + 1 + 1) 63 zero5 := by
    rw [hwB]
    have := Blk.new (((w.alloc (.cells #[.pointer (some ⟨mb, 0, none⟩)] 52)).alloc (.cells (rsC nx dn) 63)).alloc (.cells #[.int .u8 c] 5)) 63 zero5
    rw [World.size_alloc, World.size_alloc, World.size_alloc] at this
    exact this
  have hmB : Mem wB mb l m p := hm.below hbel
  have hTB : TzT wB := hT.below hbel
  have hs0 : BeS wB mb w.heap.size (w.heap.size + 1 + 1) (w.heap.size + 1 + 1 + 1 + 1) c (0, false) (wB.alloc (.cells zero5 63)) := by
    refine ⟨(Below.refl _ _).alloc (Nat.le_refl _) _, hb1.alloc _, hb2.alloc _, ?_⟩
    have := Blk.new wB 63 zero5
    rw [hsz] at this
    rw [zero5_eq] at this ⊢
    exact this
  have h256 : m.takes.length ≤ 200 := hm.few
  have hlt2 : nx < 2 ^ 256 := Nat.lt_of_lt_of_le hnx (two_le (by omega))
  have H := Lib.hid (each_38 nx (.pointer (some ⟨w.heap.size, 0, none⟩)) (.pointer (some ⟨w.heap.size + 1 + 1, 0, none⟩)) (.pointer (some ⟨w.heap.size + 1 + 1 + 1 + 1, 0, none⟩))
    (fun j W => BeS wB mb w.heap.size (w.heap.size + 1 + 1) (w.heap.size + 1 + 1 + 1 + 1) c (behP m p.last nx c j) W) (wB.alloc (.cells zero5 63))
    (fun o => hs0.below ((Below.refl _ _).alloc (Nat.le_refl _) o))
    (fun j W h => hTB.below h.bel)
    (fun j W hj hbit h => by
      have hjl : j < m.takes.length := bit_lt hnx hbit
      have ht : (behP m p.last nx c j).1 < 2 ^ 256 := Nat.lt_of_lt_of_le (behP_lt hm.good p.last nx c j) (two_le (by omega))
      refine (step38 wB mb w.heap.size (w.heap.size + 1 + 1) (w.heap.size + 1 + 1 + 1 + 1) c j (behP m p.last nx c j).1 (behP m p.last nx c j).2 l m p hmB hjl hc (by omega) (by omega) (by omega) W h ht).mono ?_
      rintro e W' ⟨h1, h2⟩
      refine ⟨h1, ?_⟩
      cases hb : (m.takes.getD j 0).testBit c with
      | true => rw [behP_in hbit hb]; rw [hb, if_pos rfl] at h2; exact h2
      | false => rw [behP_out hb]; rw [hb, if_neg (by simp)] at h2; exact h2)
    (fun j W hbit h => by rw [behP_skip hbit]; exact h))
  obtain ⟨n0, n1, n2, n3, n4⟩ := cells5 (hbn.alloc (.cells zero5 63))
  have HBR := Lib.hid hbr
  have HBL := Lib.hid hbel
  clear hbn hb1 hb2 hmB hTB hs0 hbr hbel hm hT hnx
  generalize hr : behF m p.last nx c = r
  have HRR : Hid (behP m p.last nx c 256 = r) := hr
  clear hr
  go_enter Tryd.func21, Tryd.ntmps21
  go_upto_region 1 with fail
  rw [← hwB]
  clear hwB
  go_upto_region 2 with fail
  generalize wB.alloc (.cells _ 63) = W at *
  go_wp2_with fail
  refine (H.out).mono ?_
  rintro e W2 ⟨rfl, hs⟩
  rw [HRR.out] at hs
  have HS2 := Lib.hid hs
  have hsz2 : wB.heap.size ≤ W2.heap.size := hs.bel.size
  have BR2 := Lib.hid (HBR.out.below hs.bel)
  have BL2 := Lib.hid (HBL.out.trans (below_le hs.bel HBL.out.size))
  clear hs H n0 n1 n2 n3 n4
  obtain ⟨t0, t1, t2, t3, t4⟩ := cells5 HS2.out.b3
  obtain ⟨r0, r1, r2, r3, r4⟩ := cells5 BR2.out
  obtain ⟨g0, g1, g2, g3, g4⟩ := frozen5 BR2.out
  go_wp2
  exact bodyPost_ret (v := rsV r.1 r.2) (by simp [results, Tryd.results21, go_sem, r0, r1, r2, r3, r4]) rfl ⟨rfl, below5 BL2.out (by omega) _ _ _ _ _⟩
end Go.Proofs.YtahphjaelpgjdaaDoor

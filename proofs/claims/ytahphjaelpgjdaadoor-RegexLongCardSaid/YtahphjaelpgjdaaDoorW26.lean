/- What is left behind a byte, reckoned but once. Condition: a machine that the reader has made. -/
import Derived.Test.YtahphjaelpgjdaaDoorW25
import Derived.Test.YtahphjaelpgjdaaDoorR11
namespace Go.Proofs.YtahphjaelpgjdaaDoor
open Go.RowKit Rx
set_option linter.unusedVariables false

theorem Blk.map_ne {w : World} {q mp lst : Nat} {m : Mach} {t : TypeId} {cs : Array Value} (h : Blk w q t cs) (hm : MapOk w mp m lst) : mp ≠ q := by
  rintro rfl
  obtain ⟨es, clock, h1, _⟩ := hm
  unfold Blk at h
  rw [h] at h1
  cases h1
theorem own_map {w w' : World} {base e s n mp lst : Nat} {v : Value} {xs : List Value} {m : Mach} (h : w.ownsRow base e s v n xs) (hm : MapOk w mp m lst) (hg : w.grownBy w' (some mp)) : w'.ownsRow base e s v n xs := by
  refine h.kept hg (.inr fun hv => ?_)
  obtain ⟨cur, hcur⟩ := own_blk h hv
  obtain ⟨es, clock, h1, _⟩ := hm
  rw [hcur] at h1
  cases h1
structure MS (w : World) (q1 q2 mp mb : Nat) (l : ByteArray) (m : Mach) (p : Pc) : Prop where
  b1 : Blk w q1 90 #[.map (some mp)]
  b2 : Blk w q2 56 #[.func (.func 21) #[.pointer (some ⟨mb, 0, none⟩)] #[]]
  map : MapOk w mp m p.last
  mem : Mem w mb l m p
  tz : TzT w
  hi : 5 ≤ mp
theorem MS.below {w w' : World} {q1 q2 mp mb : Nat} {l : ByteArray} {m : Mach} {p : Pc} (h : MS w q1 q2 mp mb l m p) (hb : Below w.heap.size w w') : MS w' q1 q2 mp mb l m p :=
  ⟨h.b1.below hb, h.b2.below hb, h.map.kept (hb.block mp h.map.lt), h.mem.below hb, h.tz.below hb, h.hi⟩
theorem MS.put {w w' : World} {q1 q2 mp mb : Nat} {l : ByteArray} {m : Mach} {p : Pc} (h : MS w q1 q2 mp mb l m p) (hg : w.grownBy w' (some mp)) (hm : MapOk w' mp m p.last) : MS w' q1 q2 mp mb l m p := by
  refine ⟨h.b1.grown hg (fun e => h.b1.map_ne h.map (by injection e)), h.b2.grown hg (fun e => h.b2.map_ne h.map (by injection e)), hm, ?_, ?_, h.hi⟩
  · obtain ⟨⟨T, F, a, o, h1, h2, h3⟩, h4, h5, h6, h7⟩ := h.mem
    exact ⟨⟨T, F, a, o, h1.grown hg (fun e => h1.map_ne h.map (by injection e)), own_map h2 h.map hg, own_map h3 h.map hg⟩, h4, h5, h6, h7⟩
  · intro t ht
    have h1 := h.tz t ht
    have hlt := World.block_lt_of_cell? w ⟨1, idx t, none⟩ h1
    have := hg.block 1 hlt (fun e => by injection e with e; have := h.hi; omega)
    exact (World.cell?_of_block (a := ⟨1, idx t, none⟩) this).trans h1
set_option maxRecDepth 100000 in
set_option maxHeartbeats 8000000 in
theorem memo_any (q1 q2 mp mb t c : Nat) (d : Bool) (l : ByteArray) (m : Mach) (p : Pc) (w : World) (hS : MS w q1 q2 mp mb l m p) (ht : t < 2 ^ m.takes.length) (hc : c < 256) :
    Calls Tryd.prog 36 #[rsV t d, .int .u8 c, .pointer (some ⟨q1, 0, none⟩), .pointer (some ⟨q2, 0, none⟩)] w fun e w' => e = .returned (rsV (behF m p.last t c).1 (behF m p.last t c).2) ∧ MS w' q1 q2 mp mb l m p ∧ w.grownBy w' (some mp) := by
  have hfew := hS.mem.few
  have ht256 : t < 2 ^ 256 := Nat.lt_of_lt_of_le ht (two_le (by omega))
  obtain ⟨W, hW⟩ : ∃ W, W = (w.alloc (.cells (rsC t d) 63)).alloc (.cells zero5 63) := ⟨_, rfl⟩
  have hbel : Below w.heap.size w W := by rw [hW]; go_grown
  have hSW := hS.below hbel
  have hbn : Blk W w.heap.size 63 (rsC t d) := by rw [hW]; exact (Blk.new w 63 _).alloc _
  have hbr : Blk W (w.heap.size + 1) 63 zero5 := by
    rw [hW]
    have := Blk.new (w.alloc (.cells (rsC t d) 63)) 63 zero5
    rw [World.size_alloc] at this
    exact this
  have hsz : W.heap.size = w.heap.size + 1 + 1 := by rw [hW]; simp
  have HBW := Lib.hid hbel
  have HS0 := Lib.hid hS
  have hmp : mp < w.heap.size := hS.map.lt
  have HSW := Lib.hid hSW
  have HBN := Lib.hid hbn
  have HBR := Lib.hid hbr
  generalize hr : behF m p.last t c = r
  have HRR := Lib.hid hr
  rcases look_any hSW.map t d c ht256 hc with hlk | ⟨hlk, hup⟩
  · rw [hr] at hlk
    have k1 := hSW.b1.cell 0
    simp only [List.getElem?_toArray, List.getElem?_cons_zero] at k1
    obtain ⟨n0, n1, n2, n3, n4⟩ := cells5 hbn
    clear hSW hbn hbr hbel hS hr
    go_enter Tryd.func36, Tryd.ntmps36
    go_upto_region 1 with fail
    rw [← hW]
    clear hW
    go_upto_region 2 with fail
    have HB7 := Lib.hid (Blk.new W 63 (rsC r.1 r.2))
    have HR7 := Lib.hid (HBR.out.alloc (.cells (rsC r.1 r.2) 63))
    have HL7 := Lib.hid (HBW.out.alloc (by omega) (.cells (rsC r.1 r.2) 63))
    rw [hsz] at HB7
    generalize W.alloc (.cells _ 63) = W7 at *
    clear hlk n0 n1 n2 n3 n4 k1
    obtain ⟨t0, t1, t2, t3, t4⟩ := cells5 HB7.out
    obtain ⟨r0, r1, r2, r3, r4⟩ := cells5 HR7.out
    obtain ⟨f0, f1, f2, f3, f4⟩ := frozen5 HR7.out
    have HL8 := Lib.hid (below5 HL7.out (show w.heap.size ≤ w.heap.size + 1 by omega) (wv r.1 0) (wv r.1 1) (wv r.1 2) (wv r.1 3) (.bool r.2))
    go_wp2
    exact bodyPost_ret (v := rsV r.1 r.2) (by simp [results, Tryd.results36, go_sem, r0, r1, r2, r3, r4]) rfl ⟨rfl, HS0.out.below HL8.out, below_grown HL8.out (some mp)⟩
  · have HUP := Lib.hid hup
    have k1 := hSW.b1.cell 0
    have k2 := hSW.b2.cell 0
    simp only [List.getElem?_toArray, List.getElem?_cons_zero] at k1 k2
    obtain ⟨n0, n1, n2, n3, n4⟩ := cells5 hbn
    have HBH := Lib.hid (fun X (hX : Mem X mb l m p) (hT : TzT X) => behind_any mb t c d l m p X hX hT ht hc)
    rw [hr] at HBH
    clear hSW hbn hbr hbel hS hr hup
    go_enter Tryd.func36, Tryd.ntmps36
    go_upto_region 1 with fail
    rw [← hW]
    clear hW
    go_upto_region 2 with fail
    have HB7 := Lib.hid (Blk.new W 63 zero5)
    have HN7 := Lib.hid (HBN.out.alloc (.cells zero5 63))
    have HR7 := Lib.hid (HBR.out.alloc (.cells zero5 63))
    have HL7 := Lib.hid (HBW.out.alloc (by omega) (.cells zero5 63))
    have HS7 := Lib.hid (HS0.out.below HL7.out)
    have HM7 : Hid ((W.alloc (.cells zero5 63)).heap[mp]? = W.heap[mp]?) := ((Below.refl W.heap.size W).alloc (Nat.le_refl _) (.cells zero5 63)).block mp (by omega)
    rw [hsz] at HB7
    generalize W.alloc (.cells _ 63) = W7 at *
    clear hlk n0 n1 n2 n3 n4 k1 k2
    have k2 := HS7.out.b2.cell 0
    simp only [List.getElem?_toArray, List.getElem?_cons_zero] at k2
    obtain ⟨n0, n1, n2, n3, n4⟩ := cells5 HN7.out
    have HBI := Lib.hid (HBH.out W7 HS7.out.mem HS7.out.tz)
    clear HBH
    go_wp2_with fail
    refine (HBI.out).mono ?_
    rintro e W8 ⟨rfl, hb8⟩
    have HB8 := Lib.hid (HB7.out.below hb8)
    have HN8 := Lib.hid (HN7.out.below hb8)
    have HR8 := Lib.hid (HR7.out.below hb8)
    have HL8 := Lib.hid (HL7.out.trans (below_le hb8 HL7.out.size))
    have HM8 : Hid (W8.heap[mp]? = W.heap[mp]?) := (hb8.block mp (Nat.lt_of_lt_of_le hmp HL7.out.size)).trans HM7.out
    clear hb8 HBI HB7 HN7 HR7 HL7 HS7 HM7 n0 n1 n2 n3 n4 k2
    obtain ⟨t0, t1, t2, t3, t4⟩ := cells5 HB8.out
    obtain ⟨f0, f1, f2, f3, f4⟩ := frozen5 HB8.out
    have HB9 := Lib.hid (HB8.out.set5 (wv r.1 0) (wv r.1 1) (wv r.1 2) (wv r.1 3) (.bool r.2))
    have HN9 := Lib.hid (HN8.out.set5_other (j := w.heap.size + 1 + 1) (by omega) (wv r.1 0) (wv r.1 1) (wv r.1 2) (wv r.1 3) (.bool r.2))
    have HR9 := Lib.hid (HR8.out.set5_other (j := w.heap.size + 1 + 1) (by omega) (wv r.1 0) (wv r.1 1) (wv r.1 2) (wv r.1 3) (.bool r.2))
    have HL9 := Lib.hid (below5 HL8.out (show w.heap.size ≤ w.heap.size + 1 + 1 by omega) (wv r.1 0) (wv r.1 1) (wv r.1 2) (wv r.1 3) (.bool r.2))
    have HM9 : Hid ((put5 W8 (w.heap.size + 1 + 1) (wv r.1 0) (wv r.1 1) (wv r.1 2) (wv r.1 3) (.bool r.2)).heap[mp]? = W.heap[mp]?) := by
      refine Eq.trans ?_ HM8.out
      exact (below5 (B := mp + 1) (Below.refl (mp + 1) W8) (show mp + 1 ≤ w.heap.size + 1 + 1 by omega) (wv r.1 0) (wv r.1 1) (wv r.1 2) (wv r.1 3) (.bool r.2)).block mp (by omega)
    have HS9 := Lib.hid (HS0.out.below HL9.out)
    unfold put5 at HB9 HN9 HR9 HL9 HM9 HS9
    go_upto_region 4 with fail
    generalize World.setCell _ ⟨w.heap.size + 1 + 1, 4, none⟩ _ = W9 at *
    clear HB8 HN8 HR8 HL8 HM8 t0 t1 t2 t3 t4 f0 f1 f2 f3 f4
    have k1 := HS9.out.b1.cell 0
    simp only [List.getElem?_toArray, List.getElem?_cons_zero] at k1
    obtain ⟨n0, n1, n2, n3, n4⟩ := cells5 HN9.out
    obtain ⟨t0, t1, t2, t3, t4⟩ := cells5 HB9.out
    obtain ⟨WA, hrun, hmo, hgr⟩ := HUP.out W9 (rsV r.1 r.2) HM9.out (by rw [HRR.out])
    have HMO := Lib.hid hmo
    have HGA := Lib.hid (gr_trans (below_grown HL9.out (some mp)) hgr)
    have HBA := Lib.hid (HB9.out.grown hgr (by intro e; injection e; omega))
    have HRA := Lib.hid (HR9.out.grown hgr (by intro e; injection e; omega))
    clear hmo hgr HUP
    go_upto_region 5 with fail
    clear hrun n0 n1 n2 n3 n4 t0 t1 t2 t3 t4 k1
    obtain ⟨t0, t1, t2, t3, t4⟩ := cells5 HBA.out
    obtain ⟨r0, r1, r2, r3, r4⟩ := cells5 HRA.out
    obtain ⟨f0, f1, f2, f3, f4⟩ := frozen5 HRA.out
    have HGF := Lib.hid (gr_new HGA.out (below5 (Below.refl w.heap.size WA) (show w.heap.size ≤ w.heap.size + 1 by omega) (wv r.1 0) (wv r.1 1) (wv r.1 2) (wv r.1 3) (.bool r.2)))
    have HMF := Lib.hid (HMO.out.kept ((below5 (Below.refl w.heap.size WA) (show w.heap.size ≤ w.heap.size + 1 by omega) (wv r.1 0) (wv r.1 1) (wv r.1 2) (wv r.1 3) (.bool r.2)).block mp hmp))
    go_wp2
    exact bodyPost_ret (v := rsV r.1 r.2) (by simp [results, Tryd.results36, go_sem, r0, r1, r2, r3, r4]) rfl ⟨rfl, HS0.out.put HGF.out HMF.out, HGF.out⟩
end Go.Proofs.YtahphjaelpgjdaaDoor

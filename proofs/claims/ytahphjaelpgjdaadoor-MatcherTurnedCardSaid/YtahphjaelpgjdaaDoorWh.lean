/- What is left behind a byte, reckoned but once. Condition: a machine that the reader has made. -/
import Derived.Test.YtahphjaelpgjdaaDoorWg
import Derived.Test.YtahphjaelpgjdaaDoorRf
import Derived.Carry
namespace Go.Proofs.YtahphjaelpgjdaaDoor
open Go.RowKit Rx
set_option linter.unusedVariables false

theorem Blk.map_ne {w : World} {q mp lst : Nat} {m : Mach} {t : TypeId} {cs : Array Value} (h : Blk w q t cs) (hm : MapOk w mp m lst) : mp ≠ q := by
  rintro rfl
  obtain ⟨es, clock, h1, _⟩ := hm
  unfold Blk at h
  rw [h] at h1
  cases h1
theorem own_map {w w' : World} {base e s n mp lst : Nat} {v : Value} {xs : List Value} {m : Mach} (h : w.ownsRow base e s v n xs) (hm : MapOk w mp m lst) (hg : w.grownBy w' (some mp)) : w'.ownsRow base e s v n xs := by
  refine h.kept hg (.inr fun hv => ?_)
  obtain ⟨cur, hcur⟩ := own_blk h hv
  obtain ⟨es, clock, h1, _⟩ := hm
  rw [hcur] at h1
  cases h1
structure MS (w : World) (q1 q2 mp mb : Nat) (l : ByteArray) (m : Mach) (p : Pc) : Prop where
  b1 : Blk w q1 90 #[.map (some mp)]
  b2 : Blk w q2 56 #[.func (.func 21) #[.pointer (some ⟨mb, 0, none⟩)] #[]]
  map : MapOk w mp m p.last
  mem : Mem w mb l m p
  tz : TzT w
  hi : 5 ≤ mp
theorem MS.below {w w' : World} {q1 q2 mp mb : Nat} {l : ByteArray} {m : Mach} {p : Pc} (h : MS w q1 q2 mp mb l m p) (hb : Below w.heap.size w w') : MS w' q1 q2 mp mb l m p :=
  ⟨h.b1.below hb, h.b2.below hb, h.map.kept (hb.block mp h.map.lt), h.mem.below hb, h.tz.below hb, h.hi⟩
theorem MS.put {w w' : World} {q1 q2 mp mb : Nat} {l : ByteArray} {m : Mach} {p : Pc} (h : MS w q1 q2 mp mb l m p) (hg : w.grownBy w' (some mp)) (hm : MapOk w' mp m p.last) : MS w' q1 q2 mp mb l m p := by
  refine ⟨h.b1.grown hg (fun e => h.b1.map_ne h.map (by injection e)), h.b2.grown hg (fun e => h.b2.map_ne h.map (by injection e)), hm, ?_, ?_, h.hi⟩
  · obtain ⟨⟨T, F, a, o, h1, h2, h3⟩, h4, h5, h6, h7⟩ := h.mem
    exact ⟨⟨T, F, a, o, h1.grown hg (fun e => h1.map_ne h.map (by injection e)), own_map h2 h.map hg, own_map h3 h.map hg⟩, h4, h5, h6, h7⟩
  · intro t ht
    have h1 := h.tz t ht
    have hlt := World.block_lt_of_cell? w ⟨1, idx t, none⟩ h1
    have := hg.block 1 hlt (fun e => by injection e with e; have := h.hi; omega)
    exact (World.cell?_of_block (a := ⟨1, idx t, none⟩) this).trans h1
set_option maxRecDepth 100000 in
set_option maxHeartbeats 8000000 in
theorem memo_any (q1 q2 mp mb t c : Nat) (d : Bool) (l : ByteArray) (m : Mach) (p : Pc) (w : World) (hS : MS w q1 q2 mp mb l m p) (ht : t < 2 ^ m.takes.length) (hc : c < 256) :
    Calls Tryd.prog 36 #[rsV t d, .int .u8 c, .pointer (some ⟨q1, 0, none⟩), .pointer (some ⟨q2, 0, none⟩)] w fun e w' => e = .returned (rsV (behF m p.last t c).1 (behF m p.last t c).2) ∧ MS w' q1 q2 mp mb l m p ∧ w.grownBy w' (some mp) := by
  have hfew := hS.mem.few
  have ht256 : t < 2 ^ 256 := Nat.lt_of_lt_of_le ht (two_le (by omega))
  obtain ⟨W, hW⟩ : ∃ W, W = (w.alloc (.cells (rsC t d) 63)).alloc (.cells zero5 63) := ⟨_, rfl⟩
  have hbel : Below w.heap.size w W := by rw [hW]; go_grown
  have hSW := hS.below hbel
  have hbn : Blk W w.heap.size 63 (rsC t d) := by rw [hW]; exact (Blk.new w 63 _).alloc _
  have hbr : Blk W (w.heap.size + 1) 63 zero5 := by
    rw [hW]
    have := Blk.new (w.alloc (.cells (rsC t d) 63)) 63 zero5
    rw [World.size_alloc] at this
    exact this
  have hsz : W.heap.size = w.heap.size + 1 + 1 := by rw [hW]; simp
  have HBW := Lib.hid hbel
  have HS0 := Lib.hid hS
  have hmp : mp < w.heap.size := hS.map.lt
  have HSW := Lib.hid hSW
  have HBN := Lib.hid hbn
  have HBR := Lib.hid hbr
  generalize hr : behF m p.last t c = r
  have HRR := Lib.hid hr
  rcases look_any hSW.map t d c ht256 hc with hlk | ⟨hlk, hup⟩
  · rw [hr] at hlk
    have k1 := hSW.b1.cell 0
    simp only [List.getElem?_toArray, List.getElem?_cons_zero] at k1
    obtain ⟨n0, n1, n2, n3, n4⟩ := cells5 hbn
    clear hSW hbn hbr hbel hS hr
    go_enter Tryd.func36, Tryd.ntmps36
    go_upto_region 1 with fail
    rw [← hW]
    clear hW
    go_upto_region 2 with fail
    have HB7 := Lib.hid (Blk.new W 63 (rsC r.1 r.2))
    have HR7 := Lib.hid (HBR.out.alloc (.cells (rsC r.1 r.2) 63))
    have HL7 := Lib.hid (HBW.out.alloc (by omega) (.cells (rsC r.1 r.2) 63))
    rw [hsz] at HB7
    generalize W.alloc (.cells _ 63) = W7 at *
    clear hlk n0 n1 n2 n3 n4 k1
    obtain ⟨t0, t1, t2, t3, t4⟩ := cells5 HB7.out
    obtain ⟨r0, r1, r2, r3, r4⟩ := cells5 HR7.out
    obtain ⟨f0, f1, f2, f3, f4⟩ := frozen5 HR7.out
    have HL8 := Lib.hid (below5 HL7.out (show w.heap.size ≤ w.heap.size + 1 by omega) (wv r.1 0) (wv r.1 1) (wv r.1 2) (wv r.1 3) (.bool r.2))
    go_wp2
    exact bodyPost_ret (v := rsV r.1 r.2) (by simp [results, Tryd.results36, go_sem, r0, r1, r2, r3, r4]) rfl ⟨rfl, HS0.out.below HL8.out, below_grown HL8.out (some mp)⟩
  · have HUP := Lib.hid hup
    have k1 := hSW.b1.cell 0
    have k2 := hSW.b2.cell 0
    simp only [List.getElem?_toArray, List.getElem?_cons_zero] at k1 k2
    obtain ⟨n0, n1, n2, n3, n4⟩ := cells5 hbn
    have HBH := Lib.hid (fun X (hX : Mem X mb l m p) (hT : TzT X) => behind_any mb t c d l m p X hX hT ht hc)
    rw [hr] at HBH
    clear hSW hbn hbr hbel hS hr hup
    go_enter Tryd.func36, Tryd.ntmps36
    go_upto_region 1 with fail
    rw [← hW]
    clear hW
    go_upto_region 2 with fail
    have HB7 := Lib.hid (Blk.new W 63 zero5)
    have HN7 := Lib.hid (HBN.out.alloc (.cells zero5 63))
    have HR7 := Lib.hid (HBR.out.alloc (.cells zero5 63))
    have HL7 := Lib.hid (HBW.out.alloc (by omega) (.cells zero5 63))
    have HS7 := Lib.hid (HS0.out.below HL7.out)
    have HM7 : Hid ((W.alloc (.cells zero5 63)).heap[mp]? = W.heap[mp]?) := ((Below.refl W.heap.size W).alloc (Nat.le_refl _) (.cells zero5 63)).block mp (by omega)
    rw [hsz] at HB7
    generalize W.alloc (.cells _ 63) = W7 at *
    clear hlk n0 n1 n2 n3 n4 k1 k2
    have k2 := HS7.out.b2.cell 0
    simp only [List.getElem?_toArray, List.getElem?_cons_zero] at k2
    obtain ⟨n0, n1, n2, n3, n4⟩ := cells5 HN7.out
    have HBI := Lib.hid (HBH.out W7 HS7.out.mem HS7.out.tz)
    clear HBH
    go_wp2_with fail
    refine (HBI.out).mono ?_
    rintro e W8 ⟨rfl, hb8⟩
    have HB8 := Lib.hid (HB7.out.below hb8)
    have HN8 := Lib.hid (HN7.out.below hb8)
    have HR8 := Lib.hid (HR7.out.below hb8)
    have HL8 := Lib.hid (HL7.out.trans (below_le hb8 HL7.out.size))
    have HM8 : Hid (W8.heap[mp]? = W.heap[mp]?) := (hb8.block mp (Nat.lt_of_lt_of_le hmp HL7.out.size)).trans HM7.out
    clear hb8 HBI HB7 HN7 HR7 HL7 HS7 HM7 n0 n1 n2 n3 n4 k2
    obtain ⟨t0, t1, t2, t3, t4⟩ := cells5 HB8.out
    obtain ⟨f0, f1, f2, f3, f4⟩ := frozen5 HB8.out
    have HB9 := Lib.hid (HB8.out.set5 (wv r.1 0) (wv r.1 1) (wv r.1 2) (wv r.1 3) (.bool r.2))
    have HN9 := Lib.hid (HN8.out.set5_other (j := w.heap.size + 1 + 1) (by omega) (wv r.1 0) (wv r.1 1) (wv r.1 2) (wv r.1 3) (.bool r.2))
    have HR9 := Lib.hid (HR8.out.set5_other (j := w.heap.size + 1 + 1) (by omega) (wv r.1 0) (wv r.1 1) (wv r.1 2) (wv r.1 3) (.bool r.2))
    have HL9 := Lib.hid (below5 HL8.out (show w.heap.size ≤ w.heap.size + 1 + 1 by omega) (wv r.1 0) (wv r.1 1) (wv r.1 2) (wv r.1 3) (.bool r.2))
    have HM9 : Hid ((put5 W8 (w.heap.size + 1 + 1) (wv r.1 0) (wv r.1 1) (wv r.1 2) (wv r.1 3) (.bool r.2)).heap[mp]? = W.heap[mp]?) := by
      refine Eq.trans ?_ HM8.out
      exact (below5 (B := mp + 1) (Below.refl (mp + 1) W8) (show mp + 1 ≤ w.heap.size + 1 + 1 by omega) (wv r.1 0) (wv r.1 1) (wv r.1 2) (wv r.1 3) (.bool r.2)).block mp (by omega)
    have HS9 := Lib.hid (HS0.out.below HL9.out)
    unfold put5 at HB9 HN9 HR9 HL9 HM9 HS9
    go_upto_region 4 with fail
    generalize World.setCell _ ⟨w.heap.size + 1 + 1, 4, none⟩ _ = W9 at *
    clear HB8 HN8 HR8 HL8 HM8 t0 t1 t2 t3 t4 f0 f1 f2 f3 f4
    have k1 := HS9.out.b1.cell 0
    simp only [List.getElem?_toArray, List.getElem?_cons_zero] at k1
    obtain ⟨n0, n1, n2, n3, n4⟩ := cells5 HN9.out
    obtain ⟨t0, t1, t2, t3, t4⟩ := cells5 HB9.out
    obtain ⟨WA, hrun, hmo, hgr⟩ := HUP.out W9 (rsV r.1 r.2) HM9.out (by rw [HRR.out])
    have HMO := Lib.hid hmo
    have HGA := Lib.hid (gr_trans (below_grown HL9.out (some mp)) hgr)
    have HBA := Lib.hid (HB9.out.grown hgr (by intro e; injection e; omega))
    have HRA := Lib.hid (HR9.out.grown hgr (by intro e; injection e; omega))
    clear hmo hgr HUP
    go_upto_region 5 with fail
    clear hrun n0 n1 n2 n3 n4 t0 t1 t2 t3 t4 k1
    obtain ⟨t0, t1, t2, t3, t4⟩ := cells5 HBA.out
    obtain ⟨r0, r1, r2, r3, r4⟩ := cells5 HRA.out
    obtain ⟨f0, f1, f2, f3, f4⟩ := frozen5 HRA.out
    have HGF := Lib.hid (gr_new HGA.out (below5 (Below.refl w.heap.size WA) (show w.heap.size ≤ w.heap.size + 1 by omega) (wv r.1 0) (wv r.1 1) (wv r.1 2) (wv r.1 3) (.bool r.2)))
    have HMF := Lib.hid (HMO.out.kept ((below5 (Below.refl w.heap.size WA) (show w.heap.size ≤ w.heap.size + 1 by omega) (wv r.1 0) (wv r.1 1) (wv r.1 2) (wv r.1 3) (.bool r.2)).block mp hmp))
    go_wp2
    exact bodyPost_ret (v := rsV r.1 r.2) (by simp [results, Tryd.results36, go_sem, r0, r1, r2, r3, r4]) rfl ⟨rfl, HS0.out.put HGF.out HMF.out, HGF.out⟩
end Go.Proofs.YtahphjaelpgjdaaDoor

namespace Go.Proofs.YtahphjaelpgjdaaDoor
open Go.RowKit Rx
set_option linter.unusedVariables false

theorem eq0 (w : World) : (Op.equalIn 10000 61 (.agg #[.int .u64 0, .int .u64 0, .int .u64 0, .int .u64 0]) (.agg #[.int .u64 0, .int .u64 0, .int .u64 0, .int .u64 0])).run Tryd.prog w = .ok true w := by kernel_rfl
theorem eqn0 (n : Nat) (b c d : Int) (w : World) : (Op.equalIn 10000 61 (.agg #[.int .u64 (Int.ofNat (n + 1)), .int .u64 b, .int .u64 c, .int .u64 d]) (.agg #[.int .u64 0, .int .u64 0, .int .u64 0, .int .u64 0])).run Tryd.prog w = .ok false w := by kernel_rfl
theorem eqn1 (n : Nat) (c d : Int) (w : World) : (Op.equalIn 10000 61 (.agg #[.int .u64 0, .int .u64 (Int.ofNat (n + 1)), .int .u64 c, .int .u64 d]) (.agg #[.int .u64 0, .int .u64 0, .int .u64 0, .int .u64 0])).run Tryd.prog w = .ok false w := by kernel_rfl
theorem eqn2 (n : Nat) (d : Int) (w : World) : (Op.equalIn 10000 61 (.agg #[.int .u64 0, .int .u64 0, .int .u64 (Int.ofNat (n + 1)), .int .u64 d]) (.agg #[.int .u64 0, .int .u64 0, .int .u64 0, .int .u64 0])).run Tryd.prog w = .ok false w := by kernel_rfl
theorem eqn3 (n : Nat) (w : World) : (Op.equalIn 10000 61 (.agg #[.int .u64 0, .int .u64 0, .int .u64 0, .int .u64 (Int.ofNat (n + 1))]) (.agg #[.int .u64 0, .int .u64 0, .int .u64 0, .int .u64 0])).run Tryd.prog w = .ok false w := by kernel_rfl
theorem eql_set (t : Nat) (ht : t < 2 ^ 256) (w : World) : (Op.equalIn 10000 61 (.agg #[wv t 0, wv t 1, wv t 2, wv t 3]) (.agg #[.int .u64 0, .int .u64 0, .int .u64 0, .int .u64 0])).run Tryd.prog w = .ok (decide (t = 0)) w := by
  by_cases h : t = 0
  · subst h
    rw [decide_eq_true rfl]
    show (Op.equalIn 10000 61 (.agg #[wv 0 0, wv 0 1, wv 0 2, wv 0 3]) _).run _ _ = _
    rw [wv_zero, wv_zero, wv_zero, wv_zero]
    exact eq0 w
  · rw [decide_eq_false h]
    show (Op.equalIn 10000 61 (.agg #[wv t 0, wv t 1, wv t 2, wv t 3]) _).run _ _ = _
    have hz : ∀ i, wd t i = 0 → wv t i = .int .u64 0 := fun i hi => by unfold wv uw; rw [hi]; rfl
    have hn : ∀ i, wd t i ≠ 0 → ∃ n, wv t i = .int .u64 (Int.ofNat (n + 1)) := fun i hi => ⟨wd t i - 1, by
      unfold wv uw
      rw [show wd t i - 1 + 1 = wd t i by omega]
      rfl⟩
    by_cases h0 : wd t 0 = 0
    · by_cases h1 : wd t 1 = 0
      · by_cases h2 : wd t 2 = 0
        · by_cases h3 : wd t 3 = 0
          · exact absurd (words_eq ht (show (0 : Nat) < 2 ^ 256 from two_pos 256) (fun i hi => by
              rw [wd_zero]
              have : i = 0 ∨ i = 1 ∨ i = 2 ∨ i = 3 := by omega
              rcases this with rfl | rfl | rfl | rfl <;> assumption)) h
          · obtain ⟨n, e⟩ := hn 3 h3
            rw [hz 0 h0, hz 1 h1, hz 2 h2, e]
            exact eqn3 n w
        · obtain ⟨n, e⟩ := hn 2 h2
          rw [hz 0 h0, hz 1 h1, e]
          exact eqn2 n _ w
      · obtain ⟨n, e⟩ := hn 1 h1
        rw [hz 0 h0, e]
        exact eqn1 n _ _ w
    · obtain ⟨n, e⟩ := hn 0 h0
      rw [e]
      exact eqn0 n _ _ _ w
set_option maxRecDepth 100000 in
set_option maxHeartbeats 4000000 in
theorem remembered_any (mb : Nat) (l : ByteArray) (m : Mach) (p : Pc) (w : World) (hm : Mem w mb l m p) (hT : TzT w) (h5 : 5 ≤ w.heap.size) :
    Calls Tryd.prog 20 #[.func (.func 21) #[.pointer (some ⟨mb, 0, none⟩)] #[]] w fun e w' => ∃ q1 q2 mp, e = .returned (.func (.func 36) #[] #[.pointer (some ⟨q1, 0, none⟩), .pointer (some ⟨q2, 0, none⟩)]) ∧ MS w' q1 q2 mp mb l m p ∧ Below w.heap.size w w' ∧ w.heap.size ≤ mp := by
  have hmm := @run_makeMap Tryd.prog
  have hb : Below w.heap.size w (((w.alloc (.cells #[.func (.func 21) #[.pointer (some ⟨mb, 0, none⟩)] #[]] 56)).alloc (.map #[] 0)).alloc (.cells #[.map (some (w.heap.size + 1))] 90)) := by go_grown
  have h1 : Blk (((w.alloc (.cells #[.func (.func 21) #[.pointer (some ⟨mb, 0, none⟩)] #[]] 56)).alloc (.map #[] 0)).alloc (.cells #[.map (some (w.heap.size + 1))] 90)) (w.heap.size + 1 + 1) 90 #[.map (some (w.heap.size + 1))] := by
    have := Blk.new ((w.alloc (.cells #[.func (.func 21) #[.pointer (some ⟨mb, 0, none⟩)] #[]] 56)).alloc (.map #[] 0)) 90 #[.map (some (w.heap.size + 1))]
    rw [World.size_alloc, World.size_alloc] at this
    exact this
  have h2 : (((w.alloc (.cells #[.func (.func 21) #[.pointer (some ⟨mb, 0, none⟩)] #[]] 56)).alloc (.map #[] 0)).alloc (.cells #[.map (some (w.heap.size + 1))] 90)).heap[w.heap.size + 1]? = some (.map #[] 0) := by
    have h3 := heap_alloc_new (w.alloc (.cells #[.func (.func 21) #[.pointer (some ⟨mb, 0, none⟩)] #[]] 56)) (.map #[] 0)
    rw [World.size_alloc] at h3
    exact (((Below.refl ((w.alloc (.cells #[.func (.func 21) #[.pointer (some ⟨mb, 0, none⟩)] #[]] 56)).alloc (.map #[] 0)).heap.size _).alloc (Nat.le_refl _) (.cells #[.map (some (w.heap.size + 1))] 90)).block (w.heap.size + 1) (by simp)).trans h3
  have HB := Lib.hid hb
  have HMS : Hid (MS (((w.alloc (.cells #[.func (.func 21) #[.pointer (some ⟨mb, 0, none⟩)] #[]] 56)).alloc (.map #[] 0)).alloc (.cells #[.map (some (w.heap.size + 1))] 90)) (w.heap.size + 1 + 1) w.heap.size (w.heap.size + 1) mb l m p) :=
    ⟨h1, ((Blk.new w 56 _).alloc _).alloc _, ⟨#[], 0, h2, fun x hx => by simp at hx⟩, hm.below hb, hT.below hb, by omega⟩
  clear hb h1 h2 hm hT
  go_enter Tryd.func20, Tryd.ntmps20
  go_wp2
  go_ret
  exact ⟨_, _, _, rfl, HMS.out, HB.out, Nat.le_succ _⟩
def MtPost (pt s : ByteArray) (w : World) (e : Ending) (w' : World) : Prop :=
  Below w.heap.size w w' ∧ match readF pt with
  | .bad pl c => ∃ err, e = .returned (.tuple #[.bool false, err]) ∧ ErrAt w' err pl c
  | .ok _ m p => if 4000 < s.size then e = .returned (.tuple #[.bool false, .iface 55 (.int .i64 11)]) else e = .returned (.tuple #[.bool (runF m p s), .nilIface])
theorem mt_bad {pt s : ByteArray} {w w' : World} {pl c : Nat} {err : Value} (hr : readF pt = .bad pl c) (hb : Below w.heap.size w w') (hf : ErrAt w' err pl c) : MtPost pt s w (.returned (.tuple #[.bool false, err])) w' := by
  unfold MtPost; rw [hr]; exact ⟨hb, _, rfl, hf⟩
theorem mt_long {pt s : ByteArray} {w w' : World} {a : Nat} {m : Mach} {p : Pc} (hr : readF pt = .ok a m p) (hs : 4000 < s.size) (hb : Below w.heap.size w w') : MtPost pt s w (.returned (.tuple #[.bool false, .iface 55 (.int .i64 11)])) w' := by
  unfold MtPost; rw [hr]; refine ⟨hb, ?_⟩; show if 4000 < s.size then _ else _; rw [if_pos hs]
theorem mt_ok {pt s : ByteArray} {w w' : World} {a : Nat} {m : Mach} {p : Pc} {r : Bool} (hr : readF pt = .ok a m p) (hs : ¬ 4000 < s.size) (hb : Below w.heap.size w w') (hx : runF m p s = r) : MtPost pt s w (.returned (.tuple #[.bool r, .nilIface])) w' := by
  unfold MtPost; rw [hr]; refine ⟨hb, ?_⟩; show if 4000 < s.size then _ else _; rw [if_neg hs, hx]
theorem runL_stop {m : Mach} {lst : Nat} {s : ByteArray} {n k t : Nat} {d : Bool} (h : t = 0) : runL m lst s (n + 1) k (t, d) = false := by
  subst h; conv => lhs; unfold runL
  exact if_pos rfl
theorem runL_next {m : Mach} {lst : Nat} {s : ByteArray} {n k t : Nat} {d : Bool} (h : t ≠ 0) : runL m lst s (n + 1) k (t, d) = runL m lst s n (k + 1) (behF m lst t (by_ s k)) := by
  conv => lhs; unfold runL
  rw [if_neg h]
set_option maxRecDepth 100000 in
set_option maxHeartbeats 8000000 in
theorem match_bad (pt s : ByteArray) (pl c : Nat) (w : World) (hr : readF pt = .bad pl c) (h5 : 5 ≤ w.heap.size) (hT : TzT w) : Calls Tryd.prog 7 #[.string pt, .string s] w (MtPost pt s w) := by
  have HR := Lib.hid (read_any pt w h5 hT)
  rw [hr] at HR
  have HX := Lib.hid hr
  clear hr hT
  go_enter Tryd.func7, Tryd.ntmps7
  go_wp2_with fail
  refine (HR.out).mono ?_
  rintro e W1 ⟨hb, err, rfl, f, rfl, hf⟩
  have HB := Lib.hid hb
  have HF : Hid (ErrAt W1 (.iface 70 (.pointer (some ⟨f, 0, none⟩))) pl c) := ⟨f, rfl, hf⟩
  clear hb hf HR
  go_wp2
  go_ret2
  exact mt_bad HX.out HB.out HF.out
set_option maxRecDepth 100000 in
set_option maxHeartbeats 8000000 in
theorem match_long (pt s : ByteArray) (a : Nat) (m : Mach) (p : Pc) (w : World) (hr : readF pt = .ok a m p) (h5 : 5 ≤ w.heap.size) (hT : TzT w) (hs : 4000 < s.size) : Calls Tryd.prog 7 #[.string pt, .string s] w (MtPost pt s w) := by
  have HR := Lib.hid (read_any pt w h5 hT)
  rw [hr] at HR
  have HX := Lib.hid hr
  have hd : decide ((4000 : Int) < (s.size : Int)) = true := by simp; omega
  clear hr hT
  go_enter Tryd.func7, Tryd.ntmps7
  go_wp2_with fail
  refine (HR.out).mono ?_
  rintro e W1 ⟨hb, mb, rfl, hm, _⟩
  have HB := Lib.hid hb
  clear hb hm HR
  go_wp2
  go_ret2
  exact mt_long HX.out hs HB.out
set_option maxRecDepth 100000 in
set_option maxHeartbeats 16000000 in
theorem match_short (pt s : ByteArray) (a : Nat) (m : Mach) (p : Pc) (w : World) (hr : readF pt = .ok a m p) (h5 : 5 ≤ w.heap.size) (hT : TzT w) (hs : ¬ 4000 < s.size) : Calls Tryd.prog 7 #[.string pt, .string s] w (MtPost pt s w) := by
  have HR := Lib.hid (read_any pt w h5 hT)
  rw [hr] at HR
  have HX := Lib.hid hr
  have HTW := Lib.hid hT
  have hd : decide ((4000 : Int) < (s.size : Int)) = false := by simp; omega
  clear hr hT
  go_enter Tryd.func7, Tryd.ntmps7
  go_wp2_with fail
  refine (HR.out).mono ?_
  rintro e W1 ⟨hb, mb, rfl, hm, hmb⟩
  have HB1 := Lib.hid hb
  have HM1 := Lib.hid hm
  have HT1 := Lib.hid (HTW.out.below hb)
  have hsz1 : w.heap.size ≤ W1.heap.size := hb.size
  have HREM := Lib.hid (remembered_any mb pt m p W1 hm (HTW.out.below hb) (by omega))
  clear hb hm HR
  go_wp2_with fail
  refine (HREM.out).mono ?_
  rintro e W2 ⟨q1, q2, mp, rfl, hms, hb2, hmp⟩
  have HMS := Lib.hid hms
  have HB2 := Lib.hid (HB1.out.trans (below_le hb2 hsz1))
  have hsz2 : W1.heap.size ≤ W2.heap.size := hb2.size
  have hgood : Rx.Good m := hms.mem.good
  have hpin := hms.mem.pin
  have hfew := hms.mem.few
  obtain ⟨⟨T, F, aa, oo, hblk, _, _⟩, _, _, _, _⟩ := hms.mem
  have y6 := hblk.cell 6
  have y7 := hblk.cell 7
  have y8 := hblk.cell 8
  have y9 := hblk.cell 9
  have y10 := hblk.cell 10
  simp only [List.getElem?_toArray, List.getElem?_cons_zero, List.getElem?_cons_succ] at y6 y7 y8 y9 y10
  have HN3 := Lib.hid (Blk.new W2 63 (rsC p.first p.empty))
  have HG3 := Lib.hid (gr_alloc (gr_refl W2 (some mp)) (.cells (rsC p.first p.empty) 63))
  have HM3 := Lib.hid (HMS.out.map.kept (((Below.refl _ _).alloc (Nat.le_refl _) (.cells (rsC p.first p.empty) 63)).block mp HMS.out.map.lt))
  have HP := Lib.hid (show w.heap.size ≤ mp by omega)
  clear hms hb2 HREM hblk HM1 HT1 HB1
  go_upto_region 8 with fail
  have hmj : mp < W2.heap.size := HMS.out.map.lt
  generalize hj : W2.heap.size = j9 at *
  generalize hW : W2.alloc (.cells (rsC _ _) 63) = W3 at *
  clear hW y6 y7 y8 y9 y10
  go_wp2_with fail
  go_loopw [10, 32] (fun s10 s32 wr => ∃ (k t : Nat) (d : Bool), s32 = .int .i64 k ∧ k ≤ s.size ∧ t < 2 ^ m.takes.length ∧ Hid (W2.grownBy wr (some mp)) ∧ Hid (MapOk wr mp m p.last) ∧ Hid (Blk wr j9 63 (rsC t d)) ∧ Hid (runF m p s = runL m p.last s (s.size - k) k (t, d))) (fun s10 s32 wr => (s.size - intOf s32).toNat)
  case atStart => exact ⟨0, p.first, p.empty, rfl, Nat.zero_le _, hpin.1, HG3, HM3, HN3, rfl⟩
  case round =>
    obtain ⟨k, t, d, rfl, hk, ht, HGr, HMr, HNr, HE⟩ := hrel
    clear HM3 HG3 HN3
    obtain ⟨t0, t1, t2, t3, t4⟩ := cells5 HNr.out
    by_cases hlt : k < s.size
    · have hc : decide ((k : Int) < (s.size : Int)) = true := by simp; omega
      have ht2 : t < 2 ^ 256 := Nat.lt_of_lt_of_le ht (two_le (by omega))
      have heq := eql_set t ht2
      obtain ⟨rest, hrest⟩ : ∃ rest, s.size - k = rest + 1 := ⟨s.size - k - 1, by omega⟩
      rw [hrest] at HE
      by_cases h0 : t = 0
      · rw [decide_eq_true h0] at heq
        have HX2 := Lib.hid (HE.out.trans (runL_stop h0))
        clear HE h0
        go_wp2
        exact bodyPost_ret (v := .tuple #[.bool false, .nilIface]) (by simp [results, Tryd.results7, go_sem]) rfl (mt_ok HX.out hs (gr_to_below HP.out HB2.out HGr.out) HX2.out)
      · rw [decide_eq_false h0] at heq
        have HX2 := Lib.hid (HE.out.trans (runL_next h0))
        have g0 : (0 : Int) ≤ (k : Int) := by omega
        have g1 : (k : Int) < (s.size : Int) := by omega
        have hby : by_ s k = s[k].toNat := by_eq s k hlt
        have hcl := by_lt s k
        obtain ⟨ch, hch⟩ : ∃ ch, s[k].toNat = ch := ⟨_, rfl⟩
        rw [hby, hch] at HX2 hcl
        have HME := Lib.hid (fun X (hX : MS X q1 q2 mp mb pt m p) => memo_any q1 q2 mp mb t ch d pt m p X hX ht hcl)
        have hbl := behF_lt hgood p.last t ch
        generalize hr2 : behF m p.last t ch = r at *
        clear HE hby hr2 h0
        have HMd : Hid (MS wr.drew q1 q2 mp mb pt m p) := HMS.out.put (gr_drew HGr.out) HMr.out
        have HM2 := Lib.hid (HME.out wr.drew HMd.out)
        obtain ⟨f0, f1, f2, f3, f4⟩ := frozen5 HNr.out
        go_wp2_with fail
        go_region_with (first
          | (go_at_call 36; refine (HM2.out).mono ?_; rintro e W5 ⟨rfl, hms5, hg5⟩
             have HN5 := Lib.hid (Blk.grown (w := wr.drew) (w' := W5) (by exact HNr.out) hg5 (fun e => (Blk.map_ne (w := wr.drew) (by exact HNr.out) HMd.out.map) (by injection e)))
             have HG5 := Lib.hid (gr_trans (gr_drew HGr.out) hg5)
             have HM5 := Lib.hid hms5.map
             obtain ⟨v0, v1, v2, v3, v4⟩ := cells5 HN5.out
             obtain ⟨w0, w1, w2, w3, w4⟩ := frozen5 HN5.out
             have HN6 := Lib.hid (HN5.out.set5 (wv r.1 0) (wv r.1 1) (wv r.1 2) (wv r.1 3) (.bool r.2))
             have HB6 := Lib.hid (below5 (Below.refl j9 W5) (Nat.le_refl j9) (wv r.1 0) (wv r.1 1) (wv r.1 2) (wv r.1 3) (.bool r.2))
             unfold put5 at HN6 HB6
             clear hms5 hg5))
        all_goals
          have HG6 := Lib.hid (gr_new HG5.out (by rw [hj]; exact HB6.out))
          have HM6 := Lib.hid (HM5.out.kept (HB6.out.block mp hmj))
          generalize World.setCell _ ⟨j9, 4, none⟩ _ = W6 at *
          clear HN5 HG5 HM5 HB6 v0 v1 v2 v3 v4 w0 w1 w2 w3 w4 f0 f1 f2 f3 f4 t0 t1 t2 t3 t4
          go_wp2
          refine ⟨⟨k + 1, r.1, r.2, ?_, by omega, hbl, HG6, HM6, HN6, ?_⟩, ?_⟩
          · rw [Int.natCast_add]; rfl
          · refine Lib.hid (HX2.out.trans ?_)
            rw [show s.size - (k + 1) = rest by omega]
          · simp only [intOf]; omega
    · have hc : decide ((k : Int) < (s.size : Int)) = false := by simp; omega
      have hk0 : s.size - k = 0 := by omega
      rw [hk0] at HE
      have HX2 := Lib.hid (HE.out.trans (show runL m p.last s 0 k (t, d) = d from rfl))
      clear HE
      go_wp2
      exact bodyPost_ret (v := .tuple #[.bool d, .nilIface]) (by simp [results, Tryd.results7, go_sem]) rfl (mt_ok HX.out hs (gr_to_below HP.out HB2.out HGr.out) HX2.out)
theorem match_any (pt s : ByteArray) (w : World) (h5 : 5 ≤ w.heap.size) (hT : TzT w) : Calls Tryd.prog 7 #[.string pt, .string s] w (MtPost pt s w) := by
  cases hr : readF pt with
  | bad pl c => exact match_bad pt s pl c w hr h5 hT
  | ok a m p =>
    by_cases hs : 4000 < s.size
    · exact match_long pt s a m p w hr h5 hT hs
    · exact match_short pt s a m p w hr h5 hT hs
end Go.Proofs.YtahphjaelpgjdaaDoor

/- The document's reader: a set of bytes. No condition. -/
import Derived.Test.YtahphjaelpgjdaaDoorR3
import Derived.Deep.OwnRows
namespace Go.Proofs.YtahphjaelpgjdaaDoor
open Go.RowKit Rx
set_option linter.unusedVariables false

/-- a part of a pattern, as a value: three cells -/
abbrev ndV (k : Nat) (A : Option Addr) (n c : Nat) (B : Option Addr) (n' c' : Nat) : Value := .agg #[.int .u8 k, .slice A n c, .slice B n' c']
def Nd (v : Value) : Prop := ∃ (k : Nat) (A : Option Addr) (n c : Nat) (B : Option Addr) (n' c' : Nat), v = ndV k A n c B n' c'
abbrev zero3 : Array Value := #[.int .u8 0, .slice none 0 0, .slice none 0 0]
theorem cells3 {w : World} {g : Nat} {t : TypeId} {v0 v1 v2 : Value} (h : Blk w g t #[v0, v1, v2]) : w.cell? ⟨g, 0, none⟩ = some v0 ∧ w.cell? ⟨g, 1, none⟩ = some v1 ∧ w.cell? ⟨g, 2, none⟩ = some v2 :=
  ⟨h.cell 0, h.cell 1, h.cell 2⟩
theorem frozen3 {w : World} {g : Nat} {t : TypeId} {cs : Array Value} (h : Blk w g t cs) : w.frozen? ⟨g, 0, none⟩ = false ∧ w.frozen? ⟨g, 1, none⟩ = false ∧ w.frozen? ⟨g, 2, none⟩ = false :=
  ⟨h.frozen 0, h.frozen 1, h.frozen 2⟩
abbrev put3 (w : World) (j : Nat) (v0 v1 v2 : Value) : World := ((w.setCell ⟨j, 0, none⟩ v0).setCell ⟨j, 1, none⟩ v1).setCell ⟨j, 2, none⟩ v2
theorem Blk.set3 {w : World} {j : Nat} {t : TypeId} {x0 x1 x2 : Value} (h : Blk w j t #[x0, x1, x2]) (v0 v1 v2 : Value) : Blk (put3 w j v0 v1 v2) j t #[v0, v1, v2] := by
  have h0 := h.set_ 0 v0
  simp only [List.setIfInBounds_toArray, List.set_cons_zero] at h0
  have h1 := h0.set_ 1 v1
  simp only [List.setIfInBounds_toArray, List.set_cons_zero, List.set_cons_succ] at h1
  have h2 := h1.set_ 2 v2
  simp only [List.setIfInBounds_toArray, List.set_cons_zero, List.set_cons_succ] at h2
  exact h2
theorem Blk.set3_other {w : World} {j k : Nat} {t : TypeId} {cs : Array Value} (h : Blk w k t cs) (hj : k ≠ j) (v0 v1 v2 : Value) : Blk (put3 w j v0 v1 v2) k t cs := ((h.other hj 0 v0).other hj 1 v1).other hj 2 v2
theorem below3 {B : Nat} {w0 w : World} (h : Below B w0 w) {j : Nat} (hj : B ≤ j) (v0 v1 v2 : Value) : Below B w0 (put3 w j v0 v1 v2) :=
  ((h.setCell (p := ⟨j, 0, none⟩) hj v0).setCell (p := ⟨j, 1, none⟩) hj v1).setCell (p := ⟨j, 2, none⟩) hj v2
theorem gr_set3 {w w1 : World} {row : Option Nat} {j : Nat} (h : w.grownBy w1 row) (hj : w.heap.size ≤ j) (v0 v1 v2 : Value) : w.grownBy (put3 w1 j v0 v1 v2) row := ((gr_set_new (gr_set_new (gr_set_new h hj 0 v0) hj 1 v1) hj 2 v2))

/-- a block of 256 truth values -/
def BB (w : World) (g : Nat) : Prop := ∃ cs : Array Value, Blk w g 4 cs ∧ ∀ i, i < 256 → ∃ v : Bool, cs[i]? = some (.bool v)
theorem BB.lt {w : World} {g : Nat} (h : BB w g) : g < w.heap.size := let ⟨_, h, _⟩ := h; h.lt
theorem BB.cell {w : World} {g i : Nat} (h : BB w g) (hi : i < 256) : ∃ v : Bool, w.cell? ⟨g, i, none⟩ = some (.bool v) := let ⟨_, h1, h2⟩ := h; let ⟨v, hv⟩ := h2 i hi; ⟨v, (h1.cell i).trans hv⟩
theorem BB.frozen {w : World} {g : Nat} (h : BB w g) (i : Nat) : w.frozen? ⟨g, i, none⟩ = false := let ⟨_, h1, _⟩ := h; h1.frozen i
theorem BB.set {w : World} {g : Nat} (h : BB w g) (i : Nat) (v : Bool) : BB (w.setCell ⟨g, i, none⟩ (.bool v)) g := by
  obtain ⟨cs, h1, h2⟩ := h
  refine ⟨_, h1.set_ i _, fun k hk => ?_⟩
  rw [Array.getElem?_setIfInBounds]
  obtain ⟨u, hu⟩ := h2 k hk
  split
  · rename_i e
    subst e
    refine ⟨v, ?_⟩
    rw [if_pos]
    rcases Nat.lt_or_ge i cs.size with h | h
    · exact h
    · rw [Array.getElem?_eq_none h] at hu; cases hu
  · exact ⟨u, hu⟩
theorem BB.below {w w' : World} {g : Nat} (h : BB w g) (hb : Below w.heap.size w w') : BB w' g := let ⟨cs, h1, h2⟩ := h; ⟨cs, h1.below hb, h2⟩
theorem BB.alloc {w : World} {g : Nat} (h : BB w g) (o : Obj) : BB (w.alloc o) g := let ⟨cs, h1, h2⟩ := h; ⟨cs, h1.alloc o, h2⟩
theorem BB.other {w : World} {g k : Nat} (h : BB w g) (hk : g ≠ k) (i : Nat) (u : Value) : BB (w.setCell ⟨k, i, none⟩ u) g := let ⟨cs, h1, h2⟩ := h; ⟨cs, h1.other hk i u, h2⟩
theorem BB.grown {w w' : World} {g : Nat} {row : Option Nat} (h : BB w g) (hg : w.grownBy w' row) (hne : row ≠ some g) : BB w' g := let ⟨cs, h1, h2⟩ := h; ⟨cs, h1.grown hg hne, h2⟩
theorem BB.drewN {w : World} {g : Nat} (h : BB w g) (n : Nat) : BB (w.drewN n) g := h
def mc256 : Array Value := madeCells #[.bool false] 256
theorem mc_at (i : Nat) (h : i < 256) : mc256[i]? = some (.bool false) := by
  have e : mc256 = Array.replicate 256 (.bool false) := by kernel_rfl
  rw [e, Array.getElem?_replicate, if_pos h]
theorem BB.new (w : World) : BB (w.alloc (.cells mc256 4)) w.heap.size := ⟨mc256, Blk.new w 4 mc256, fun i h => ⟨false, mc_at i h⟩⟩
theorem bool_info : (Tryd.prog.info? 4).map (fun i => (i.zero, i.size, i.bytes)) = some (some (.bool false), 1, 1) := by kernel_rfl
theorem make256 (w : World) : (Instr.makeSlice 27 (.int .i64 256) (.int .i64 256)).run Tryd.prog w = .ok (.slice (some ⟨w.heap.size, 0, none⟩) 256 256) (w.alloc (.cells mc256 4)) :=
  run_make_row' (P := Tryd.prog) 27 4 (.bool false) 1 Tryd.underlying27 bool_info rfl .i64 .i64 256 (by decide) (by decide) w

set_option maxRecDepth 100000 in
set_option maxHeartbeats 4000000 in
theorem refone_any (lo hi : Nat) (h1 : lo ≤ hi) (h2 : hi < 256) (w : World) :
    Calls Tryd.prog 68 #[.int .i64 lo, .int .i64 hi] w fun e w' => ∃ v, e = .returned v ∧ Nd v ∧ Below w.heap.size w w' := by
  have hmk := make256
  have HB0 := fun W => Lib.hid (BB.new W)
  generalize mc256 = mc at *
  go_enter Tryd.func68, Tryd.ntmps68
  go_wp2_with fail
  have HB := Lib.hid ((HB0 (w.alloc (.cells zero3 30))).out.alloc (.cells #[.int .u8 91, .slice (some ⟨w.heap.size + 1, 0, none⟩) 256 256, .slice none 0 0] 30))
  have HR := Lib.hid (((Blk.new w 30 zero3).alloc (.cells mc 4)).alloc (.cells #[.int .u8 91, .slice (some ⟨w.heap.size + 1, 0, none⟩) 256 256, .slice none 0 0] 30))
  have HN := Lib.hid (Blk.new ((w.alloc (.cells zero3 30)).alloc (.cells mc 4)) 30 #[.int .u8 91, .slice (some ⟨w.heap.size + 1, 0, none⟩) 256 256, .slice none 0 0])
  have HL : Hid (Below w.heap.size w (((w.alloc (.cells zero3 30)).alloc (.cells mc 4)).alloc (.cells #[.int .u8 91, .slice (some ⟨w.heap.size + 1, 0, none⟩) 256 256, .slice none 0 0] 30))) := by show Below _ _ _; go_grown
  rw [World.size_alloc] at HB
  rw [World.size_alloc, World.size_alloc] at HN
  generalize hW : ((w.alloc (.cells zero3 30)).alloc (.cells mc 4)).alloc (.cells #[.int .u8 91, .slice (some ⟨w.heap.size + 1, 0, none⟩) 256 256, .slice none 0 0] 30) = W at *
  clear hW hmk HB0
  go_loopw [6] (fun s6 wr => ∃ k : Nat, s6 = .int .i64 k ∧ lo ≤ k ∧ k ≤ hi + 1 ∧ Hid (BB wr (w.heap.size + 1)) ∧ Hid (Blk wr w.heap.size 30 zero3) ∧ Hid (Blk wr (w.heap.size + 1 + 1) 30 #[.int .u8 91, .slice (some ⟨w.heap.size + 1, 0, none⟩) 256 256, .slice none 0 0]) ∧ Hid (Below w.heap.size w wr)) (fun s6 _ => (hi + 1 - intOf s6).toNat)
  case atStart => exact ⟨lo, rfl, Nat.le_refl _, by omega, HB, HR, HN, HL⟩
  case round =>
    obtain ⟨k, rfl, hk1, hk2, HBr, HRr, HNr, HLr⟩ := hrel
    by_cases hk : k ≤ hi
    · have hd : decide ((k : Int) ≤ (hi : Int)) = true := by simp; omega
      have q0 : (0 : Int) ≤ (k : Int) := by omega
      have q1 : (k : Int) < 256 := by omega
      obtain ⟨v, hv⟩ := HBr.out.cell (i := k) (by omega)
      have hf := HBr.out.frozen k
      obtain ⟨n0, n1, n2⟩ := cells3 HNr.out
      have HB2 := Lib.hid (HBr.out.set k true)
      have HR2 := Lib.hid (HRr.out.other (k := w.heap.size + 1) (by omega) k (.bool true))
      have HN2 := Lib.hid (HNr.out.other (k := w.heap.size + 1) (by omega) k (.bool true))
      have HL2 := Lib.hid (HLr.out.setCell (p := ⟨w.heap.size + 1, k, none⟩) (by simp) (.bool true))
      go_wp2
      go_roundw
      case rel => exact ⟨k + 1, by go_num, by omega, by omega, HB2, HR2, HN2, HL2⟩
      case measure => simp [intOf]; omega
    · have hd : decide ((k : Int) ≤ (hi : Int)) = false := by simp; omega
      obtain ⟨n0, n1, n2⟩ := cells3 HNr.out
      obtain ⟨r0, r1, r2⟩ := cells3 HRr.out
      obtain ⟨f0, f1, f2⟩ := frozen3 HRr.out
      go_wp2
      exact bodyPost_ret (v := .agg #[.int .u8 91, .slice (some ⟨w.heap.size + 1, 0, none⟩) 256 256, .slice none 0 0]) (by simp [results, Tryd.results68, go_sem, r0, r1, r2]) rfl ⟨_, rfl, ⟨91, _, _, _, _, _, _, rfl⟩, below3 HLr.out (Nat.le_refl _) _ _ _⟩
end Go.Proofs.YtahphjaelpgjdaaDoor

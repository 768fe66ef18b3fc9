import Derived.Test.YtahphjaelpgjdaaDoorW1
import Derived.Laws.Rows
import Derived.Laws.DeepNot64
import Derived.Deep.RegionHeld3
import Derived.Deep.DeepCutAuto
import Derived.Maps.AppendAt
namespace Go.Proofs.YtahphjaelpgjdaaDoor
open Go.RowKit Rx
set_option linter.unusedVariables false

/-- a block that is known whole -/
def Blk (w : World) (g : Nat) (t : TypeId) (cs : Array Value) : Prop := w.heap[g]? = some (.cells cs t (0, 0))
theorem Blk.lt {w : World} {g : Nat} {t : TypeId} {cs : Array Value} (h : Blk w g t cs) : g < w.heap.size := by
  rcases Nat.lt_or_ge g w.heap.size with hlt | hge
  · exact hlt
  · unfold Blk at h; rw [Array.getElem?_eq_none hge] at h; cases h
theorem Blk.cell {w : World} {g : Nat} {t : TypeId} {cs : Array Value} (h : Blk w g t cs) (i : Nat) : w.cell? ⟨g, i, none⟩ = cs[i]? := cell_of_row w g i cs t (0, 0) h
theorem Blk.frozen {w : World} {g : Nat} {t : TypeId} {cs : Array Value} (h : Blk w g t cs) (i : Nat) : w.frozen? ⟨g, i, none⟩ = false := by
  unfold Blk at h
  simp [World.frozen?, h]
theorem Blk.new (w : World) (t : TypeId) (cs : Array Value) : Blk (w.alloc (.cells cs t)) w.heap.size t cs := heap_alloc_new w _
theorem Blk.set_ {w : World} {g : Nat} {t : TypeId} {cs : Array Value} (h : Blk w g t cs) (i : Nat) (u : Value) : Blk (w.setCell ⟨g, i, none⟩ u) g t (cs.setIfInBounds i u) := by
  unfold Blk at h ⊢
  simp [World.setCell, Array.getElem?_modify, h]
theorem Blk.alloc {w : World} {g : Nat} {t : TypeId} {cs : Array Value} (h : Blk w g t cs) (o : Obj) : Blk (w.alloc o) g t cs := (Below.heap_alloc w o g h.lt).trans h
theorem Blk.below {w w' : World} {g : Nat} {t : TypeId} {cs : Array Value} (h : Blk w g t cs) (hb : Below w.heap.size w w') : Blk w' g t cs := (hb.block g h.lt).trans h
theorem Blk.other {w : World} {g k : Nat} {t : TypeId} {cs : Array Value} (h : Blk w g t cs) (hk : g ≠ k) (i : Nat) (u : Value) : Blk (w.setCell ⟨k, i, none⟩ u) g t cs := (Below.heap_setCell w ⟨k, i, none⟩ u g hk).trans h
theorem Blk.grown {w w' : World} {g : Nat} {t : TypeId} {cs : Array Value} {row : Option Nat} (h : Blk w g t cs) (hg : w.grownBy w' row) (hne : row ≠ some g) : Blk w' g t cs := (hg.block g h.lt (fun e => hne e.symm)).trans h
theorem below_cell {w w' : World} (h : Below w.heap.size w w') {a : Addr} {v : Value} (hc : w.cell? a = some v) : w'.cell? a = some v := (h.cell (World.block_lt_of_cell? _ _ hc)).trans hc
theorem grown_set (w : World) (g i : Nat) (u : Value) : w.grownBy (w.setCell ⟨g, i, none⟩ u) (some g) := ⟨rfl, rfl, rfl, by simp [World.setCell], fun k _ hk => Below.heap_setCell w ⟨g, i, none⟩ u k (fun e => hk (by rw [e]))⟩
theorem grown_drew {w w' : World} {row : Option Nat} (h : w.grownBy w' row) : w.grownBy w'.drew row := ⟨h.os, h.tape, h.output, h.size, h.block⟩
theorem grown_drewN {w w' : World} {row : Option Nat} (h : w.grownBy w' row) (n : Nat) : w.grownBy (w'.drewN n) row := ⟨h.os, h.tape, h.output, h.size, h.block⟩
theorem below_grown {w w' : World} (h : Below w.heap.size w w') (row : Option Nat) : w.grownBy w' row := ⟨h.os, h.tape, h.output, h.size, fun k hk _ => h.block k hk⟩

/-! add -/
theorem wrap_pow (j : Nat) (hj : j < 64) : IntKind.u64.wrap (2 ^ j) = ((2 ^ j : Nat) : Int) := by
  have h : (2 : Nat) ^ j < 2 ^ 64 := two_lt hj
  have e : ((2 : Int) ^ j) = ((2 ^ j : Nat) : Int) := by simp
  rw [e, IntKind.wrap_u64]
  generalize (2 : Nat) ^ j = z at *
  omega
theorem or_bit (n k i j : Nat) (hi : k / 64 = i) (hj : k % 64 = j) : bits .or .u64 ((wd n i : Nat) : Int) (IntKind.u64.wrap (2 ^ j)) = ((wd (n ||| 2 ^ k) i : Nat) : Int) := by
  subst hi; subst hj
  rw [wrap_pow _ (Nat.mod_lt _ (by decide)), u64_or_nat _ _ (wd_lt _ _) (show (2 : Nat) ^ (k % 64) < 2 ^ 64 from two_lt (Nat.mod_lt _ (by decide))), wd_add]
set_option maxRecDepth 100000 in
set_option maxHeartbeats 2000000 in
theorem add_any (n k g : Nat) (hk : k < 256) (w : World) (hg : Blk w g 61 #[wv n 0, wv n 1, wv n 2, wv n 3]) :
    Calls Tryd.prog 86 #[.pointer (some ⟨g, 0, none⟩), .int .i64 k] w fun e w' => e = .returned (.tuple #[]) ∧ Blk w' g 61 #[wv (n ||| 2 ^ k) 0, wv (n ||| 2 ^ k) 1, wv (n ||| 2 ^ k) 2, wv (n ||| 2 ^ k) 3] ∧ w.grownBy w' (some g) := by
  obtain ⟨j, hj⟩ : ∃ j, j = k % 64 := ⟨_, rfl⟩
  have h2 : (k : Int) % 64 = (j : Int) := by omega
  have hj4 : j < 64 := by omega
  have c0 := hg.cell 0
  have c1 := hg.cell 1
  have c2 := hg.cell 2
  have c3 := hg.cell 3
  simp only [List.getElem?_toArray, List.getElem?_cons_zero, List.getElem?_cons_succ] at c0 c1 c2 c3
  unfold wv uw at c0 c1 c2 c3
  have f0 := hg.frozen 0
  have f1 := hg.frozen 1
  have f2 := hg.frozen 2
  have f3 := hg.frozen 3
  have HG := Lib.hid hg
  clear hg
  rcases (by omega : k / 64 = 0 ∨ k / 64 = 1 ∨ k / 64 = 2 ∨ k / 64 = 3) with hq | hq | hq | hq
  all_goals
    have HO := Lib.hid (or_bit n k _ j hq hj.symm)
    have HN := Lib.hid (fun i (h : i ≠ k / 64) => wd_add_ne n k i h)
    rw [hq] at HN
    first
      | have h1 : (k : Int) / 64 = 0 := by omega
      | have h1 : (k : Int) / 64 = 1 := by omega
      | have h1 : (k : Int) / 64 = 2 := by omega
      | have h1 : (k : Int) / 64 = 3 := by omega
    clear hq hj
    go_enter Tryd.func86, Tryd.ntmps86
    go_wp2
    go_region
    go_wp2
    refine bodyPost_end (v := .tuple #[]) (by simp [results, Tryd.results86, go_sem]) rfl ⟨rfl, ?_, ?_⟩
    · rw [HO.out]
      unfold wv uw
      first
        | (rw [HN.out 1 (by decide), HN.out 2 (by decide), HN.out 3 (by decide)]; exact HG.out.set_ 0 _)
        | (rw [HN.out 0 (by decide), HN.out 2 (by decide), HN.out 3 (by decide)]; exact HG.out.set_ 1 _)
        | (rw [HN.out 0 (by decide), HN.out 1 (by decide), HN.out 3 (by decide)]; exact HG.out.set_ 2 _)
        | (rw [HN.out 0 (by decide), HN.out 1 (by decide), HN.out 2 (by decide)]; exact HG.out.set_ 3 _)
    · exact grown_drew (grown_set _ _ _ _)

theorem not_word (n i : Nat) (hn : n < 2 ^ 256) (hi : i < 4) : bits .xor .u64 18446744073709551615 ((wd n i : Nat) : Int) = ((wd (notS n) i : Nat) : Int) := by
  have h := wd_lt n i
  rw [wd_not n i hn hi]
  show IntKind.u64.wrap ((BitVec.ofInt 64 18446744073709551615 ^^^ BitVec.ofInt 64 ((wd n i : Nat) : Int)).toNat : Int) = _
  have h1 : BitVec.ofInt 64 18446744073709551615 = BitVec.allOnes 64 := by decide
  rw [h1, BitVec.allOnes_xor, BitVec.toNat_not, ofInt_u64 _ h, IntKind.wrap_u64]
  omega
set_option maxRecDepth 100000 in
set_option maxHeartbeats 2000000 in
theorem not_any (n : Nat) (hn : n < 2 ^ 256) (w : World) :
    Calls Tryd.prog 80 #[setV n] w fun e w' => e = .returned (setV (notS n)) ∧ Below w.heap.size w w' := by
  have e0 := not_word n 0 hn (by decide)
  have e1 := not_word n 1 hn (by decide)
  have e2 := not_word n 2 hn (by decide)
  have e3 := not_word n 3 hn (by decide)
  unfold setV wv uw
  generalize wd n 0 = x0 at *
  generalize wd n 1 = x1 at *
  generalize wd n 2 = x2 at *
  generalize wd n 3 = x3 at *
  generalize wd (notS n) 0 = y0 at *
  generalize wd (notS n) 1 = y1 at *
  generalize wd (notS n) 2 = y2 at *
  generalize wd (notS n) 3 = y3 at *
  clear hn
  have hs : IntKind.u64.signed = false := rfl
  have hm : IntKind.u64.max = 18446744073709551615 := by decide
  go_enter Tryd.func80, Tryd.ntmps80
  go_wp2
  refine wp_loop_rounds 5 ?_
  rw [rounds_succ]
  go_wp2
  rw [rounds_succ]
  go_wp2
  rw [rounds_succ]
  go_wp2
  rw [rounds_succ]
  go_wp2
  rw [rounds_succ]
  go_wp2
  exact bodyPost_ret (v := .agg #[.int .u64 y0, .int .u64 y1, .int .u64 y2, .int .u64 y3]) (by simp [results, Tryd.results80, go_sem]) rfl ⟨rfl, by go_grown⟩
end Go.Proofs.YtahphjaelpgjdaaDoor

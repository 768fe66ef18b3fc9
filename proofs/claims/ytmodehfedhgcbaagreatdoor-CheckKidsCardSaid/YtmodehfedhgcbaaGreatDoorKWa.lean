/- Lemmas. No condition. -/
import Derived.Test.YtmodehfedhgcbaaGreatDoorRows
import Derived.WalkKit
import Derived.WalkLawsBesides
import Derived.WalkSpells
import Derived.RegionTactic
import Derived.Deep.QuietTactic
import Derived.BigQuiet
import Derived.Deep.LoopGhost
import Derived.Lib.Hide
import Derived.Handy
import Derived.Laws.BitsAllLaws
import Derived.Test.YtmodehfedhgcbaaGreatDoorKXa
import Derived.Laws.Rows
import Derived.Laws.DeepNot64
import Derived.Deep.RegionHeld3
import Derived.Deep.DeepCutAuto
import Derived.Maps.AppendAt
namespace Go.Proofs.YtmodehfedhgcbaaGreatDoor.Rg
open Go.RowKit Rx
set_option linter.unusedVariables false

/-! sets of up to 256 numbers -/
def uw (n i : Nat) : Int := ((wd n i : Nat) : Int)
abbrev wv (n i : Nat) : Value := .int .u64 (uw n i)
abbrev setV (n : Nat) : Value := .agg #[wv n 0, wv n 1, wv n 2, wv n 3]

theorem and_one_is (a j : Nat) (ha : a < 18446744073709551616) : (bits .and .u64 ((a : Int) / 2 ^ j) 1 == 1) = decide (a / 2 ^ j % 2 = 1) := by
  have e : ((a : Int) / 2 ^ j) = ((a / 2 ^ j : Nat) : Int) := by rw [Int.natCast_ediv]; simp
  have hl : a / 2 ^ j < 18446744073709551616 := Nat.lt_of_le_of_lt (Nat.div_le_self _ _) ha
  have e2 : bits .and .u64 (((a / 2 ^ j : Nat)) : Int) ((1 : Nat) : Int) = ((a / 2 ^ j % 2 : Nat) : Int) := by rw [u64_and_nat _ _ hl (by omega), Nat.and_one_is_mod]
  rw [e]
  have e3 : bits .and .u64 (((a / 2 ^ j : Nat)) : Int) 1 = ((a / 2 ^ j % 2 : Nat) : Int) := e2
  rw [e3]
  generalize a / 2 ^ j % 2 = z
  rw [Bool.eq_iff_iff, beq_iff_eq, decide_eq_true_eq]
  omega
theorem has_bit (n k i : Nat) (hi : k / 64 = i) : (bits .and .u64 (((wd n i : Nat) : Int) / 2 ^ (k % 64)) 1 == 1) = n.testBit k := by
  rw [and_one_is _ _ (wd_lt _ _), Bool.eq_iff_iff, decide_eq_true_eq]
  subst hi
  exact wd_has n k

set_option maxRecDepth 100000 in
set_option maxHeartbeats 1000000 in
theorem or_word (n m i : Nat) : bits .or .u64 ((wd n i : Nat) : Int) ((wd m i : Nat) : Int) = ((wd (n ||| m) i : Nat) : Int) := by
  rw [u64_or_nat _ _ (wd_lt _ _) (wd_lt _ _), wd_or]
set_option maxRecDepth 100000 in
set_option maxHeartbeats 1000000 in
theorem with_any (n m : Nat) (w : World) :
    Calls Tryz.prog 120 #[setV n, setV m] w fun e w' => e = .returned (setV (n ||| m)) ∧ Below w.heap.size w w' := by
  have e0 := or_word n m 0
  have e1 := or_word n m 1
  have e2 := or_word n m 2
  have e3 := or_word n m 3
  unfold setV wv uw
  generalize wd n 0 = x0 at *
  generalize wd n 1 = x1 at *
  generalize wd n 2 = x2 at *
  generalize wd n 3 = x3 at *
  generalize wd m 0 = y0 at *
  generalize wd m 1 = y1 at *
  generalize wd m 2 = y2 at *
  generalize wd m 3 = y3 at *
  go_enter Tryz.func120, Tryz.ntmps120
  go_wp2
  refine wp_loop_rounds 5 ?_
  rw [rounds_succ]
  go_wp2
  go_region
  go_wp2
  rw [rounds_succ]
  go_wp2
  go_region
  go_wp2
  rw [rounds_succ]
  go_wp2
  go_region
  go_wp2
  rw [rounds_succ]
  go_wp2
  go_region
  go_wp2
  rw [rounds_succ]
  go_wp2
  exact bodyPost_ret (v := .agg #[.int .u64 (wd (n ||| m) 0 : Nat), .int .u64 (wd (n ||| m) 1 : Nat), .int .u64 (wd (n ||| m) 2 : Nat), .int .u64 (wd (n ||| m) 3 : Nat)]) (by simp [results, Tryz.results120, go_sem]) rfl ⟨rfl, by go_grown⟩
end Go.Proofs.YtmodehfedhgcbaaGreatDoor.Rg

namespace Go.Proofs.YtmodehfedhgcbaaGreatDoor.Rg
open Go.RowKit Rx
set_option linter.unusedVariables false

/-- a block that is known whole -/
def Blk (w : World) (g : Nat) (t : TypeId) (cs : Array Value) : Prop := w.heap[g]? = some (.cells cs t (0, 0))
theorem Blk.lt {w : World} {g : Nat} {t : TypeId} {cs : Array Value} (h : Blk w g t cs) : g < w.heap.size := by
  rcases Nat.lt_or_ge g w.heap.size with hlt | hge
  · exact hlt
  · unfold Blk at h; rw [Array.getElem?_eq_none hge] at h; cases h
theorem Blk.cell {w : World} {g : Nat} {t : TypeId} {cs : Array Value} (h : Blk w g t cs) (i : Nat) : w.cell? ⟨g, i, none⟩ = cs[i]? := cell_of_row w g i cs t (0, 0) h
theorem Blk.frozen {w : World} {g : Nat} {t : TypeId} {cs : Array Value} (h : Blk w g t cs) (i : Nat) : w.frozen? ⟨g, i, none⟩ = false := by
  unfold Blk at h
  simp [World.frozen?, h]
theorem Blk.new (w : World) (t : TypeId) (cs : Array Value) : Blk (w.alloc (.cells cs t)) w.heap.size t cs := heap_alloc_new w _
theorem Blk.set_ {w : World} {g : Nat} {t : TypeId} {cs : Array Value} (h : Blk w g t cs) (i : Nat) (u : Value) : Blk (w.setCell ⟨g, i, none⟩ u) g t (cs.setIfInBounds i u) := by
  unfold Blk at h ⊢
  simp [World.setCell, Array.getElem?_modify, h]
theorem Blk.alloc {w : World} {g : Nat} {t : TypeId} {cs : Array Value} (h : Blk w g t cs) (o : Obj) : Blk (w.alloc o) g t cs := (Below.heap_alloc w o g h.lt).trans h
theorem Blk.below {w w' : World} {g : Nat} {t : TypeId} {cs : Array Value} (h : Blk w g t cs) (hb : Below w.heap.size w w') : Blk w' g t cs := (hb.block g h.lt).trans h
theorem Blk.other {w : World} {g k : Nat} {t : TypeId} {cs : Array Value} (h : Blk w g t cs) (hk : g ≠ k) (i : Nat) (u : Value) : Blk (w.setCell ⟨k, i, none⟩ u) g t cs := (Below.heap_setCell w ⟨k, i, none⟩ u g hk).trans h
theorem Blk.grown {w w' : World} {g : Nat} {t : TypeId} {cs : Array Value} {row : Option Nat} (h : Blk w g t cs) (hg : w.grownBy w' row) (hne : row ≠ some g) : Blk w' g t cs := (hg.block g h.lt (fun e => hne e.symm)).trans h
theorem below_cell {w w' : World} (h : Below w.heap.size w w') {a : Addr} {v : Value} (hc : w.cell? a = some v) : w'.cell? a = some v := (h.cell (World.block_lt_of_cell? _ _ hc)).trans hc
theorem grown_set (w : World) (g i : Nat) (u : Value) : w.grownBy (w.setCell ⟨g, i, none⟩ u) (some g) := ⟨rfl, rfl, rfl, by simp [World.setCell], fun k _ hk => Below.heap_setCell w ⟨g, i, none⟩ u k (fun e => hk (by rw [e]))⟩
theorem grown_drew {w w' : World} {row : Option Nat} (h : w.grownBy w' row) : w.grownBy w'.drew row := ⟨h.os, h.tape, h.output, h.size, h.block⟩
theorem grown_drewN {w w' : World} {row : Option Nat} (h : w.grownBy w' row) (n : Nat) : w.grownBy (w'.drewN n) row := ⟨h.os, h.tape, h.output, h.size, h.block⟩
theorem below_grown {w w' : World} (h : Below w.heap.size w w') (row : Option Nat) : w.grownBy w' row := ⟨h.os, h.tape, h.output, h.size, fun k hk _ => h.block k hk⟩

/-! add -/
theorem wrap_pow (j : Nat) (hj : j < 64) : IntKind.u64.wrap (2 ^ j) = ((2 ^ j : Nat) : Int) := by
  have h : (2 : Nat) ^ j < 2 ^ 64 := two_lt hj
  have e : ((2 : Int) ^ j) = ((2 ^ j : Nat) : Int) := by simp
  rw [e, IntKind.wrap_u64]
  generalize (2 : Nat) ^ j = z at *
  omega
theorem or_bit (n k i j : Nat) (hi : k / 64 = i) (hj : k % 64 = j) : bits .or .u64 ((wd n i : Nat) : Int) (IntKind.u64.wrap (2 ^ j)) = ((wd (n ||| 2 ^ k) i : Nat) : Int) := by
  subst hi; subst hj
  rw [wrap_pow _ (Nat.mod_lt _ (by decide)), u64_or_nat _ _ (wd_lt _ _) (show (2 : Nat) ^ (k % 64) < 2 ^ 64 from two_lt (Nat.mod_lt _ (by decide))), wd_add]
set_option maxRecDepth 100000 in
set_option maxHeartbeats 2000000 in
theorem add_any (n k g : Nat) (hk : k < 256) (w : World) (hg : Blk w g 136 #[wv n 0, wv n 1, wv n 2, wv n 3]) :
    Calls Tryz.prog 157 #[.pointer (some ⟨g, 0, none⟩), .int .i64 k] w fun e w' => e = .returned (.tuple #[]) ∧ Blk w' g 136 #[wv (n ||| 2 ^ k) 0, wv (n ||| 2 ^ k) 1, wv (n ||| 2 ^ k) 2, wv (n ||| 2 ^ k) 3] ∧ w.grownBy w' (some g) := by
  obtain ⟨j, hj⟩ : ∃ j, j = k % 64 := ⟨_, rfl⟩
  have h2 : (k : Int) % 64 = (j : Int) := by omega
  have hj4 : j < 64 := by omega
  have c0 := hg.cell 0
  have c1 := hg.cell 1
  have c2 := hg.cell 2
  have c3 := hg.cell 3
  simp only [List.getElem?_toArray, List.getElem?_cons_zero, List.getElem?_cons_succ] at c0 c1 c2 c3
  unfold wv uw at c0 c1 c2 c3
  have f0 := hg.frozen 0
  have f1 := hg.frozen 1
  have f2 := hg.frozen 2
  have f3 := hg.frozen 3
  have HG := Lib.hid hg
  clear hg
  rcases (by omega : k / 64 = 0 ∨ k / 64 = 1 ∨ k / 64 = 2 ∨ k / 64 = 3) with hq | hq | hq | hq
  all_goals
    have HO := Lib.hid (or_bit n k _ j hq hj.symm)
    have HN := Lib.hid (fun i (h : i ≠ k / 64) => wd_add_ne n k i h)
    rw [hq] at HN
    first
      | have h1 : (k : Int) / 64 = 0 := by omega
      | have h1 : (k : Int) / 64 = 1 := by omega
      | have h1 : (k : Int) / 64 = 2 := by omega
      | have h1 : (k : Int) / 64 = 3 := by omega
    clear hq hj
    go_enter Tryz.func157, Tryz.ntmps157
    go_wp2
    go_region
    go_wp2
    refine bodyPost_end (v := .tuple #[]) (by simp [results, Tryz.results157, go_sem]) rfl ⟨rfl, ?_, ?_⟩
    · rw [HO.out]
      unfold wv uw
      first
        | (rw [HN.out 1 (by decide), HN.out 2 (by decide), HN.out 3 (by decide)]; exact HG.out.set_ 0 _)
        | (rw [HN.out 0 (by decide), HN.out 2 (by decide), HN.out 3 (by decide)]; exact HG.out.set_ 1 _)
        | (rw [HN.out 0 (by decide), HN.out 1 (by decide), HN.out 3 (by decide)]; exact HG.out.set_ 2 _)
        | (rw [HN.out 0 (by decide), HN.out 1 (by decide), HN.out 2 (by decide)]; exact HG.out.set_ 3 _)
    · exact grown_drew (grown_set _ _ _ _)

theorem not_word (n i : Nat) (hn : n < 2 ^ 256) (hi : i < 4) : bits .xor .u64 18446744073709551615 ((wd n i : Nat) : Int) = ((wd (notS n) i : Nat) : Int) := by
  have h := wd_lt n i
  rw [wd_not n i hn hi]
  show IntKind.u64.wrap ((BitVec.ofInt 64 18446744073709551615 ^^^ BitVec.ofInt 64 ((wd n i : Nat) : Int)).toNat : Int) = _
  have h1 : BitVec.ofInt 64 18446744073709551615 = BitVec.allOnes 64 := by decide
  rw [h1, BitVec.allOnes_xor, BitVec.toNat_not, ofInt_u64 _ h, IntKind.wrap_u64]
  omega
set_option maxRecDepth 100000 in
set_option maxHeartbeats 2000000 in
theorem not_any (n : Nat) (hn : n < 2 ^ 256) (w : World) :
    Calls Tryz.prog 142 #[setV n] w fun e w' => e = .returned (setV (notS n)) ∧ Below w.heap.size w w' := by
  have e0 := not_word n 0 hn (by decide)
  have e1 := not_word n 1 hn (by decide)
  have e2 := not_word n 2 hn (by decide)
  have e3 := not_word n 3 hn (by decide)
  unfold setV wv uw
  generalize wd n 0 = x0 at *
  generalize wd n 1 = x1 at *
  generalize wd n 2 = x2 at *
  generalize wd n 3 = x3 at *
  generalize wd (notS n) 0 = y0 at *
  generalize wd (notS n) 1 = y1 at *
  generalize wd (notS n) 2 = y2 at *
  generalize wd (notS n) 3 = y3 at *
  clear hn
  have hs : IntKind.u64.signed = false := rfl
  have hm : IntKind.u64.max = 18446744073709551615 := by decide
  go_enter Tryz.func142, Tryz.ntmps142
  go_wp2
  refine wp_loop_rounds 5 ?_
  rw [rounds_succ]
  go_wp2
  rw [rounds_succ]
  go_wp2
  rw [rounds_succ]
  go_wp2
  rw [rounds_succ]
  go_wp2
  rw [rounds_succ]
  go_wp2
  exact bodyPost_ret (v := .agg #[.int .u64 y0, .int .u64 y1, .int .u64 y2, .int .u64 y3]) (by simp [results, Tryz.results142, go_sem]) rfl ⟨rfl, by go_grown⟩
end Go.Proofs.YtmodehfedhgcbaaGreatDoor.Rg

namespace Go.Proofs.YtmodehfedhgcbaaGreatDoor.Rg
open Go.RowKit Rx
set_option linter.unusedVariables false

theorem uw_zero (i : Nat) : uw 0 i = 0 := by unfold uw; rw [wd_zero]; rfl
theorem wv_zero (i : Nat) : wv 0 i = .int .u64 0 := by unfold wv uw; rw [wd_zero]; rfl
set_option maxRecDepth 100000 in
set_option maxHeartbeats 2000000 in
theorem one_any (c : Nat) (hc : c < 256) (w : World) :
    Calls Tryz.prog 144 #[.int .u8 c] w fun e w' => e = .returned (setV (2 ^ c)) ∧ Below w.heap.size w w' := by
  have H := Lib.hid (fun g W hg => add_any 0 c g hc W hg)
  go_enter Tryz.func144, Tryz.ntmps144
  go_wp2_with fail
  have hb : Blk ((w.alloc (.cells #[.int .u64 0, .int .u64 0, .int .u64 0, .int .u64 0] 136)).alloc (.cells #[.int .u64 0, .int .u64 0, .int .u64 0, .int .u64 0] 136)) (w.heap.size + 1) 136 #[wv 0 0, wv 0 1, wv 0 2, wv 0 3] := by
    rw [wv_zero, wv_zero, wv_zero, wv_zero]
    have := Blk.new (w.alloc (.cells #[.int .u64 0, .int .u64 0, .int .u64 0, .int .u64 0] 136)) 136 #[.int .u64 0, .int .u64 0, .int .u64 0, .int .u64 0]
    rw [World.size_alloc] at this
    exact this
  have HB := Lib.hid hb
  clear hb
  refine (H.out _ _ HB.out).mono ?_
  rintro e w1 ⟨rfl, hk, hg⟩
  have hr : Blk w1 w.heap.size 136 #[.int .u64 0, .int .u64 0, .int .u64 0, .int .u64 0] := ((Blk.new w 136 _).alloc _).grown hg (by intro e; injection e; omega)
  have hbel : Below w.heap.size w w1 := (((Below.refl _ _).alloc (Nat.le_refl _) _).alloc (by simp) _).grown hg (by simp; omega) (fun k hk => by injection hk; omega)
  rw [Nat.zero_or] at hk
  have r0 := hr.cell 0
  have r1 := hr.cell 1
  have r2 := hr.cell 2
  have r3 := hr.cell 3
  have q0 := hr.frozen 0
  have q1 := hr.frozen 1
  have q2 := hr.frozen 2
  have q3 := hr.frozen 3
  have k0 := hk.cell 0
  have k1 := hk.cell 1
  have k2 := hk.cell 2
  have k3 := hk.cell 3
  simp only [List.getElem?_toArray, List.getElem?_cons_zero, List.getElem?_cons_succ] at r0 r1 r2 r3 k0 k1 k2 k3
  have HL := Lib.hid hbel
  clear hr hk hg hbel HB
  go_wp2
  refine bodyPost_ret (v := .agg #[wv (2 ^ c) 0, wv (2 ^ c) 1, wv (2 ^ c) 2, wv (2 ^ c) 3]) (by simp [results, Tryz.results144, go_sem, r0, r1, r2, r3]) rfl ?_
  exact ⟨rfl, (((HL.out.setCell (p := ⟨w.heap.size, 0, none⟩) (Nat.le_refl _) _).setCell (p := ⟨w.heap.size, 1, none⟩) (Nat.le_refl _) _).setCell (p := ⟨w.heap.size, 2, none⟩) (Nat.le_refl _) _).setCell (p := ⟨w.heap.size, 3, none⟩) (Nat.le_refl _) _⟩

end Go.Proofs.YtmodehfedhgcbaaGreatDoor.Rg

namespace Go.Proofs.YtmodehfedhgcbaaGreatDoor.Rg
open Go.RowKit Rx
set_option linter.unusedVariables false

/-! the lowest bit of a word -/
def idx (t : Nat) : Nat := 2 ^ t * 285870213051353865 % 18446744073709551616 / 288230376151711744
/-- the table of the library, as it is laid -/
def TzT (w : World) : Prop := ∀ t, t < 64 → w.cell? ⟨8, idx t, none⟩ = some (.int .u8 t)
theorem TzT.below {w w' : World} (h : TzT w) (hb : Below w.heap.size w w') : TzT w' := fun t ht => below_cell hb (h t ht)
theorem neg_word (t q x : Nat) (hx : x = 2 ^ t * (2 * q + 1)) (h : x < 18446744073709551616) : bits .and .u64 (x : Int) (IntKind.u64.wrap (-(x : Int))) = ((2 ^ t : Nat) : Int) := by
  have hp : 0 < x := by rw [hx]; exact Nat.mul_pos (two_pos t) (by omega)
  have e : IntKind.u64.wrap (-(x : Int)) = ((18446744073709551616 - x : Nat) : Int) := by rw [IntKind.wrap_u64]; omega
  rw [e, u64_and_nat _ _ h (by omega), hx, and_neg t q (by rw [← hx]; exact h)]
theorem idx_lt (t : Nat) : idx t < 64 := by unfold idx; omega
theorem mul_word (t : Nat) : IntKind.u64.wrap (((2 ^ t : Nat) : Int) * 285870213051353865) = ((2 ^ t * 285870213051353865 % 18446744073709551616 : Nat) : Int) := by
  rw [IntKind.wrap_u64]
  omega
theorem tz_walk (x p m i : Nat) (t : Int) (w : World) (h0 : ((x : Int) == 0) = false) (hA : bits .and .u64 (x : Int) (IntKind.u64.wrap (-(x : Int))) = (p : Int))
    (hm : IntKind.u64.wrap ((p : Int) * 285870213051353865) = (m : Int)) (hi : (m : Int) / 288230376151711744 = (i : Int)) (hi4 : i < 64) (hc : w.cell? ⟨8, i, none⟩ = some (.int .u8 t)) (ht0 : 0 ≤ t) (ht : t < 64) :
    Calls Tryz.prog 158 #[.int .u64 (x : Int)] w fun e w' => e = .returned (.int .i64 t) ∧ w = w' := by
  go_enter Tryz.func158, Tryz.ntmps158
  go_wp2
  go_ret
  exact ⟨rfl, rfl⟩
theorem tz_any (t q x : Nat) (hx : x = 2 ^ t * (2 * q + 1)) (h : x < 18446744073709551616) (w : World) (hT : TzT w) :
    Calls Tryz.prog 158 #[.int .u64 (x : Int)] w fun e w' => e = .returned (.int .i64 (t : Int)) ∧ w = w' := by
  have ht : t < 64 := low_lt t q (by rw [← hx]; exact h)
  have hp : 0 < x := by rw [hx]; exact Nat.mul_pos (two_pos t) (by omega)
  refine tz_walk x (2 ^ t) (2 ^ t * 285870213051353865 % 18446744073709551616) (idx t) t w (beq_eq_false_iff_ne.2 (by omega)) (neg_word t q x hx h) (mul_word t) ?_ (idx_lt t) (hT t ht) (Int.natCast_nonneg _) (by omega)
  unfold idx
  rw [Int.natCast_ediv]
  rfl
end Go.Proofs.YtmodehfedhgcbaaGreatDoor.Rg

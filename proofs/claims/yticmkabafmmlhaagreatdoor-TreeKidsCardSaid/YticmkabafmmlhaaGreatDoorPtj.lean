/- awake: what the document fixes of Print, Right and Nest. Conditions: what is laid. -/
import Derived.Test.YticmkabafmmlhaaGreatDoorPrj
import Derived.Test.YticmkabafmmlhaaGreatDoorEaj
import Derived.Deep.DeepCutAuto
import Derived.Deep.RegionHeld3
import Derived.Deep.CutBlock
import Derived.Test.YticmkabafmmlhaaGreatDoorD10j
set_option linter.unusedVariables false
set_option linter.unusedSimpArgs false
set_option maxHeartbeats 4000000
namespace Go.Proofs.YticmkabafmmlhaaGreatDoor.Ck
open Go.RowKit
open Lib (hid)
set_option maxRecDepth 100000
theorem err_below {w w' : World} (h : Er.ErrT w) (hb : Below w.heap.size w w') : Er.ErrT w' := (hb.cell (p := ⟨0, 0, none⟩) (World.block_lt_of_cell? _ _ h)).trans h
theorem all_zero (w : World) : Calls Tryz.prog 20 #[.agg #[.int .i64 0, .int .i64 0, .int .u64 0, .string ⟨#[]⟩, .slice none 0 0, .int .i64 0, .int .i64 0, .bool false, .int .i64 0, .int .i64 0, .slice none 0 0, .bool false, .slice none 0 0]] w fun e w' => e = .returned (.bool false) ∧ Below w.heap.size w w' := by
 go_enter Tryz.func20, Tryz.ntmps20
 go_wp2_with fail
 refine wp_loop_rounds 1 ?_
 rw [rounds_succ]
 go_upto_region 5 with fail
 go_quiet (fail)
 go_wp2_with fail
 go_ret
 exact ⟨rfl, Rg.bel_drawn (((((Below.refl _ _).alloc (Nat.le_refl _) _).alloc (by simp) _).alloc (by simp; omega) _).alloc (by simp; omega) _) _⟩
theorem right_zero (w : World) : Calls Tryz.prog 10 #[.agg #[.int .i64 0, .int .i64 0, .int .u64 0, .string ⟨#[]⟩, .slice none 0 0, .int .i64 0, .int .i64 0, .bool false, .int .i64 0, .int .i64 0, .slice none 0 0, .bool false, .slice none 0 0]] w fun e w' => e = .returned (.bool false) ∧ Below w.heap.size w w' := by
 have H1 := hid (fun W => nest_any t0 W (by unfold t0; rw [Lies]; exact ⟨⟨by show (0 : Nat) < _; decide, by show (0 : Nat) ≤ _; decide, by show (0 : Nat) ≤ _; decide, fun _ => rfl, Nat.le_refl _⟩, by show (0 : Nat) ≤ _; decide, fun h => absurd h (Nat.not_lt_zero _), fun h => absurd h (Nat.not_lt_zero _), fun h => absurd h (Nat.not_lt_zero _), by rw [LiesL]; trivial⟩) (by decide))
 have hn0 : nestF t0 = 0 := by kernel_rfl
 rw [hn0] at H1
 have H1' : Hid (∀ W, Calls Tryz.prog 8 #[.agg #[.int .i64 0, .int .i64 0, .int .u64 0, .string ⟨#[]⟩, .slice none 0 0, .int .i64 0, .int .i64 0, .bool false, .int .i64 0, .int .i64 0, .slice none 0 0, .bool false, .slice none 0 0]] W fun e w' => e = .returned (.int .i64 0) ∧ Below W.heap.size W w') := fun W => H1.out W
 have H2 := hid (fun W => all_zero W)
 have HB : Hid (∀ o, Below w.heap.size w (w.alloc o)) := fun o => (Below.refl _ _).alloc (Nat.le_refl _) _
 have HK := hid (Blk.new w 27 #[.int .i64 0, .int .i64 0, .int .u64 0, .string ⟨#[]⟩, .slice none 0 0, .int .i64 0, .int .i64 0, .bool false, .int .i64 0, .int .i64 0, .slice none 0 0, .bool false, .slice none 0 0])
 clear H1 hn0
 go_enter Tryz.func10, Tryz.ntmps10
 go_wp2_with fail
 refine (H1'.out _).mono ?_
 rintro e w1 ⟨rfl, hb1⟩
 have HB1 := hid ((HB.out _).trans (hb1.mono (HB.out _).size))
 have HK1 := hid (HK.out.below hb1)
 clear hb1 H1' HK
 have c0 := HK1.out.cell 0
 have c1 := HK1.out.cell 1
 have c2 := HK1.out.cell 2
 have c3 := HK1.out.cell 3
 have c4 := HK1.out.cell 4
 have c5 := HK1.out.cell 5
 have c6 := HK1.out.cell 6
 have c7 := HK1.out.cell 7
 have c8 := HK1.out.cell 8
 have c9 := HK1.out.cell 9
 have c10 := HK1.out.cell 10
 have c11 := HK1.out.cell 11
 have c12 := HK1.out.cell 12
 simp at c0 c1 c2 c3 c4 c5 c6 c7 c8 c9 c10 c11 c12
 go_wp2_with fail
 refine (H2.out _).mono ?_
 rintro e w2 ⟨rfl, hb2⟩
 have HB2 := hid (HB1.out.trans (hb2.mono HB1.out.size))
 clear hb2
 go_wp2_with fail
 go_ret
 exact ⟨rfl, HB2.out⟩
theorem print_zero (w : World) : Calls Tryz.prog 7 #[.agg #[.int .i64 0, .int .i64 0, .int .u64 0, .string ⟨#[]⟩, .slice none 0 0, .int .i64 0, .int .i64 0, .bool false, .int .i64 0, .int .i64 0, .slice none 0 0, .bool false, .slice none 0 0]] w fun e w' => e = .returned (.tuple #[.string ⟨#[]⟩, .iface 40 (.int .i64 6)]) ∧ Below w.heap.size w w' := by
 have H2 := hid (fun W => right_zero W)
 have HB : Hid (∀ o, Below w.heap.size w (w.alloc o)) := fun o => (Below.refl _ _).alloc (Nat.le_refl _) _
 go_enter Tryz.func7, Tryz.ntmps7
 go_wp2_with fail
 refine (H2.out _).mono ?_
 rintro e w2 ⟨rfl, hb2⟩
 have HB2 := hid ((HB.out _).trans (hb2.mono (HB.out _).size))
 clear hb2
 go_wp2_with fail
 go_ret2
 exact ⟨rfl, HB2.out⟩
def askW (s : ByteArray) : Hd := ⟨3, 0, 0, s, none, 0, [], 0, 0, false, 0, 0, none, 0, [], false, none, 0⟩
def askP (o : Int) (B : Nat) : Hd := ⟨6, o, 0, ⟨#[]⟩, none, 0, [], 0, 0, false, 0, 0, none, 0, [], false, some ⟨B, 0, none⟩, 2⟩
def askL (B : Nat) : Hd := ⟨7, 0, 0, ⟨#[]⟩, none, 0, [], 0, 0, false, 0, 0, none, 0, [], false, some ⟨B, 0, none⟩, 1⟩
def askA (c : UInt8) : Tr := .mk (askW ⟨#[c]⟩) []
def askS (B : Nat) : Tr := .mk (askP 7 B) [askA 97, askA 98]
def askM (B : Nat) : Tr := .mk (askL B) [askA 99]
def askT (B1 B2 B3 : Nat) : Tr := .mk (askP 9 B3) [askS B1, askM B2]
theorem ask_right (B1 B2 B3 : Nat) : rightF okHd (askT B1 B2 B3) = true := by kernel_rfl
theorem ask_short (B1 B2 B3 : Nat) : shortF (askT B1 B2 B3) = true := by kernel_rfl
theorem ask_nest (B1 B2 B3 : Nat) : nestF (askT B1 B2 B3) = 1 := by kernel_rfl
theorem ask_print (B1 B2 B3 : Nat) : (⟨(printF (askT B1 B2 B3)).toArray⟩ : ByteArray) = ⟨#[40, 97, 32, 43, 32, 98, 41, 32, 42, 32, 45, 99]⟩ := by kernel_rfl
theorem word_lies (c : UInt8) (W : World) : Lies W (askA c) := by
 unfold askA
 rw [Lies]
 exact ⟨⟨by show (0 : Nat) < _; decide, by show (0 : Nat) ≤ _; decide, by show (0 : Nat) ≤ _; decide, fun _ => rfl, Nat.le_refl _⟩, by show (0 : Nat) ≤ _; decide, fun h => absurd h (Nat.not_lt_zero _), fun h => absurd h (Nat.not_lt_zero _), fun h => absurd h (Nat.not_lt_zero _), by rw [LiesL]; trivial⟩
theorem pair_lies (op : Int) (x y : Tr) (W : World) (B : Nat) (hx : Lies W x) (hy : Lies W y) (hB : Blk W B 27 (cellsT x ++ cellsT y).toArray) : Lies W (.mk (askP op B) [x, y]) := by
 rw [Lies]
 refine ⟨⟨by show (0 : Nat) < _; decide, by show (0 : Nat) ≤ _; decide, by show (0 : Nat) ≤ _; decide, (fun h => by cases h), Nat.le_refl _⟩, by show (2 : Nat) ≤ _; decide, fun h => absurd h (Nat.not_lt_zero _), fun h => absurd h (Nat.not_lt_zero _), fun _ => ⟨B, 0, rfl, hB.lt, ?_⟩, ?_⟩
 · intro i hi j v hv
   rw [hB.cell, List.getElem?_toArray]
   have := flatE_at [x, y] i hi j v hv
   rw [flatE, flatE, flatE, List.append_nil] at this
   rw [Nat.zero_add]
   exact this
 · rw [LiesL, LiesL, LiesL]
   exact ⟨hx, hy, trivial⟩
theorem less_lies (x : Tr) (W : World) (B : Nat) (hx : Lies W x) (hB : Blk W B 27 (cellsT x).toArray) : Lies W (.mk (askL B) [x]) := by
 rw [Lies]
 refine ⟨⟨by show (0 : Nat) < _; decide, by show (0 : Nat) ≤ _; decide, by show (0 : Nat) ≤ _; decide, (fun h => by cases h), Nat.le_refl _⟩, by show (1 : Nat) ≤ _; decide, fun h => absurd h (Nat.not_lt_zero _), fun h => absurd h (Nat.not_lt_zero _), fun _ => ⟨B, 0, rfl, hB.lt, ?_⟩, ?_⟩
 · intro i hi j v hv
   rw [hB.cell, List.getElem?_toArray]
   have := flatE_at [x] i hi j v hv
   rw [flatE, flatE, List.append_nil] at this
   rw [Nat.zero_add]
   exact this
 · rw [LiesL, LiesL]
   exact ⟨hx, trivial⟩
theorem res_hd {fn : Func} (h : fn.results = #[.cell 2 27]) {tmps : Array Value} {B : Nat} (h2 : tmps.getD 2 undef = .pointer (some ⟨B, 0, none⟩)) {W : World} {g : Hd} {n : Nat} (hb : Blk W B 27 (arr g n)) :
 (results fn tmps).run Tryz.prog W = .ok (.agg (arr g n)) W := by
 obtain ⟨c0, c1, c2, c3, c4, c5, c6, c7, c8, c9, c10, c11, c12⟩ := blk13 (h := g) (n := n) hb
 rw [Array.getD_eq_getD_getElem?] at h2
 simp [results, h, h2, go_sem, c0, c1, c2, c3, c4, c5, c6, c7, c8, c9, c10, c11, c12, arr]
theorem word_any (s : ByteArray) (w : World) : Calls Tryz.prog 9 #[.string s] w fun e w' => e = .returned (.agg (arr (askW s) 0)) ∧ w.alloc (.cells (arr (askW s) 0) 27) = w' := by
 unfold askW arr
 dsimp only
 go_enter Tryz.func9, Tryz.ntmps9
 go_wp2_with fail
 exact bodyPost_ret (res_hd (g := ⟨3, 0, 0, s, none, 0, [], 0, 0, false, 0, 0, none, 0, [], false, none, 0⟩) (n := 0) (by kernel_rfl) rfl (Blk.new w 27 _)) rfl ⟨rfl, rfl⟩
theorem word_is (c : UInt8) (w : World) : Calls Tryz.prog 9 #[.string ⟨#[c]⟩] w fun e w' => e = .returned (valT (askA c)) ∧ Below w.heap.size w w' := by
 refine (word_any ⟨#[c]⟩ w).mono ?_
 rintro e w' ⟨rfl, rfl⟩
 exact ⟨rfl, (Below.refl _ _).alloc (Nat.le_refl _) _⟩
end Go.Proofs.YticmkabafmmlhaaGreatDoor.Ck

set_option linter.unusedVariables false
set_option linter.unusedSimpArgs false
set_option maxHeartbeats 8000000
namespace Go.Proofs.YticmkabafmmlhaaGreatDoor.Ck
open Go.RowKit
open Lib (hid)
set_option maxRecDepth 100000
def EG (w : World) (b : Nat) (W : World) : Prop := ∃ B1 B2 B3, Blk W b 27 (arr (askP 9 B3) 2) ∧ Lies W (askT B1 B2 B3) ∧ Below w.heap.size w W
theorem blk_drew {W : World} {i : Nat} {t : TypeId} {cs : Array Value} (h : Blk W i t cs) : Blk W.drew i t cs := h
theorem blk_top (W : World) {i : Nat} {cs : Array Value} (cs' : Array Value) (h : i = W.heap.size) (hc : cs' = cs) : Blk (W.alloc (.cells cs' 27)) i 27 cs := by
 subst h hc; exact Blk.new W 27 cs'
theorem eg_of {w w4 W : World} {B1 B2 B3 b : Nat} (h4 : Below w.heap.size w w4) (hA : Blk w4 B1 27 #[.int .i64 3, .int .i64 0, .int .u64 0, .string ⟨#[97]⟩, .slice none 0 0, .int .i64 0, .int .i64 0, .bool false, .int .i64 0, .int .i64 0, .slice none 0 0, .bool false, .slice none 0 0, .int .i64 3, .int .i64 0, .int .u64 0, .string ⟨#[98]⟩, .slice none 0 0, .int .i64 0, .int .i64 0, .bool false, .int .i64 0, .int .i64 0, .slice none 0 0, .bool false, .slice none 0 0]) (hW : Below w4.heap.size w4 W) (h1 : Blk W b 27 (arr (askP 9 B3) 2)) (h2 : Blk W B2 27 (arr (askW ⟨#[99]⟩) 0)) (h3 : Blk W B3 27 (cellsT (askS B1) ++ cellsT (askM B2)).toArray) : EG w b W :=
 ⟨B1, B2, B3, h1, pair_lies 9 _ _ W B3 (pair_lies 7 _ _ W B1 (word_lies _ W) (word_lies _ W) (hA.below hW)) (less_lies _ W B2 (word_lies _ W) h2) h3, h4.trans (hW.mono h4.size)⟩
theorem awake_any (w : World) (hT : Tabl w) (hE : Env w) (hR : Er.ErrT w) : Calls Tryz.prog 4 #[] w fun e w' => e = .returned (.bool true) ∧ Below w.heap.size w w' := by
 have H9 : Hid (∀ (c : UInt8) (W : World), Calls Tryz.prog 9 #[.string ⟨#[c]⟩] W fun e w' => e = .returned (.agg #[.int .i64 3, .int .i64 0, .int .u64 0, .string ⟨#[c]⟩, .slice none 0 0, .int .i64 0, .int .i64 0, .bool false, .int .i64 0, .int .i64 0, .slice none 0 0, .bool false, .slice none 0 0]) ∧ Below W.heap.size W w') := fun c W => word_is c W
 have HT := hid hT
 have HE := hid hE
 have HR := hid hR
 clear hT hE hR
 go_enter Tryz.func4, Tryz.ntmps4
 go_wp2_with fail
 refine (H9.out 97 _).mono ?_
 rintro e w1 ⟨rfl, hb1⟩
 have HB1 := hid hb1
 clear hb1
 go_wp2_with fail
 refine (H9.out 98 _).mono ?_
 rintro e w2 ⟨rfl, hb2⟩
 have HB2 := hid (HB1.out.trans (hb2.mono HB1.out.size))
 clear hb2 HB1
 go_upto_region 2 with fail
 have hbs : Blk ((w2.alloc (.cells #[.int .i64 3, .int .i64 0, .int .u64 0, .string ⟨#[97]⟩, .slice none 0 0, .int .i64 0, .int .i64 0, .bool false, .int .i64 0, .int .i64 0, .slice none 0 0, .bool false, .slice none 0 0, .int .i64 3, .int .i64 0, .int .u64 0, .string ⟨#[98]⟩, .slice none 0 0, .int .i64 0, .int .i64 0, .bool false, .int .i64 0, .int .i64 0, .slice none 0 0, .bool false, .slice none 0 0] 27)).alloc (.cells #[.int .i64 6, .int .i64 7, .int .u64 0, .string ⟨#[]⟩, .slice none 0 0, .int .i64 0, .int .i64 0, .bool false, .int .i64 0, .int .i64 0, .slice none 0 0, .bool false, .slice (some ⟨w2.heap.size, 0, none⟩) 2 2] 27)) (w2.heap.size + 1) 27 #[.int .i64 6, .int .i64 7, .int .u64 0, .string ⟨#[]⟩, .slice none 0 0, .int .i64 0, .int .i64 0, .bool false, .int .i64 0, .int .i64 0, .slice none 0 0, .bool false, .slice (some ⟨w2.heap.size, 0, none⟩) 2 2] := by
  have := Blk.new (w2.alloc (.cells #[.int .i64 3, .int .i64 0, .int .u64 0, .string ⟨#[97]⟩, .slice none 0 0, .int .i64 0, .int .i64 0, .bool false, .int .i64 0, .int .i64 0, .slice none 0 0, .bool false, .slice none 0 0, .int .i64 3, .int .i64 0, .int .u64 0, .string ⟨#[98]⟩, .slice none 0 0, .int .i64 0, .int .i64 0, .bool false, .int .i64 0, .int .i64 0, .slice none 0 0, .bool false, .slice none 0 0] 27)) 27 #[.int .i64 6, .int .i64 7, .int .u64 0, .string ⟨#[]⟩, .slice none 0 0, .int .i64 0, .int .i64 0, .bool false, .int .i64 0, .int .i64 0, .slice none 0 0, .bool false, .slice (some ⟨w2.heap.size, 0, none⟩) 2 2]
  rwa [World.size_alloc] at this
 have hba : Blk ((w2.alloc (.cells #[.int .i64 3, .int .i64 0, .int .u64 0, .string ⟨#[97]⟩, .slice none 0 0, .int .i64 0, .int .i64 0, .bool false, .int .i64 0, .int .i64 0, .slice none 0 0, .bool false, .slice none 0 0, .int .i64 3, .int .i64 0, .int .u64 0, .string ⟨#[98]⟩, .slice none 0 0, .int .i64 0, .int .i64 0, .bool false, .int .i64 0, .int .i64 0, .slice none 0 0, .bool false, .slice none 0 0] 27)).alloc (.cells #[.int .i64 6, .int .i64 7, .int .u64 0, .string ⟨#[]⟩, .slice none 0 0, .int .i64 0, .int .i64 0, .bool false, .int .i64 0, .int .i64 0, .slice none 0 0, .bool false, .slice (some ⟨w2.heap.size, 0, none⟩) 2 2] 27)) w2.heap.size 27 #[.int .i64 3, .int .i64 0, .int .u64 0, .string ⟨#[97]⟩, .slice none 0 0, .int .i64 0, .int .i64 0, .bool false, .int .i64 0, .int .i64 0, .slice none 0 0, .bool false, .slice none 0 0, .int .i64 3, .int .i64 0, .int .u64 0, .string ⟨#[98]⟩, .slice none 0 0, .int .i64 0, .int .i64 0, .bool false, .int .i64 0, .int .i64 0, .slice none 0 0, .bool false, .slice none 0 0] := (Blk.new w2 27 _).alloc _
 have hb4 : Below w.heap.size w ((w2.alloc (.cells #[.int .i64 3, .int .i64 0, .int .u64 0, .string ⟨#[97]⟩, .slice none 0 0, .int .i64 0, .int .i64 0, .bool false, .int .i64 0, .int .i64 0, .slice none 0 0, .bool false, .slice none 0 0, .int .i64 3, .int .i64 0, .int .u64 0, .string ⟨#[98]⟩, .slice none 0 0, .int .i64 0, .int .i64 0, .bool false, .int .i64 0, .int .i64 0, .slice none 0 0, .bool false, .slice none 0 0] 27)).alloc (.cells #[.int .i64 6, .int .i64 7, .int .u64 0, .string ⟨#[]⟩, .slice none 0 0, .int .i64 0, .int .i64 0, .bool false, .int .i64 0, .int .i64 0, .slice none 0 0, .bool false, .slice (some ⟨w2.heap.size, 0, none⟩) 2 2] 27)) := (HB2.out.alloc HB2.out.size _).alloc (by have := HB2.out.size; simp; omega) _
 have hz4 : ((w2.alloc (.cells #[.int .i64 3, .int .i64 0, .int .u64 0, .string ⟨#[97]⟩, .slice none 0 0, .int .i64 0, .int .i64 0, .bool false, .int .i64 0, .int .i64 0, .slice none 0 0, .bool false, .slice none 0 0, .int .i64 3, .int .i64 0, .int .u64 0, .string ⟨#[98]⟩, .slice none 0 0, .int .i64 0, .int .i64 0, .bool false, .int .i64 0, .int .i64 0, .slice none 0 0, .bool false, .slice none 0 0] 27)).alloc (.cells #[.int .i64 6, .int .i64 7, .int .u64 0, .string ⟨#[]⟩, .slice none 0 0, .int .i64 0, .int .i64 0, .bool false, .int .i64 0, .int .i64 0, .slice none 0 0, .bool false, .slice (some ⟨w2.heap.size, 0, none⟩) 2 2] 27)).heap.size = w2.heap.size + 1 + 1 := by simp
 generalize (w2.alloc (.cells _ 27)).alloc (.cells _ 27) = w4 at *
 have HSS : Hid (∀ W, Below w4.heap.size w4 W → C13 W (w2.heap.size + 1) (askP 7 w2.heap.size) 2) := fun W hW => blk13 (h := askP 7 w2.heap.size) (n := 2) (hbs.below hW)
 have H9x : Hid (∀ (c : UInt8) (W : World), Calls Tryz.prog 9 #[.string ⟨#[c]⟩] W fun e w' => e = .returned (.agg #[.int .i64 3, .int .i64 0, .int .u64 0, .string ⟨#[c]⟩, .slice none 0 0, .int .i64 0, .int .i64 0, .bool false, .int .i64 0, .int .i64 0, .slice none 0 0, .bool false, .slice none 0 0]) ∧ W.alloc (.cells #[.int .i64 3, .int .i64 0, .int .u64 0, .string ⟨#[c]⟩, .slice none 0 0, .int .i64 0, .int .i64 0, .bool false, .int .i64 0, .int .i64 0, .slice none 0 0, .bool false, .slice none 0 0] 27) = w') := fun c W => word_any ⟨#[c]⟩ W
 have HBS := hid hbs
 have HBA := hid hba
 have HB4 := hid hb4
 clear hbs hba hb4
 go_cut [2] from 11 to 16 (fun s2 wx => ∃ b2, s2 = .pointer (some ⟨b2, 0, none⟩) ∧ Hid (EG w b2 wx))
 case first =>
  go_region_held3 (fun W => C13 W (w2.heap.size + 1) (askP 7 w2.heap.size) 2)
   (exact HSS.out _ (by repeat (first | exact Below.refl _ _ | refine Below.drew ?_ | (refine Below.alloc ?_ (by simp; try omega) _) | (refine Below.setCell ?_ (by simp; try omega) _))))
   (first | (go_at_call 9; refine (H9x.out 99 _).mono ?_; rintro e w' ⟨rfl, rfl⟩))
  · go_wp2_with fail
    go_meet
    case rel =>
     exact ⟨_, rfl, hid (eg_of HB4.out HBA.out (B2 := w2.heap.size + 1 + 1 + 1) (B3 := w2.heap.size + 1 + 1 + 1 + 1) (by repeat (first | exact Below.refl _ _ | refine Below.drew ?_ | (refine Below.alloc ?_ (by simp; try omega) _))) (blk_drew (blk_top _ _ (by simp only [World.size_alloc, hz4]) rfl)) (blk_drew (((blk_top _ _ (by simp only [World.size_alloc, hz4]) rfl).alloc _).alloc _)) (blk_drew ((blk_top _ _ (by simp only [World.size_alloc, hz4]) rfl).alloc _)))⟩
  · go_wp2_with fail
    go_meet
    case rel =>
     exact ⟨_, rfl, hid (eg_of HB4.out HBA.out (B2 := w2.heap.size + 1 + 1 + 1) (B3 := w2.heap.size + 1 + 1 + 1 + 1 + 1) (by repeat (first | exact Below.refl _ _ | refine Below.drew ?_ | (refine Below.alloc ?_ (by simp; try omega) _))) (blk_drew ((blk_top _ _ (by simp only [World.size_alloc, hz4]) rfl).alloc _)) (blk_drew (((blk_top _ _ (by simp only [World.size_alloc, hz4]) rfl).alloc _).alloc _)) (blk_drew (blk_top _ _ (by simp only [World.size_alloc, hz4]) rfl)))⟩
  · go_wp2_with fail
    go_meet
    case rel =>
     exact ⟨_, rfl, hid (eg_of HB4.out HBA.out (B2 := w2.heap.size + 1 + 1 + 1 + 1) (B3 := w2.heap.size + 1 + 1 + 1 + 1 + 1) (by repeat (first | exact Below.refl _ _ | refine Below.drew ?_ | (refine Below.alloc ?_ (by simp; try omega) _))) (blk_drew (((blk_top _ _ (by simp only [World.size_alloc, hz4]) rfl).alloc _).alloc _)) (blk_drew ((blk_top _ _ (by simp only [World.size_alloc, hz4]) rfl).alloc _)) (blk_drew (blk_top _ _ (by simp only [World.size_alloc, hz4]) rfl)))⟩
  · go_wp2_with fail
    go_meet
    case rel =>
     exact ⟨_, rfl, hid (eg_of HB4.out HBA.out (B2 := w2.heap.size + 1 + 1 + 1 + 1) (B3 := w2.heap.size + 1 + 1 + 1 + 1 + 1) (by repeat (first | exact Below.refl _ _ | refine Below.drew ?_ | (refine Below.alloc ?_ (by simp; try omega) _))) (blk_drew ((((blk_top _ _ (by simp only [World.size_alloc, hz4]) rfl).alloc _).alloc _).alloc _)) (blk_drew ((blk_top _ _ (by simp only [World.size_alloc, hz4]) rfl).alloc _)) (blk_drew (blk_top _ _ (by simp only [World.size_alloc, hz4]) rfl)))⟩
 case rest =>
  obtain ⟨b2, rfl, HG⟩ := hcut
  obtain ⟨B1, B2, B3, hbe, hle, hbb⟩ := HG.out
  have HP := hid (fun W (hW : Below wc.heap.size wc W) => print_any (askT B1 B2 B3) W (HT.out.below (hbb.trans (hW.mono hbb.size))) (HE.out.below (hbb.trans (hW.mono hbb.size))) (hle.below hW) (ask_right B1 B2 B3) (ask_short B1 B2 B3) _ (ask_print B1 B2 B3))
  have HN := hid (fun W (hW : Below wc.heap.size wc W) => by
   have := nest_any (askT B1 B2 B3) W (hle.below hW) (by have := (short_size (ask_short B1 B2 B3)).2; omega)
   rw [ask_nest] at this
   exact this)
  have HQ := hid (fun W (hW : Below wc.heap.size wc W) => right_any (askT B1 B2 B3) W (HT.out.below (hbb.trans (hW.mono hbb.size))) (hle.below hW) (by have := (short_size (ask_short B1 B2 B3)).2; omega) (ask_right B1 B2 B3))
  have HZ := hid (fun W => print_zero W)
  have HC := hid (fun W (hW : Below wc.heap.size wc W) => Er.code_is 6 (by decide) W (err_below HR.out (hbb.trans (hW.mono hbb.size))))
  have HBE := hid hbe
  have HBB := hid hbb
  have e : valT (askT B1 B2 B3) = .agg #[.int .i64 6, .int .i64 9, .int .u64 0, .string ⟨#[]⟩, .slice none 0 0, .int .i64 0, .int .i64 0, .bool false, .int .i64 0, .int .i64 0, .slice none 0 0, .bool false, .slice (some ⟨B3, 0, none⟩) 2 2] := rfl
  rw [e] at HP HN HQ
  have HCE : Hid (∀ W, Below wc.heap.size wc W → C13 W b2 (askP 9 B3) 2) := fun W hW => blk13 (h := askP 9 B3) (n := 2) (HBE.out.below hW)
  clear hle hbb HT HE HR HSS HBS HBA HB4 H9x H9 HG hbe e
  obtain ⟨c0, c1, c2, c3, c4, c5, c6, c7, c8, c9, c10, c11, c12⟩ := HCE.out _ (Below.refl _ _)
  unfold askP at c0 c1 c2 c3 c4 c5 c6 c7 c8 c9 c10 c11 c12
  dsimp only at c0 c1 c2 c3 c4 c5 c6 c7 c8 c9 c10 c11 c12
  go_wp2_with fail
  refine (HP.out _ (Below.refl _ _)).mono ?_
  rintro e w5 ⟨rfl, hb5⟩
  have HB5 := hid hb5
  clear hb5 c0 c1 c2 c3 c4 c5 c6 c7 c8 c9 c10 c11 c12 HP
  go_wp2_with fail
  refine (HZ.out _).mono ?_
  rintro e w6 ⟨rfl, hb6⟩
  have HB6 := hid (HB5.out.trans (hb6.mono HB5.out.size))
  clear hb6 HZ
  obtain ⟨c0, c1, c2, c3, c4, c5, c6, c7, c8, c9, c10, c11, c12⟩ := HCE.out _ HB6.out
  unfold askP at c0 c1 c2 c3 c4 c5 c6 c7 c8 c9 c10 c11 c12
  dsimp only at c0 c1 c2 c3 c4 c5 c6 c7 c8 c9 c10 c11 c12
  go_wp2_with fail
  refine (HN.out _ HB6.out).mono ?_
  rintro e w7 ⟨rfl, hb7⟩
  have HB7 := hid (HB6.out.trans (hb7.mono HB6.out.size))
  clear hb7 HN c0 c1 c2 c3 c4 c5 c6 c7 c8 c9 c10 c11 c12
  obtain ⟨c0, c1, c2, c3, c4, c5, c6, c7, c8, c9, c10, c11, c12⟩ := HCE.out _ HB7.out
  unfold askP at c0 c1 c2 c3 c4 c5 c6 c7 c8 c9 c10 c11 c12
  dsimp only at c0 c1 c2 c3 c4 c5 c6 c7 c8 c9 c10 c11 c12
  go_wp2_with fail
  refine (HQ.out _ HB7.out).mono ?_
  rintro e w8 ⟨rfl, hb8⟩
  have HB8 := hid (HB7.out.trans (hb8.mono HB7.out.size))
  clear hb8 HQ c0 c1 c2 c3 c4 c5 c6 c7 c8 c9 c10 c11 c12
  go_wp2_with fail
  refine (HC.out _ HB8.out).mono ?_
  rintro e w9 ⟨rfl, hb9⟩
  have HB9 := hid (HBB.out.trans ((HB8.out.trans (hb9.mono HB8.out.size)).mono HBB.out.size))
  clear hb9 HC
  go_wp2_with fail
  go_ret
  exact ⟨rfl, HB9.out⟩
end Go.Proofs.YticmkabafmmlhaaGreatDoor.Ck

set_option linter.unusedVariables false
set_option linter.unusedSimpArgs false
set_option maxHeartbeats 8000000
namespace Go.Proofs.YticmkabafmmlhaaGreatDoor.Ck
open Go.RowKit
open Lib (hid)
set_option maxRecDepth 100000
theorem dright_any (t : Tr) (w : World) (hL : Lies w t) (hs : shortF t = true) : Calls Tryz.prog 6 #[valT t] w fun e w' => e = .returned (.bool (rightF okHd t)) ∧ Below w.heap.size w w' := by
 have h25 : ∀ W, Below w.heap.size w W → Calls Tryz.prog 14 #[valT t] W fun e w' => e = .returned (.bool (allF okHd t)) ∧ Below W.heap.size W w' := fun W hW => right_doc _ t (Nat.le_refl _) W (hL.below hW) hs
 have h10 : ∀ W, Below w.heap.size w W → Calls Tryz.prog 15 #[valT t] W fun e w' => e = .returned (.int .i64 (nestF t : Nat)) ∧ Below W.heap.size W w' := fun W hW => dnest_any 300 t (short_size hs).2 (by decide) W (hL.below hW)
 unfold rightF
 obtain ⟨z, hz⟩ : ∃ z, nestF t = z := ⟨_, rfl⟩
 obtain ⟨q, hq⟩ : ∃ q, allF okHd t = q := ⟨_, rfl⟩
 rw [hq] at h25 ⊢
 rw [hz] at h10 ⊢
 obtain ⟨rr, hrr⟩ : ∃ rr, (decide (z ≤ 64) && q) = rr := ⟨_, rfl⟩
 rw [hrr]
 have HRR := hid hrr
 have hb1 : Below w.heap.size w (w.alloc (.cells (cellsT t).toArray 27)) := (Below.refl _ _).alloc (Nat.le_refl _) _
 have hk1 := Blk.new w 27 (cellsT t).toArray
 clear hz hq hs hL hrr
 obtain ⟨h, ks⟩ := t
 rw [valT_arr] at h25 h10 ⊢
 have H25 := hid h25
 have H10 := hid h10
 have HB1 : Hid (Below w.heap.size w (w.alloc (.cells (arr h ks.length) 27))) := hb1
 have HK1 : Hid (Blk (w.alloc (.cells (arr h ks.length) 27)) w.heap.size 27 (arr h ks.length)) := hk1
 clear h25 h10 hb1 hk1
 unfold arr at *
 go_enter Tryz.func6, Tryz.ntmps6
 go_wp2_with fail
 refine (H25.out _ HB1.out).mono ?_
 rintro e w2 ⟨rfl, hb2⟩
 have HK2 := hid (HK1.out.below hb2)
 have HB2 := hid (HB1.out.trans (hb2.mono HB1.out.size))
 clear hb2 H25 HK1 HB1
 obtain ⟨c0, c1, c2, c3, c4, c5, c6, c7, c8, c9, c10, c11, c12⟩ := blk13 (h := h) (n := ks.length) HK2.out
 cases q with
 | false =>
   obtain rfl : false = rr := by rw [← HRR.out, Bool.and_false]
   go_wp2_with fail
   go_ret
   exact ⟨rfl, HB2.out⟩
 | true =>
   go_wp2_with fail
   refine (H10.out _ HB2.out).mono ?_
   rintro e w3 ⟨rfl, hb3⟩
   have HB3 := hid (HB2.out.trans (hb3.mono HB2.out.size))
   clear hb3 H10 HB2 c0 c1 c2 c3 c4 c5 c6 c7 c8 c9 c10 c11 c12
   obtain rfl : decide ((z : Int) ≤ 64) = rr := by rw [← HRR.out, Bool.and_true, Bool.eq_iff_iff, decide_eq_true_eq, decide_eq_true_eq]; omega
   go_wp2_with fail
   go_ret
   exact ⟨rfl, HB3.out⟩
def InB (T S : ByteArray) : Prop := ∃ p, p + T.size ≤ S.size ∧ S.extract p (p + T.size) = T
theorem cut_at (x t y : List UInt8) : (⟨(x ++ t ++ y).toArray⟩ : ByteArray).extract x.length (x.length + t.length) = ⟨t.toArray⟩ := by
 apply ByteArray.ext
 rw [ByteArray.data_extract]
 simp
theorem inB_of {a s : List UInt8} (h : InT a s) : InB ⟨a.toArray⟩ ⟨s.toArray⟩ := by
 obtain ⟨x, y, rfl⟩ := h
 have e : (⟨a.toArray⟩ : ByteArray).size = a.length := by rw [Lib.size_eq]
 refine ⟨x.length, ?_, ?_⟩
 · rw [e, Lib.size_eq]
   simp only [List.length_append]
   omega
 · rw [e]; exact cut_at x a y
theorem nest_kid {h : Hd} {ks : List Tr} {t : Tr} (hr : rightF okHd (.mk h ks) = true) (ht : t ∈ ks) : nestF t ≤ nestF (.mk h ks) := by
 unfold rightF at hr
 rw [Bool.and_eq_true, decide_eq_true_eq, allF, Bool.and_eq_true] at hr
 obtain ⟨_, h2, _⟩ := hr
 have hk := okR.kind _ _ h2
 have hl : ks.length ≠ 0 := by intro h0; rw [List.length_eq_zero_iff.1 h0] at ht; cases ht
 have hh : hasKidsF h.k = true := by
  unfold hasKidsF
  rw [decide_eq_true_eq]
  have := okR.bare _ _ h2
  omega
 have := nestL_mem (h := h) (n := ks.length) (i := 0) ht
 rw [nestF, if_pos hh, if_neg hl]
 exact this
theorem sl_str (s : ByteArray) (i j : Nat) (h1 : i ≤ j) (h2 : j ≤ s.size) (W : World) : (Instr.slice 9 (.string s) (some (.int .i64 (i : Int))) (some (.int .i64 (j : Int))) none).run Tryz.prog W = .ok (.string (s.extract i j)) W := by
 have := run_slice_string (P := Tryz.prog) W 9 s .i64 .i64 (i : Int) (j : Int) Tryz.underlying9 (by omega) (by omega) (by omega)
 simpa using this
abbrev LS (w6 : World) (a b o : Nat) (h g : Hd) (n m : Nat) (W : World) : Prop := (C13 W a h n ∧ C13k W b o g m) ∧ Below w6.heap.size w6 W
structure KidOk (w : World) (S : ByteArray) (N : Nat) (x : Tr) : Prop where
 pr : ∃ T : ByteArray, InB T S ∧ ∀ W, Below w.heap.size w W → Calls Tryz.prog 7 #[valT x] W fun e w' => e = .returned (.tuple #[.string T, .nilIface]) ∧ Below W.heap.size W w'
 ne : ∃ m : Nat, m ≤ N ∧ ∀ W, Below w.heap.size w W → Calls Tryz.prog 8 #[valT x] W fun e w' => e = .returned (.int .i64 (m : Int)) ∧ Below W.heap.size W w'
theorem tree_law (t : Tr) (w : World) (hT : Tabl w) (hE : Env w) (hR : Er.ErrT w) (hL : Lies w t) : Calls Tryz.prog 3 #[valT t] w fun e w' => e = .returned (.bool true) ∧ Below w.heap.size w w' := by
 obtain ⟨r, hr⟩ : ∃ r, shortF t = r := ⟨_, rfl⟩
 obtain ⟨q, hq⟩ : ∃ q, rightF okHd t = q := ⟨_, rfl⟩
 have h4 : ∀ W, Below w.heap.size w W → Calls Tryz.prog 4 #[] W fun e w' => e = .returned (.bool true) ∧ Below W.heap.size W w' := fun W hW => awake_any W (hT.below hW) (hE.below hW) (err_below hR hW)
 have h5 : ∀ W, Below w.heap.size w W → Calls Tryz.prog 5 #[valT t] W fun e w' => e = .returned (.bool r) ∧ Below W.heap.size W w' := fun W hW => by
  rw [← hr]; exact short_any _ t (Nat.le_refl _) W (hL.below hW)
 have h6 : r = true → ∀ W, Below w.heap.size w W → Calls Tryz.prog 6 #[valT t] W fun e w' => e = .returned (.bool q) ∧ Below W.heap.size W w' := fun h1 W hW => by
  subst h1
  rw [← hq]; exact dright_any t W (hL.below hW) hr
 obtain ⟨S, hS⟩ : ∃ S : ByteArray, (⟨(printF t).toArray⟩ : ByteArray) = S := ⟨_, rfl⟩
 have hSl : r = true → q = true → S.size ≤ 6000000 := fun h1 h2 => by
  subst h1 h2
  have hq2 := hq
  unfold rightF at hq2
  rw [Bool.and_eq_true] at hq2
  have := print_len t hq2.2 hr
  have := (short_size hr).2
  rw [← hS, Lib.size_eq]
  show (printF t).length ≤ _
  omega
 have h7 : r = true → q = true → ∀ W, Below w.heap.size w W → Calls Tryz.prog 7 #[valT t] W fun e w' => e = .returned (.tuple #[.string S, .nilIface]) ∧ Below W.heap.size W w' := fun h1 h2 W hW => by
  subst h1 h2
  exact print_any t W (hT.below hW) (hE.below hW) (hL.below hW) hq hr S hS
 obtain ⟨z, hz⟩ : ∃ z, nestF t = z := ⟨_, rfl⟩
 have h8 : r = true → ∀ W, Below w.heap.size w W → Calls Tryz.prog 8 #[valT t] W fun e w' => e = .returned (.int .i64 (z : Int)) ∧ Below W.heap.size W w' := fun h1 W hW => by
  subst h1
  rw [← hz]; exact nest_any t W (hL.below hW) (by have := (short_size hr).2; omega)
 have hkk : r = true → q = true → ∀ k, k < t.ks.length → KidOk w S z (t.ks.getD k t0) := fun h1 h2 k hk => by
  subst h1 h2
  obtain ⟨h, ks⟩ := t
  have hk : k < ks.length := hk
  have hm : ks.getD k t0 ∈ ks := by rw [List.getD_eq_getElem?_getD, List.getElem?_eq_getElem hk]; exact List.getElem_mem hk
  have hl := hL
  rw [Lies] at hl
  have k1 := kid_right okR hq hm
  have k2 := short_mem hr _ hm
  have k3 := hl.2.2.2.2.2.mem hm
  have hok : okHd h ks.length = true := by
   have := hq
   unfold rightF at this
   rw [Bool.and_eq_true, allF, Bool.and_eq_true] at this
   exact this.2.1
  exact ⟨⟨_, by rw [← hS]; exact inB_of (kid_in h ks k hk hok), fun W hW => print_any _ W (hT.below hW) (hE.below hW) (k3.below hW) k1 k2 _ rfl⟩,
   ⟨_, by rw [← hz]; exact nest_kid hq hm, fun W hW => nest_any _ W (k3.below hW) (Nat.le_trans (short_size k2).2 (by decide))⟩⟩
 have hb1 : Below w.heap.size w (w.alloc (.cells (cellsT t).toArray 27)) := (Below.refl _ _).alloc (Nat.le_refl _) _
 have hk1 := Blk.new w 27 (cellsT t).toArray
 obtain ⟨h, ks⟩ := t
 have hl1 := hL
 rw [Lies] at hl1
 have htr := hl1.2.2.2.2.1
 have hkl := hl1.2.1
 obtain ⟨n, hn⟩ : ∃ n, ks.length = n := ⟨_, rfl⟩
 rw [valT_arr] at h5 h6 h7 h8 ⊢
 rw [hn] at h5 h6 h7 h8 hkl ⊢
 have H4 := hid h4
 have H5 := hid h5
 have H6 := hid h6
 have H7 := hid h7
 have H8 := hid h8
 have HKK := hid hkk
 have HSL := hid hSl
 have HTR := hid htr
 have HN := hid hn
 have HB1' : Hid (Below w.heap.size w (w.alloc (.cells (arr h n) 27))) := by rw [← hn]; exact hb1
 have HK1 : Hid (Blk (w.alloc (.cells (arr h n) 27)) w.heap.size 27 (arr h n)) := by rw [← hn]; exact hk1
 clear h4 h5 h6 h7 h8 hkk hSl htr hb1 hk1 hl1 hT hE hR hL hr hq hz hS hn
 unfold arr at *
 go_enter Tryz.func3, Tryz.ntmps3
 go_wp2_with fail
 refine (H4.out _ HB1'.out).mono ?_
 rintro e w2 ⟨rfl, hb2⟩
 have HK2 := hid (HK1.out.below hb2)
 have HB2 := hid (HB1'.out.trans (hb2.mono HB1'.out.size))
 clear hb2 H4 HK1 HB1'
 obtain ⟨c0, c1, c2, c3, c4, c5, c6, c7, c8, c9, c10, c11, c12⟩ := blk13 (h := h) (n := n) HK2.out
 go_wp2_with fail
 refine (H5.out _ HB2.out).mono ?_
 rintro e w3 ⟨rfl, hb3⟩
 have HK3 := hid (HK2.out.below hb3)
 have HB3 := hid (HB2.out.trans (hb3.mono HB2.out.size))
 clear hb3 H5 HK2 HB2 c0 c1 c2 c3 c4 c5 c6 c7 c8 c9 c10 c11 c12
 cases r with
 | false =>
   go_wp2_with fail
   go_ret
   exact ⟨rfl, HB3.out⟩
 | true =>
   obtain ⟨c0, c1, c2, c3, c4, c5, c6, c7, c8, c9, c10, c11, c12⟩ := blk13 (h := h) (n := n) HK3.out
   go_wp2_with fail
   refine (H6.out (by simp) _ HB3.out).mono ?_
   rintro e w4 ⟨rfl, hb4⟩
   have HK4 := hid (HK3.out.below hb4)
   have HB4 := hid (HB3.out.trans (hb4.mono HB3.out.size))
   clear hb4 H6 HK3 HB3 c0 c1 c2 c3 c4 c5 c6 c7 c8 c9 c10 c11 c12
   cases q with
   | false =>
     go_wp2_with fail
     go_ret
     exact ⟨rfl, HB4.out⟩
   | true =>
     obtain ⟨c0, c1, c2, c3, c4, c5, c6, c7, c8, c9, c10, c11, c12⟩ := blk13 (h := h) (n := n) HK4.out
     go_wp2_with fail
     refine (H7.out (by simp) (by simp) _ HB4.out).mono ?_
     rintro e w5 ⟨rfl, hb5⟩
     have HK5 := hid (HK4.out.below hb5)
     have HB5 := hid (HB4.out.trans (hb5.mono HB4.out.size))
     have hSs := HSL.out (by simp) (by simp)
     clear hb5 H7 HK4 HB4 c0 c1 c2 c3 c4 c5 c6 c7 c8 c9 c10 c11 c12
     go_wp2_with fail
     go_loopg [5] n (fun gq s5 wx => ∃ k : Nat, k ≤ n ∧ n ≤ gq + k ∧ s5 = .int .i64 (k : Int) ∧ Hid (Below w.heap.size w wx) ∧ Hid (Blk wx w.heap.size 27 (arr h n)))
     case atStart => exact ⟨0, Nat.zero_le _, Nat.le_refl _, rfl, HB5, HK5⟩
     case round =>
      clear HK5 HB5
      obtain ⟨k, hkn, hg, rfl, HBX, HKX⟩ := hrel
      have HC := hid (fun W (hW : Below wr.heap.size wr W) => blk13 (h := h) (n := n) (HKX.out.below hW))
      have k12 := (HC.out _ (Below.refl _ _)).2.2.2.2.2.2.2.2.2.2.2.2
      by_cases hlt : k < n
      · have hki : (k : Int) < (n : Int) := by omega
        obtain ⟨⟨T, hin, hpr⟩, ⟨m, hmz, hne⟩⟩ := HKK.out (by simp) (by simp) k (by show k < ks.length; rw [HN.out]; exact hlt)
        obtain ⟨b, off, hA, hb, hc⟩ := HTR.out (by rw [HN.out]; omega)
        cases ht : ks.getD k t0 with
        | mk h2 ks2 =>
          have hix := fun W => index_kid h.ka n h.kc k b off hA hlt W
          have hc0 : C13k w b (off + k * 13) h2 ks2.length := Trs.at hc (by rw [HN.out]; exact hlt) ht
          have HCK : Hid (∀ W, Below w.heap.size w W → C13k W b (off + k * 13) h2 ks2.length) := fun W hW => by
           obtain ⟨c0, c1, c2, c3, c4, c5, c6, c7, c8, c9, c10, c11, c12⟩ := hc0
           exact ⟨(hW.cell (p := ⟨b, off + k * 13, none⟩) hb).trans c0, (hW.cell (p := ⟨b, off + k * 13 + 1, none⟩) hb).trans c1, (hW.cell (p := ⟨b, off + k * 13 + 2, none⟩) hb).trans c2, (hW.cell (p := ⟨b, off + k * 13 + 3, none⟩) hb).trans c3, (hW.cell (p := ⟨b, off + k * 13 + 4, none⟩) hb).trans c4, (hW.cell (p := ⟨b, off + k * 13 + 5, none⟩) hb).trans c5, (hW.cell (p := ⟨b, off + k * 13 + 6, none⟩) hb).trans c6, (hW.cell (p := ⟨b, off + k * 13 + 7, none⟩) hb).trans c7, (hW.cell (p := ⟨b, off + k * 13 + 8, none⟩) hb).trans c8, (hW.cell (p := ⟨b, off + k * 13 + 9, none⟩) hb).trans c9, (hW.cell (p := ⟨b, off + k * 13 + 10, none⟩) hb).trans c10, (hW.cell (p := ⟨b, off + k * 13 + 11, none⟩) hb).trans c11, (hW.cell (p := ⟨b, off + k * 13 + 12, none⟩) hb).trans c12⟩
          have hp2 : ∀ W, Below w.heap.size w W → Calls Tryz.prog 7 #[valT (.mk h2 ks2)] W fun e w' => e = .returned (.tuple #[.string T, .nilIface]) ∧ Below W.heap.size W w' := by rw [← ht]; exact hpr
          have hn2 : ∀ W, Below w.heap.size w W → Calls Tryz.prog 8 #[valT (.mk h2 ks2)] W fun e w' => e = .returned (.int .i64 (m : Int)) ∧ Below W.heap.size W w' := by rw [← ht]; exact hne
          rw [valT_arr] at hp2 hn2
          have HP2 := hid hp2
          have HN2 := hid hn2
          have HIN := hid hin
          have hmz2 : ¬ (z : Int) < (m : Int) := by omega
          obtain ⟨g', rfl⟩ : ∃ g', gk = g' + 1 := ⟨gk - 1, by omega⟩
          clear hA hc hc0 ht hpr hne hp2 hn2 hin hb hmz
          unfold arr at HP2 HN2
          obtain ⟨d0, d1, d2, d3, d4, d5, d6, d7, d8, d9, d10, d11, d12⟩ := HCK.out _ HBX.out
          go_wp2_with fail
          refine (HP2.out _ HBX.out).mono ?_
          rintro e w6 ⟨rfl, hb6⟩
          have HB6 := hid hb6
          clear hb6 HP2 d0 d1 d2 d3 d4 d5 d6 d7 d8 d9 d10 d11 d12 k12
          go_upto_region 12 with fail
          have hb6 : Below w.heap.size w w6 := HBX.out.trans (HB6.out.mono HBX.out.size)
          have HSS : Hid (∀ W, Below w6.heap.size w6 W → LS w6 w.heap.size b (off + k * 13) h h2 n ks2.length W) := fun W hW => ⟨⟨HC.out _ (HB6.out.trans (hW.mono HB6.out.size)), HCK.out _ (hb6.trans (hW.mono hb6.size))⟩, hW⟩
          have HN3 : Hid (∀ W, Below w6.heap.size w6 W → Calls Tryz.prog 8 #[.agg #[.int .i64 h2.k, .int .i64 h2.o, .int .u64 (h2.v : Int), .string h2.s, .slice h2.ma h2.ms.length h2.mc, .int .i64 h2.wd, .int .i64 h2.off, .bool h2.ha, .int .i64 h2.tm, .int .i64 h2.how, .slice h2.na h2.ns.length h2.nc, .bool h2.bo, .slice h2.ka ks2.length h2.kc]] W fun e w' => e = .returned (.int .i64 (m : Int)) ∧ Below w6.heap.size w6 w') := fun W hW => (HN2.out W (hb6.trans (hW.mono hb6.size))).mono fun e w' hq => ⟨hq.1, hW.trans (hq.2.mono hW.size)⟩
          have HN4 : Hid (∀ W, Below w6.heap.size w6 W → Calls Tryz.prog 8 #[.agg #[.int .i64 h.k, .int .i64 h.o, .int .u64 (h.v : Int), .string h.s, .slice h.ma h.ms.length h.mc, .int .i64 h.wd, .int .i64 h.off, .bool h.ha, .int .i64 h.tm, .int .i64 h.how, .slice h.na h.ns.length h.nc, .bool h.bo, .slice h.ka n h.kc]] W fun e w' => e = .returned (.int .i64 (z : Int)) ∧ Below w6.heap.size w6 w') := fun W hW => (H8.out (by simp) W (hb6.trans (hW.mono hb6.size))).mono fun e w' hq => ⟨hq.1, hW.trans (hq.2.mono hW.size)⟩
          have HB6' := hid hb6
          clear hb6 HN2
          go_cut [55] from 43 to 55 (fun s55 wx => s55 = .bool false ∧ Hid (Below w6.heap.size w6 wx))
          case first =>
           go_region_held3 (fun W => LS w6 w.heap.size b (off + k * 13) h h2 n ks2.length W)
            (first | (exact HSS.out _ (Rg.bel_drawn (Below.refl _ _) 1)) | (exact HSS.out _ hb5) | assumption)
            (first
              | (have hS0 := ‹LS w6 w.heap.size b (off + k * 13) h h2 n ks2.length _›
                 (with_reducible refine (HN3.out _ hS0.2).mono ?_)
                 rintro e w' ⟨rfl, hb5⟩)
              | (have hS0 := ‹LS w6 w.heap.size b (off + k * 13) h h2 n ks2.length _›
                 (with_reducible refine (HN4.out _ hS0.2).mono ?_)
                 rintro e w' ⟨rfl, hb5⟩))
           all_goals (
            have hLS := hid (‹LS w6 w.heap.size b (off + k * 13) h h2 n ks2.length _›).2
            go_wp2_with fail
            go_meet
            case rel => exact ⟨by first | rfl | rw [decide_eq_false (show ¬ z < m by omega)], hLS⟩)
          case rest =>
           obtain ⟨rfl, HBC⟩ := hcut
           obtain ⟨p, hp1, hp2⟩ := HIN.out
           have HP1 := hid hp1
           have HP2' := hid hp2
           clear hp1 hp2 HIN HN3 HN4 HSS HC HCK HKK
           go_wp2_with fail
           go_loopw [8, 9] (fun s8 s9 wx => ∃ (j : Nat) (f : Bool), s8 = .bool f ∧ s9 = .int .i64 (j : Int) ∧ j ≤ S.size + 1 ∧ (p < j → f = true) ∧ Hid (Below wc.heap.size wc wx)) (fun _ s9 _ => S.size + 1 - (intOf s9).toNat)
           case atStart => exact ⟨0, false, rfl, rfl, by omega, (fun h => by omega), Below.refl _ _⟩
           case round =>
            obtain ⟨j, f, rfl, rfl, hj, hpf, HBY⟩ := hrel
            have hpf' := hid hpf
            clear hpf
            by_cases hle : j + T.size ≤ S.size
            · have hwr : IntKind.i64.wrap ((j : Int) + (T.size : Int)) = (j : Int) + (T.size : Int) := by rw [IntKind.wrap_i64]; omega
              have hlei : (j : Int) + (T.size : Int) ≤ (S.size : Int) := by omega
              cases f with
              | true =>
                go_wp2_with fail
                go_roundw
                case rel => exact ⟨j + 1, true, rfl, by go_num, by omega, (fun _ => rfl), HBY⟩
                case measure => simp [intOf]; omega
              | false =>
                have hsl : ∀ W, (Instr.slice 9 (.string S) (some (.int .i64 (j : Int))) (some (.int .i64 ((j : Int) + (T.size : Int)))) none).run Tryz.prog W = .ok (.string (S.extract j (j + T.size))) W := fun W => sl_str S j (j + T.size) (by omega) hle W
                obtain ⟨q, hq⟩ : ∃ q, ((S.extract j (j + T.size)).toList == T.toList) = q := ⟨_, rfl⟩
                have hpq : p < j + 1 → q = true := fun h => by
                 by_cases e : p = j
                 · subst e
                   rw [← hq, HP2'.out]
                   exact beq_self_eq_true _
                 · have := hpf'.out (by omega)
                   cases this
                have HPQ := hid hpq
                clear hpq
                go_wp2_with fail
                go_roundw
                case rel => exact ⟨j + 1, q, rfl, by go_num, by omega, HPQ.out, HBY⟩
                case measure => simp [intOf]; omega
            · have hwr : IntKind.i64.wrap ((j : Int) + (T.size : Int)) = (j : Int) + (T.size : Int) := by rw [IntKind.wrap_i64]; have := HP1.out; omega
              have hlei : ¬ (j : Int) + (T.size : Int) ≤ (S.size : Int) := by omega
              obtain rfl : f = true := hpf'.out (by have := HP1.out; omega)
              have HBZ := hid (HB6'.out.trans ((HBC.out.trans (HBY.out.mono HBC.out.size)).mono HB6'.out.size))
              have HKZ := hid (HKX.out.below (HB6.out.trans ((HBC.out.trans (HBY.out.mono HBC.out.size)).mono HB6.out.size)))
              go_wp2_with fail
              go_roundg g'
              case measure => omega
              case rel => exact ⟨k + 1, by omega, by omega, by go_num, HBZ, HKZ⟩
      · have hki : ¬ (k : Int) < (n : Int) := by omega
        go_wp2_with fail
        go_ret
        exact ⟨rfl, HBX.out⟩
end Go.Proofs.YticmkabafmmlhaaGreatDoor.Ck

/- Lemmas. No condition. -/
import Derived.Test.YtaggmakaceafgaaGreatDoorE1
import Derived.Test.YtaggmakaceafgaaGreatDoorB7
import Derived.Test.YtaggmakaceafgaaGreatDoorCx
namespace Go.Proofs.YtaggmakaceafgaaGreatDoor.Er
open Go.RowKit
set_option linter.unusedVariables false

theorem cell_set_self {W : World} {j : Nat} {v x : Value} (h : W.cell? ⟨j, 0, none⟩ = some x) : (W.setCell ⟨j, 0, none⟩ v).cell? ⟨j, 0, none⟩ = some v := by
  exact World.cell?_setCell_same' _ _ _ (by rw [h]; rfl)
theorem errT_below {w w' : World} (h : ErrT w) (hb : Below w.heap.size w w') : ErrT w' := below_cell hb h
set_option maxRecDepth 100000 in
set_option maxHeartbeats 4000000 in
theorem fault_any (pl c : Nat) (f : Nat) (w : World) (hc : 0 < c) (hF : Blk w f 45 #[.int .i64 pl, .iface 38 (.int .i64 c)]) (he : ErrT w) :
    Calls Tryz.prog 17 #[.iface 43 (.pointer (some ⟨f, 0, none⟩)), .int .i64 pl, .int .i64 c] w fun e w' => e = .returned (.bool true) ∧ Below w.heap.size w w' := by
  have hfl : f < w.heap.size := hF.lt
  have H := Lib.hid (as_any_f ⟨f, 0, none⟩ w.heap.size (w.alloc (.cells #[.pointer none] 43)) (cell_kept _ he) (cell_made w _ 43) (World.frozen?_alloc_at _ _ _ _ rfl))
  have hz : decide ((c : Int) = 0) = false := by simp; omega
  have HF := Lib.hid hF
  have HEE := Lib.hid he
  clear he hF
  go_enter Tryz.func17, Tryz.ntmps17
  go_wp2_with fail
  refine (H.out).mono ?_
  rintro e w1 ⟨rfl, o1, o2, o3, o4, hw1⟩
  have hb1 : Below w.heap.size w w1 := by rw [hw1]; go_grown
  have hg : w1.cell? ⟨w.heap.size, 0, none⟩ = some (.pointer (some ⟨f, 0, none⟩)) := by
    rw [hw1]
    exact cell_set_self (cell_kept _ (cell_kept _ (cell_kept _ (cell_kept _ (cell_made w _ 43)))))
  have hF1 := HF.out.below hb1
  have hf0 := hF1.cell 0
  simp only [List.getElem?_toArray, List.getElem?_cons_zero] at hf0
  have HC := Lib.hid (code_fault f pl c hc w1 (errT_below HEE.out hb1) hF1)
  have HB := Lib.hid hb1
  clear hw1 hb1 hF1 H
  go_wp2_with fail
  refine (HC.out).mono ?_
  rintro e w2 ⟨rfl, hb2⟩
  have HB2 := Lib.hid (HB.out.trans (hb2.mono HB.out.size))
  clear hb2 HC
  go_wp2
  go_ret
  exact ⟨rfl, HB2.out⟩


set_option maxRecDepth 100000 in
theorem Fault_any (pl c : Nat) (f : Nat) (w : World) (hc : 0 < c) (hF : Blk w f 45 #[.int .i64 pl, .iface 38 (.int .i64 c)]) (he : ErrT w) :
    Calls Tryz.prog 10 #[.iface 43 (.pointer (some ⟨f, 0, none⟩)), .int .i64 pl, .int .i64 c] w fun e w' => e = .returned (.bool true) ∧ Below w.heap.size w w' := by
  have H := Lib.hid (fault_any pl c f w hc hF he)
  clear hF he
  go_enter Tryz.func10, Tryz.ntmps10
  go_wp2_with fail
  refine (H.out).mono ?_
  rintro e w1 ⟨rfl, hb⟩
  go_wp2_with fail
  go_ret
  exact ⟨rfl, hb⟩
theorem Fault_nil (pl : Nat) (w : World) : Calls Tryz.prog 10 #[.nilIface, .int .i64 pl, .int .i64 0] w fun e w' => e = .returned (.bool true) ∧ w = w' := by
  have H : ∀ W : World, Calls Tryz.prog 17 #[.nilIface, .int .i64 pl, .int .i64 0] W fun e w' => e = .returned (.bool true) ∧ W = w' := fun W => by
    go_enter Tryz.func17, Tryz.ntmps17
    go_wp2_with fail
    go_ret
    exact ⟨rfl, rfl⟩
  have HH := Lib.hid H
  clear H
  go_enter Tryz.func10, Tryz.ntmps10
  go_wp2_with fail
  refine (HH.out _).mono ?_
  rintro e w1 ⟨rfl, rfl⟩
  go_wp2_with fail
  go_ret
  exact ⟨rfl, rfl⟩
end Go.Proofs.YtaggmakaceafgaaGreatDoor.Er

namespace Go.Proofs.YtaggmakaceafgaaGreatDoor
open Go.RowKit Lx Er
set_option linter.unusedVariables false

/-! tokens, read; the lexer awake -/
def t0 : Tk := (0, 0, [])
def Toks (w : World) (A : Option Addr) (l : List Tk) : Prop :=
  0 < l.length → ∃ b, A = some ⟨b, 0, none⟩ ∧ b < w.heap.size ∧ ∀ i, i < l.length → w.cell? ⟨b, i * 3, none⟩ = some (.int .i64 ((l.getD i t0).1 : Int)) ∧ w.cell? ⟨b, i * 3 + 1, none⟩ = some (.int .i64 ((l.getD i t0).2.1 : Int)) ∧ w.cell? ⟨b, i * 3 + 2, none⟩ = some (.string ⟨(l.getD i t0).2.2.toArray⟩)
theorem Toks.below {w w' : World} {A : Option Addr} {l : List Tk} (h : Toks w A l) (hb : Below w.heap.size w w') : Toks w' A l := by
  intro hn
  obtain ⟨b, rfl, hlt, hc⟩ := h hn
  exact ⟨b, rfl, by have := hb.size; omega, fun i hi => ⟨(hb.cell (p := ⟨b, i * 3, none⟩) hlt).trans (hc i hi).1, (hb.cell (p := ⟨b, i * 3 + 1, none⟩) hlt).trans (hc i hi).2.1, (hb.cell (p := ⟨b, i * 3 + 2, none⟩) hlt).trans (hc i hi).2.2⟩⟩
theorem flatT_at (l : List Tk) (i : Nat) (h : i < l.length) : (flatT l)[i * 3]? = some (.int .i64 ((l.getD i t0).1 : Int)) ∧ (flatT l)[i * 3 + 1]? = some (.int .i64 ((l.getD i t0).2.1 : Int)) ∧ (flatT l)[i * 3 + 2]? = some (.string ⟨(l.getD i t0).2.2.toArray⟩) := by
  induction l generalizing i with
  | nil => simp at h
  | cons p a ih =>
    cases i with
    | zero => simp [flatT]
    | succ i =>
      have := ih i (by simpa using h)
      simp only [flatT]
      rw [show (i + 1) * 3 = i * 3 + 1 + 1 + 1 by omega]
      simpa using this
theorem addr_none (b off k : Nat) : (⟨b, off, none⟩ : Addr).add k = ⟨b, off + k, none⟩ := by unfold Addr.add; split <;> simp_all
theorem own_toks {w : World} {base : Nat} {v : Value} {l : List Tk} (h : w.ownsRow base 35 3 v l.length (flatT l)) : ∃ A c, v = .slice A l.length c ∧ Toks w A l := by
  rcases h.2 with ⟨hv, hn⟩ | ⟨g, cap, cur, hv, _⟩
  · exact ⟨none, 0, by rw [hv, hn], fun h0 => by omega⟩
  · subst hv
    refine ⟨_, cap, rfl, fun h0 => ⟨g, rfl, (h.lt g rfl).2, fun i hi => ?_⟩⟩
    have c := h.cells (g := g) rfl
    have f := flatT_at l i hi
    have e1 : (⟨g, 0, none⟩ : Addr).add (i * 3) = ⟨g, i * 3, none⟩ := by rw [addr_none]; simp
    have e2 : (⟨g, 0, none⟩ : Addr).add (i * 3 + 1) = ⟨g, i * 3 + 1, none⟩ := by rw [addr_none]; simp
    have e3 : (⟨g, 0, none⟩ : Addr).add (i * 3 + 2) = ⟨g, i * 3 + 2, none⟩ := by rw [addr_none]; simp
    rw [← e1, ← e2, ← e3]
    exact ⟨c _ _ f.1, c _ _ f.2.1, c _ _ f.2.2⟩
set_option maxRecDepth 100000 in
theorem awk1 : lexS numB spanB [114, 97, 116, 101, 40, 120, 91, 53, 109, 93, 41] 0 = .ok [(1, 0, [114, 97, 116, 101]), (5, 4, [40]), (1, 5, [120]), (5, 6, [91]), (3, 7, [53, 109]), (5, 9, [93]), (5, 10, [41])] := by kernel_rfl
set_option maxRecDepth 100000 in
theorem awk2 : lexS numB spanB [97, 32, 33, 32, 98] 0 = .error 2 := by kernel_rfl
set_option maxRecDepth 100000 in
theorem same_any (A B : Option Addr) (n ca cb : Nat) (l : List Tk) (w : World) (hn : l.length = n) (hA : Toks w A l) (hB : Toks w B l) (hl : l.length ≤ 8000) :
    Calls Tryz.prog 11 #[.slice A n ca, .slice B n cb] w fun e w' => e = .returned (.bool true) ∧ ∃ m, w' = w.drewN m := by
  have HN := Lib.hid hn
  have HA := Lib.hid hA
  have HB := Lib.hid hB
  have hn4 : n ≤ 8000 := by omega
  clear hn hA hB hl
  go_enter Tryz.func11, Tryz.ntmps11
  go_wp2_with fail
  go_loopg [5] n (fun g s5 wx => ∃ k q : Nat, k + g = n ∧ s5 = .int .i64 (k : Int) ∧ wx = w.drewN q)
  case atStart => exact ⟨0, 0, by omega, rfl, rfl⟩
  case round =>
    obtain ⟨k, q, hkg, rfl, rfl⟩ := hrel
    by_cases hk : k < n
    · obtain ⟨g, rfl⟩ : ∃ g, gk = g + 1 := ⟨gk - 1, by omega⟩
      obtain ⟨a, rfl, ha, hca⟩ := HA.out (by rw [HN.out]; omega)
      obtain ⟨b, rfl, hb, hcb⟩ := HB.out (by rw [HN.out]; omega)
      obtain ⟨a0, a1, a2⟩ := hca k (by rw [HN.out]; exact hk)
      obtain ⟨b0, b1, b2⟩ := hcb k (by rw [HN.out]; exact hk)
      have a0 : (w.drewN q).cell? ⟨a, k * 3, none⟩ = _ := a0
      have a1 : (w.drewN q).cell? ⟨a, k * 3 + 1, none⟩ = _ := a1
      have a2 : (w.drewN q).cell? ⟨a, k * 3 + 2, none⟩ = _ := a2
      have b0 : (w.drewN q).cell? ⟨b, k * 3, none⟩ = _ := b0
      have b1 : (w.drewN q).cell? ⟨b, k * 3 + 1, none⟩ = _ := b1
      have b2 : (w.drewN q).cell? ⟨b, k * 3 + 2, none⟩ = _ := b2
      clear hca hcb
      generalize (l.getD k t0).1 = x at *
      generalize (l.getD k t0).2.1 = y at *
      generalize (⟨(l.getD k t0).2.2.toArray⟩ : ByteArray) = z at *
      generalize hw2 : w.drewN q = w2 at *
      have HW2 := Lib.hid hw2
      clear hw2
      have hki : (k : Int) < (n : Int) := by omega
      go_wp2_with fail
      go_quiet (fail)
      go_wp2_with fail
      go_roundg g
      case measure => omega
      case rel => exact ⟨k + 1, q + nq, by omega, by go_num, by rw [← HW2.out, World.drewN_drewN]⟩
    · obtain rfl : k = n := by omega
      go_wp2_with fail
      go_ret
      exact ⟨rfl, _, rfl⟩
/-- what is laid: the tables, and errors.errorType -/
structure Laid (Q qo qc P off c F fo fc : Nat) (w : World) : Prop where
  lex : LexT Q qo qc P off c F fo fc w
  err : ErrT w
section
variable {Q qo qc P off c F fo fc : Nat}
theorem Laid.below {w w' : World} (h : Laid Q qo qc P off c F fo fc w) (hb : Below w.heap.size w w') : Laid Q qo qc P off c F fo fc w' := ⟨h.lex.below hb, below_cell hb h.err⟩
/-- a text that is lexed -/
theorem lex_ok (s : ByteArray) (ts : List Tk) (w : World) (hL : Laid Q qo qc P off c F fo fc w) (hs : s.size ≤ 4000) (h : lexS numB spanB s.data.toList 0 = .ok ts) :
    Calls Tryz.prog 7 #[.string s] w fun e w' => ∃ v, e = .returned (.tuple #[v, .nilIface]) ∧ w'.ownsRow w.heap.size 35 3 v ts.length (flatT ts) ∧ Below w.heap.size w w' := by
  have := lex_any s w hL.lex hs
  rwa [h] at this
theorem lex_bad (s : ByteArray) (a : Nat) (w : World) (hL : Laid Q qo qc P off c F fo fc w) (hs : s.size ≤ 4000) (h : lexS numB spanB s.data.toList 0 = .error a) :
    Calls Tryz.prog 7 #[.string s] w fun e w' => ∃ f, e = .returned (.tuple #[.slice none 0 0, .iface 43 (.pointer (some ⟨f, 0, none⟩))]) ∧ Blk w' f 45 #[.int .i64 (a : Int), .iface 38 (.int .i64 5)] ∧ w.heap.size ≤ f ∧ Below w.heap.size w w' := by
  have := lex_any s w hL.lex hs
  rwa [h] at this
set_option maxRecDepth 100000 in
theorem awake_any (w : World) (hL : Laid Q qo qc P off c F fo fc w) : Calls Tryz.prog 6 #[] w fun e w' => e = .returned (.bool true) ∧ Below w.heap.size w w' := by
  have HL := Lib.hid hL
  have H1 := Lib.hid (lex_ok ⟨#[114, 97, 116, 101, 40, 120, 91, 53, 109, 93, 41]⟩ _ w hL (by decide) awk1)
  clear hL
  go_enter Tryz.func6, Tryz.ntmps6
  go_wp2_with fail
  refine (H1.out).mono ?_
  rintro e w1 ⟨v, rfl, ho1, hb1⟩
  obtain ⟨A, ca, rfl, hT1⟩ := own_toks ho1
  have HT1 := Lib.hid hT1
  have HB1 := Lib.hid hb1
  have H2 := Lib.hid (lex_bad ⟨#[97, 32, 33, 32, 98]⟩ 2 w1 (HL.out.below hb1) (by decide) awk2)
  clear hT1 hb1 ho1 H1
  go_wp2_with fail
  refine (H2.out).mono ?_
  rintro e w2 ⟨f, rfl, hf, hfl, hb2⟩
  have HB2 := Lib.hid (HB1.out.trans (hb2.mono HB1.out.size))
  obtain ⟨g, rfl, hg, hc⟩ := HT1.out.below hb2 (by decide)
  obtain ⟨c0, c1, c2⟩ := hc 4 (by decide)
  have HF := Lib.hid (Fault_any 2 5 f w2 (by decide) hf (HL.out.below HB2.out).err)
  simp [t0] at c0 c1 c2
  clear hf hfl hb2 hg hc
  go_wp2_with fail
  refine (HF.out).mono ?_
  rintro e w3 ⟨rfl, hb3⟩
  have HB3 := Lib.hid (HB2.out.trans (hb3.mono HB2.out.size))
  clear hb3
  go_wp2_with fail
  go_ret
  exact ⟨rfl, HB3.out⟩
end
end Go.Proofs.YtaggmakaceafgaaGreatDoor

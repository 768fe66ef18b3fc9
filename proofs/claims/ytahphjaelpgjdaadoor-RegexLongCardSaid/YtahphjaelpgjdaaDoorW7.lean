import Derived.Test.YtahphjaelpgjdaaDoorW6
import Derived.Test.YtahphjaelpgjdaaDoorShelf
namespace Go.Proofs.YtahphjaelpgjdaaDoor
open Go.RowKit Rx
set_option linter.unusedVariables false

/-! the reader's small ones -/
theorem below_drewN (w : World) (n : Nat) : Below w.heap.size w (w.drewN n) := ⟨rfl, rfl, rfl, Nat.le_refl _, fun _ _ => rfl⟩
theorem Blk.drewN {w : World} {g : Nat} {t : TypeId} {cs : Array Value} (h : Blk w g t cs) (n : Nat) : Blk (w.drewN n) g t cs := h
theorem rd_cells {w : World} {b : Nat} {T F : Value} {l : ByteArray} {m : Mach} {a o : Nat} (h : Rdr w b T F l m a o) :
    w.cell? ⟨b, 0, none⟩ = some T ∧ w.cell? ⟨b, 1, none⟩ = some F ∧ w.cell? ⟨b, 11, none⟩ = some (.string l) ∧ w.cell? ⟨b, 12, none⟩ = some (.int .i64 a) ∧ w.cell? ⟨b, 13, none⟩ = some (.int .i64 o) :=
  ⟨h.blk.cell 0, h.blk.cell 1, h.blk.cell 11, h.blk.cell 12, h.blk.cell 13⟩

set_option maxRecDepth 100000 in
set_option maxHeartbeats 2000000 in
theorem ended_any (b a : Nat) (l : ByteArray) (r : Bool) (hr : decide ((a : Int) = (l.size : Int)) = r) (w : World) (hl : l.size ≤ 200) (c1 : w.cell? ⟨b, 11, none⟩ = some (.string l)) (c2 : w.cell? ⟨b, 12, none⟩ = some (.int .i64 a)) :
    Calls Tryd.prog 33 #[.pointer (some ⟨b, 0, none⟩)] w fun e w' => e = .returned (.bool r) ∧ ∃ n, w' = w.drewN n := by
  have HR := Lib.hid hr
  clear hr
  go_enter Tryd.func33, Tryd.ntmps33
  go_wp2
  go_quiet (fail)
  go_wp2
  go_ret
  exact ⟨by rw [← HR.out]; rfl, _, rfl⟩

theorem ib_any (s : ByteArray) (c : Int) (w : World) : Calls Tryd.prog 65 #[.string s, .int .u8 c] w fun e w' => e = .returned (.int .i64 (Lib.indexByte s.data.toList c.toNat.toUInt8)) ∧ w' = w :=
  Tryd.strings_IndexByte s c w
def Signs (sg : ByteArray) (cs : List Nat) : Prop := cs = sg.data.toList.map UInt8.toNat
theorem index_in (c : UInt8) : ∀ l : List UInt8, decide (0 ≤ Lib.indexByte l c) = (l.map UInt8.toNat).contains c.toNat
  | [] => by simp [Lib.indexByte]
  | b :: l => by
    have ih := index_in c l
    have hge := Lib.indexByte_ge l c
    unfold Lib.indexByte
    simp only [List.map_cons, List.contains_cons]
    by_cases hb : b = c
    · subst hb; simp
    · have h1 : (b == c) = false := by simp [hb]
      have h2 : (c.toNat == b.toNat) = false := by
        simp only [beq_eq_false_iff_ne, ne_eq]
        intro h; exact hb (UInt8.toNat_inj.1 h.symm)
      rw [h1, h2, Bool.false_or, ← ih, if_neg (by simp)]
      by_cases h3 : Lib.indexByte l c = -1
      · rw [h3]; simp
      · rw [if_neg (by simpa using h3)]
        rw [Bool.eq_iff_iff]; simp; omega
set_option maxRecDepth 100000 in
set_option maxHeartbeats 2000000 in
theorem sees_in (b a : Nat) (l sg : ByteArray) (r : Bool) (i : Int) (hr : decide (0 ≤ i) = r) (w : World) (hl : l.size ≤ 200) (ha : a < l.size) (hi : Lib.indexByte sg.data.toList l[a] = i) (c1 : w.cell? ⟨b, 11, none⟩ = some (.string l)) (c2 : w.cell? ⟨b, 12, none⟩ = some (.int .i64 a)) :
    Calls Tryd.prog 51 #[.pointer (some ⟨b, 0, none⟩), .string sg] w fun e w' => e = .returned (.bool r) ∧ ∃ n, w' = w.drewN n := by
  have hne : decide ((a : Int) = (l.size : Int)) = false := by simp; omega
  have H1 := Lib.hid (fun n => ended_any b a l false hne (w.drewN n) hl c1 c2)
  have HR := Lib.hid hr
  have HI := Lib.hid hi
  clear hr hne hi
  go_enter Tryd.func51, Tryd.ntmps51
  go_wp2
  go_quiet (first | (go_at_call 33; exact Calls.quiet_of (H1.out _)) | (go_at_call 65; exact Calls.quiet_of_same ((ib_any _ _ _).mono fun e w' ⟨h1, h2⟩ => ⟨h1.trans (by simp [HI.out]; rfl), h2⟩)))
  go_wp2
  go_ret
  exact ⟨by rw [← HR.out]; rfl, _, rfl⟩
set_option maxRecDepth 100000 in
set_option maxHeartbeats 2000000 in
theorem sees_out (b : Nat) (l sg : ByteArray) (w : World) (hl : l.size ≤ 200) (c1 : w.cell? ⟨b, 11, none⟩ = some (.string l)) (c2 : w.cell? ⟨b, 12, none⟩ = some (.int .i64 l.size)) :
    Calls Tryd.prog 51 #[.pointer (some ⟨b, 0, none⟩), .string sg] w fun e w' => e = .returned (.bool false) ∧ ∃ n, w' = w.drewN n := by
  have H1 := Lib.hid (fun n => ended_any b l.size l true (by simp) (w.drewN n) hl c1 c2)
  go_enter Tryd.func51, Tryd.ntmps51
  go_wp2
  go_quiet (first | (go_at_call 33; exact Calls.quiet_of (H1.out _)))
  go_wp2
  go_ret
  exact ⟨rfl, _, rfl⟩
theorem sees_is (b a : Nat) (l sg : ByteArray) (cs : List Nat) (hs : Signs sg cs) (w : World) (hl : l.size ≤ 200) (ha : a ≤ l.size) (c1 : w.cell? ⟨b, 11, none⟩ = some (.string l)) (c2 : w.cell? ⟨b, 12, none⟩ = some (.int .i64 a)) :
    Calls Tryd.prog 51 #[.pointer (some ⟨b, 0, none⟩), .string sg] w fun e w' => e = .returned (.bool (seesAny l a cs)) ∧ ∃ n, w' = w.drewN n := by
  by_cases h : a < l.size
  · refine (sees_in b a l sg (seesAny l a cs) _ ?_ w hl h rfl c1 c2)
    unfold seesAny
    rw [decide_eq_true h, Bool.true_and, hs, index_in, by_eq l a h]
  · obtain rfl : a = l.size := by omega
    rw [show seesAny l l.size cs = false by unfold seesAny; simp]
    exact sees_out b l sg w hl c1 c2
theorem sees_one (l : ByteArray) (a c : Nat) : seesAny l a [c] = sees l a c := by
  unfold seesAny sees
  rw [Bool.eq_iff_iff]; simp
def sg (l : List UInt8) : ByteArray := ⟨l.toArray⟩
theorem sg_bar : Signs ⟨#[124]⟩ [124] := rfl
theorem sg_cat : Signs ⟨#[124, 41]⟩ [124, 41] := rfl
theorem sg_rep : Signs ⟨#[42, 43, 63]⟩ [42, 43, 63] := rfl
theorem sg_par : Signs ⟨#[41]⟩ [41] := rfl
theorem sg_back : Signs ⟨#[92]⟩ [92] := rfl
theorem sg_not : Signs ⟨#[94]⟩ [94] := rfl
theorem sg_end : Signs ⟨#[93]⟩ [93] := rfl
theorem sg_dash : Signs ⟨#[45]⟩ [45] := rfl
theorem sg_cls : Signs ⟨#[93, 91, 94, 45]⟩ [93, 91, 94, 45] := rfl
set_option maxRecDepth 100000 in
set_option maxHeartbeats 2000000 in
theorem bad_any (b a : Nat) (w : World) (c2 : w.cell? ⟨b, 12, none⟩ = some (.int .i64 a)) :
    Calls Tryd.prog 34 #[.pointer (some ⟨b, 0, none⟩)] w fun e w' => ∃ f, e = .returned (.iface 70 (.pointer (some ⟨f, 0, none⟩))) ∧ Blk w' f 74 #[.int .i64 a, .iface 55 (.int .i64 2)] ∧ Below w.heap.size w w' := by
  go_enter Tryd.func34, Tryd.ntmps34
  go_wp2
  go_ret
  exact ⟨_, rfl, Blk.new _ _ _, by go_grown⟩
end Go.Proofs.YtahphjaelpgjdaaDoor

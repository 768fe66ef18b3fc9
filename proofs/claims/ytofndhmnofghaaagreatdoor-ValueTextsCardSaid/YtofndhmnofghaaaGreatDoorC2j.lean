import Derived.Test.YtofndhmnofghaaaGreatDoorB9j
import Derived.Laws.BytesArg
namespace Go.Proofs.YtofndhmnofghaaaGreatDoor
open Go.RowKit Ieee
set_option linter.unusedVariables false

/-! FormatFloat as a function -/
abbrev strF (n : Nat) : ByteArray := ⟨(fmtF n).toArray⟩
theorem strOf (out : List UInt8) : strOfNums (out.map fun b => (b.toNat : Int)) = ⟨out.toArray⟩ := by
  have h : (out.map fun b => (b.toNat : Int)).map (fun n => UInt8.ofNat n.toNat) = out := by
    induction out with
    | nil => rfl
    | cons c r ih =>
      simp only [List.map_cons]
      rw [ih, Int.toNat_natCast]
      congr 1
      simp
  unfold strOfNums
  rw [h]
theorem conv_row (w : World) (base : Nat) (v : Value) (out : List UInt8) (h : w.ownsRow base 5 1 v out.length (out.map encB)) : (convert 66 9 v).run Tryz.prog w = .ok (.string ⟨out.toArray⟩) w := by
  rcases h.2 with ⟨rfl, h0⟩ | ⟨g, cap, cur, rfl, _⟩
  · obtain rfl : out = [] := List.eq_nil_of_length_eq_zero h0
    exact run_convert_bytes_nil w 66 5 Tryz.underlying66 Tryz.underlying5 0 0 9 Tryz.underlying9
  · have hc := h.cells (g := g) rfl
    have := run_convert_bytes_arg (P := Tryz.prog) w 66 5 Tryz.underlying66 Tryz.underlying5 g 0 out.length cap (out.map fun b => (b.toNat : Int)) (by simp) (fun i hi => by
      have := hc i (encB out[i]) (by simp [hi])
      rw [add_plain] at this
      rw [this]
      simp [hi]) 9 Tryz.underlying9
    rw [this, strOf]
abbrev dstO : Obj := .cells #[.int .u8 0, .int .u8 0, .int .u8 0, .int .u8 0, .int .u8 0, .int .u8 0, .int .u8 0, .int .u8 0, .int .u8 0, .int .u8 0, .int .u8 0, .int .u8 0, .int .u8 0, .int .u8 0, .int .u8 0, .int .u8 0, .int .u8 0, .int .u8 0, .int .u8 0, .int .u8 0, .int .u8 0, .int .u8 0, .int .u8 0, .int .u8 0] 5
set_option maxRecDepth 100000 in
theorem formatIn_any (n : Nat) (hn : n < 18446744073709551616) (w : World) (hT : Tabs w) :
    Calls Tryz.prog 29 #[.float .f64 n, .int .u8 103, .int .i64 (-1), .int .i64 64] w fun e w' => e = .returned (.string (strF n)) ∧ Below w.heap.size w w' := by
  have HF := Lib.hid (ftoa_any n w.heap.size (w.alloc dstO) w (.slice (some ⟨w.heap.size, 0, none⟩) 0 24) hn (hT.below (B := 16) (Nat.le_refl _) ((Below.refl 16 w).alloc hT.size _)) (World.ownsRow_made w _ 24 (Nat.le_refl _) (by decide) rfl) ((Below.refl _ w).alloc (Nat.le_refl _) _) (by simp))
  have hmk : ∀ w, (Instr.makeSlice 66 (.int .i64 0) (.int .i64 (max 3 24))).run Tryz.prog w = .ok (.slice (some ⟨w.heap.size, 0, none⟩) 0 24) (w.alloc dstO) := fun w => by kernel_rfl
  clear hT
  go_enter Tryz.func29, Tryz.ntmps29
  go_wp2_with fail
  refine (HF.out).mono ?_
  rintro e w1 ⟨v, rfl, hown, hb, _⟩
  have hcv := conv_row w1 _ v _ hown
  clear hown
  go_wp2_with fail
  go_ret
  exact ⟨rfl, hb⟩
theorem format_f (n : Nat) (hn : n < 18446744073709551616) (w : World) (hT : Tabs w) :
    Calls Tryz.prog 21 #[.float .f64 n, .int .u8 103, .int .i64 (-1), .int .i64 64] w fun e w' => e = .returned (.string (strF n)) ∧ Below w.heap.size w w' := by
  have HF := Lib.hid (formatIn_any n hn w hT)
  clear hT
  go_enter Tryz.func21, Tryz.ntmps21
  go_wp2_with fail
  refine (HF.out).mono ?_
  rintro e w1 ⟨rfl, hb⟩
  go_wp2_with fail
  go_ret
  exact ⟨rfl, hb⟩
/-- the program's Text, and the document's -/
theorem text_any (n : Nat) (hn : n < 18446744073709551616) (w : World) (hT : Tabs w) :
    Calls Tryz.prog 12 #[.int .u64 (n : Int)] w fun e w' => e = .returned (.string (strF n)) ∧ Below w.heap.size w w' := by
  have HF := Lib.hid (format_f n hn w hT)
  have hb := fun w => frombits n w
  clear hT
  go_enter Tryz.func12, Tryz.ntmps12
  go_wp2_with fail
  refine (HF.out).mono ?_
  rintro e w1 ⟨rfl, hb1⟩
  go_wp2_with fail
  go_ret
  exact ⟨rfl, hb1⟩
end Go.Proofs.YtofndhmnofghaaaGreatDoor

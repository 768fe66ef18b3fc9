import Derived.Test.YtmpodmfbieiadaaDoorW9
namespace Go.Proofs.YtmpodmfbieiadaaDoor
open Go.RowKit Sp Go.Shelf
set_option linter.unusedVariables false

/-! the document's own functions: Long, Units, digits -/
def LongAt (w : World) (b : Nat) : Prop := ∀ k, k < 7 → w.cell? ⟨b, k, none⟩ = some (.int .i64 (sizeAt k : Nat))
def UnitAt (w : World) (b : Nat) : Prop := ∀ k, k < 7 → w.cell? ⟨b, k, none⟩ = some (.string ⟨(nameAt k).toArray⟩)
theorem long_cells (w : World) : LongAt (w.alloc (.cells #[.int .i64 31536000000, .int .i64 604800000, .int .i64 86400000, .int .i64 3600000, .int .i64 60000, .int .i64 1000, .int .i64 1] 2)) w.heap.size := by
  intro k hk
  rw [World.cell?_alloc_at _ _ _ _ rfl]
  match k, hk with
  | 0, _ => rfl
  | 1, _ => rfl
  | 2, _ => rfl
  | 3, _ => rfl
  | 4, _ => rfl
  | 5, _ => rfl
  | 6, _ => rfl
theorem unit_cells (w : World) : UnitAt (w.alloc (.cells #[.string ⟨#[121]⟩, .string ⟨#[119]⟩, .string ⟨#[100]⟩, .string ⟨#[104]⟩, .string ⟨#[109]⟩, .string ⟨#[115]⟩, .string ⟨#[109, 115]⟩] 9)) w.heap.size := by
  intro k hk
  rw [World.cell?_alloc_at _ _ _ _ rfl]
  match k, hk with
  | 0, _ => rfl
  | 1, _ => rfl
  | 2, _ => rfl
  | 3, _ => rfl
  | 4, _ => rfl
  | 5, _ => rfl
  | 6, _ => rfl
theorem long_any (w : World) : Calls Tryd.prog 16 #[] w fun e w' => e = .returned (.slice (some ⟨w.heap.size, 0, none⟩) 7 7) ∧ LongAt w' w.heap.size ∧ Below w.heap.size w w' ∧ w.heap.size < w'.heap.size := by
  have h := long_cells w
  have HB := Lib.hid (((Below.refl w.heap.size w).alloc (Nat.le_refl _) (.cells #[.int .i64 31536000000, .int .i64 604800000, .int .i64 86400000, .int .i64 3600000, .int .i64 60000, .int .i64 1000, .int .i64 1] 2)))
  have HC := Lib.hid h
  clear h
  go_enter Tryd.func16, Tryd.ntmps16
  go_wp2
  go_ret
  exact ⟨rfl, HC.out, HB.out, by simp⟩
theorem unitsl_any (w : World) : Calls Tryd.prog 20 #[] w fun e w' => e = .returned (.slice (some ⟨w.heap.size, 0, none⟩) 7 7) ∧ UnitAt w' w.heap.size ∧ Below w.heap.size w w' ∧ w.heap.size < w'.heap.size := by
  have h := unit_cells w
  have HB := Lib.hid (((Below.refl w.heap.size w).alloc (Nat.le_refl _) (.cells #[.string ⟨#[121]⟩, .string ⟨#[119]⟩, .string ⟨#[100]⟩, .string ⟨#[104]⟩, .string ⟨#[109]⟩, .string ⟨#[115]⟩, .string ⟨#[109, 115]⟩] 9)))
  have HC := Lib.hid h
  clear h
  go_enter Tryd.func20, Tryd.ntmps20
  go_wp2
  go_ret
  exact ⟨rfl, HC.out, HB.out, by simp⟩

theorem dig_sl (d : Nat) (hd : d < 10) (w : World) : (Instr.slice 9 (.string ⟨#[48, 49, 50, 51, 52, 53, 54, 55, 56, 57]⟩) (some (.int .i64 (d : Nat))) (some (.int .i64 ((d : Nat) + 1))) none).run Tryd.prog w = .ok (.string ⟨[UInt8.ofNat (48 + d)].toArray⟩) w := by
  rw [run_slice_string (P := Tryd.prog) w 9 _ .i64 .i64 _ _ Tryd.underlying9 (by omega) (by omega) (by show ((d : Int) + 1) ≤ 10; omega)]
  congr 2
  match d, hd with
  | 0, _ => decide +kernel
  | 1, _ => decide +kernel
  | 2, _ => decide +kernel
  | 3, _ => decide +kernel
  | 4, _ => decide +kernel
  | 5, _ => decide +kernel
  | 6, _ => decide +kernel
  | 7, _ => decide +kernel
  | 8, _ => decide +kernel
  | 9, _ => decide +kernel

theorem dec_small {m : Nat} (h : m / 10 = 0) : Lib.decDigits m = [UInt8.ofNat (48 + m % 10)] := by
  rw [Lib.decDigits, dif_pos (by omega), show m % 10 = m by omega]
theorem dec_big {m : Nat} (h : m / 10 ≠ 0) : Lib.decDigits m = Lib.decDigits (m / 10) ++ [UInt8.ofNat (48 + m % 10)] := by
  rw [Lib.decDigits, dif_neg (by omega)]

set_option maxHeartbeats 1000000 in
theorem digits_any (v : Nat) (hv : v ≤ 35184372088832) (w : World) :
    Calls Tryd.prog 19 #[.int .i64 v] w fun e w' => e = .returned (.string ⟨(Lib.decDigits v).toArray⟩) ∧ w = w' := by
  have hlen := dec_short v hv
  generalize hD : Lib.decDigits v = D at *
  have HD := Lib.hid hD
  clear hD
  go_enter Tryd.func19, Tryd.ntmps19
  go_wp2
  go_loopg [0, 3] v (fun g a b wx => ∃ (m : Nat) (s : List UInt8), m ≤ g ∧ m ≤ 35184372088832 ∧ a = .int .i64 m ∧ b = .string ⟨s.toArray⟩ ∧ Hid (Lib.decDigits m ++ s = D) ∧ wx = w)
  case atStart => exact ⟨v, [], by omega, hv, rfl, rfl, (List.append_nil _).trans HD.out, rfl⟩
  case round =>
    obtain ⟨m, s, hmg, hm, rfl, rfl, HS, rfl⟩ := hrel
    have hsl : s.length ≤ 14 := by
      have := congrArg List.length HS.out
      rw [List.length_append] at this
      omega
    have hr : (m : Int) % 10 = ((m % 10 : Nat) : Int) := by simp
    have hq : (m : Int) / 10 = ((m / 10 : Nat) : Int) := by simp
    have hdl := fun w => dig_sl (m % 10) (by omega) w
    have hadd := fun w => add_str [UInt8.ofNat (48 + m % 10)] s (by simp; omega) w
    have hd10 : m % 10 < 10 := by omega
    by_cases h0 : m / 10 = 0
    · have HE := Lib.hid (dec_small h0)
      rw [HE.out] at HS
      rw [h0] at hq
      generalize m % 10 = d at *
      generalize (⟨[UInt8.ofNat (48 + d)].toArray⟩ : ByteArray) = E0 at *
      generalize hE : (⟨([UInt8.ofNat (48 + d)] ++ s).toArray⟩ : ByteArray) = E1 at *
      have HE1 := Lib.hid hE
      clear hE h0
      go_wp2
      go_ret
      exact ⟨by rw [← HE1.out, HS.out]; rfl, rfl⟩
    · obtain ⟨g, rfl⟩ : ∃ g, gk = g + 1 := ⟨gk - 1, by omega⟩
      rw [dec_big h0, List.append_assoc] at HS
      have hne : (((m / 10 : Nat) : Int) == 0) = false := beq_eq_false_iff_ne.2 (by omega)
      have h3 : m / 10 ≤ g := by omega
      have h4 : m / 10 ≤ 35184372088832 := by omega
      generalize m % 10 = d at *
      generalize m / 10 = m2 at *
      generalize (⟨[UInt8.ofNat (48 + d)].toArray⟩ : ByteArray) = E0 at *
      generalize hE : (⟨([UInt8.ofNat (48 + d)] ++ s).toArray⟩ : ByteArray) = E1 at *
      have HE1 := Lib.hid hE
      clear hE h0
      go_wp2
      go_roundg g
      case measure => omega
      case rel => exact ⟨m2, [UInt8.ofNat (48 + d)] ++ s, h3, h4, rfl, by rw [HE1.out], HS, rfl⟩
end Go.Proofs.YtmpodmfbieiadaaDoor

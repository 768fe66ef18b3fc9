import Derived.Test.YtmpodmfbieiadaaDoorW2
import Derived.Stop.FmtQuoteTie
import Derived.Shelf.Small.Utf8
import Derived.Lib.OthersKept
namespace Go.Proofs.YtmpodmfbieiadaaDoor
open Go.RowKit Sp Go.Shelf
set_option linter.unusedVariables false

def D10 : ByteArray := ⟨#[48, 49, 50, 51, 52, 53, 54, 55, 56, 57]⟩

theorem ib_any (s : ByteArray) (c : Int) (w : World) : Calls Tryd.prog 38 #[.string s, .int .u8 c] w fun e w' => e = .returned (.int .i64 (Lib.indexByte s.data.toList c.toNat.toUInt8)) ∧ w' = w :=
  Any.strings_IndexByte (ρ := Tryd.laysAny_ren) { Tryd.laysAny with } s c w
theorem validRune_any (r : Int) (w : World) : Calls Tryd.prog 39 #[.int .i32 r] w fun e w' => e = .returned (.bool (Lib.validRune r)) ∧ w' = w :=
  Any.utf8_ValidRune (ρ := Tryd.laysAny_ren) { Tryd.laysAny with } r w
theorem ir_ascii (s : ByteArray) (r : Int) (h0 : 0 ≤ r) (h1 : r < 128) (w : World) : Calls Tryd.prog 27 #[.string s, .int .i32 r] w fun e w' => e = .returned (.int .i64 (Lib.indexByte s.data.toList r.toNat.toUInt8)) ∧ w' = w :=
  Any.strings_IndexRune_ascii (ρ := Tryd.laysAny_ren) { Tryd.laysAny with } s r w h0 h1
theorem useSet (n : Int) (w : World) : Calls Tryd.prog 28 #[.int .i64 n] w fun e w' => e = .returned (.bool (decide (8 < n))) ∧ w' = w :=
  Any.strings_shouldUseASCIISet (ρ := Tryd.laysAny_ren) { Tryd.laysAny with } n w

/-- a rune that is no ASCII one, and may be encoded -/
def High (r : Nat) : Prop := 128 ≤ r ∧ (r < 55296 ∨ 57344 ≤ r) ∧ r ≤ 1114111

theorem indexByte_none : ∀ (l : List UInt8) (c : UInt8), (∀ b ∈ l, b ≠ c) → Lib.indexByte l c = -1
  | [], _, _ => rfl
  | b :: l, c, h => by
    unfold Lib.indexByte
    rw [if_neg (by simpa using h b (by simp)), indexByte_none l c fun x hx => h x (by simp [hx])]
    rfl

set_option maxRecDepth 100000 in
set_option maxHeartbeats 2000000 in
theorem ir_err (w : World) : Calls Tryd.prog 27 #[.string D10, .int .i32 65533] w fun e w' => e = .returned (.int .i64 (-1)) ∧ Below w.heap.size w w' := by
  have hsz : D10.size = 10 := rfl
  have HSZ := Lib.hid hsz
  have HB : Hid (∀ i (h : i < D10.size), (D10[i]'h).toNat < 128) := by
    show ∀ i (h : i < D10.size), (D10[i]'h).toNat < 128
    decide
  clear hsz
  generalize D10 = s at *
  go_enter Tryd.func27, Tryd.ntmps27
  go_wp2_with fail
  go_loopg [5, 6] s.size (fun g _ _ wx => ∃ i : Nat, i + g = s.size ∧ wx = w.iter s i)
  case atStart => exact ⟨0, by omega, rfl⟩
  case round =>
    obtain ⟨i, hig, rfl⟩ := hrel
    cases gk with
    | zero =>
      obtain rfl : i = s.size := by omega
      have hnx := fun ty => run_next_end (P := Tryd.prog) w s s.size ty (by omega)
      go_wp2
      try rw [Exit.noGoto_ret]
      go_ret
      exact ⟨rfl, (Below.refl _ _).alloc (Nat.le_refl _) _⟩
    | succ g =>
      have hi : i < s.size := by omega
      have hx128 := HB.out i hi
      have hnx := fun ty => run_next_ascii (P := Tryd.prog) w s i ty hi hx128
      have hne : ((s[i].toNat : Int) == 65533) = false := beq_eq_false_iff_ne.2 (by omega)
      generalize (s[i].toNat : Int) = x at *
      go_wp2
      go_roundg g
      case measure => omega
      case rel => exact ⟨i + 1, by omega, rfl⟩

theorem low_ne {a : Nat} {b : UInt8} (ha : a < 256) (h1 : b.toNat < 128) (h2 : 128 ≤ a) : b ≠ UInt8.ofNat a := by
  intro e
  have := congrArg UInt8.toNat e
  rw [UInt8.toNat_ofNat'] at this
  omega
theorem enc_cases (r : Nat) (h : High r) (h0 : r ≠ 65533) : ∃ (a b c d : UInt8), (128 ≤ a.toNat ∧ 128 ≤ b.toNat ∧ 128 ≤ c.toNat ∧ 128 ≤ d.toNat) ∧ ((Utf8.encode (r : Int)) = ⟨#[a, b]⟩ ∨ (Utf8.encode (r : Int)) = ⟨#[a, b, c]⟩ ∨ (Utf8.encode (r : Int)) = ⟨#[a, b, c, d]⟩) := by
  obtain ⟨h1, h2, h3⟩ := h
  have big : ∀ n, 128 ≤ n → n < 256 → 128 ≤ (UInt8.ofNat n).toNat := fun n a b => by rw [UInt8.toNat_ofNat']; omega
  have ext : ∀ {x : ByteArray} {l : List UInt8}, x.data.toList = l → x = ⟨l.toArray⟩ := fun h => by subst h; rfl
  by_cases c2 : r < 2048
  · exact ⟨_, _, 255, 255, ⟨big (192 + r / 64) (by omega) (by omega), big (128 + r % 64) (by omega) (by omega), by decide, by decide⟩, .inl (ext (Go.Extern.FmtText.enc2 r (by omega) c2))⟩
  by_cases c3 : r < 65536
  · exact ⟨_, _, _, 255, ⟨big (224 + r / 4096) (by omega) (by omega), big (128 + r / 64 % 64) (by omega) (by omega), big (128 + r % 64) (by omega) (by omega), by decide⟩, .inr (.inl (ext (Go.Extern.FmtText.enc3 r c2 c3 h2)))⟩
  · exact ⟨_, _, _, _, ⟨big (240 + r / 262144) (by omega) (by omega), big (128 + r / 4096 % 64) (by omega) (by omega), big (128 + r / 64 % 64) (by omega) (by omega), big (128 + r % 64) (by omega) (by omega)⟩, .inr (.inr (ext (Go.Extern.FmtText.enc4 r c3 h3)))⟩
end Go.Proofs.YtmpodmfbieiadaaDoor

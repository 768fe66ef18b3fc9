import Derived.Test.YtaggmakaceafgaaGreatDoorT1
import Derived.Test.YtaggmakaceafgaaGreatDoorShelf
import Derived.Stop.FmtQuoteTie
import Derived.Shelf.Small.Utf8
import Derived.Lib.OthersKept
import Derived.Deep.RegionWith
namespace Go.Proofs.YtaggmakaceafgaaGreatDoor.Sp
open Go.RowKit Go.Shelf
set_option linter.unusedVariables false

def D10 : ByteArray := ⟨#[48, 49, 50, 51, 52, 53, 54, 55, 56, 57]⟩

theorem ib_any (s : ByteArray) (c : Int) (w : World) : Calls Tryz.prog 20 #[.string s, .int .u8 c] w fun e w' => e = .returned (.int .i64 (Lib.indexByte s.data.toList c.toNat.toUInt8)) ∧ w' = w :=
  Any.strings_IndexByte (ρ := Tryz.lays153_ren) { Tryz.lays153 with } s c w
theorem validRune_any (r : Int) (w : World) : Calls Tryz.prog 92 #[.int .i32 r] w fun e w' => e = .returned (.bool (Lib.validRune r)) ∧ w' = w :=
  Any.utf8_ValidRune (ρ := Tryz.lays153_ren) { Tryz.lays153 with } r w
theorem ir_ascii (s : ByteArray) (r : Int) (h0 : 0 ≤ r) (h1 : r < 128) (w : World) : Calls Tryz.prog 83 #[.string s, .int .i32 r] w fun e w' => e = .returned (.int .i64 (Lib.indexByte s.data.toList r.toNat.toUInt8)) ∧ w' = w :=
  Any.strings_IndexRune_ascii (ρ := Tryz.lays153_ren) { Tryz.lays153 with } s r w h0 h1
theorem useSet (n : Int) (w : World) : Calls Tryz.prog 84 #[.int .i64 n] w fun e w' => e = .returned (.bool (decide (8 < n))) ∧ w' = w :=
  Any.strings_shouldUseASCIISet (ρ := Tryz.lays153_ren) { Tryz.lays153 with } n w

/-- a rune that is no ASCII one, and may be encoded -/
def High (r : Nat) : Prop := 128 ≤ r ∧ (r < 55296 ∨ 57344 ≤ r) ∧ r ≤ 1114111

theorem indexByte_none : ∀ (l : List UInt8) (c : UInt8), (∀ b ∈ l, b ≠ c) → Lib.indexByte l c = -1
  | [], _, _ => rfl
  | b :: l, c, h => by
    unfold Lib.indexByte
    rw [if_neg (by simpa using h b (by simp)), indexByte_none l c fun x hx => h x (by simp [hx])]
    rfl

set_option maxRecDepth 100000 in
set_option maxHeartbeats 2000000 in
theorem ir_err (w : World) : Calls Tryz.prog 83 #[.string D10, .int .i32 65533] w fun e w' => e = .returned (.int .i64 (-1)) ∧ Below w.heap.size w w' := by
  have hsz : D10.size = 10 := rfl
  have HSZ := Lib.hid hsz
  have HB : Hid (∀ i (h : i < D10.size), (D10[i]'h).toNat < 128) := by
    show ∀ i (h : i < D10.size), (D10[i]'h).toNat < 128
    decide
  clear hsz
  generalize D10 = s at *
  go_enter Tryz.func83, Tryz.ntmps83
  go_wp2_with fail
  go_loopg [5, 6] s.size (fun g _ _ wx => ∃ i : Nat, i + g = s.size ∧ wx = w.iter s i)
  case atStart => exact ⟨0, by omega, rfl⟩
  case round =>
    obtain ⟨i, hig, rfl⟩ := hrel
    cases gk with
    | zero =>
      obtain rfl : i = s.size := by omega
      have hnx := fun ty => run_next_end (P := Tryz.prog) w s s.size ty (by omega)
      go_wp2
      try rw [Exit.noGoto_ret]
      go_ret
      exact ⟨rfl, (Below.refl _ _).alloc (Nat.le_refl _) _⟩
    | succ g =>
      have hi : i < s.size := by omega
      have hx128 := HB.out i hi
      have hnx := fun ty => run_next_ascii (P := Tryz.prog) w s i ty hi hx128
      have hne : ((s[i].toNat : Int) == 65533) = false := beq_eq_false_iff_ne.2 (by omega)
      generalize (s[i].toNat : Int) = x at *
      go_wp2
      go_roundg g
      case measure => omega
      case rel => exact ⟨i + 1, by omega, rfl⟩

theorem low_ne {a : Nat} {b : UInt8} (ha : a < 256) (h1 : b.toNat < 128) (h2 : 128 ≤ a) : b ≠ UInt8.ofNat a := by
  intro e
  have := congrArg UInt8.toNat e
  rw [UInt8.toNat_ofNat'] at this
  omega
theorem enc_cases (r : Nat) (h : High r) (h0 : r ≠ 65533) : ∃ (a b c d : UInt8), (128 ≤ a.toNat ∧ 128 ≤ b.toNat ∧ 128 ≤ c.toNat ∧ 128 ≤ d.toNat) ∧ ((Utf8.encode (r : Int)) = ⟨#[a, b]⟩ ∨ (Utf8.encode (r : Int)) = ⟨#[a, b, c]⟩ ∨ (Utf8.encode (r : Int)) = ⟨#[a, b, c, d]⟩) := by
  obtain ⟨h1, h2, h3⟩ := h
  have big : ∀ n, 128 ≤ n → n < 256 → 128 ≤ (UInt8.ofNat n).toNat := fun n a b => by rw [UInt8.toNat_ofNat']; omega
  have ext : ∀ {x : ByteArray} {l : List UInt8}, x.data.toList = l → x = ⟨l.toArray⟩ := fun h => by subst h; rfl
  by_cases c2 : r < 2048
  · exact ⟨_, _, 255, 255, ⟨big (192 + r / 64) (by omega) (by omega), big (128 + r % 64) (by omega) (by omega), by decide, by decide⟩, .inl (ext (Go.Extern.FmtText.enc2 r (by omega) c2))⟩
  by_cases c3 : r < 65536
  · exact ⟨_, _, _, 255, ⟨big (224 + r / 4096) (by omega) (by omega), big (128 + r / 64 % 64) (by omega) (by omega), big (128 + r % 64) (by omega) (by omega), by decide⟩, .inr (.inl (ext (Go.Extern.FmtText.enc3 r c2 c3 h2)))⟩
  · exact ⟨_, _, _, _, ⟨big (240 + r / 262144) (by omega) (by omega), big (128 + r / 4096 % 64) (by omega) (by omega), big (128 + r / 64 % 64) (by omega) (by omega), big (128 + r % 64) (by omega) (by omega)⟩, .inr (.inr (ext (Go.Extern.FmtText.enc4 r c3 h3)))⟩

theorem conv_rune (r : Int) (w : World) : (convert 21 9 (.int .i32 r)).run Tryz.prog w = .ok (.string (Utf8.encode r)) w := by
  kernel_rfl
theorem validRune_q (r : Int) (w : World) (h : Lib.validRune r = true) : Calls Tryz.prog 92 #[.int .i32 r] w fun e w' => e = .returned (.bool true) ∧ w = w' :=
  (validRune_any r w).mono fun e w' ⟨h1, h2⟩ => ⟨h1.trans (by rw [h]), h2.symm⟩
theorem bel_drawn {B : Nat} {w w' : World} (h : Below B w w') (n : Nat) : Below B w (w'.drewN n) := ⟨h.os, h.tape, h.output, h.size, h.block⟩
theorem idx_at (s : ByteArray) (k : Nat) (h : k < s.size) (w : World) : (Instr.index 9 (.string s) (.int .i64 (k : Nat))).run Tryz.prog w = .ok (.int .u8 ((s[k]'h).toNat : Nat)) w := by
  rw [run_index_string (P := Tryz.prog) _ 9 s .i64 _ Tryz.underlying9]
  simp [h]
theorem sl_at (s : ByteArray) (k : Nat) (h : k ≤ s.size) (w : World) : (Instr.slice 9 (.string s) (some (.int .i64 (k : Nat))) none none).run Tryz.prog w = .ok (.string (s.extract k s.size)) w := by
  rw [run_slice_string_from_if (P := Tryz.prog) _ 9 s .i64 _ Tryz.underlying9]
  simp [h]
theorem d10_none (k : Nat) (x : UInt8) (hx : 128 ≤ x.toNat) : Lib.indexByte (D10.extract k D10.size).data.toList x = -1 := by
  refine indexByte_none _ _ fun b hb e => ?_
  subst e
  rw [Lib.extract_to_end] at hb
  have : ∀ b ∈ D10.data.toList, b.toNat < 128 := by decide
  have := this b (List.mem_of_mem_drop hb)
  omega
theorem d10_ne (k : Nat) (x : UInt8) (hx : 128 ≤ x.toNat) (h : k < D10.size) : (((D10[k]'h).toNat : Int) != (x.toNat : Int)) = true := by
  have : ∀ i (h : i < D10.size), (D10[i]'h).toNat < 128 := by decide
  have := this k h
  simp; omega

set_option maxRecDepth 1000000 in
set_option maxHeartbeats 4000000 in
theorem ir_high2 (s : ByteArray) (r : Nat) (a x : UInt8) (hs : 2 ≤ s.size) (hs0 : 1 < s.size) (hm : s.size ≤ 65536) (hne : (((s[1]'hs0).toNat : Int) != (x.toNat : Int)) = true) (HN : Hid (Lib.indexByte (s.extract 2 s.size).data.toList x = -1))
    (h : 128 ≤ r) (h' : r ≠ 65533) (hv : Lib.validRune r = true) (he : Utf8.encode (r : Int) = ⟨#[a, x]⟩) (w : World) :
    Calls Tryz.prog 83 #[.string s, .int .i32 r] w fun e w' => e = .returned (.int .i64 (-1)) ∧ Below w.heap.size w w' := by
  have hcv := fun w => conv_rune r w
  rw [he] at hcv
  have h1 : decide ((r : Int) < 128) = false := by simp; omega
  have h2 : ((r : Int) == 65533) = false := beq_eq_false_iff_ne.2 (by omega)
  have hb : (x.toNat : Int).toNat.toUInt8 = x := by simp
  have HV := Lib.hid hv
  have HNE := Lib.hid hne
  have HB := Lib.hid hb
  clear he hv h' hne hb
  go_enter Tryz.func83, Tryz.ntmps83
  go_wp2_with (go_at_call 92; refine (validRune_q _ _ HV.out).mono ?_; rintro e w1 ⟨rfl, rfl⟩)
  go_step3
  have d1 : decide ((1 : Int) < (s.size : Int)) = true := by simp; omega
  have ix : ∀ wx, (Instr.index 9 (.string s) (.int .i64 1)).run Tryz.prog wx = .ok (.int .u8 ((s[1]'hs0).toNat : Nat)) wx := fun wx => idx_at s 1 hs0 wx
  have ir : ∀ wx, (Instr.index 9 (.string ⟨#[a, x]⟩) (.int .i64 1)).run Tryz.prog wx = .ok (.int .u8 x.toNat) wx := fun _ => by kernel_rfl
  have sl : ∀ wx, (Instr.slice 9 (.string s) (some (.int .i64 2)) none none).run Tryz.prog wx = .ok (.string (s.extract 2 s.size)) wx := fun wx => sl_at s 2 hs wx
  have hne := HNE.out
  generalize ((s[1]'hs0).toNat : Int) = y at ix hne
  generalize s.extract 2 s.size = t at sl HN
  go_wp2
  go_loopg [9, 10] 1 (fun g a b wx => a = .int .i64 1 ∧ b = .int .i64 0 ∧ wx = w)
  case atStart => exact ⟨rfl, rfl, rfl⟩
  case round =>
    obtain ⟨rfl, rfl, rfl⟩ := hrel
    go_wp2_with fail
    go_step3
    go_wp2_with fail
    go_quiet (fail)
    go_wp2_with fail
    have HBE := Lib.hid (bel_drawn (Below.refl wr.heap.size wr) nq)
    generalize wr.drewN nq = w2 at *
    have hwr : IntKind.i64.wrap ((1 : Int) + 1) = 2 := by decide
    go_quiet ((go_at_call 20; exact Calls.quiet_of_same ((ib_any _ _ _).mono fun e w' ⟨h1, h2⟩ => ⟨h1.trans (by rw [HB.out, HN.out]), h2⟩)))
    go_wp2
    simp only [Exit.noGoto, Exit.inBlock, Exit.then]
    go_ret
    exact ⟨rfl, bel_drawn HBE.out _⟩


set_option maxRecDepth 1000000 in
set_option maxHeartbeats 4000000 in
theorem ir_high3 (s : ByteArray) (r : Nat) (a b x : UInt8) (hs : 3 ≤ s.size) (hs0 : 2 < s.size) (hm : s.size ≤ 65536) (hne : (((s[2]'hs0).toNat : Int) != (x.toNat : Int)) = true) (HN : Hid (Lib.indexByte (s.extract 3 s.size).data.toList x = -1))
    (h : 128 ≤ r) (h' : r ≠ 65533) (hv : Lib.validRune r = true) (he : Utf8.encode (r : Int) = ⟨#[a, b, x]⟩) (w : World) :
    Calls Tryz.prog 83 #[.string s, .int .i32 r] w fun e w' => e = .returned (.int .i64 (-1)) ∧ Below w.heap.size w w' := by
  have hcv := fun w => conv_rune r w
  rw [he] at hcv
  have h1 : decide ((r : Int) < 128) = false := by simp; omega
  have h2 : ((r : Int) == 65533) = false := beq_eq_false_iff_ne.2 (by omega)
  have hb : (x.toNat : Int).toNat.toUInt8 = x := by simp
  have HV := Lib.hid hv
  have HNE := Lib.hid hne
  have HB := Lib.hid hb
  clear he hv h' hne hb
  go_enter Tryz.func83, Tryz.ntmps83
  go_wp2_with (go_at_call 92; refine (validRune_q _ _ HV.out).mono ?_; rintro e w1 ⟨rfl, rfl⟩)
  go_step3
  have d1 : decide ((2 : Int) < (s.size : Int)) = true := by simp; omega
  have ix : ∀ wx, (Instr.index 9 (.string s) (.int .i64 2)).run Tryz.prog wx = .ok (.int .u8 ((s[2]'hs0).toNat : Nat)) wx := fun wx => idx_at s 2 hs0 wx
  have ir : ∀ wx, (Instr.index 9 (.string ⟨#[a, b, x]⟩) (.int .i64 2)).run Tryz.prog wx = .ok (.int .u8 x.toNat) wx := fun _ => by kernel_rfl
  have sl : ∀ wx, (Instr.slice 9 (.string s) (some (.int .i64 3)) none none).run Tryz.prog wx = .ok (.string (s.extract 3 s.size)) wx := fun wx => sl_at s 3 hs wx
  have hne := HNE.out
  generalize ((s[2]'hs0).toNat : Int) = y at ix hne
  generalize s.extract 3 s.size = t at sl HN
  go_wp2
  go_loopg [9, 10] 1 (fun g a b wx => a = .int .i64 2 ∧ b = .int .i64 0 ∧ wx = w)
  case atStart => exact ⟨rfl, rfl, rfl⟩
  case round =>
    obtain ⟨rfl, rfl, rfl⟩ := hrel
    go_wp2_with fail
    go_step3
    go_wp2_with fail
    go_quiet (fail)
    go_wp2_with fail
    have HBE := Lib.hid (bel_drawn (Below.refl wr.heap.size wr) nq)
    generalize wr.drewN nq = w2 at *
    have hwr : IntKind.i64.wrap ((2 : Int) + 1) = 3 := by decide
    go_quiet ((go_at_call 20; exact Calls.quiet_of_same ((ib_any _ _ _).mono fun e w' ⟨h1, h2⟩ => ⟨h1.trans (by rw [HB.out, HN.out]), h2⟩)))
    go_wp2
    simp only [Exit.noGoto, Exit.inBlock, Exit.then]
    go_ret
    exact ⟨rfl, bel_drawn HBE.out _⟩


set_option maxRecDepth 1000000 in
set_option maxHeartbeats 4000000 in
theorem ir_high4 (s : ByteArray) (r : Nat) (a b c x : UInt8) (hs : 4 ≤ s.size) (hs0 : 3 < s.size) (hm : s.size ≤ 65536) (hne : (((s[3]'hs0).toNat : Int) != (x.toNat : Int)) = true) (HN : Hid (Lib.indexByte (s.extract 4 s.size).data.toList x = -1))
    (h : 128 ≤ r) (h' : r ≠ 65533) (hv : Lib.validRune r = true) (he : Utf8.encode (r : Int) = ⟨#[a, b, c, x]⟩) (w : World) :
    Calls Tryz.prog 83 #[.string s, .int .i32 r] w fun e w' => e = .returned (.int .i64 (-1)) ∧ Below w.heap.size w w' := by
  have hcv := fun w => conv_rune r w
  rw [he] at hcv
  have h1 : decide ((r : Int) < 128) = false := by simp; omega
  have h2 : ((r : Int) == 65533) = false := beq_eq_false_iff_ne.2 (by omega)
  have hb : (x.toNat : Int).toNat.toUInt8 = x := by simp
  have HV := Lib.hid hv
  have HNE := Lib.hid hne
  have HB := Lib.hid hb
  clear he hv h' hne hb
  go_enter Tryz.func83, Tryz.ntmps83
  go_wp2_with (go_at_call 92; refine (validRune_q _ _ HV.out).mono ?_; rintro e w1 ⟨rfl, rfl⟩)
  go_step3
  have d1 : decide ((3 : Int) < (s.size : Int)) = true := by simp; omega
  have ix : ∀ wx, (Instr.index 9 (.string s) (.int .i64 3)).run Tryz.prog wx = .ok (.int .u8 ((s[3]'hs0).toNat : Nat)) wx := fun wx => idx_at s 3 hs0 wx
  have ir : ∀ wx, (Instr.index 9 (.string ⟨#[a, b, c, x]⟩) (.int .i64 3)).run Tryz.prog wx = .ok (.int .u8 x.toNat) wx := fun _ => by kernel_rfl
  have sl : ∀ wx, (Instr.slice 9 (.string s) (some (.int .i64 4)) none none).run Tryz.prog wx = .ok (.string (s.extract 4 s.size)) wx := fun wx => sl_at s 4 hs wx
  have hne := HNE.out
  generalize ((s[3]'hs0).toNat : Int) = y at ix hne
  generalize s.extract 4 s.size = t at sl HN
  go_wp2
  go_loopg [9, 10] 1 (fun g a b wx => a = .int .i64 3 ∧ b = .int .i64 0 ∧ wx = w)
  case atStart => exact ⟨rfl, rfl, rfl⟩
  case round =>
    obtain ⟨rfl, rfl, rfl⟩ := hrel
    go_wp2_with fail
    go_step3
    go_wp2_with fail
    go_quiet (fail)
    go_wp2_with fail
    have HBE := Lib.hid (bel_drawn (Below.refl wr.heap.size wr) nq)
    generalize wr.drewN nq = w2 at *
    have hwr : IntKind.i64.wrap ((3 : Int) + 1) = 4 := by decide
    go_quiet ((go_at_call 20; exact Calls.quiet_of_same ((ib_any _ _ _).mono fun e w' ⟨h1, h2⟩ => ⟨h1.trans (by rw [HB.out, HN.out]), h2⟩)))
    go_wp2
    simp only [Exit.noGoto, Exit.inBlock, Exit.then]
    go_ret
    exact ⟨rfl, bel_drawn HBE.out _⟩

theorem ir_high (r : Nat) (h : High r) (w : World) : Calls Tryz.prog 83 #[.string D10, .int .i32 r] w fun e w' => e = .returned (.int .i64 (-1)) ∧ Below w.heap.size w w' := by
  by_cases h0 : r = 65533
  · subst h0; exact ir_err w
  have hv : Lib.validRune r = true := by
    obtain ⟨h1, h2, h3⟩ := h
    unfold Lib.validRune
    rw [decide_eq_true_eq]
    omega
  obtain ⟨a, b, c, d, ⟨ha, hb, hc, hd⟩, e | e | e⟩ := enc_cases r h h0
  · exact ir_high2 D10 r a b (by decide) (by decide) (by decide) (d10_ne 1 b hb _) (d10_none 2 b hb) h.1 h0 hv e w
  · exact ir_high3 D10 r a b c (by decide) (by decide) (by decide) (d10_ne 2 c hc _) (d10_none 3 c hc) h.1 h0 hv e w
  · exact ir_high4 D10 r a b c d (by decide) (by decide) (by decide) (d10_ne 3 d hd _) (d10_none 4 d hd) h.1 h0 hv e w

/-! what the decoder makes of a byte that is no ASCII one: none of the bytes that it takes is a digit -/
theorem get_lt (s : ByteArray) (i : Nat) (h : i < s.size) : s.get! i = s[i]'h := by
  simp [ByteArray.get!, getElem!_pos, h]
  rfl
theorem decode_skip (s : ByteArray) (pos : Nat) (h : pos < s.size) (ha : 128 ≤ (s[pos]'h).toNat) :
    High (Utf8.decode s pos).1 ∧ 1 ≤ (Utf8.decode s pos).2 ∧ pos + (Utf8.decode s pos).2 ≤ s.size ∧ ∀ k, k < (Utf8.decode s pos).2 → 128 ≤ (s.get! (pos + k)).toNat := by
  have hb : ∀ k, (s.get! (pos + k)).toNat < 256 := fun k => (s.get! (pos + k)).toNat_lt
  have h0 : 128 ≤ (s.get! (pos + 0)).toNat := by rw [Nat.add_zero, get_lt s pos h]; exact ha
  have c0 := hb 0; have c1 := hb 1; have c2 := hb 2; have c3 := hb 3
  have hcont : ∀ k, (s.get! (pos + k)).toNat / 64 = 2 → 128 ≤ (s.get! (pos + k)).toNat := fun k h => by omega
  have one : ∀ k, k < 1 → 128 ≤ (s.get! (pos + k)).toNat := fun k hk => by obtain rfl : k = 0 := by omega
                                                                           exact h0
  have err : High Utf8.runeError ∧ 1 ≤ 1 ∧ pos + 1 ≤ s.size ∧ ∀ k, k < 1 → 128 ≤ (s.get! (pos + k)).toNat := ⟨by unfold High Utf8.runeError; omega, by omega, by omega, one⟩
  unfold Utf8.decode
  simp only
  rw [if_neg (by omega)]
  by_cases q1 : ((s.get! (pos + 0)).toNat / 32 == 6 && (decide (pos + 1 < s.size) && (s.get! (pos + 1)).toNat / 64 == 2)) = true
  · rw [if_pos q1]
    simp only [Bool.and_eq_true, beq_iff_eq, decide_eq_true_eq] at q1
    by_cases q2 : (s.get! (pos + 0)).toNat % 32 * 64 + (s.get! (pos + 1)).toNat % 64 ≥ 128
    · rw [if_pos q2]
      refine ⟨by unfold High; simp only; omega, by simp, by simp only; omega, fun k hk => ?_⟩
      simp only at hk
      rcases (show k = 0 ∨ k = 1 by omega) with rfl | rfl
      · exact h0
      · exact hcont 1 q1.2.2
    · rw [if_neg q2]; exact err
  rw [if_neg q1]
  by_cases q3 : ((s.get! (pos + 0)).toNat / 16 == 14 && (decide (pos + 1 < s.size) && (s.get! (pos + 1)).toNat / 64 == 2) && (decide (pos + 2 < s.size) && (s.get! (pos + 2)).toNat / 64 == 2)) = true
  · rw [if_pos q3]
    simp only [Bool.and_eq_true, beq_iff_eq, decide_eq_true_eq] at q3
    generalize hc : (s.get! (pos + 0)).toNat % 16 * 4096 + (s.get! (pos + 1)).toNat % 64 * 64 + (s.get! (pos + 2)).toNat % 64 = c
    by_cases q2 : (decide (c ≥ 2048) && Utf8.valid c) = true
    · rw [if_pos q2]
      simp only [Bool.and_eq_true, decide_eq_true_eq, Utf8.valid, Bool.or_eq_true] at q2
      refine ⟨by unfold High; simp only; omega, by simp, by simp only; omega, fun k hk => ?_⟩
      simp only at hk
      rcases (show k = 0 ∨ k = 1 ∨ k = 2 by omega) with rfl | rfl | rfl
      · exact h0
      · exact hcont 1 q3.1.2.2
      · exact hcont 2 q3.2.2
    · rw [if_neg q2]; exact err
  rw [if_neg q3]
  by_cases q4 : ((s.get! (pos + 0)).toNat / 8 == 30 && (decide (pos + 1 < s.size) && (s.get! (pos + 1)).toNat / 64 == 2) && (decide (pos + 2 < s.size) && (s.get! (pos + 2)).toNat / 64 == 2) && (decide (pos + 3 < s.size) && (s.get! (pos + 3)).toNat / 64 == 2)) = true
  · rw [if_pos q4]
    simp only [Bool.and_eq_true, beq_iff_eq, decide_eq_true_eq] at q4
    generalize hc : (s.get! (pos + 0)).toNat % 8 * 262144 + (s.get! (pos + 1)).toNat % 64 * 4096 + (s.get! (pos + 2)).toNat % 64 * 64 + (s.get! (pos + 3)).toNat % 64 = c
    by_cases q2 : (decide (c ≥ 65536) && Utf8.valid c) = true
    · rw [if_pos q2]
      simp only [Bool.and_eq_true, decide_eq_true_eq, Utf8.valid, Bool.or_eq_true] at q2
      refine ⟨by unfold High; simp only; omega, by simp, by simp only; omega, fun k hk => ?_⟩
      simp only at hk
      rcases (show k = 0 ∨ k = 1 ∨ k = 2 ∨ k = 3 by omega) with rfl | rfl | rfl | rfl
      · exact h0
      · exact hcont 1 q4.1.1.2.2
      · exact hcont 2 q4.1.2.2
      · exact hcont 3 q4.2.2
    · rw [if_neg q2]; exact err
  rw [if_neg q4]
  exact err
end Go.Proofs.YtaggmakaceafgaaGreatDoor.Sp

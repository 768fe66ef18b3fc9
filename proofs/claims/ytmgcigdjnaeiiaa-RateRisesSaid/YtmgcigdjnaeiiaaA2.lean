import Derived.Test.YtmgcigdjnaeiiaaA1
import Derived.IntWalk
namespace Go.Proofs.Ytmgcigdjnaeiiaa
open Go.RowKit Fl Ieee
set_option linter.unusedVariables false

/-- a whole number as a float; so many thousandths of a second, in seconds -/
def ofN (d : Nat) : Nat := double.write (.number false d 0)
def secF (d : Nat) : Nat := (double.div (ofN d) 4652007308841189376).getD 0
theorem k1000 : In 1032 1033 4652007308841189376 := ⟨by decide, by decide⟩
theorem ofN_in {d : Nat} (h0 : d ≠ 0) (hd : d ≤ 9007199254740992) : In (1023 + d.log2) (1024 + d.log2) (ofN d) := of_int h0 hd
theorem sec_is (d : Nat) (hd : d ≤ 9007199254740992) : double.div (ofN d) 4652007308841189376 = some (secF d) ∧ (d ≠ 0 → In 1012 1069 (secF d)) ∧ (d = 0 → secF d = 0) := by
  by_cases h0 : d = 0
  · subst h0
    have : double.div (ofN 0) 4652007308841189376 = some 0 := by unfold ofN; rw [of_zero]; exact div_zero ⟨by omega, by omega⟩
    have e : secF 0 = 0 := by unfold secF; rw [this]; rfl
    exact ⟨by rw [this, e], fun h => absurd rfl h, fun _ => e⟩
  · have hl : d.log2 < 54 := (Nat.log2_lt h0).2 (by omega)
    obtain ⟨z, hz, hin⟩ := div_in (ofN_in h0 hd) k1000 (by omega) (by omega) (by omega) (by omega) (by omega) (by omega)
    have e : secF d = z := by unfold secF; rw [hz]; rfl
    exact ⟨by rw [hz, e], fun _ => by rw [e]; exact hin.wide (by omega) (by omega), fun h => absurd h h0⟩
theorem floatOf (n : Nat) : floatOfInt .f64 (n : Int) = ofN n := by
  unfold floatOfInt
  show double.write (.number (decide ((n : Int) < 0)) (n : Int).natAbs 0) = _
  rw [decide_eq_false (by omega), Int.natAbs_natCast]
  rfl

theorem seconds_any (a b : Int) (d : Nat) (hd : b - a = (d : Int)) (h : d ≤ 9007199254740992) (w : World) : Calls Try.prog 16 #[.int .i64 a, .int .i64 b] w fun e w' => e = .returned (.float .f64 (secF d)) ∧ w = w' := by
  have hs := (sec_is d h).1
  have hr := fun (w : World) => run_float_arith (P := Try.prog) (w := w) .quo 28 .f64 (ofN d) 4652007308841189376 (secF d) hs
  have hw : IntKind.i64.wrap (b - a) = (d : Int) := by rw [hd]; exact IntWalk.i64_in _ (by omega)
  have hf := floatOf d
  clear hs
  generalize secF d = z at *
  generalize ofN d = x at *
  clear hd h
  go_enter Try.func16, Try.ntmps16
  go_wp2
  go_ret
  exact ⟨rfl, rfl⟩
theorem number_any (t : Int) (v : Nat) (w : World) : Calls Try.prog 26 #[.agg #[.int .i64 t, .int .u64 (v : Int)]] w fun e w' => e = .returned (.float .f64 v) ∧ w' = w.alloc (.cells #[.int .i64 t, .int .u64 (v : Int)] 31) := by
  have hb := fun w => frombits v w
  go_enter Try.func26, Try.ntmps26
  go_wp2
  go_ret
  exact ⟨rfl, rfl⟩
theorem reach_lt (gap most : Nat) (a b c : Nat) (w : World) (h1 : w.cell? ⟨a, 0, none⟩ = some (.float .f64 most)) (h : (double.order gap most == some .lt) = true) :
    Calls Try.prog 27 #[.float .f64 gap, .pointer (some ⟨a, 0, none⟩), .pointer (some ⟨b, 0, none⟩), .pointer (some ⟨c, 0, none⟩)] w fun e w' => e = .returned (.float .f64 gap) ∧ w = w' := by
  have h' : (FloatKind.f64.format.order gap most == some .lt) = true := h
  clear h
  go_enter Try.func27, Try.ntmps27
  go_wp2
  go_ret
  exact ⟨rfl, rfl⟩
theorem reach_ge (gap most mean half : Nat) (a b c : Nat) (w : World) (h1 : w.cell? ⟨a, 0, none⟩ = some (.float .f64 most)) (h2 : w.cell? ⟨b, 0, none⟩ = some (.func (.func 24) #[] #[])) (h3 : w.cell? ⟨c, 0, none⟩ = some (.float .f64 mean))
    (h : (double.order gap most == some .lt) = false) (hd : double.div mean 4611686018427387904 = some half) :
    Calls Try.prog 27 #[.float .f64 gap, .pointer (some ⟨a, 0, none⟩), .pointer (some ⟨b, 0, none⟩), .pointer (some ⟨c, 0, none⟩)] w fun e w' => e = .returned (.float .f64 half) ∧ w = w' := by
  have h' : (FloatKind.f64.format.order gap most == some .lt) = false := h
  have H := Lib.hid (fun w => over_is mean 4611686018427387904 half hd w)
  clear h hd
  go_enter Try.func27, Try.ntmps27
  go_wp2_with fail
  refine (H.out _).mono ?_
  rintro e w1 ⟨rfl, rfl⟩
  go_wp2
  go_ret
  exact ⟨rfl, rfl⟩
end Go.Proofs.Ytmgcigdjnaeiiaa

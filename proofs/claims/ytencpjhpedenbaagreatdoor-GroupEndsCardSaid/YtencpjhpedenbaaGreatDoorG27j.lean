/- What max, min, top and bottom come to, where all are numbers: the greatest, the least. No condition beside. -/
import Derived.Test.YtencpjhpedenbaaGreatDoorG3
import Derived.Test.YtencpjhpedenbaaGreatDoorG22j
import Derived.Test.YtencpjhpedenbaaGreatDoorG2
import Derived.Test.YtencpjhpedenbaaGreatDoorG9
namespace Go.Proofs.YtencpjhpedenbaaGreatDoor
open Go.RowKit Lb
set_option linter.unusedVariables false
set_option linter.unusedSimpArgs false

theorem none_ne {v : Int} (h : Vl.noneB v = false) : (v == 9221120237041090561) = false := by
  cases hc : (v == 9221120237041090561) with
  | false => rfl
  | true => rw [eq_of_beq hc] at h; exact absurd h (by decide)
theorem order_key (x y : Int) (hx : Vl.Bits x) (hy : Vl.Bits y) (nx : Vl.noneB x = false) (ny : Vl.noneB y = false) : Ieee.double.order x.toNat y.toNat = some (compare (Vl.key x) (Vl.key y)) := by
  obtain ⟨a, rfl⟩ : ∃ n : Nat, x = (n : Int) := ⟨x.toNat, by have := hx.1; omega⟩
  obtain ⟨b, rfl⟩ : ∃ n : Nat, y = (n : Int) := ⟨y.toNat, by have := hy.1; omega⟩
  have ha : a < 18446744073709551616 := by have := hx.2; omega
  have hb : b < 18446744073709551616 := by have := hy.2; omega
  unfold Vl.key
  rw [nx, ny]
  simp only [Int.toNat_natCast, Bool.false_eq_true, if_false]
  rw [Fl.order_vi a b ha hb]
  rw [Vl.none_nan a ha] at nx
  rw [Vl.none_nan b hb] at ny
  rw [nx, ny]; rfl
theorem num_key (x : Int) (hx : Vl.Bits x) (nx : Vl.noneB x = false) : numB x.toNat = true := by
  unfold numB
  rw [order_key x x hx hx nx nx]
  simp
theorem cmp_key_gt (a b : Int) : gtI a b = decide (Vl.key b < Vl.key a) := by
  unfold gtI Vl.cmpI
  rw [decide_eq_decide]
  split
  · omega
  · split <;> omega
theorem cmp_key_lt (a b : Int) : ltI a b = decide (Vl.key a < Vl.key b) := by
  unfold ltI Vl.cmpI
  rw [decide_eq_decide]
  split
  · omega
  · split <;> omega
theorem gtB_key (x y : Int) (hx : Vl.Bits x) (hy : Vl.Bits y) (nx : Vl.noneB x = false) (ny : Vl.noneB y = false) : gtB x.toNat y.toNat = decide (Vl.key y < Vl.key x) := by
  unfold gtB
  rw [order_key x y hx hy nx ny]
  rw [Bool.eq_iff_iff, beq_iff_eq, decide_eq_true_eq, Option.some.injEq, Int.compare_eq_gt]
theorem ltB_key (x y : Int) (hx : Vl.Bits x) (hy : Vl.Bits y) (nx : Vl.noneB x = false) (ny : Vl.noneB y = false) : ltB x.toNat y.toNat = decide (Vl.key x < Vl.key y) := by
  unfold ltB
  rw [order_key x y hx hy nx ny]
  rw [Bool.eq_iff_iff, beq_iff_eq, decide_eq_true_eq, Option.some.injEq, Int.compare_eq_lt]

theorem ch_max (S : List El) (hb : ∀ i, i < S.length → Vl.Bits (valI S i)) (hn : ∀ i, i < S.length → Vl.noneB (valI S i) = false) : ∀ k, k < S.length → ∃ j, j ≤ k ∧ chF gtB S k = (valI S j).toNat ∧ ∀ i, i ≤ k → Vl.key (valI S i) ≤ Vl.key (valI S j)
  | 0, h => ⟨0, Nat.le_refl _, rfl, fun i hi => by rw [Nat.le_zero.1 hi]; exact Int.le_refl _⟩
  | k + 1, h => by
    obtain ⟨j, hj, e, hm⟩ := ch_max S hb hn k (by omega)
    have hjl : j < S.length := by omega
    have e2 : chF gtB S (k + 1) = stepF gtB (valI S j).toNat (valI S (k + 1)).toNat := by rw [← e]; rfl
    rw [e2]
    unfold stepF
    rw [num_key _ (hb j hjl) (hn j hjl), gtB_key _ _ (hb _ h) (hb j hjl) (hn _ h) (hn j hjl)]
    by_cases hc : Vl.key (valI S j) < Vl.key (valI S (k + 1))
    · refine ⟨k + 1, Nat.le_refl _, by rw [decide_eq_true hc]; rfl, fun i hi => ?_⟩
      rcases Nat.lt_or_ge k i with h1 | h1
      · have : i = k + 1 := by omega
        rw [this]; exact Int.le_refl _
      · have := hm i h1; omega
    · refine ⟨j, by omega, by rw [decide_eq_false hc]; rfl, fun i hi => ?_⟩
      rcases Nat.lt_or_ge k i with h1 | h1
      · have : i = k + 1 := by omega
        rw [this]; omega
      · exact hm i h1
theorem top_max (S : List El) (hn : ∀ i, i < S.length → Vl.noneB (valI S i) = false) : ∀ k, k < S.length → ∀ i, i ≤ k → Vl.key (valI S i) ≤ Vl.key (bestAt gtI S k).1
  | 0, h => fun i hi => by rw [Nat.le_zero.1 hi]; exact Int.le_refl _
  | k + 1, h => by
    have ih := top_max S hn k (by omega)
    have hin := best_in gtI S k
    have e : bestAt gtI S (k + 1) = if lessF gtI (valI S (k + 1), k + 1) (bestAt gtI S k) = true then bestAt gtI S k else (valI S (k + 1), k + 1) := rfl
    rw [e]
    have hq : Vl.noneB (bestAt gtI S k).1 = false := by rw [hin.2]; exact hn _ (by omega)
    generalize bestAt gtI S k = q at *
    unfold lessF
    simp only [none_ne (hn _ h), none_ne hq, bne_self_eq_false, Bool.false_eq_true, if_false, cmp_key_gt]
    by_cases hc : Vl.key q.1 < Vl.key (valI S (k + 1))
    · rw [decide_eq_true hc]
      intro i hi
      simp only [if_true, Bool.false_eq_true, if_false]
      rcases Nat.lt_or_ge k i with h1 | h1
      · have : i = k + 1 := by omega
        rw [this]; exact Int.le_refl _
      · have := ih i h1; omega
    · rw [decide_eq_false hc]
      have hlt : decide (q.2 < k + 1) = true := decide_eq_true (by have := hin.1; omega)
      intro i hi
      rw [hlt]
      simp only [Bool.false_eq_true, if_false, if_true, ite_self]
      have hle : Vl.key (valI S i) ≤ Vl.key q.1 := by
        rcases Nat.lt_or_ge k i with h1 | h1
        · have : i = k + 1 := by omega
          rw [this]; omega
        · exact ih i h1
      exact hle

theorem ch_min (S : List El) (hb : ∀ i, i < S.length → Vl.Bits (valI S i)) (hn : ∀ i, i < S.length → Vl.noneB (valI S i) = false) : ∀ k, k < S.length → ∃ j, j ≤ k ∧ chF ltB S k = (valI S j).toNat ∧ ∀ i, i ≤ k → Vl.key (valI S j) ≤ Vl.key (valI S i)
  | 0, h => ⟨0, Nat.le_refl _, rfl, fun i hi => by rw [Nat.le_zero.1 hi]; exact Int.le_refl _⟩
  | k + 1, h => by
    obtain ⟨j, hj, e, hm⟩ := ch_min S hb hn k (by omega)
    have hjl : j < S.length := by omega
    have e2 : chF ltB S (k + 1) = stepF ltB (valI S j).toNat (valI S (k + 1)).toNat := by rw [← e]; rfl
    rw [e2]
    unfold stepF
    rw [num_key _ (hb j hjl) (hn j hjl), ltB_key _ _ (hb _ h) (hb j hjl) (hn _ h) (hn j hjl)]
    by_cases hc : Vl.key (valI S (k + 1)) < Vl.key (valI S j)
    · refine ⟨k + 1, Nat.le_refl _, by rw [decide_eq_true hc]; rfl, fun i hi => ?_⟩
      rcases Nat.lt_or_ge k i with h1 | h1
      · have : i = k + 1 := by omega
        rw [this]; exact Int.le_refl _
      · have := hm i h1; omega
    · refine ⟨j, by omega, by rw [decide_eq_false hc]; rfl, fun i hi => ?_⟩
      rcases Nat.lt_or_ge k i with h1 | h1
      · have : i = k + 1 := by omega
        rw [this]; omega
      · exact hm i h1
theorem top_min (S : List El) (hn : ∀ i, i < S.length → Vl.noneB (valI S i) = false) : ∀ k, k < S.length → ∀ i, i ≤ k → Vl.key (bestAt ltI S k).1 ≤ Vl.key (valI S i)
  | 0, h => fun i hi => by rw [Nat.le_zero.1 hi]; exact Int.le_refl _
  | k + 1, h => by
    have ih := top_min S hn k (by omega)
    have hin := best_in ltI S k
    have e : bestAt ltI S (k + 1) = if lessF ltI (valI S (k + 1), k + 1) (bestAt ltI S k) = true then bestAt ltI S k else (valI S (k + 1), k + 1) := rfl
    rw [e]
    have hq : Vl.noneB (bestAt ltI S k).1 = false := by rw [hin.2]; exact hn _ (by omega)
    generalize bestAt ltI S k = q at *
    unfold lessF
    simp only [none_ne (hn _ h), none_ne hq, bne_self_eq_false, Bool.false_eq_true, if_false, cmp_key_lt]
    by_cases hc : Vl.key (valI S (k + 1)) < Vl.key q.1
    · rw [decide_eq_true hc]
      intro i hi
      simp only [if_true, Bool.false_eq_true, if_false]
      rcases Nat.lt_or_ge k i with h1 | h1
      · have : i = k + 1 := by omega
        rw [this]; exact Int.le_refl _
      · have := ih i h1; omega
    · rw [decide_eq_false hc]
      have hlt : decide (q.2 < k + 1) = true := decide_eq_true (by have := hin.1; omega)
      intro i hi
      rw [hlt]
      simp only [Bool.false_eq_true, if_false, if_true, ite_self]
      have hle : Vl.key q.1 ≤ Vl.key (valI S i) := by
        rcases Nat.lt_or_ge k i with h1 | h1
        · have : i = k + 1 := by omega
          rw [this]; omega
        · exact ih i h1
      exact hle
end Go.Proofs.YtencpjhpedenbaaGreatDoor

namespace Go.Proofs.YtencpjhpedenbaaGreatDoor
open Go.RowKit Lb
set_option linter.unusedVariables false
set_option maxRecDepth 100000

def fl (k : Nat) : Nat := Ieee.double.write (.number false k 0)
theorem fl_add_all : ∀ a : Fin 61, ∀ b : Fin 61, a.1 + b.1 ≤ 60 → Ieee.double.add (fl a.1) (fl b.1) = some (fl (a.1 + b.1)) := by decide +kernel
theorem fl_add {a b : Nat} (h : a + b ≤ 60) : Ieee.double.add (fl a) (fl b) = some (fl (a + b)) := fl_add_all ⟨a, by omega⟩ ⟨b, by omega⟩ h
theorem fl_norm_all : ∀ a : Fin 61, Vl.normI (fl a.1 : Nat) = (fl a.1 : Nat) ∧ fl a.1 < 18446744073709551616 ∧ Ieee.double.order (fl a.1) (fl a.1) = some .eq := by decide +kernel
theorem fl_norm {a : Nat} (h : a ≤ 60) : Vl.normI (fl a : Nat) = (fl a : Nat) ∧ fl a < 18446744073709551616 ∧ Ieee.double.order (fl a) (fl a) = some .eq := fl_norm_all ⟨a, by omega⟩
theorem fl_zero : fl 0 = 0 := by decide +kernel
theorem fl_of (n : Nat) : floatOfInt .f64 (n : Int) = fl n := by
  unfold floatOfInt
  show Ieee.double.write (.number (decide ((n : Int) < 0)) (n : Int).natAbs 0) = _
  rw [decide_eq_false (by omega), Int.natAbs_natCast]
  rfl
end Go.Proofs.YtencpjhpedenbaaGreatDoor

namespace Go.Proofs.YtencpjhpedenbaaGreatDoor
open Go.RowKit Lb
set_option linter.unusedVariables false
set_option maxRecDepth 100000
set_option maxHeartbeats 2000000

theorem sum_any (LA EA : Option Addr) (nl lc ec : Nat) (S : List El) (C : Nat → Nat) (w : World) (hE : Els w EA S) (h0 : 0 < S.length) (hs : S.length ≤ 65536) (hC0 : C 0 = bitsAt S 0) (hC : ∀ k, k + 1 < S.length → Ieee.double.add (C k) (bitsAt S (k + 1)) = some (C (k + 1))) :
    Calls Tryz.prog 19 #[.agg #[.slice LA nl lc, .slice EA S.length ec]] w fun e w' => e = .returned (.float .f64 (C (S.length - 1))) ∧ Below w.heap.size w w' := by
  have HE := Lib.hid hE
  have CN := Lib.hid (fun W (hW : Below w.heap.size w W) k n v hn hv hk hs => number_is LA EA nl lc ec k n S v hn hv W (hE.below hW) hk hs)
  have HCH := Lib.hid hC
  have HC0 := Lib.hid hC0
  obtain ⟨r, hr⟩ : ∃ r, C (S.length - 1) = r := ⟨_, rfl⟩
  have HR := Lib.hid hr
  rw [hr]
  clear hE hr hC hC0
  generalize hn : S.length = n at *
  have HN := Lib.hid hn
  clear hn
  obtain ⟨x0, hx0⟩ : ∃ x, bitsAt S 0 = x := ⟨_, rfl⟩
  rw [hx0] at HC0
  have HX0 := Lib.hid hx0
  clear hx0
  have hb0 := Lib.hid ((Below.refl w.heap.size w).alloc (Nat.le_refl _) (.cells #[.slice LA nl lc, .slice EA n ec] 50))
  have hk0 := Lib.hid (Blk.new w 50 #[.slice LA nl lc, .slice EA n ec])
  go_enter Tryz.func19, Tryz.ntmps19
  generalize hw0 : (w.alloc (.cells #[.slice LA nl lc, .slice EA n ec] 50)) = w0 at *
  have d0 := hk0.out.cell 0
  have d1 := hk0.out.cell 1
  simp only [List.getElem?_toArray, List.getElem?_cons_zero, List.getElem?_cons_succ] at d0 d1
  go_wp2_with fail
  refine (CN.out _ hb0.out 0 n x0 rfl HX0.out h0 hs).mono ?_
  rintro e w1 ⟨rfl, hb1⟩
  have HB1 := Lib.hid (hb0.out.trans (hb1.mono hb0.out.size))
  have HK1 := Lib.hid (hk0.out.below hb1)
  clear hb1 d0 d1 hb0 hk0
  go_wp2
  go_loopw [3, 4] (fun a i wr => ∃ k : Nat, k + 1 ≤ n ∧ i = .int .i64 (k + 1 : Nat) ∧ a = .float .f64 (C k) ∧ Hid (Blk wr w.heap.size 50 #[.slice LA nl lc, .slice EA n ec]) ∧ Hid (Below w.heap.size w wr)) (fun _ i _ => n - (intOf i).toNat)
  case atStart => exact ⟨0, h0, rfl, by rw [HC0.out], HK1, HB1⟩
  case round =>
    obtain ⟨k, hk, rfl, rfl, HK, HB⟩ := hrel
    have d0 := HK.out.cell 0
    have d1 := HK.out.cell 1
    simp only [List.getElem?_toArray, List.getElem?_cons_zero, List.getElem?_cons_succ] at d0 d1
    by_cases hlt : k + 1 < n
    · obtain ⟨x, hx⟩ : ∃ x, bitsAt S (k + 1) = x := ⟨_, rfl⟩
      have HS := HCH.out k hlt
      rw [hx] at HS
      have HX := Lib.hid hx
      clear hx
      have d : decide (k + 1 < n) = true := by simpa using hlt
      obtain ⟨z, hz⟩ : ∃ z, C (k + 1) = z := ⟨_, rfl⟩
      have HZ := Lib.hid hz
      obtain ⟨was, hwas⟩ : ∃ z, C k = z := ⟨_, rfl⟩
      rw [hz, hwas] at HS
      rw [hwas]
      have hrun := fun (w : World) => run_float_arith (P := Tryz.prog) (w := w) .add 32 .f64 was x z HS
      clear HS hz hwas
      go_wp2_with fail
      refine (CN.out _ HB.out (k + 1) n x rfl HX.out hlt hs).mono ?_
      rintro e w2 ⟨rfl, hb2⟩
      have HB2 := Lib.hid (HB.out.trans (hb2.mono HB.out.size))
      have HK2 := Lib.hid (HK.out.below hb2)
      clear hb2 d0 d1
      go_wp2
      go_roundw
      case rel => exact ⟨k + 1, by omega, by go_num, by rw [HZ.out], HK2, HB2⟩
      case measure => simp [intOf]; omega
    · have d : decide (k + 1 < n) = false := by simpa using hlt
      obtain rfl : C k = r := by rw [← HR.out, show n - 1 = k by omega]
      go_wp2
      go_ret
      exact ⟨rfl, HB.out⟩
end Go.Proofs.YtencpjhpedenbaaGreatDoor

namespace Go.Proofs.YtencpjhpedenbaaGreatDoor
open Go.RowKit Lb
set_option linter.unusedVariables false

theorem part_none (LA : Option Addr) (lc : Nat) (w : World) : Calls Tryz.prog 13 #[.slice LA 0 lc, .slice none 0 0, .bool false] w fun e w' => e = .returned (.slice none 0 0) ∧ w = w' := by
  go_enter Tryz.func13, Tryz.ntmps13
  go_wp2
  go_loopw [7, 8, 9, 10] (fun s i _ _ wr => s = .slice none 0 0 ∧ i = .int .i64 0 ∧ Hid (wr = w)) (fun _ _ _ _ _ => 0)
  case atStart => exact ⟨rfl, rfl, rfl⟩
  case round =>
    obtain ⟨rfl, rfl, HW⟩ := hrel
    go_wp2
    go_ret
    exact ⟨rfl, HW.out.symm⟩
theorem perm_pull {α β : Type} {f : α → β} {l m : List β} (h : l.Perm m) : ∀ σ : List α, m = σ.map f → ∃ τ : List α, τ.Perm σ ∧ l = τ.map f := by
  induction h with
  | nil => intro σ e; exact ⟨[], by cases σ with | nil => exact List.Perm.nil | cons a r => simp at e, rfl⟩
  | cons x _ ih =>
    intro σ e
    cases σ with
    | nil => simp at e
    | cons a r =>
      simp only [List.map_cons, List.cons.injEq] at e
      obtain ⟨τ, h1, h2⟩ := ih r e.2
      exact ⟨a :: τ, h1.cons a, by rw [List.map_cons, ← e.1, h2]⟩
  | swap x y l =>
    intro σ e
    match σ, e with
    | a :: b :: r, e =>
      simp only [List.map_cons, List.cons.injEq] at e
      exact ⟨b :: a :: r, List.Perm.swap a b r, by rw [List.map_cons, List.map_cons, ← e.1, ← e.2.1, e.2.2]⟩
  | trans _ _ ih1 ih2 =>
    intro σ e
    obtain ⟨τ, h1, h2⟩ := ih2 σ e
    obtain ⟨ρ, h3, h4⟩ := ih1 τ h2
    exact ⟨ρ, h3.trans h1, h4⟩
theorem size_perm {τ σ : List Pl} (h : τ.Perm σ) : sizeS τ = sizeS σ := by
  induction h with
  | nil => rfl
  | cons x _ ih => unfold sizeS at *; simp [ih]
  | swap x y l => unfold sizeS; simp; omega
  | trans _ _ ih1 ih2 => exact ih1.trans ih2
theorem size_take (τ : List Pl) : ∀ k, k < τ.length → sizeS (τ.take (k + 1)) = sizeS (τ.take k) + (τ.getD k q0).2.length := by
  intro k hk
  rw [List.take_succ_eq_append_getElem hk, show τ.getD k q0 = τ[k] by simp [hk]]
  unfold sizeS
  rw [List.map_append, List.sum_append, List.map_singleton, List.sum_singleton]
theorem size_le (τ : List Pl) (k : Nat) : sizeS (τ.take k) ≤ sizeS τ := by
  have : sizeS τ = sizeS (τ.take k) + sizeS (τ.drop k) := by
    unfold sizeS
    rw [← List.sum_append, ← List.map_append, List.take_append_drop]
  omega
end Go.Proofs.YtencpjhpedenbaaGreatDoor

import Derived.Test.YtmnhoafhoaklcaaW3
namespace Go.Proofs.Ytmnhoafhoaklcaa
open Go.RowKit Pk
set_option linter.unusedVariables false

set_option maxHeartbeats 800000 in
theorem beyond_any (ba bt b0 off n cap : Nat) (i : Nat) (x t : Int) (w : World) (hi : i < n)
    (ha : w.cell? ⟨ba, 0, none⟩ = some (.slice (some ⟨b0, off, none⟩) n cap)) (ht : w.cell? ⟨bt, 0, none⟩ = some (.int .i64 t)) (hc : w.cell? ⟨b0, off + i * 2, none⟩ = some (.int .i64 x)) :
    Calls Try.prog 19 #[.int .i64 i, .pointer (some ⟨ba, 0, none⟩), .pointer (some ⟨bt, 0, none⟩)] w fun e w' => e = .returned (.bool (decide (t < x))) ∧ ∃ q, w' = w.drewN q := by
  have hiz : (i : Int) < (n : Int) := by omega
  go_enter Try.func19, Try.ntmps19
  go_wp2
  go_quiet (fail)
  go_wp2
  go_ret
  exact ⟨rfl, _, rfl⟩

set_option maxHeartbeats 2000000 in
theorem search_any (cb : Array Value) (c1 c2 : Value) (n : Nat) (p : Nat → Bool) (w : World) (hsz : n ≤ 65536)
    (hf : ∀ m i : Nat, i < n → Calls Try.prog 19 #[.int .i64 i, c1, c2] (w.drewN m) fun e w' => e = .returned (.bool (p i)) ∧ ∃ q, w' = (w.drewN m).drewN q)
    (hmono : ∀ a b, a ≤ b → b < n → p a = true → p b = true) :
    Calls Try.prog 18 #[.int .i64 n, .func (.func 19) #[] #[c1, c2]] w fun e w' => e = .returned (.int .i64 ((List.range n).countP (fun i => !p i) : Nat)) ∧ ∃ q, w' = w.drewN q := by
  have HF := Lib.hid hf
  have M := Lib.hid hmono
  clear hf hmono
  generalize hcnt : (List.range n).countP (fun i => !p i) = cnt
  have CN := Lib.hid hcnt
  clear hcnt
  go_enter Try.func18, Try.ntmps18
  go_wp2
  go_loopg [5, 6] n (fun kx s5 s6 wr => ∃ (lo hi q : Nat), s5 = .int .i64 lo ∧ s6 = .int .i64 hi ∧ lo ≤ hi ∧ hi ≤ n ∧ hi - lo ≤ kx ∧ wr = w.drewN q ∧
    Hid ((∀ t, t < lo → p t = false) ∧ (∀ t, hi ≤ t → t < n → p t = true)))
  case atStart => exact ⟨0, n, 0, rfl, rfl, Nat.zero_le _, Nat.le_refl _, by omega, rfl, (⟨fun t ht => absurd ht (Nat.not_lt_zero _), fun t h1 h2 => by omega⟩ : (∀ t, t < 0 → p t = false) ∧ (∀ t, n ≤ t → t < n → p t = true))⟩
  case round =>
    obtain ⟨lo, hi, q, rfl, rfl, hlh, hin, hg, rfl, I⟩ := hrel
    by_cases hlt : lo < hi
    · have hc := HF.out q ((lo + hi) / 2) (by omega)
      rw [show (((lo + hi) / 2 : Nat) : Int) = ((lo : Int) + (hi : Int)) / 2 by omega] at hc
      cases hp : p ((lo + hi) / 2) <;> rw [hp] at hc
      · have HP := Lib.hid hp
        have HC := Lib.hid hc
        clear hp hc
        go_wp2_with fail
        refine (HC.out).mono ?_
        rintro e w' ⟨rfl, nq, rfl⟩
        go_wp2
        go_roundg (hi - ((lo + hi) / 2 + 1))
        case measure => omega
        case rel =>
          have I2 : Hid ((∀ t, t < (lo + hi) / 2 + 1 → p t = false) ∧ (∀ t, hi ≤ t → t < n → p t = true)) := ⟨fun t ht => (by
            cases h : p t with
            | false => rfl
            | true => have := M.out t ((lo + hi) / 2) (by omega) (by omega) h; rw [HP.out] at this; cases this), I.out.2⟩
          exact ⟨(lo + hi) / 2 + 1, hi, q + nq, by rw [show ((lo : Int) + (hi : Int)) / 2 + 1 = (((lo + hi) / 2 + 1 : Nat) : Int) by omega], rfl, by omega, hin, Nat.le_refl _, by first | rfl | exact World.drewN_drewN w q nq, I2⟩
      · have HP := Lib.hid hp
        have HC := Lib.hid hc
        clear hp hc
        go_wp2_with fail
        refine (HC.out).mono ?_
        rintro e w' ⟨rfl, nq, rfl⟩
        go_wp2
        go_roundg ((lo + hi) / 2 - lo)
        case measure => omega
        case rel =>
          have I2 : Hid ((∀ t, t < lo → p t = false) ∧ (∀ t, (lo + hi) / 2 ≤ t → t < n → p t = true)) := ⟨I.out.1, fun t ht htn => M.out ((lo + hi) / 2) t ht htn HP.out⟩
          exact ⟨lo, (lo + hi) / 2, q + nq, rfl, by rw [show ((lo : Int) + (hi : Int)) / 2 = (((lo + hi) / 2 : Nat) : Int) by omega], by omega, by omega, Nat.le_refl _, by first | rfl | exact World.drewN_drewN w q nq, I2⟩
    · obtain rfl : hi = lo := by omega
      have ecnt : cnt = hi := by
        rw [← CN.out]
        exact countP_range_prefix _ _ _ hin (fun i h => by simp [I.out.1 i h]) (fun i h1 h2 => by simp [I.out.2 i h1 h2])
      subst ecnt
      go_wp2
      go_ret
      exact ⟨rfl, q, rfl⟩

theorem cell_box {W : World} {a : Addr} {v : Value} (o : Obj) (h : W.cell? a = some v) : (W.alloc o).cell? a = some v :=
  (World.cell?_alloc_lt W o a (World.block_lt_of_cell? _ _ h)).trans h
theorem cell_own (W : World) (v : Value) (t : TypeId) : (W.alloc (.cells #[v] t)).cell? ⟨W.heap.size, 0, none⟩ = some v := by
  rw [World.cell?_alloc_at _ _ _ _ (by simp)]; rfl

set_option maxHeartbeats 2000000 in
theorem upto_any (A : Option Addr) (cap : Nat) (l : List Pt) (t : Int) (w : World) (hp : Pts w A l) (hl : l.length ≤ 65536) (hg : Rise l l.length) :
    Calls Try.prog 14 #[.slice A l.length cap, .int .i64 t] w fun e w' => e = .returned (.int .i64 (cnt l t : Nat)) ∧ Below w.heap.size w w' := by
  have hcl : ∀ m i : Nat, i < l.length → Calls Try.prog 19 #[.int .i64 i, .pointer (some ⟨w.heap.size, 0, none⟩), .pointer (some ⟨w.heap.size + 1, 0, none⟩)] (((w.alloc (.cells #[.slice A l.length cap] 22)).alloc (.cells #[.int .i64 t] 2)).drewN m) fun e w' => e = .returned (.bool (decide (t < (l.getD i d0).1))) ∧ ∃ q, w' = (((w.alloc (.cells #[.slice A l.length cap] 22)).alloc (.cells #[.int .i64 t] 2)).drewN m).drewN q := by
    intro m i hi
    obtain ⟨b0, off, rfl, hb0, hc⟩ := hp (by omega)
    refine beyond_any _ _ b0 off l.length cap i _ t _ hi ?_ ?_ ?_
    · exact cell_box _ (cell_own _ _ _)
    · have := cell_own (w.alloc (.cells #[.slice (some ⟨b0, off, none⟩) l.length cap] 22)) (.int .i64 t) 2
      rw [World.size_alloc] at this
      exact this
    · exact cell_box _ (cell_box _ (hc i hi).1)
  have hs := search_any #[] _ _ l.length (fun i => decide (t < (l.getD i d0).1)) ((w.alloc (.cells #[.slice A l.length cap] 22)).alloc (.cells #[.int .i64 t] 2)) hl hcl (fun a b hab hb h => by
    have := hg.le hab hb
    simp only [decide_eq_true_eq] at h ⊢
    omega)
  have HS := Lib.hid hs
  clear hs hcl
  change Hid (Calls Try.prog 18 _ _ fun e w' => e = .returned (.int .i64 (cnt l t : Nat)) ∧ _) at HS
  generalize cnt l t = c at *
  generalize l.length = n at *
  clear hp hg
  go_enter Try.func14, Try.ntmps14
  go_wp2_with fail
  refine (HS.out).mono ?_
  rintro e w' ⟨rfl, nq, rfl⟩
  go_wp2
  go_ret
  exact ⟨rfl, by
    have k := ((Below.refl w.heap.size w).alloc (Nat.le_refl _) (.cells #[.slice A n cap] 22)).alloc (by simp) (.cells #[.int .i64 t] 2)
    exact ⟨k.os, k.tape, k.output, k.size, k.block⟩⟩
end Go.Proofs.Ytmnhoafhoaklcaa

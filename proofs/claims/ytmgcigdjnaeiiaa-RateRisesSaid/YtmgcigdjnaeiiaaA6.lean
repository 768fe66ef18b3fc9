import Derived.Test.YtmgcigdjnaeiiaaA5
namespace Go.Proofs.Ytmgcigdjnaeiiaa
open Go.RowKit Fl Ieee
set_option linter.unusedVariables false

def Rising (l : List Pt) (k : Nat) : Prop := ∀ i, 1 ≤ i → i < k → (l.getD (i - 1) e0).1 < (l.getD i e0).1
theorem near_is (t : Int) (r : Bool) (h : (decide (-4503599627370496 ≤ t) && decide (t ≤ 4503599627370496)) = r) (w : World) : Calls Try.prog 22 #[.int .i64 t] w fun e w' => e = .returned (.bool r) ∧ w = w' := by
  subst h; exact near_any t w

set_option maxRecDepth 100000 in
set_option maxHeartbeats 4000000 in
theorem usable_any (A : Option Addr) (cap : Nat) (l : List Pt) (s e : Int) (r : Bool) (yes : Usable l s e → r = true) (no : ¬ Usable l s e → r = false) (w : World) (hL : Pts w A l) (hm : l.length ≤ 65536) :
    Calls Try.prog 14 #[.slice A l.length cap, .int .i64 s, .int .i64 e] w fun x w' => x = .returned (.bool r) ∧ Below w.heap.size w w' := by
  by_cases hn : l.length < 2
  · obtain rfl := no (fun h => by have := h.1; omega)
    have d : (l.length : Int) < 2 := by omega
    clear yes no hL
    generalize l.length = n at *
    go_enter Try.func14, Try.ntmps14
    go_wp2
    go_ret
    exact ⟨rfl, Below.refl _ _⟩
  have d : ¬ (l.length : Int) < 2 := by omega
  obtain ⟨b, off, rfl, hlt, hc⟩ := hL (by omega)
  have HC := Lib.hid hc
  have a1 := (hc (l.length - 1) (by omega)).1
  have a3 := (hc 0 (by omega)).1
  rw [Nat.zero_mul, Nat.add_zero] at a3
  cases h1 : (decide (-4503599627370496 ≤ s) && decide (s ≤ 4503599627370496)) with
  | false =>
    obtain rfl := no (fun h => by have h2 := h.2.1; have h3 := h.2.2.1; simp at h1; omega)
    have H1 := Lib.hid (fun W => near_is s false h1 W)
    clear yes no hL hc h1 a1 a3
    generalize l.length = n at *
    go_enter Try.func14, Try.ntmps14
    go_wp2_with fail
    refine (H1.out _).mono ?_
    rintro x w1 ⟨rfl, rfl⟩
    go_wp2
    go_ret
    exact ⟨rfl, Below.refl _ _⟩
  | true =>
  have H1 := Lib.hid (fun W => near_is s true h1 W)
  cases h2 : (decide (-4503599627370496 ≤ e) && decide (e ≤ 4503599627370496)) with
  | false =>
    obtain rfl := no (fun h => by have h3 := h.2.2.2.1; have h4 := h.2.2.2.2.1; simp at h2; omega)
    have H2 := Lib.hid (fun W => near_is e false h2 W)
    clear yes no hL hc h1 h2 a1 a3
    generalize l.length = n at *
    go_enter Try.func14, Try.ntmps14
    go_wp2_with fail
    refine (H1.out _).mono ?_
    rintro x w1 ⟨rfl, rfl⟩
    go_wp2_with fail
    refine (H2.out _).mono ?_
    rintro x w1 ⟨rfl, rfl⟩
    go_wp2
    go_ret
    exact ⟨rfl, Below.refl _ _⟩
  | true =>
  have H2 := Lib.hid (fun W => near_is e true h2 W)
  simp at h1 h2
  have HNO := Lib.hid no
  have HYES := Lib.hid yes
  have HHE := Lib.hid (⟨h1, h2⟩ : (-4503599627370496 ≤ s ∧ s ≤ 4503599627370496) ∧ (-4503599627370496 ≤ e ∧ e ≤ 4503599627370496))
  have HN2 := Lib.hid hn
  clear no yes hL hc h1 h2
  generalize hnn : l.length = n at *
  have HLN := Lib.hid hnn
  clear hnn
  have i1 : (0 : Int) ≤ (n : Int) - 1 := by omega
  have i2 : (n : Int) - 1 < (n : Int) := by omega
  have i3 : ((n : Int) - 1).toNat = n - 1 := by omega
  have i5 : (0 : Int) < (n : Int) := by omega
  have i6 : 0 < n := by omega
  by_cases h3 : (l.getD 0 e0).1 ≤ s
  · obtain rfl := HNO.out (fun h => by have := h.2.2.2.2.2.1; omega)
    generalize (l.getD 0 e0).1 = t0 at *
    clear a1
    go_enter Try.func14, Try.ntmps14
    go_wp2_with fail
    refine (H1.out _).mono ?_
    rintro x w1 ⟨rfl, rfl⟩
    go_wp2_with fail
    refine (H2.out _).mono ?_
    rintro x w1 ⟨rfl, rfl⟩
    go_wp2
    go_ret
    exact ⟨rfl, Below.refl _ _⟩
  by_cases h4 : e < (l.getD (n - 1) e0).1
  · obtain rfl := HNO.out (fun h => by have := h.2.2.2.2.2.2.1; rw [HLN.out] at this; omega)
    generalize (l.getD 0 e0).1 = t0 at *
    generalize (l.getD (n - 1) e0).1 = t1 at *
    go_enter Try.func14, Try.ntmps14
    go_wp2_with fail
    refine (H1.out _).mono ?_
    rintro x w1 ⟨rfl, rfl⟩
    go_wp2_with fail
    refine (H2.out _).mono ?_
    rintro x w1 ⟨rfl, rfl⟩
    go_wp2
    go_ret
    exact ⟨rfl, Below.refl _ _⟩
  have HU : Hid (Rising l n → Usable l s e) := fun hR => ⟨by rw [HLN.out]; have := HN2.out; omega, HHE.out.1.1, HHE.out.1.2, HHE.out.2.1, HHE.out.2.2, by omega, by rw [HLN.out]; omega, fun k h1 h2 => hR k h1 (by rw [← HLN.out]; exact h2)⟩
  generalize (l.getD 0 e0).1 = t0 at *
  generalize (l.getD (n - 1) e0).1 = t1 at *
  go_enter Try.func14, Try.ntmps14
  go_wp2_with fail
  refine (H1.out _).mono ?_
  rintro x w1 ⟨rfl, rfl⟩
  go_wp2_with fail
  refine (H2.out _).mono ?_
  rintro x w1 ⟨rfl, rfl⟩
  go_wp2_with fail
  clear a1 a3 i1 i2 i3
  go_loopg [8] (n - 1) (fun g s8 wx => ∃ (k q : Nat), 1 ≤ k ∧ k + g = n ∧ s8 = .int .i64 k ∧ Hid (Rising l k) ∧ wx = w.drewN q)
  case atStart => exact ⟨1, 0, by omega, by omega, rfl, fun i h1 h2 => absurd h2 (by omega), rfl⟩
  case round =>
    obtain ⟨k, q, hk1, hkg, rfl, HR, rfl⟩ := hrel
    by_cases hlt2 : k < n
    · obtain ⟨g, rfl⟩ : ∃ g, gk = g + 1 := ⟨gk - 1, by omega⟩
      have c1 : (w.drewN q).cell? ⟨b, off + (k - 1) * 2, none⟩ = _ := (HC.out (k - 1) (by omega)).1
      have c2 : (w.drewN q).cell? ⟨b, off + k * 2, none⟩ = _ := (HC.out k hlt2).1
      have HB2 := Lib.hid (bel_drawn (Below.refl w.heap.size w) q)
      have HW2 := Lib.hid (rfl : w.drewN q = w.drewN q)
      have j1 : (1 : Int) ≤ (k : Int) := by omega
      have j2 : (k : Int) - 1 < (n : Int) := by omega
      have j3 : ((k : Int) - 1).toNat = k - 1 := by omega
      have j4 : (0 : Int) ≤ (k : Int) - 1 := by omega
      have j5 : (k : Int) < (n : Int) := by omega
      have j6 : IntKind.i64.wrap ((k : Int) - 1) = (k : Int) - 1 := IntWalk.i64_in _ (by omega)
      have HRS : Hid ((l.getD (k - 1) e0).1 < (l.getD k e0).1 → Rising l (k + 1)) := fun h i h1 h2 => by
        by_cases e : i = k
        · subst e; exact h
        · exact HR.out i h1 (by omega)
      have HBD : Hid (¬ (l.getD (k - 1) e0).1 < (l.getD k e0).1 → r = false) := fun h => HNO.out (fun hu => h (hu.2.2.2.2.2.2.2 k hk1 (by rw [HLN.out]; exact hlt2)))
      generalize hw2 : w.drewN q = w2 at *
      have HWW := Lib.hid hw2
      clear hw2 HW2
      generalize (l.getD (k - 1) e0).1 = ta at *
      generalize (l.getD k e0).1 = tb at *
      by_cases hf : ta < tb
      · have HS := Lib.hid (HRS.out hf)
        have df : ¬ tb ≤ ta := by omega
        go_wp2_with fail
        go_quiet (fail)
        go_wp2
        go_roundg g
        case measure => omega
        case rel => exact ⟨k + 1, q + nq, by omega, by omega, by go_num, HS, by rw [← HWW.out, World.drewN_drewN]⟩
      · obtain rfl := HBD.out hf
        have df : tb ≤ ta := by omega
        go_wp2_with fail
        go_quiet (fail)
        go_wp2
        go_ret
        exact ⟨rfl, bel_drawn HB2.out _⟩
    · obtain rfl : k = n := by omega
      obtain rfl := HYES.out (HU.out HR.out)
      have HB2 := Lib.hid (bel_drawn (Below.refl w.heap.size w) q)
      go_wp2
      go_ret
      exact ⟨rfl, HB2.out⟩
end Go.Proofs.Ytmgcigdjnaeiiaa

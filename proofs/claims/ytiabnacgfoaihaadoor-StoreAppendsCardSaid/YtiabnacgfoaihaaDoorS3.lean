import Derived.Test.YtiabnacgfoaihaaDoorS2
namespace Go.Proofs.YtiabnacgfoaihaaDoor
open Go.RowKit Lb
set_option linter.unusedVariables false

/-! plain facts: series in order -/
/-- labels that are less stand ahead of a place, the others from it on -/
def Reach (S : List Ser) (l : List Lab) (a : Nat) : Prop := a ≤ S.length ∧ (∀ i, i < a → cmpL (S.getD i s0).1 l < 0) ∧ (a < S.length → 0 ≤ cmpL (S.getD a s0).1 l)
theorem Reach.same {S : List Ser} {l : List Lab} {a b : Nat} (h : Reach S l a) (k : Reach S l b) : a = b := by
  rcases Nat.lt_trichotomy a b with h1 | h1 | h1
  · have := k.2.1 a h1; have := h.2.2 (by have := k.1; omega); omega
  · exact h1
  · have := h.2.1 b h1; have := k.2.2 (by have := h.1; omega); omega
/-- what Find tells -/
def Found (S : List Ser) (l : List Lab) (a : Nat) (ok : Bool) : Prop :=
  (ok = true ∧ a < S.length ∧ cmpL (S.getD a s0).1 l = 0 ∧ ∀ i, i < a → cmpL (S.getD i s0).1 l ≠ 0) ∨ (ok = false ∧ (∀ i, i < S.length → cmpL (S.getD i s0).1 l ≠ 0) ∧ Reach S l a)
theorem Found.same {S : List Ser} {l : List Lab} {a b : Nat} {x y : Bool} (h : Found S l a x) (k : Found S l b y) : a = b ∧ x = y := by
  rcases h with ⟨rfl, h1, h2, h3⟩ | ⟨rfl, h1, h2⟩ <;> rcases k with ⟨rfl, k1, k2, k3⟩ | ⟨rfl, k1, k2⟩
  · refine ⟨?_, rfl⟩
    rcases Nat.lt_trichotomy a b with h4 | h4 | h4
    · exact absurd h2 (k3 a h4)
    · exact h4
    · exact absurd k2 (h3 b h4)
  · exact absurd h2 (k1 a h1)
  · exact absurd k2 (h1 b k1)
  · exact ⟨h2.same k2, rfl⟩

/-- no labels less than those ahead of them -/
def UpTo (S : List Ser) (a : Nat) : Prop := ∀ i, i + 1 < a → 0 ≤ cmpL (S.getD (i + 1) s0).1 (S.getD i s0).1
def DownFrom (S : List Ser) (a : Nat) : Prop := ∀ i, a ≤ i → i + 1 < S.length → 0 ≤ cmpL (S.getD (i + 1) s0).1 (S.getD i s0).1

/-! slices.IsSortedFunc -/
def SortedP (S : List Ser) (w : World) (e : Ending) (w' : World) : Prop := (∃ r, e = .returned (.bool r) ∧ (r = true ↔ DownFrom S 0)) ∧ Below w.heap.size w w'
set_option maxRecDepth 100000 in
set_option maxHeartbeats 2000000 in
theorem sorted_any (A : Option Addr) (c : Nat) (S : List Ser) (w : World) (hS : Srs w A S) (hb : ∀ i, i < S.length → (S.getD i s0).1.length ≤ 65536) (hl : S.length ≤ 65536) :
    Calls Tryd.prog 28 #[.slice A S.length c, .func (.func 29) #[] #[]] w (SortedP S w) := by
  have HS := Lib.hid hS
  have HBd := Lib.hid hb
  clear hS hb
  generalize hn : S.length = n at *
  have HN := Lib.hid hn
  clear hn
  go_enter Tryd.func28, Tryd.ntmps28
  go_wp2
  go_loopw [5] (fun i wr => ∃ z : Int, i = .int .i64 z ∧ z < n ∧ -1 ≤ z ∧ Hid (∀ i : Nat, z ≤ i → i + 1 < n → 0 ≤ cmpL (S.getD (i + 1) s0).1 (S.getD i s0).1) ∧ Hid (Below w.heap.size w wr)) (fun i _ => (intOf i + 1).toNat)
  case atStart => exact ⟨(n : Int) - 1, rfl, by omega, by omega, fun i h1 h2 => by omega, Below.refl _ _⟩
  case round =>
    obtain ⟨z, rfl, hz1, hz2, HD, HB⟩ := hrel
    by_cases hlt : 0 < z
    · obtain ⟨t, rfl⟩ : ∃ t : Nat, z = (t : Int) + 1 := ⟨(z - 1).toNat, by omega⟩
      have ht : t + 1 < n := by omega
      have ht0 : t < n := by omega
      have HSr := HS.out.below HB.out
      obtain ⟨b, off, LA, lc, PA, pc, rfl, hlb, hx1, hy1, hL1, _⟩ := HSr.at_ (i := t + 1) (by rw [HN.out]; exact ht)
      obtain ⟨b', off', LA', lc', PA', pc', e', hlb', hx2, hy2, hL2, _⟩ := HSr.at_ (i := t) (by rw [HN.out]; exact ht0)
      injection e' with e'
      injection e' with e1 e2
      subst e1; subst e2
      generalize hr : cmpL (S.getD (t + 1) s0).1 (S.getD t s0).1 = r at *
      have H := Lib.hid (fun W (hW : Below wr.heap.size wr W) => cmpSer_any LA LA' lc lc' (.slice PA (S.getD (t + 1) s0).2.length pc) (.slice PA' (S.getD t s0).2.length pc') _ _ r hr W (hL1.below hW) (hL2.below hW) (HBd.out _ ht) (HBd.out _ ht0))
      have HR := Lib.hid hr
      clear hL1 hL2 hr
      generalize (S.getD (t + 1) s0).1.length = m1 at *
      generalize (S.getD (t + 1) s0).2.length = m2 at *
      generalize (S.getD t s0).1.length = m3 at *
      generalize (S.getD t s0).2.length = m4 at *
      have f1 : (t : Int) + 1 < (n : Int) := by omega
      have f2 : (0 : Int) ≤ (t : Int) + 1 := by omega
      have f3 : ((t : Int) + 1).toNat = t + 1 := by omega
      have f4 : IntKind.i64.wrap ((t : Int) + 1 - 1) = (t : Int) := by rw [show (t : Int) + 1 - 1 = (t : Int) by omega]; exact IntWalk.i64_in _ (by omega)
      have f7 : IntKind.i64.wrap (t : Int) = (t : Int) := IntWalk.i64_in _ (by omega)
      have f5 : (t : Int) < (n : Int) := by omega
      have f6 : IntKind.i64.wrap ((t : Int) + 1) = (t : Int) + 1 := IntWalk.i64_in _ (by omega)
      by_cases hneg : r < 0
      · have dn : decide (r < 0) = true := by simpa using hneg
        go_wp2_with fail
        go_still_tail 10, (by kernel_rfl)
        go_wp2_with fail
        refine (H.out _ (Below.refl _ _).drew).mono ?_
        rintro e w1 ⟨rfl, hb1⟩
        have HB1 := Lib.hid (HB.out.drew.trans (hb1.mono (by exact HB.out.size)))
        clear hb1
        go_wp2
        go_ret
        refine ⟨⟨false, rfl, ⟨(fun h => by cases h), fun h => ?_⟩⟩, HB1.out⟩
        have := h t (Nat.zero_le _) (by rw [HN.out]; exact ht)
        rw [HR.out] at this
        omega
      · have dn : decide (r < 0) = false := by simpa using hneg
        go_wp2_with fail
        go_still_tail 10, (by kernel_rfl)
        go_wp2_with fail
        refine (H.out _ (Below.refl _ _).drew).mono ?_
        rintro e w1 ⟨rfl, hb1⟩
        have HB1 := Lib.hid (HB.out.drew.trans (hb1.mono (by exact HB.out.size)))
        clear hb1
        go_wp2
        go_roundw
        case rel =>
          refine ⟨(t : Int), by simp, by omega, by omega, fun i h1 h2 => ?_, HB1⟩
          by_cases e : i = t
          · subst e; rw [HR.out]; omega
          · exact HD.out i (by omega) h2
        case measure => simp [intOf]; omega
    · go_wp2
      go_ret
      refine ⟨⟨true, rfl, ⟨fun _ i h1 h2 => HD.out i (by omega) (by rw [← HN.out]; exact h2), fun _ => rfl⟩⟩, HB.out⟩
end Go.Proofs.YtiabnacgfoaihaaDoor

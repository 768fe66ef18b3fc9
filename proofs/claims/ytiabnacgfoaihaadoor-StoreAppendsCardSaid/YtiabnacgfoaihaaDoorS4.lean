import Derived.Test.YtiabnacgfoaihaaDoorS3
namespace Go.Proofs.YtiabnacgfoaihaaDoor
open Go.RowKit Lb
set_option linter.unusedVariables false

/-! sort.Search over series -/
/-- labels of series are not too many for a look -/
def Few (S : List Ser) : Prop := S.length ≤ 65536 ∧ ∀ i, i < S.length → (S.getD i s0).1.length ≤ 65536 ∧ (S.getD i s0).2.length ≤ 65536
def Rises (S : List Ser) (l : List Lab) : Prop := ∀ i j, i ≤ j → j < S.length → 0 ≤ cmpL (S.getD i s0).1 l → 0 ≤ cmpL (S.getD j s0).1 l
def SearchP (S : List Ser) (l : List Lab) (w : World) (e : Ending) (w' : World) : Prop := (∃ a : Nat, e = .returned (.int .i64 a) ∧ Reach S l a) ∧ Below w.heap.size w w'

set_option maxRecDepth 100000 in
set_option maxHeartbeats 2000000 in
theorem search_any (A L : Option Addr) (c cl : Nat) (S : List Ser) (l : List Lab) (w : World) (hS : Srs w A S) (hL : Lbs w L l) (hF : Few S) (hl : l.length ≤ 65536) (hR : Rises S l) :
    Calls Tryd.prog 44 #[.int .i64 S.length, .func (.func 45) #[.agg #[.slice A S.length c, .slice L l.length cl]] #[]] w (SearchP S l w) := by
  have H := Lib.hid (fun k hk W (hW : Below w.heap.size w W) => reached_any A L c cl S l k hk W (hS.below hW) (hL.below hW) (hF.2 k hk).1 hl)
  have HR := Lib.hid hR
  have hn1 := hF.1
  clear hS hL hF hl hR
  generalize hn : S.length = n at *
  have HN := Lib.hid hn
  clear hn
  generalize l.length = nl at *
  go_enter Tryd.func44, Tryd.ntmps44
  go_wp2
  go_loopw [5, 6] (fun s5 s6 wr => ∃ lo hi : Nat, s5 = .int .i64 lo ∧ s6 = .int .i64 hi ∧ lo ≤ hi ∧ hi ≤ n ∧ Hid (Below w.heap.size w wr) ∧ Hid ((∀ t, t < lo → cmpL (S.getD t s0).1 l < 0) ∧ (hi < n → 0 ≤ cmpL (S.getD hi s0).1 l))) (fun s5 s6 _ => (intOf s6 - intOf s5).toNat)
  case atStart => exact ⟨0, n, rfl, rfl, Nat.zero_le _, Nat.le_refl _, Below.refl _ _, ⟨fun t ht => absurd ht (Nat.not_lt_zero _), fun h => absurd h (Nat.lt_irrefl _)⟩⟩
  case round =>
    obtain ⟨lo, hi, rfl, rfl, hlh, hin, HB, HI⟩ := hrel
    by_cases hlt : lo < hi
    · have hm : (lo + hi) / 2 < n := by omega
      have hc := H.out ((lo + hi) / 2) hm wr HB.out
      rw [show (((lo + hi) / 2 : Nat) : Int) = ((lo : Int) + (hi : Int)) / 2 by omega] at hc
      cases hp : decide (0 ≤ cmpL (S.getD ((lo + hi) / 2) s0).1 l) with
      | false =>
        rw [hp] at hc
        have HC := Lib.hid hc
        have HP := Lib.hid hp
        clear hc hp
        go_wp2_with fail
        refine (HC.out).mono ?_
        rintro e w1 ⟨rfl, hb1⟩
        have HB1 := Lib.hid (HB.out.trans (hb1.mono HB.out.size))
        clear hb1
        go_wp2
        go_roundw
        case rel =>
          refine ⟨(lo + hi) / 2 + 1, hi, by rw [show ((lo : Int) + (hi : Int)) / 2 + 1 = (((lo + hi) / 2 + 1 : Nat) : Int) by omega], rfl, by omega, hin, HB1, ⟨fun t ht => ?_, HI.out.2⟩⟩
          have hq := of_decide_eq_false HP.out
          rcases Int.lt_or_le (cmpL (S.getD t s0).1 l) 0 with h | h
          · exact h
          · exact absurd (HR.out t ((lo + hi) / 2) (by omega) (by rw [HN.out]; exact hm) h) hq
        case measure => simp [intOf]; omega
      | true =>
        rw [hp] at hc
        have HC := Lib.hid hc
        have HP := Lib.hid hp
        clear hc hp
        go_wp2_with fail
        refine (HC.out).mono ?_
        rintro e w1 ⟨rfl, hb1⟩
        have HB1 := Lib.hid (HB.out.trans (hb1.mono HB.out.size))
        clear hb1
        go_wp2
        go_roundw
        case rel =>
          exact ⟨lo, (lo + hi) / 2, rfl, by rw [show ((lo : Int) + (hi : Int)) / 2 = (((lo + hi) / 2 : Nat) : Int) by omega], by omega, by omega, HB1, ⟨HI.out.1, fun _ => of_decide_eq_true HP.out⟩⟩
        case measure => simp [intOf]; omega
    · have e : hi = lo := by omega
      subst e
      go_wp2
      go_ret
      exact ⟨⟨hi, rfl, by rw [HN.out]; exact hin, HI.out.1, by rw [HN.out]; exact HI.out.2⟩, HB.out⟩

theorem halved_any (A L : Option Addr) (c cl : Nat) (S : List Ser) (l : List Lab) (w : World) (hS : Srs w A S) (hL : Lbs w L l) (hF : Few S) (hl : l.length ≤ 65536) (hR : Rises S l) :
    Calls Tryd.prog 25 #[.agg #[.slice A S.length c, .slice L l.length cl]] w (SearchP S l w) := by
  have H := Lib.hid (fun W (hW : Below w.heap.size w W) => search_any A L c cl S l W (hS.below hW) (hL.below hW) hF hl hR)
  clear hS hL hF hl hR
  generalize S.length = n at *
  generalize l.length = nl at *
  go_enter Tryd.func25, Tryd.ntmps25
  go_wp2_with fail
  have k1 := ((Below.refl w.heap.size w).alloc (Nat.le_refl _) (.cells #[.slice A n c, .slice L nl cl] 59))
  refine (H.out _ k1).mono ?_
  rintro e w1 ⟨⟨a, rfl, ha⟩, hb1⟩
  have HA := Lib.hid ha
  clear ha
  go_wp2
  go_ret
  exact ⟨⟨a, rfl, HA.out⟩, k1.trans (hb1.mono k1.size)⟩
end Go.Proofs.YtiabnacgfoaihaaDoor

import Derived.Test.YtiabnacgfoaihaaDoorS1
namespace Go.Proofs.YtiabnacgfoaihaaDoor
open Go.RowKit Lb
set_option linter.unusedVariables false

theorem cmpSer_any (LA LB : Option Addr) (ca cb : Nat) (pv qv : Value) (a b : List Lab) (r : Int) (hr : cmpL a b = r) (w : World) (hA : Lbs w LA a) (hB : Lbs w LB b) (ha : a.length ≤ 65536) (hb : b.length ≤ 65536) :
    Calls Tryd.prog 29 #[.agg #[.slice LA a.length ca, pv], .agg #[.slice LB b.length cb, qv]] w fun e w' => e = .returned (.int .i64 r) ∧ Below w.heap.size w w' := by
  have H := Lib.hid (fun W (hW : Below w.heap.size w W) => cmp_any LA LB ca cb a b W (hA.below hW) (hB.below hW) ha hb)
  rw [hr] at H
  clear hA hB hr
  generalize a.length = na at *
  generalize b.length = nb at *
  go_enter Tryd.func29, Tryd.ntmps29
  go_wp2_with fail
  have k1 := ((Below.refl w.heap.size w).alloc (Nat.le_refl _) (.cells #[.slice LA na ca, pv] 49)).alloc (by simp) (.cells #[.slice LB nb cb, qv] 49)
  refine (H.out _ k1).mono ?_
  rintro e w1 ⟨rfl, hb1⟩
  go_wp2
  go_ret
  exact ⟨rfl, k1.trans (hb1.mono k1.size)⟩

set_option maxRecDepth 100000 in
theorem scmp_any (A L : Option Addr) (c cl : Nat) (S : List Ser) (l : List Lab) (k : Nat) (hk : k < S.length) (r : Int) (hr : cmpL (S.getD k s0).1 l = r) (w : World) (hS : Srs w A S) (hL : Lbs w L l) (hb : (S.getD k s0).1.length ≤ 65536) (hl : l.length ≤ 65536) :
    Calls Tryd.prog 46 #[.agg #[.slice A S.length c, .slice L l.length cl], .int .i64 k] w fun e w' => e = .returned (.int .i64 r) ∧ Below w.heap.size w w' := by
  obtain ⟨b, off, LA, lc, PA, pc, rfl, hlt, hx, _, hLA, _⟩ := hS.at_ hk
  have H := Lib.hid (fun W (hW : Below w.heap.size w W) => cmp_any LA L lc cl _ l W (hLA.below hW) (hL.below hW) hb hl)
  rw [hr] at H
  have hki : (k : Int) < (S.length : Int) := by omega
  clear hLA hL hr hS hb hl
  generalize S.length = n at *
  generalize l.length = nl at *
  generalize (S.getD k s0).1.length = na at *
  go_enter Tryd.func46, Tryd.ntmps46
  go_wp2_with fail
  have k1 : Below w.heap.size w ((w.alloc (.cells #[.slice (some ⟨b, off, none⟩) n c, .slice L nl cl] 59)).drew) := ((Below.refl w.heap.size w).alloc (Nat.le_refl _) _).drew
  have q1 : (w.alloc (.cells #[.slice (some ⟨b, off, none⟩) n c, .slice L nl cl] 59)).cell? ⟨w.heap.size, 0, none⟩ = some (.slice (some ⟨b, off, none⟩) n c) := by rw [World.cell?_alloc_at _ _ _ _ rfl]; rfl
  have q2 : (w.alloc (.cells #[.slice (some ⟨b, off, none⟩) n c, .slice L nl cl] 59)).cell? ⟨w.heap.size, 1, none⟩ = some (.slice L nl cl) := by rw [World.cell?_alloc_at _ _ _ _ rfl]; rfl
  have q3 : (w.alloc (.cells #[.slice (some ⟨b, off, none⟩) n c, .slice L nl cl] 59)).cell? ⟨b, off + k * 2, none⟩ = some (.slice LA na lc) := by rw [World.cell?_alloc_lt _ _ _ (by exact hlt)]; exact hx
  have HH := Lib.hid (H.out _ k1)
  have K1 := Lib.hid k1
  clear hx k1 H
  generalize w.alloc (.cells #[.slice (some ⟨b, off, none⟩) n c, .slice L nl cl] 59) = w2 at *
  have KS := Lib.hid K1.out.size
  go_still_tail 8, (by kernel_rfl)
  go_wp2_with fail
  refine (HH.out).mono ?_
  rintro e w1 ⟨rfl, hb1⟩
  go_wp2
  go_ret
  exact ⟨rfl, K1.out.trans (hb1.mono KS.out)⟩

theorem reached_any (A L : Option Addr) (c cl : Nat) (S : List Ser) (l : List Lab) (k : Nat) (hk : k < S.length) (w : World) (hS : Srs w A S) (hL : Lbs w L l) (hb : (S.getD k s0).1.length ≤ 65536) (hl : l.length ≤ 65536) :
    Calls Tryd.prog 45 #[.agg #[.slice A S.length c, .slice L l.length cl], .int .i64 k] w fun e w' => e = .returned (.bool (decide (0 ≤ cmpL (S.getD k s0).1 l))) ∧ Below w.heap.size w w' := by
  have H := Lib.hid (fun W (hW : Below w.heap.size w W) => scmp_any A L c cl S l k hk _ rfl W (hS.below hW) (hL.below hW) hb hl)
  clear hL hS hb hl hk
  generalize S.length = n at *
  generalize l.length = nl at *
  generalize cmpL (S.getD k s0).1 l = r at *
  go_enter Tryd.func45, Tryd.ntmps45
  go_wp2_with fail
  have k1 := ((Below.refl w.heap.size w).alloc (Nat.le_refl _) (.cells #[.slice A n c, .slice L nl cl] 59))
  refine (H.out _ k1).mono ?_
  rintro e w1 ⟨rfl, hb1⟩
  go_wp2
  go_ret
  exact ⟨rfl, k1.trans (hb1.mono k1.size)⟩

/-- do labels stand at a place? -/
def isAt (S : List Ser) (l : List Lab) (k : Nat) : Bool := decide (k < S.length) && (cmpL (S.getD k s0).1 l == 0)
theorem is_any (A L : Option Addr) (c cl : Nat) (S : List Ser) (l : List Lab) (k : Nat) (r : Bool) (hr : isAt S l k = r) (w : World) (hS : Srs w A S) (hL : Lbs w L l) (hb : k < S.length → (S.getD k s0).1.length ≤ 65536) (hl : l.length ≤ 65536) :
    Calls Tryd.prog 26 #[.agg #[.slice A S.length c, .slice L l.length cl], .int .i64 k] w fun e w' => e = .returned (.bool r) ∧ Below w.heap.size w w' := by
  subst hr
  unfold isAt
  by_cases hk : k < S.length
  · have H := Lib.hid (fun W (hW : Below w.heap.size w W) => scmp_any A L c cl S l k hk _ rfl W (hS.below hW) (hL.below hW) (hb hk) hl)
    have dk : decide (k < S.length) = true := by simpa using hk
    rw [dk, Bool.true_and]
    clear hL hS hb hl hk
    generalize S.length = n at *
    generalize l.length = nl at *
    generalize cmpL (S.getD k s0).1 l = r at *
    go_enter Tryd.func26, Tryd.ntmps26
    go_wp2_with fail
    have k1 := ((Below.refl w.heap.size w).alloc (Nat.le_refl _) (.cells #[.slice A n c, .slice L nl cl] 59))
    refine (H.out _ k1).mono ?_
    rintro e w1 ⟨rfl, hb1⟩
    go_wp2
    go_ret
    exact ⟨rfl, k1.trans (hb1.mono k1.size)⟩
  · have dk : decide (k < S.length) = false := by simpa using hk
    rw [dk, Bool.false_and]
    clear hL hS hb hl hk
    generalize S.length = n at *
    generalize l.length = nl at *
    go_enter Tryd.func26, Tryd.ntmps26
    go_wp2_with fail
    go_wp2
    go_ret
    exact ⟨rfl, (Below.refl w.heap.size w).alloc (Nat.le_refl _) (.cells #[.slice A n c, .slice L nl cl] 59)⟩
end Go.Proofs.YtiabnacgfoaihaaDoor

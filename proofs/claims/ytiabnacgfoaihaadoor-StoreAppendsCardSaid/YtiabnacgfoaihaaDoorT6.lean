import Derived.Test.YtiabnacgfoaihaaDoorT5
namespace Go.Proofs.YtiabnacgfoaihaaDoor
open Go.RowKit Lb
set_option linter.unusedVariables false

set_option maxRecDepth 100000 in
set_option maxHeartbeats 2000000 in
theorem grows_walk (A L : Option Addr) (c cl : Nat) (S : List Ser) (l : List Lab) (t v v2 : Int) (w : World) (hS : Own w A c S) (hRe : Reached S) (hL : Lbs w L l) (hl : l.length ≤ 9223372036854775807) (hv : Bits v) (hv2 : Bits v2) (hLd : Laid w) :
    Calls Tryd.prog 5 #[.slice A S.length c, .slice L l.length cl, .agg #[.int .i64 t, .int .u64 v], .int .u64 v2] w fun e w' => e = .returned (.bool true) ∧ Below w.heap.size w w' := by
  have h4 : 4 ≤ w.heap.size := hLd.1.size
  have HA := Lib.hid (fun W (hW : Below w.heap.size w W) => awake_any W (hLd.below h4 hW))
  have HSh := Lib.hid (fun W (hW : Below w.heap.size w W) => sshort_any A c S W (hS.below hW).1 (by have := hS.2.2; omega) hRe)
  have k0 : Below w.heap.size w (w.alloc (.cells #[.int .i64 t, .int .u64 v] 26)) := (Below.refl w.heap.size w).alloc (Nat.le_refl _) _
  have K0 := Lib.hid k0
  have b0 : Blk (w.alloc (.cells #[.int .i64 t, .int .u64 v] 26)) w.heap.size 26 #[.int .i64 t, .int .u64 v] := Blk.new w 26 _
  have B0 := Lib.hid b0
  clear k0 b0
  cases hsl : shortB l with
  | false =>
    have HS1 := Lib.hid (fun W (hW : Below w.heap.size w W) => short_is L cl l false hsl W (hL.below hW) hl)
    clear hS hRe hL hLd hsl
    generalize S.length = n at *
    generalize l.length = nl at *
    go_enter Tryd.func5, Tryd.ntmps5
    go_wp2_with fail
    refine (HA.out _ K0.out).mono ?_
    rintro e w1 ⟨rfl, hb1⟩
    have K1 := Lib.hid (K0.out.trans (hb1.mono (by simp)))
    clear hb1
    go_wp2_with fail
    refine (HSh.out _ K1.out).mono ?_
    rintro e w2 ⟨r, rfl, hr, rfl⟩
    clear hr
    cases r with
    | false =>
      go_wp2
      go_ret
      exact ⟨rfl, K1.out⟩
    | true =>
      go_wp2_with fail
      refine (HS1.out _ K1.out).mono ?_
      rintro e w2 ⟨rfl, rfl⟩
      go_wp2
      go_ret
      exact ⟨rfl, K1.out⟩
  | true =>
    by_cases hlow : Low S
    · by_cases h0 : (appF S l (t, v)).1 = 0
      · obtain ⟨R, hR⟩ : ∃ R, appF S l (t, v) = (0, R) := ⟨(appF S l (t, v)).2, Prod.ext h0 rfl⟩
        exact grows_main A L c cl S.length l.length S R l t v v2 w rfl rfl hR hS hL hv hv2 hLd hlow hsl HA HSh
      · obtain ⟨k, hk⟩ : ∃ k, (appF S l (t, v)).1 = k := ⟨_, rfl⟩
        have hk0 : k ≠ 0 := by rw [← hk]; exact h0
        have hl40 := short_40 hsl
        have hlk : LowK 400 S := low_low hlow (fun _ h => short_40 h)
        have HS1 := Lib.hid (fun W (hW : Below w.heap.size w W) => short_is L cl l true hsl W (hL.below hW) hl)
        have HAP := Lib.hid (fun W (hW : Below w.heap.size w W) => append_no hk hk0 A L c cl W (hS.below hW) (hL.below hW) (low_few hlk (by omega)) (by omega) (hLd.1.below h4 hW) hv)
        clear hS hRe hL hLd hsl hlow h0 hk hlk
        generalize S.length = n at *
        generalize l.length = nl at *
        go_enter Tryd.func5, Tryd.ntmps5
        go_wp2_with fail
        refine (HA.out _ K0.out).mono ?_
        rintro e w1 ⟨rfl, hb1⟩
        have K1 := Lib.hid (K0.out.trans (hb1.mono (by simp)))
        have B1 := Lib.hid (B0.out.below hb1)
        clear hb1
        go_wp2_with fail
        refine (HSh.out _ K1.out).mono ?_
        rintro e w2 ⟨r, rfl, hr, rfl⟩
        clear hr
        cases r with
        | false =>
          go_wp2
          go_ret
          exact ⟨rfl, K1.out⟩
        | true =>
          go_wp2_with fail
          refine (HS1.out _ K1.out).mono ?_
          rintro e w2 ⟨rfl, rfl⟩
          have q0 := B1.out.cell 0
          have q1 := B1.out.cell 1
          have q3 := B1.out.lt
          simp at q0 q1
          go_wp2_with fail
          refine (HAP.out _ K1.out).mono ?_
          rintro e w3 ⟨rfl, hb3⟩
          go_wp2
          go_ret
          exact ⟨rfl, K1.out.trans (hb3.mono K1.out.size)⟩
    · clear hS hRe hL hLd hsl
      generalize S.length = n at *
      generalize l.length = nl at *
      go_enter Tryd.func5, Tryd.ntmps5
      go_wp2_with fail
      refine (HA.out _ K0.out).mono ?_
      rintro e w1 ⟨rfl, hb1⟩
      have K1 := Lib.hid (K0.out.trans (hb1.mono (by simp)))
      clear hb1
      go_wp2_with fail
      refine (HSh.out _ K1.out).mono ?_
      rintro e w2 ⟨r, rfl, hr, rfl⟩
      cases r with
      | false =>
        clear hr
        go_wp2
        go_ret
        exact ⟨rfl, K1.out⟩
      | true => exact absurd (hr rfl) hlow
end Go.Proofs.YtiabnacgfoaihaaDoor

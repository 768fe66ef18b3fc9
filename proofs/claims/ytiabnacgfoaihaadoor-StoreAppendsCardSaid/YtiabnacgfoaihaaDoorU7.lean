import Derived.Test.YtiabnacgfoaihaaDoorU6
namespace Go.Proofs.YtiabnacgfoaihaaDoor
open Go.RowKit Lb
set_option linter.unusedVariables false

/-! the law StoreAppends -/
theorem srs_nil {W : World} : Srs W none [] := ⟨[], fun h => absurd h (by simp), rfl, fun i h => absurd h (by simp)⟩
def RefK (k : Int) (R : List Ser) (w : World) (e : Ending) (w' : World) : Prop := Below w.heap.size w w' ∧
  ((k ≠ 0 ∧ e = .returned (.tuple #[.slice none 0 0, .int .i64 k])) ∨ (k = 0 ∧ ∃ A c, e = .returned (.tuple #[.slice A R.length c, .int .i64 0]) ∧ Srs w' A R))
theorem refappend_two {S R : List Ser} {l : List Lab} {t v k : Int} (h : appF S l (t, v) = (k, R)) (A L : Option Addr) (c cl : Nat) (w : World) (hS : Srs w A S)
    (hL : Lbs w L l) (hF : Few S) (hs : ∀ i, i < S.length → ∀ j, j < (S.getD i s0).1.length → ((S.getD i s0).1.getD j e0).1.size ≤ 65536) (hl : l.length ≤ 4096) (hls : ∀ i, i < l.length → (l.getD i e0).1.size ≤ 65536) (hv : Bits v) :
    Calls Tryd.prog 11 #[.slice A S.length c, .slice L l.length cl, .agg #[.int .i64 t, .int .u64 v]] w (RefK k R w) := by
  have := refappend_any A L c cl S l t v w hS hL hF hs hl hls hv
  unfold RefA at this
  rw [h] at this
  exact this
set_option maxRecDepth 100000 in
set_option maxHeartbeats 4000000 in
theorem appends_walk (A L : Option Addr) (c cl : Nat) (S : List Ser) (l : List Lab) (t v : Int) (w : World) (hS : Own w A c S) (hRe : Reached S) (hL : Lbs w L l) (hl : l.length ≤ 9223372036854775807) (hv : Bits v) (hLd : Laid w) :
    Calls Tryd.prog 3 #[.slice A S.length c, .slice L l.length cl, .agg #[.int .i64 t, .int .u64 v]] w fun e w' => e = .returned (.bool true) ∧ Below w.heap.size w w' := by
  have h4 : 4 ≤ w.heap.size := hLd.1.size
  have HA := Lib.hid (fun W (hW : Below w.heap.size w W) => awake_any W (hLd.below h4 hW))
  have HSh := Lib.hid (fun W (hW : Below w.heap.size w W) => sshort_any A c S W (hS.below hW).1 (by have := hS.2.2; omega) hRe)
  have k0 : Below w.heap.size w (w.alloc (.cells #[.int .i64 t, .int .u64 v] 26)) := (Below.refl w.heap.size w).alloc (Nat.le_refl _) _
  have K0 := Lib.hid k0
  have b0 : Blk (w.alloc (.cells #[.int .i64 t, .int .u64 v] 26)) w.heap.size 26 #[.int .i64 t, .int .u64 v] := Blk.new w 26 _
  have B0 := Lib.hid b0
  clear k0 b0
  cases hsl : shortB l with
  | false =>
    have HS1 := Lib.hid (fun W (hW : Below w.heap.size w W) => short_is L cl l false hsl W (hL.below hW) hl)
    clear hS hRe hL hLd hsl
    generalize S.length = n at *
    generalize l.length = nl at *
    go_enter Tryd.func3, Tryd.ntmps3
    go_wp2_with fail
    refine (HA.out _ K0.out).mono ?_
    rintro e w1 ⟨rfl, hb1⟩
    have K1 := Lib.hid (K0.out.trans (hb1.mono (by simp)))
    clear hb1
    go_wp2_with fail
    refine (HSh.out _ K1.out).mono ?_
    rintro e w2 ⟨r, rfl, hr, rfl⟩
    clear hr
    cases r with
    | false =>
      go_wp2
      go_ret
      exact ⟨rfl, K1.out⟩
    | true =>
      go_wp2_with fail
      refine (HS1.out _ K1.out).mono ?_
      rintro e w2 ⟨rfl, rfl⟩
      go_wp2
      go_ret
      exact ⟨rfl, K1.out⟩
  | true =>
    by_cases hlow : Low S
    · have hl40 := short_40 hsl
      have hlk : LowK 400 S := low_low hlow (fun _ h => short_40 h)
      have hfew : Few S := low_few hlk (by omega)
      obtain ⟨k, R, hR⟩ : ∃ k R, appF S l (t, v) = (k, R) := ⟨_, _, rfl⟩
      have HS1 := Lib.hid (fun W (hW : Below w.heap.size w W) => short_is L cl l true hsl W (hL.below hW) hl)
      have HC := Lib.hid (fun W (hW : Below w.heap.size w W) => copy_any A c S W (hS.below hW) hfew)
      have HAP := Lib.hid (fun A1 c1 W (hO : Own W A1 c1 S) (hW : Below w.heap.size w W) => append_two hR A1 L c1 cl W hO (hL.below hW) hfew (by omega) (hLd.1.below h4 hW) hv)
      have hsz : ∀ i, i < S.length → ∀ j, j < (S.getD i s0).1.length → ((S.getD i s0).1.getD j e0).1.size ≤ 65536 := fun i hi j hj => short_names (hlow.2 i hi) j hj
      have HRA := Lib.hid (fun W (hW : Below w.heap.size w W) => refappend_two hR A L c cl W (hS.below hW).1 (hL.below hW) hfew hsz (by omega) (short_names hsl) hv)
      have HF1 := Lib.hid (fun W (hW : Below w.heap.size w W) => find_any A L c cl S l W (hS.below hW).1 (hL.below hW) hfew (by omega))
      have HF2 := Lib.hid (fun W (hW : Below w.heap.size w W) => reffind_any A L c cl S l W (hS.below hW).1 (hL.below hW) hfew (by omega))
      have HSM := Lib.hid (fun A1 c1 W (hO : Srs W A1 S) (hW : Below w.heap.size w W) => same_any A1 A c1 c S W hO (hS.below hW).1 hfew)
      have HR1 := Lib.hid (fun W (hW : Below w.heap.size w W) => sright_any A c S W (hS.below hW).1 hfew (hLd.1.below h4 hW))
      have HR2 := Lib.hid (fun W (hW : Below w.heap.size w W) => refsright_any A c S W (hS.below hW).1 hfew hsz)
      have HLT := Lib.hid (fun W (hW : Below w.heap.size w W) => (hLd.below h4 hW).2)
      by_cases hk : k = 0
      · subst hk
        obtain ⟨m, hst, hm, hm0, ht, hlt, hRo⟩ := app_took hR
        have hsR := (took_right hst hm hm0 ht hlt hRo).1
        have hmR : many R = many S + 1 := by rw [hRo]; exact many_app hst m _
        have hlR := low_took hR hlk
        have hfR : Few R := low_few hlR (by omega)
        have hmS : many S ≤ 400 := by have := hlow.1; omega
        have HSX := Lib.hid (fun A1 A2 c1 c2 W (h1 : Srs W A1 R) (h2 : Srs W A2 R) => same_any A1 A2 c1 c2 R W h1 h2 hfR)
        have HRX : Hid (∀ A1 c1 W, Srs W A1 R → Below w.heap.size w W → Calls Tryd.prog 16 #[.slice A1 R.length c1] W fun e w' => e = .returned (.bool true) ∧ Below W.heap.size W w') := fun A1 c1 W h hW => by
          have := sright_any A1 c1 R W h hfR (hLd.1.below h4 hW)
          rw [hsR] at this
          exact this
        have HMX : Hid (∀ A1 c1 W, Srs W A1 R → Calls Tryd.prog 18 #[.slice A1 R.length c1] W fun e w' => e = .returned (.int .i64 (many S + 1 : Nat)) ∧ Below W.heap.size W w') := fun A1 c1 W h => by
          have := many_any A1 c1 R W h hfR.1 (by omega)
          rw [hmR] at this
          exact this
        have HMS := Lib.hid (fun W (hW : Below w.heap.size w W) => many_any A c S W (hS.below hW).1 hfew.1 (by omega))
        clear hS hRe hL hLd hsl hlow hl40 hlk hfew hsz hst hm hm0 ht hlt hRo hsR hmR hlR hfR hR
        generalize S.length = n at *
        generalize l.length = nl at *
        generalize hnr : R.length = nr at *
        have HNR := Lib.hid hnr
        clear hnr
        generalize many S = ms at *
        generalize storeB S = bs at *
        have z1 : IntKind.i64.wrap ((ms : Int) + 1) = (ms : Int) + 1 := IntWalk.i64_in _ (by omega)
        go_enter Tryd.func3, Tryd.ntmps3
        go_wp2_with fail
        refine (HA.out _ K0.out).mono ?_
        rintro e w1 ⟨rfl, hb1⟩
        have K1 := Lib.hid (K0.out.trans (hb1.mono (by simp)))
        have B1 := Lib.hid (B0.out.below hb1)
        clear hb1
        go_wp2_with fail
        refine (HSh.out _ K1.out).mono ?_
        rintro e w2 ⟨r, rfl, hr, rfl⟩
        clear hr
        cases r with
        | false =>
          go_wp2
          go_ret
          exact ⟨rfl, K1.out⟩
        | true =>
          go_wp2_with fail
          refine (HS1.out _ K1.out).mono ?_
          rintro e w2 ⟨rfl, rfl⟩
          go_wp2_with fail
          refine (HC.out _ K1.out).mono ?_
          rintro e w2 ⟨⟨A2, c2, rfl, ho2⟩, hb2⟩
          have K2 := Lib.hid (K1.out.trans (hb2.mono K1.out.size))
          have B2 := Lib.hid (B1.out.below hb2)
          have HO2 := Lib.hid ho2
          have q0 := B2.out.cell 0
          have q1 := B2.out.cell 1
          simp at q0 q1
          clear hb2 ho2
          go_wp2_with fail
          refine (HAP.out A2 c2 _ HO2.out K2.out).mono ?_
          rintro e w3 ⟨hb3, hc3⟩
          have K3 := Lib.hid (K2.out.trans (hb3.mono K2.out.size))
          have B3 := Lib.hid (B2.out.below hb3)
          have HO3 := Lib.hid (HO2.out.below hb3)
          have q2 := B3.out.cell 0
          have q3 := B3.out.cell 1
          simp at q2 q3
          clear hb3 q0 q1
          rcases hc3 with ⟨h0, _⟩ | ⟨hz3, A3, c3, rfl, hr3⟩
          · exact absurd rfl h0
          clear hz3
          have HX3 := Lib.hid hr3
          clear hr3
          go_wp2_with fail
          refine (HRA.out _ K3.out).mono ?_
          rintro e w4 ⟨hb4, hc4⟩
          rcases hc4 with ⟨h0, _⟩ | ⟨hz4, A4, c4, he4, hr4⟩
          · exact absurd rfl h0
          rw [HNR.out] at he4
          subst he4
          clear hz4
          have K4 := Lib.hid (K3.out.trans (hb4.mono K3.out.size))
          have HO4 := Lib.hid (HO3.out.below hb4)
          have HX4 := Lib.hid (HX3.out.below hb4)
          have HY4 := Lib.hid hr4
          clear hb4 hr4 q2 q3
          go_wp2_with fail
          refine (HF1.out _ K4.out).mono ?_
          rintro e w5 ⟨⟨a, ok, rfl, hf1⟩, hb5⟩
          have K5 := Lib.hid (K4.out.trans (hb5.mono K4.out.size))
          have HO5 := Lib.hid (HO4.out.below hb5)
          have HX5 := Lib.hid (HX4.out.below hb5)
          have HY5 := Lib.hid (HY4.out.below hb5)
          clear hb5
          go_wp2_with fail
          refine (HF2.out _ K5.out).mono ?_
          rintro e w6 ⟨⟨b, ok2, rfl, hf2⟩, hb6⟩
          obtain ⟨rfl, rfl⟩ := hf1.same hf2
          have K6 := Lib.hid (K5.out.trans (hb6.mono K5.out.size))
          have HO6 := Lib.hid (HO5.out.below hb6)
          have HX6 := Lib.hid (HX5.out.below hb6)
          have HY6 := Lib.hid (HY5.out.below hb6)
          clear hb6 hf1 hf2
          go_wp2_with fail
          refine (code_nil _).mono ?_
          rintro e w7 ⟨rfl, rfl⟩
          go_wp2_with fail
          refine (HSX.out A3 A4 c3 c4 _ HX6.out.1 HY6.out).mono ?_
          rintro e w7 ⟨rfl, n7, rfl⟩
          go_wp2_with fail
          refine (HSM.out A2 c2 _ (HO6.out.1.below (bel_drawn (Below.refl _ _) n7)) (bel_drawn K6.out n7)).mono ?_
          rintro e w8 ⟨rfl, n8, rfl⟩
          have K8 := Lib.hid (bel_drawn K6.out (n7 + n8))
          go_wp2_with fail
          refine (HR1.out _ K8.out).mono ?_
          rintro e w9 ⟨rfl, hb9⟩
          have K9 := Lib.hid (K8.out.trans (hb9.mono K8.out.size))
          go_wp2_with fail
          refine (HR2.out _ K9.out).mono ?_
          rintro e w10 ⟨rfl, hb10⟩
          have K10 := Lib.hid (K9.out.trans (hb10.mono K9.out.size))
          go_wp2_with fail
          have HX10 : Hid (Srs w10 A3 R) := (HX6.out.1).below (((bel_drawn (Below.refl _ _) (n7 + n8)).trans (hb9.mono (Nat.le_refl _))).trans (hb10.mono hb9.size))
          refine (HRX.out A3 c3 _ HX10.out K10.out).mono ?_
          rintro e w11 ⟨rfl, hb11⟩
          have K11 := Lib.hid (K10.out.trans (hb11.mono K10.out.size))
          have HX11 := Lib.hid (HX10.out.below hb11)
          go_wp2_with fail
          refine (HMX.out A3 c3 _ HX11.out).mono ?_
          rintro e w12 ⟨rfl, hb12⟩
          have K12 := Lib.hid (K11.out.trans (hb12.mono K11.out.size))
          go_wp2_with fail
          refine (HMS.out _ K12.out).mono ?_
          rintro e w13 ⟨rfl, hb13⟩
          go_wp2
          go_ret
          exact ⟨rfl, K12.out.trans (hb13.mono K12.out.size)⟩
      · have hkp : 0 < k := by
          have := app_pos S l (t, v)
          rw [hR] at this
          exact this.resolve_left hk
        have hRe0 : R = [] := by
          have := app_empty S l (t, v) (by rw [hR]; exact hk)
          rw [hR] at this
          exact this
        subst hRe0
        have HCI := Lib.hid (fun W (hW : Below w.heap.size w W) => code_is k hkp W (hLd.below h4 hW).2)
        have HSX := Lib.hid (fun W => same_any none none 0 0 [] W srs_nil srs_nil few_nil)
        have HK := Lib.hid hk
        have HKN : Hid ((k == 0) = false) := beq_eq_false_iff_ne.2 hk
        clear hS hRe hL hLd hsl hlow hl40 hlk hfew hsz hR hkp hk
        generalize S.length = n at *
        generalize l.length = nl at *
        generalize storeB S = bs at *
        go_enter Tryd.func3, Tryd.ntmps3
        go_wp2_with fail
        refine (HA.out _ K0.out).mono ?_
        rintro e w1 ⟨rfl, hb1⟩
        have K1 := Lib.hid (K0.out.trans (hb1.mono (by simp)))
        have B1 := Lib.hid (B0.out.below hb1)
        clear hb1
        go_wp2_with fail
        refine (HSh.out _ K1.out).mono ?_
        rintro e w2 ⟨r, rfl, hr, rfl⟩
        clear hr
        cases r with
        | false =>
          go_wp2
          go_ret
          exact ⟨rfl, K1.out⟩
        | true =>
          go_wp2_with fail
          refine (HS1.out _ K1.out).mono ?_
          rintro e w2 ⟨rfl, rfl⟩
          go_wp2_with fail
          refine (HC.out _ K1.out).mono ?_
          rintro e w2 ⟨⟨A2, c2, rfl, ho2⟩, hb2⟩
          have K2 := Lib.hid (K1.out.trans (hb2.mono K1.out.size))
          have B2 := Lib.hid (B1.out.below hb2)
          have HO2 := Lib.hid ho2
          have q0 := B2.out.cell 0
          have q1 := B2.out.cell 1
          simp at q0 q1
          clear hb2 ho2
          go_wp2_with fail
          refine (HAP.out A2 c2 _ HO2.out K2.out).mono ?_
          rintro e w3 ⟨hb3, hc3⟩
          have K3 := Lib.hid (K2.out.trans (hb3.mono K2.out.size))
          have B3 := Lib.hid (B2.out.below hb3)
          have HO3 := Lib.hid (HO2.out.below hb3)
          have q2 := B3.out.cell 0
          have q3 := B3.out.cell 1
          simp at q2 q3
          clear hb3 q0 q1
          rcases hc3 with ⟨hz3, rfl⟩ | ⟨h0, hx0⟩
          case inr => exact absurd h0 HK.out
          clear hz3
          go_wp2_with fail
          refine (HRA.out _ K3.out).mono ?_
          rintro e w4 ⟨hb4, hc4⟩
          rcases hc4 with ⟨hz4, rfl⟩ | ⟨h0, hx0⟩
          case inr => exact absurd h0 HK.out
          clear hz4
          have K4 := Lib.hid (K3.out.trans (hb4.mono K3.out.size))
          have HO4 := Lib.hid (HO3.out.below hb4)
          clear hb4 q2 q3
          go_wp2_with fail
          refine (HF1.out _ K4.out).mono ?_
          rintro e w5 ⟨⟨a, ok, rfl, hf1⟩, hb5⟩
          have K5 := Lib.hid (K4.out.trans (hb5.mono K4.out.size))
          have HO5 := Lib.hid (HO4.out.below hb5)
          have HF5 := Lib.hid hf1
          clear hb5 hf1
          go_wp2_with fail
          refine (HF2.out _ K5.out).mono ?_
          rintro e w6 ⟨⟨b, ok2, rfl, hf2⟩, hb6⟩
          obtain ⟨rfl, rfl⟩ := HF5.out.same hf2
          have K6 := Lib.hid (K5.out.trans (hb6.mono K5.out.size))
          have HO6 := Lib.hid (HO5.out.below hb6)
          clear hb6 HF5 hf2
          go_wp2_with fail
          refine (HCI.out _ K6.out).mono ?_
          rintro e w7 ⟨rfl, hb7⟩
          have K7 := Lib.hid (K6.out.trans (hb7.mono K6.out.size))
          have HO7 := Lib.hid (HO6.out.below hb7)
          clear hb7
          go_wp2_with fail
          refine (HSX.out _).mono ?_
          rintro e w8 ⟨rfl, n8, rfl⟩
          have K8 := Lib.hid (bel_drawn K7.out n8)
          have HO8 : Hid (Srs (w7.drewN n8) A2 S) := HO7.out.1.below (bel_drawn (Below.refl _ _) n8)
          go_wp2_with fail
          refine (HSM.out A2 c2 _ HO8.out K8.out).mono ?_
          rintro e w9 ⟨rfl, n9, rfl⟩
          have K9 := Lib.hid (bel_drawn K7.out (n8 + n9))
          go_wp2_with fail
          refine (HR1.out _ K9.out).mono ?_
          rintro e w10 ⟨rfl, hb10⟩
          have K10 := Lib.hid (K9.out.trans (hb10.mono K9.out.size))
          clear hb10
          go_wp2_with fail
          refine (HR2.out _ K10.out).mono ?_
          rintro e w11 ⟨rfl, hb11⟩
          have K11 := Lib.hid (K10.out.trans (hb11.mono K10.out.size))
          clear hb11
          go_wp2
          go_ret
          exact ⟨rfl, K11.out⟩
    · clear hS hRe hL hLd hsl
      generalize S.length = n at *
      generalize l.length = nl at *
      go_enter Tryd.func3, Tryd.ntmps3
      go_wp2_with fail
      refine (HA.out _ K0.out).mono ?_
      rintro e w1 ⟨rfl, hb1⟩
      have K1 := Lib.hid (K0.out.trans (hb1.mono (by simp)))
      clear hb1
      go_wp2_with fail
      refine (HSh.out _ K1.out).mono ?_
      rintro e w2 ⟨r, rfl, hr, rfl⟩
      cases r with
      | false =>
        clear hr
        go_wp2
        go_ret
        exact ⟨rfl, K1.out⟩
      | true => exact absurd (hr rfl) hlow
end Go.Proofs.YtiabnacgfoaihaaDoor

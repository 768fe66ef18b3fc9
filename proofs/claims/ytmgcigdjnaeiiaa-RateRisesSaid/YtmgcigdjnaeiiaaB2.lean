import Derived.Test.YtmgcigdjnaeiiaaB1
namespace Go.Proofs.Ytmgcigdjnaeiiaa
open Go.RowKit Fl Ieee
set_option linter.unusedVariables false

theorem ge_zero {x : Nat} (hx : NN x) : (double.order x 0 == some .gt || double.order x 0 == some .eq) = true := by
  rw [order_nn hx (Nat.zero_le _)]
  rcases Nat.eq_zero_or_pos x with h | h
  · subst h; simp
  · rw [Nat.compare_eq_gt.2 h]; rfl
def Low (l : List Pt) (k : Nat) : Prop := ∀ i, i < k → (l.getD i e0).2 ≤ 9214364837600034816

set_option maxRecDepth 100000 in
set_option maxHeartbeats 4000000 in
theorem rises_walk (A : Option Addr) (cap : Nat) (l : List Pt) (s e : Int) (w : World) (hL : Pts w A l) (hm : l.length ≤ 9223372036854775807) (hv : ∀ i, i < l.length → (l.getD i e0).2 < 18446744073709551616) :
    Calls Try.prog 4 #[.slice A l.length cap, .int .i64 s, .int .i64 e] w fun x w' => x = .returned (.bool true) ∧ Below w.heap.size w w' := by
  have HW := Lib.hid (awake_any w)
  by_cases h4 : 400 < l.length
  · have d : (400 : Int) < (l.length : Int) := by omega
    clear hL hv
    generalize l.length = n at *
    go_enter Try.func4, Try.ntmps4
    go_wp2_with fail
    refine (HW.out).mono ?_
    rintro x w1 ⟨rfl, k1⟩
    go_wp2
    go_ret
    exact ⟨rfl, k1⟩
  have d : ¬ (400 : Int) < (l.length : Int) := by omega
  have HLP := Lib.hid (fun W (hW : Below w.heap.size w W) => hL.below hW)
  have HVV := Lib.hid hv
  have H4 := Lib.hid h4
  have HIF := Lib.hid (fun x W => isinf_any x W)
  have HFL := Lib.hid (fun x W => float_any x W)
  have HNL := Lib.hid (fun v h W => isnone_low v h W)
  have HNS := Lib.hid (fun v h W => isnone_some v h W)
  have HNO := Lib.hid (fun nm W (hW : Below w.heap.size w W) (hu : ¬ Usable l s e) => grow_no nm A cap l s e W (hL.below hW) (by omega) hu)
  have HRA := Lib.hid (fun W (hW : Below w.heap.size w W) (hu : Usable l s e) (hb : Low l l.length) => grow_rate A cap l s e W (hL.below hW) hu (by omega) (fun i hi => by have := hb i hi; omega))
  have HIN := Lib.hid (fun W (hW : Below w.heap.size w W) (hu : Usable l s e) (hb : Low l l.length) => grow_inc A cap l s e W (hL.below hW) hu (by omega) (fun i hi => by have := hb i hi; omega))
  clear hL hv h4
  generalize hn : l.length = n at *
  have HLN := Lib.hid hn
  clear hn
  go_enter Try.func4, Try.ntmps4
  go_wp2_with fail
  refine (HW.out).mono ?_
  rintro x w1 ⟨rfl, k1⟩
  have HLW := Lib.hid (HLP.out w1 k1)
  have K1 := Lib.hid k1
  clear k1
  go_wp2_with fail
  go_loopg [7, 8] n (fun g s7 s8 wx => ∃ k x : Nat, k + g = n ∧ s7 = .float .f64 x ∧ s8 = .int .i64 k ∧ NN x ∧ Hid (Low l k) ∧ wx = w1)
  case atStart => exact ⟨0, 0, by omega, rfl, rfl, Nat.zero_le _, fun i h => absurd h (by omega), rfl⟩
  case round =>
    obtain ⟨k, x, hkg, rfl, rfl, hx, HL, rfl⟩ := hrel
    by_cases hlt2 : k < n
    · obtain ⟨g, rfl⟩ : ∃ g, gk = g + 1 := ⟨gk - 1, by omega⟩
      obtain ⟨b, off, rfl, hlt, hc⟩ := HLW.out (by rw [HLN.out]; omega)
      have c1 := (hc k (by rw [HLN.out]; exact hlt2)).2
      have hv := HVV.out k hlt2
      have HUP : Hid ((l.getD k e0).2 ≤ 9214364837600034816 → Low l (k + 1)) := fun h i hi => by
        by_cases e : i = k
        · subst e; exact h
        · exact HL.out i (by omega)
      clear hc
      generalize (l.getD k e0).2 = v at *
      by_cases hb : v ≤ 9214364837600034816
      · have HS := Lib.hid (HUP.out hb)
        have db : ¬ (9214364837600034816 : Int) < (v : Int) := by omega
        obtain ⟨z, hz, hzn, _⟩ := add_nn hx (show NN v by unfold NN; omega)
        have hr := fun (w : World) => run_float_arith (P := Try.prog) (w := w) .add 28 .f64 _ _ z hz
        clear hz
        go_wp2_with fail
        refine (HNL.out v hb _).mono ?_
        rintro y w2 ⟨rfl, rfl⟩
        go_wp2_with fail
        refine (HFL.out v _).mono ?_
        rintro y w2 ⟨rfl, rfl⟩
        go_wp2
        go_roundg g
        case measure => omega
        case rel => exact ⟨k + 1, z, by omega, rfl, by go_num, hzn, HS, rfl⟩
      · have db : (9214364837600034816 : Int) < (v : Int) := by omega
        go_wp2_with fail
        refine (HNS.out v hv _).mono ?_
        rintro y w2 ⟨rfl | rfl, rfl⟩
        · go_wp2
          go_ret
          exact ⟨rfl, K1.out⟩
        · go_wp2
          go_ret
          exact ⟨rfl, K1.out⟩
    · obtain rfl : k = n := by omega
      go_wp2_with fail
      refine (HIF.out x _).mono ?_
      rintro y w2 ⟨rfl, rfl⟩
      cases h1 : (double.order x 9218868437227405311 == some .gt) with
      | true =>
        go_wp2
        go_ret
        exact ⟨rfl, K1.out⟩
      | false =>
        cases h2 : (double.order x 9094988921128908188 == some .gt) with
        | true =>
          have h2' : (FloatKind.f64.format.order x 9094988921128908188 == some .gt) = true := h2
          clear h2
          go_wp2
          go_ret
          exact ⟨rfl, K1.out⟩
        | false =>
          have h2' : (FloatKind.f64.format.order x 9094988921128908188 == some .gt) = false := h2
          clear h2
          by_cases hu : Usable l s e
          · have HLL := Lib.hid (fun (h : l.length = k) => (by rw [h]; exact HL.out : Low l l.length))
            go_wp2_with fail
            refine (HRA.out _ K1.out hu (by first | exact HL.out | exact HLL.out HLN.out)).mono ?_
            rintro y w2 ⟨ra, n1, rfl, b2⟩
            have k2 := K1.out.trans (b2.mono K1.out.size)
            clear b2
            go_wp2_with fail
            refine (HIN.out _ k2 hu (by first | exact HL.out | exact HLL.out HLN.out)).mono ?_
            rintro y w3 ⟨rb, n2, rfl, b3⟩
            have k3 := k2.trans (b3.mono k2.size)
            clear b3
            have o1 : (FloatKind.f64.format.order ra 0 == some .gt || FloatKind.f64.format.order ra 0 == some .eq) = true := ge_zero n1
            have o2 : (FloatKind.f64.format.order rb 0 == some .gt || FloatKind.f64.format.order rb 0 == some .eq) = true := ge_zero n2
            go_wp2_with fail
            refine (HFL.out ra _).mono ?_
            rintro y w4 ⟨rfl, rfl⟩
            go_wp2_with fail
            refine (HFL.out rb _).mono ?_
            rintro y w4 ⟨rfl, rfl⟩
            go_wp2
            go_ret
            exact ⟨rfl, k3⟩
          · go_wp2_with fail
            refine (HNO.out _ _ K1.out hu).mono ?_
            rintro y w2 ⟨rfl, b2⟩
            have k2 := K1.out.trans (b2.mono K1.out.size)
            clear b2
            go_wp2_with fail
            refine (HNO.out _ _ k2 hu).mono ?_
            rintro y w3 ⟨rfl, b3⟩
            have k3 := k2.trans (b3.mono k2.size)
            clear b3
            go_wp2
            go_ret
            exact ⟨rfl, k3⟩
end Go.Proofs.Ytmgcigdjnaeiiaa

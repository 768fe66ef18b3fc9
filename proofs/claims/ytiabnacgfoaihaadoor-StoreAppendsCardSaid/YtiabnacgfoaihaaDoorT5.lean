import Derived.Test.YtiabnacgfoaihaaDoorT3
import Derived.Test.YtiabnacgfoaihaaDoorT4
namespace Go.Proofs.YtiabnacgfoaihaaDoor
open Go.RowKit Lb
set_option linter.unusedVariables false

theorem short_is (A : Option Addr) (cap : Nat) (l : List Lab) (r : Bool) (h : shortB l = r) (w : World) (hL : Lbs w A l) (hl : l.length ≤ 9223372036854775807) :
    Calls Tryd.prog 8 #[.slice A l.length cap] w fun e w' => e = .returned (.bool r) ∧ w = w' := by subst h; exact short_any A cap l w hL hl
theorem tm_next {t : Int} (h : tmB t = true) : (t = 1125899906842624 ∧ tmB (t + 1) = false) ∨ (t ≠ 1125899906842624 ∧ tmB (t + 1) = true) := by
  unfold tmB at *
  simp only [Bool.and_eq_true, decide_eq_true_eq, Bool.and_eq_false_iff, decide_eq_false_iff_not] at *
  omega
theorem tm_in {t : Int} (h : tmB t = true) : -1125899906842624 ≤ t ∧ t ≤ 1125899906842624 := by
  unfold tmB at h
  simpa using h

set_option maxRecDepth 100000 in
set_option maxHeartbeats 4000000 in
theorem grows_main (A L : Option Addr) (c cl n nl : Nat) (S R : List Ser) (l : List Lab) (t v v2 : Int) (w : World) (hn : S.length = n) (hnl : l.length = nl) (happ : appF S l (t, v) = (0, R)) (hS : Own w A c S) (hL : Lbs w L l) (hv : Bits v) (hv2 : Bits v2) (hLd : Laid w) (hlow : Low S) (hsl : shortB l = true)
    (HA : Hid (∀ W, Below w.heap.size w W → Calls Tryd.prog 6 #[] W fun e w' => e = .returned (.bool true) ∧ Below W.heap.size W w'))
    (HSh : Hid (∀ W, Below w.heap.size w W → Calls Tryd.prog 7 #[.slice A n c] W (SomeB (Low S) W))) :
    Calls Tryd.prog 5 #[.slice A n c, .slice L nl cl, .agg #[.int .i64 t, .int .u64 v], .int .u64 v2] w fun e w' => e = .returned (.bool true) ∧ Below w.heap.size w w' := by
  have h4 : 4 ≤ w.heap.size := hLd.1.size
  have hl40 := short_40 hsl
  have hlk : LowK 400 S := low_low hlow (fun _ h => short_40 h)
  obtain ⟨m, hst, hmk, hm0, htm, hlast, hR⟩ := app_took happ
  obtain ⟨hrR, hpR⟩ := took_right hst hmk hm0 htm hlast hR
  obtain ⟨hfd, hlt, hat⟩ := took_found hst m ((t, normI v) : Pt)
  rw [← (hR : R = appOut S m (t, normI v))] at hfd hlt hat
  have hm16 := (made_facts hmk).2.2.2
  have hlR : LowK 402 R := by rw [hR]; exact low_app hlk hst (by omega) _
  have hFR := low_few hlR (by omega)
  have hti := tm_in htm
  have hpl : 0 < (ptsAt R m).length := by rw [hpR]; simp
  have hla : lastT (ptsAt R m) = t := by rw [hpR]; exact last_snoc _ _
  have hno : (appF R l (t, v2)).1 = 3 := by rw [app_5 (p := (t, v2)) hrR hmk hm0 htm, if_pos ⟨hpl, by show t ≤ lastT (ptsAt R m); omega⟩]
  have hmR : many R = many S + 1 := by rw [hR]; exact many_app hst m _
  have HS1 := Lib.hid (fun W (hW : Below w.heap.size w W) => short_is L cl l true hsl W (hL.below hW) (by omega))
  have HAP := Lib.hid (fun W (hW : Below w.heap.size w W) => append_yes happ A L c cl W (hS.below hW) (hL.below hW) (low_few hlk (by omega)) (by omega) (hLd.1.below h4 hW) hv)
  have HMK := Lib.hid (fun W (hW : Below w.heap.size w W) => refmake_yes hmk L cl W (hL.below hW) (short_names hsl) (by omega))
  have HFI := Lib.hid (fun A1 c1 M cm W (h1 : Srs W A1 R) (h2 : Lbs W M m) => find_any A1 M c1 cm R m W h1 h2 hFR (by omega))
  have HNO := Lib.hid (fun A1 c1 W (hW : Below w.heap.size w W) (h1 : Own W A1 c1 R) => append_no hno (by omega) A1 L c1 cl W h1 (hL.below hW) hFR (by omega) (hLd.1.below h4 hW) hv2)
  have HC3 := Lib.hid (fun W (hW : Below w.heap.size w W) => code_is 3 (by decide) W (hLd.below h4 hW).2)
  have HC4 := Lib.hid (fun W (hW : Below w.heap.size w W) => code_is 4 (by decide) W (hLd.below h4 hW).2)
  have HMS := Lib.hid (fun W (hW : Below w.heap.size w W) => many_any A c S W (hS.below hW).1 (by have := hlk.1; omega) (by have := hlk.1; omega))
  have HNX : Hid ((t = 1125899906842624 ∧ (appF R l (t + 1, v2)).1 = 4) ∨ (t ≠ 1125899906842624 ∧ ∃ Y, appF R l (t + 1, v2) = (0, Y) ∧ many Y = many S + 2 ∧ Y.length ≤ 65536)) := by
    rcases tm_next htm with ⟨h1, h2⟩ | ⟨h1, h2⟩
    · exact .inl ⟨h1, app_4 hrR hmk hm0 h2⟩
    · refine .inr ⟨h1, appOut R m (t + 1, normI v2), ?_, ?_, ?_⟩
      · rw [app_5 (p := (t + 1, v2)) hrR hmk hm0 h2, if_neg (fun hh => by have := hh.2; rw [hla] at this; simp at this; omega)]
      · rw [many_app hrR, hmR]
      · have := app_length R m (t + 1, normI v2); have := hlR.1; omega
  have HAN := Lib.hid (fun Y (hY : appF R l (t + 1, v2) = (0, Y)) A1 c1 W (hW : Below w.heap.size w W) (h1 : Own W A1 c1 R) => append_yes hY A1 L c1 cl W h1 (hL.below hW) hFR (by omega) (hLd.1.below h4 hW) hv2)
  have HAQ := Lib.hid (fun (hY : (appF R l (t + 1, v2)).1 = 4) A1 c1 W (hW : Below w.heap.size w W) (h1 : Own W A1 c1 R) => append_no hY (by omega) A1 L c1 cl W h1 (hL.below hW) hFR (by omega) (hLd.1.below h4 hW) hv2)
  have HFD := Lib.hid hfd
  have HMY := Lib.hid (fun (Y : List Ser) A1 c1 W (h1 : Srs W A1 Y) (h2 : Y.length ≤ 65536) (h3 : many Y ≤ 4294967296) => many_any A1 c1 Y W h1 h2 h3)
  have hms : many S ≤ 400 := by have := hlk.1; omega
  have hRl : R.length ≤ 402 := by have := hlR.1; omega
  rw [hn] at HAP HMS
  rw [hnl] at HAP HS1 HMK HNO HAN HAQ
  have k0 : Below w.heap.size w (w.alloc (.cells #[.int .i64 t, .int .u64 v] 26)) := (Below.refl w.heap.size w).alloc (Nat.le_refl _) _
  have K0 := Lib.hid k0
  have b0 : Blk (w.alloc (.cells #[.int .i64 t, .int .u64 v] 26)) w.heap.size 26 #[.int .i64 t, .int .u64 v] := Blk.new w 26 _
  have B0 := Lib.hid b0
  have HAT := Lib.hid hat
  have HLA := Lib.hid hla
  have HPR := Lib.hid hpR
  have HLT := Lib.hid hlt
  generalize reach S m = k at *
  generalize hzs : many S = zs at *
  obtain ⟨mq, hnq⟩ : ∃ mq, (ptsAt R m).length = mq := ⟨_, rfl⟩
  have HNQ := Lib.hid hnq
  rw [hnq] at hpl
  have hnq2 : mq ≤ 65536 := by
    have h1 := (hFR.2 k hlt).2
    rw [hat, ← (hpR : ptsAt R m = ptsAt S m ++ [(t, normI v)])] at h1
    have h2 : (ptsAt R m).length ≤ 65536 := h1
    omega
  clear hn hnl happ hS hL hv hv2 hLd hlow hsl hst hmk hlast hR hrR hpR hfd hlR hFR hla hno hmR k0 b0 hlk hat hzs htm hnq hlt
  go_enter Tryd.func5, Tryd.ntmps5
  go_wp2_with fail
  refine (HA.out _ K0.out).mono ?_
  rintro e w1 ⟨rfl, hb1⟩
  have K1 := Lib.hid (K0.out.trans (hb1.mono (by simp)))
  have B1 := Lib.hid (B0.out.below hb1)
  clear hb1
  go_wp2_with fail
  refine (HSh.out _ K1.out).mono ?_
  rintro e w2 ⟨r, rfl, hr, rfl⟩
  clear hr
  cases r with
  | false =>
    go_wp2
    go_ret
    exact ⟨rfl, K1.out⟩
  | true =>
    go_wp2_with fail
    refine (HS1.out _ K1.out).mono ?_
    rintro e w2 ⟨rfl, rfl⟩
    have q0 := B1.out.cell 0
    have q1 := B1.out.cell 1
    have q3 := B1.out.lt
    simp at q0 q1
    go_wp2_with fail
    refine (HAP.out _ K1.out).mono ?_
    rintro e w3 ⟨A1, c1, rfl, o1, hb3⟩
    have O1 := Lib.hid o1
    have K3 := Lib.hid (K1.out.trans (hb3.mono K1.out.size))
    have B3 := Lib.hid (B1.out.below hb3)
    clear o1 hb3 q0 q1 q3
    generalize hRn : R.length = rn at *
    have HRN := Lib.hid hRn
    clear hRn
    go_wp2_with fail
    refine (HMK.out _ K3.out).mono ?_
    rintro e w4 ⟨M, cm, rfl, o2, hb4⟩
    have O2 := Lib.hid (O1.out.below hb4)
    have LM := Lib.hid o2.1
    have K4 := Lib.hid (K3.out.trans (hb4.mono K3.out.size))
    have B4 := Lib.hid (B3.out.below hb4)
    clear o2 hb4
    have HF1 := Lib.hid (HFI.out A1 c1 M cm w4 O2.out.1 LM.out)
    generalize m.length = nm at *
    go_wp2_with fail
    refine (HF1.out).mono ?_
    rintro e w5 ⟨⟨a, ok, rfl, hf⟩, hb5⟩
    obtain ⟨rfl, rfl⟩ := hf.same HFD.out
    have O3 := Lib.hid (O2.out.below hb5)
    have K5 := Lib.hid (K4.out.trans (hb5.mono K4.out.size))
    have B5 := Lib.hid (B4.out.below hb5)
    clear hf hb5
    obtain ⟨b, off, LA, lc, PA, pc, rfl, hlb, hx, hy, _, _, hP, _, hpc, _⟩ := O3.out.1.at_ (i := a) (by rw [HRN.out]; exact HLT.out)
    have ha : a < rn := HLT.out
    rw [HAT.out] at hx hy hP hpc
    rw [← HPR.out] at hy hP hpc
    simp only at hx hy hP hpc
    obtain ⟨pb, poff, rfl, hpb, hpcs⟩ := hP (by rw [HNQ.out]; exact hpl)
    have hz := (hpcs (mq - 1) (by rw [HNQ.out]; omega)).1
    have hz2 : w5.cell? ⟨pb, poff + (mq - 1) * 2, none⟩ = some (.int .i64 t) := by
      rw [hz, ← HLA.out]
      unfold lastT
      rw [HNQ.out]
    rw [HNQ.out] at hy hpc
    clear hz hpcs hP hx
    have q0 := B5.out.cell 0
    have q1 := B5.out.cell 1
    have q3 := B5.out.lt
    simp at q0 q1
    have d0 : (0 : Int) < (mq : Int) := by omega
    have d1 : (1 : Int) ≤ (mq : Int) := by omega
    have d2 : (mq : Int) - 1 < (mq : Int) := by omega
    have d3 : ((mq : Int) - 1).toNat = mq - 1 := by omega
    have d4 : (0 : Int) ≤ (mq : Int) - 1 := by omega
    have d5 : IntKind.i64.wrap ((mq : Int) - 1) = (mq : Int) - 1 := IntWalk.i64_in _ (by omega)
    have d6 : ((mq : Int) == 0) = false := beq_eq_false_iff_ne.2 (by omega)
    have d7 : decide ((a : Int) < 0) = false := decide_eq_false (by omega)
    have d8 : decide ((rn : Int) ≤ (a : Int)) = false := by simp; omega
    have d8' : decide (rn ≤ a) = false := by simp; omega
    have d9 : (t != t) = false := by simp
    go_wp2_with fail
    go_quiet (fail)
    have K6 : Hid (Below w.heap.size w (w5.drewN nq)) := bel_drawn K5.out _
    have O6 : Hid (Own (w5.drewN nq) (some ⟨b, off, none⟩) c1 R) := O3.out
    have B6 : Hid (Blk (w5.drewN nq) w.heap.size 26 #[.int .i64 t, .int .u64 v]) := B5.out
    have z0 : (w5.drewN nq).cell? ⟨w.heap.size, 0, none⟩ = some (.int .i64 t) := q0
    have z1 : w.heap.size < (w5.drewN nq).heap.size := q3
    clear hy hpb hpc hz2 hlb q0 q1 q3 d0 d1 d2 d3 d4 d5 d6 d7 d8 d8' d9 K5 O3 B5
    generalize w5.drewN nq = w6 at *
    go_wp2_with fail
    refine (HNO.out _ c1 w6 K6.out O6.out).mono ?_
    rintro e w7 ⟨rfl, hb7⟩
    have O7 := Lib.hid (O6.out.below hb7)
    have K7 := Lib.hid (K6.out.trans (hb7.mono K6.out.size))
    have B7 := Lib.hid (B6.out.below hb7)
    clear hb7 z0 z1
    have z0 := B7.out.cell 0
    have z1 := B7.out.lt
    simp at z0
    rcases HNX.out with ⟨ht, h4'⟩ | ⟨ht, Y, hY, hmY, hYl⟩
    · have e1 : (t == 1125899906842624) = true := beq_iff_eq.2 ht
      have H1 := Lib.hid (HAQ.out h4' (some ⟨b, off, none⟩) c1 w7 K7.out O7.out)
      clear ht h4'
      go_wp2_with fail
      refine (H1.out).mono ?_
      rintro e w8 ⟨rfl, hb8⟩
      have K8 := Lib.hid (K7.out.trans (hb8.mono K7.out.size))
      have B8 := Lib.hid (B7.out.below hb8)
      clear hb8 z0 z1
      go_wp2_with fail
      refine (HC3.out _ K8.out).mono ?_
      rintro e w9 ⟨rfl, hb9⟩
      have K9 := Lib.hid (K8.out.trans (hb9.mono K8.out.size))
      have B9 := Lib.hid (B8.out.below hb9)
      have z0 := B9.out.cell 0
      have z1 := B9.out.lt
      simp at z0
      clear hb9
      go_wp2_with fail
      refine (HC4.out _ K9.out).mono ?_
      rintro e w10 ⟨rfl, hb10⟩
      go_wp2
      go_ret
      exact ⟨rfl, K9.out.trans (hb10.mono K9.out.size)⟩
    · have e1 : (t == 1125899906842624) = false := beq_eq_false_iff_ne.2 ht
      have H1 := Lib.hid (HAN.out Y hY (some ⟨b, off, none⟩) c1 w7 K7.out O7.out)
      have HYL := Lib.hid hYl
      have HMQ := Lib.hid hmY
      clear ht hY hYl hmY
      go_wp2_with fail
      refine (H1.out).mono ?_
      rintro e w8 ⟨A2, c2, rfl, o8, hb8⟩
      have O8 := Lib.hid o8
      have K8 := Lib.hid (K7.out.trans (hb8.mono K7.out.size))
      have B8 := Lib.hid (B7.out.below hb8)
      clear hb8 z0 z1 o8
      go_wp2_with fail
      refine (HC3.out _ K8.out).mono ?_
      rintro e w9 ⟨rfl, hb9⟩
      have K9 := Lib.hid (K8.out.trans (hb9.mono K8.out.size))
      have B9 := Lib.hid (B8.out.below hb9)
      have HMZ := Lib.hid (HMY.out Y A2 c2 w9 (O8.out.below hb9).1 HYL.out (by rw [HMQ.out]; omega))
      rw [HMQ.out] at HMZ
      have z0 := B9.out.cell 0
      have z1 := B9.out.lt
      simp at z0
      clear hb9
      generalize Y.length = yn at *
      go_wp2_with fail
      refine (HMZ.out).mono ?_
      rintro e w10 ⟨rfl, hb10⟩
      have K10 := Lib.hid (K9.out.trans (hb10.mono K9.out.size))
      clear hb10
      go_wp2_with fail
      refine (HMS.out _ K10.out).mono ?_
      rintro e w11 ⟨rfl, hb11⟩
      have e2 : (((zs + 2 : Nat) : Int) == (zs : Int) + 2) = true := beq_iff_eq.2 (by omega)
      have e3 : ((zs : Int) + 2 == (zs : Int) + 2) = true := beq_iff_eq.2 rfl
      go_wp2
      go_ret
      exact ⟨rfl, K10.out.trans (hb11.mono K10.out.size)⟩
end Go.Proofs.YtiabnacgfoaihaaDoor

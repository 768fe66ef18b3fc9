import Derived.Test.YtiabnacgfoaihaaDoorU4
namespace Go.Proofs.YtiabnacgfoaihaaDoor
open Go.RowKit Lb
set_option linter.unusedVariables false

/-! the document's Append -/
theorem own_full (w : World) {base : Nat} (x y : Value) (hb : base ≤ w.heap.size) (t : TypeId) (hx : x.oneCell' = true) (hy : y.oneCell' = true) : (w.alloc (.cells #[x, y] t)).ownsRow base t 2 (.slice (some ⟨w.heap.size, 0, none⟩) 1 1) 1 [x, y] := by
  refine ⟨by simp, .inr ⟨w.heap.size, 1, #[x, y], rfl, hb, heap_alloc_new w _, Nat.le_refl _, by unfold maxLen; omega, by simp, by simp⟩⟩
theorem el_new {W0 w : World} {M : Option Addr} {mc : Nat} {m : List Lab} {t nv : Int} (hM : Lbs W0 M m) (h0 : M = none → mc = 0) (hb : Below W0.heap.size W0 w) (hn : Bits nv) (o : Obj) :
    El W0 ((w.alloc (.cells #[.int .i64 t, .int .u64 nv] 26)).alloc o) (.slice M m.length mc, .slice (some ⟨w.heap.size, 0, none⟩) 1 1) (m, [(t, nv)]) := by
  refine ⟨M, mc, rfl, hM, h0, .inr ⟨?_, ?_⟩⟩
  · exact (own_full w (.int .i64 t) (.int .u64 nv) hb.size 26 rfl rfl).alloc o
  · intro i hi
    have : i = 0 := by simp at hi; omega
    subst this
    exact hn
theorem two_allocs {W0 w : World} {u : Value} {O : List Ser} (hO : OutR W0 w u O) (hb : Below W0.heap.size W0 w) (o1 o2 : Obj) : OutR W0 ((w.alloc o1).alloc o2) u O ∧ Below W0.heap.size W0 ((w.alloc o1).alloc o2) :=
  ⟨hO.below (((Below.refl _ _).alloc (Nat.le_refl _) _).alloc (by simp) _), (hb.alloc hb.size _).alloc (by have := hb.size; simp; omega) _⟩
theorem Blk.grown {w w' : World} {g : Nat} {t : TypeId} {cs : Array Value} {row : Option Nat} (h : Blk w g t cs) (hg : w.grownBy w' row) (hne : row ≠ some g) : Blk w' g t cs := (hg.block g h.lt (fun e => hne e.symm)).trans h
theorem blk_cells {w : World} {g : Nat} {t : TypeId} {x y : Value} (h : Blk w g t #[x, y]) : ∀ j u, ([x, y] : List Value)[j]? = some u → w.cell? ((⟨g, 0, none⟩ : Addr).add j) = some u := by
  intro j u hu
  match j, hu with
  | 0, hu => simp at hu; subst hu; simp [Addr.add, h.cell]
  | 1, hu => simp at hu; subst hu; simp [Addr.add, h.cell]
  | j + 2, hu => simp at hu
theorem own_set {w : World} {base : Nat} {e : TypeId} {s n : Nat} {v : Value} {xs : List Value} {g i : Nat} (h : w.ownsRow base e s v n xs) (hg : g < base) (u : Value) : (w.setCell ⟨g, i, none⟩ u).ownsRow base e s v n xs := by
  refine ⟨h.1, ?_⟩
  rcases h.2 with h2 | ⟨q, cap, cur, h1, h2, h3, h4⟩
  · exact .inl h2
  · refine .inr ⟨q, cap, cur, h1, h2, ?_, h4⟩
    rw [← h3]
    exact Below.heap_setCell _ _ _ _ (by show q ≠ g; omega)
theorem el_app {W0 w : World} {LA : Option Addr} {lc m1 b n : Nat} {ls : List Lab} {P : List Pt} {t nv : Int} {v2 : Value} (hm1 : ls.length = m1) (hL : Lbs W0 LA ls) (hLn : LA = none → lc = 0) (hP : ∀ i, i < P.length → Bits (P.getD i p0).2) (hn : Bits nv)
    (hl : P.length + 1 = n) (hb : W0.heap.size ≤ b) (hown : w.ownsRow b 26 2 v2 n (flatP P ++ [.int .i64 t, .int .u64 nv])) : El W0 w (.slice LA m1 lc, v2) (ls, P ++ [(t, nv)]) := by
  subst hm1
  refine ⟨LA, lc, rfl, hL, hLn, .inr ⟨?_, fun i hi => ?_⟩⟩
  · rw [show flatP P ++ [.int .i64 t, .int .u64 nv] = flatP (P ++ [(t, nv)]) from flatP_snoc P (t, nv)] at hown
    rw [show (P ++ [(t, nv)]).length = n by simpa using hl]
    exact own_base hown hb
  · by_cases e : i < P.length
    · rw [show (P ++ [(t, nv)]).getD i p0 = P.getD i p0 by simp [List.getD_eq_getElem?_getD, List.getElem?_append_left e]]
      exact hP i e
    · have : i = P.length := by simp at hi; omega
      subst this
      rw [show (P ++ [(t, nv)]).getD P.length p0 = (t, nv) by simp]
      exact hn
theorem pt_one (t nv : Int) : ∀ u ∈ ([.int .i64 t, .int .u64 nv] : List Value), u.oneCell' = true := by
  intro u hu
  simp at hu
  rcases hu with rfl | rfl <;> rfl
theorem one_alloc {W0 w : World} {u : Value} {O : List Ser} (hO : OutR W0 w u O) (hb : Below W0.heap.size W0 w) (o1 : Obj) : OutR W0 (w.alloc o1) u O ∧ Below W0.heap.size W0 (w.alloc o1) :=
  ⟨hO.below ((Below.refl _ _).alloc (Nat.le_refl _) _), hb.alloc hb.size _⟩
def RefA (S : List Ser) (l : List Lab) (p : Pt) (w : World) (e : Ending) (w' : World) : Prop := Below w.heap.size w w' ∧
  (((appF S l p).1 ≠ 0 ∧ e = .returned (.tuple #[.slice none 0 0, .int .i64 (appF S l p).1])) ∨ ((appF S l p).1 = 0 ∧ ∃ A c, e = .returned (.tuple #[.slice A (appF S l p).2.length c, .int .i64 0]) ∧ Srs w' A (appF S l p).2))
theorem ref_bad {S : List Ser} {l : List Lab} {p : Pt} {c : Int} {w w' : World} (h : (appF S l p).1 = c) (h0 : c ≠ 0) (hb : Below w.heap.size w w') : RefA S l p w (.returned (.tuple #[.slice none 0 0, .int .i64 c])) w' :=
  ⟨hb, .inl ⟨by rw [h]; exact h0, by rw [h]⟩⟩

set_option maxRecDepth 100000 in
set_option maxHeartbeats 8000000 in
theorem refappend_any (A L : Option Addr) (c cl : Nat) (S : List Ser) (l : List Lab) (t v : Int) (w : World) (hS : Srs w A S)
    (hL : Lbs w L l) (hF : Few S) (hs : ∀ i, i < S.length → ∀ j, j < (S.getD i s0).1.length → ((S.getD i s0).1.getD j e0).1.size ≤ 65536) (hl : l.length ≤ 4096) (hls : ∀ i, i < l.length → (l.getD i e0).1.size ≤ 65536) (hv : Bits v) :
    Calls Tryd.prog 11 #[.slice A S.length c, .slice L l.length cl, .agg #[.int .i64 t, .int .u64 v]] w (RefA S l (t, v) w) := by
  have HR := Lib.hid (fun r (hr : storeB S = r) W (hW : Below w.heap.size w W) => (by
    have := refsright_any A c S W (hS.below hW) hF hs
    rw [hr] at this; exact this : Calls Tryd.prog 17 #[.slice A S.length c] W fun e w' => e = .returned (.bool r) ∧ Below W.heap.size W w'))
  have HMY := Lib.hid (fun o (ho : makeF l = some o) W (hW : Below w.heap.size w W) => refmake_yes ho L cl W (hL.below hW) hls hl)
  have HMN := Lib.hid (fun (ho : makeF l = none) W (hW : Below w.heap.size w W) => refmake_no ho L cl W (hL.below hW) hls hl)
  have HS := Lib.hid hS
  have HF := Lib.hid hF
  have hn1 := hF.1
  have HBAD := Lib.hid (fun cc w' => @ref_bad S l (t, v) cc w w')
  have k0 : Below w.heap.size w (w.alloc (.cells #[.int .i64 t, .int .u64 v] 26)) := (Below.refl w.heap.size w).alloc (Nat.le_refl _) _
  have K0 := Lib.hid k0
  have b0 : Blk (w.alloc (.cells #[.int .i64 t, .int .u64 v] 26)) w.heap.size 26 #[.int .i64 t, .int .u64 v] := Blk.new w 26 _
  have B0 := Lib.hid b0
  have HV := Lib.hid hv
  obtain ⟨i1, hi1, hq0, hq1, hq2⟩ := info_parts pt_info
  clear k0 b0 hS hL hF hv hs hls
  generalize hn : S.length = n at *
  have HN := Lib.hid hn
  clear hn
  generalize l.length = nl at *
  cases hst : storeB S with
  | false =>
    have HE := Lib.hid (@app_1 S l (t, v) hst)
    have H1 := Lib.hid (HR.out false hst)
    clear hst HR
    go_enter Tryd.func11, Tryd.ntmps11
    go_wp2_with fail
    refine (H1.out _ K0.out).mono ?_
    rintro e w1 ⟨rfl, hb1⟩
    go_wp2
    go_ret2
    exact HBAD.out _ _ HE.out (by omega) (K0.out.trans (hb1.mono (by simp)))
  | true =>
    have H1 := Lib.hid (HR.out true hst)
    have HST := Lib.hid hst
    clear hst HR
    cases hm : makeF l with
    | none =>
      have HE := Lib.hid (@app_2 S l (t, v) HST.out hm)
      have H2 := Lib.hid (HMN.out hm)
      clear hm HMN HMY
      go_enter Tryd.func11, Tryd.ntmps11
      go_wp2_with fail
      refine (H1.out _ K0.out).mono ?_
      rintro e w1 ⟨rfl, hb1⟩
      have K1 := Lib.hid (K0.out.trans (hb1.mono (by simp)))
      clear hb1
      go_wp2_with fail
      refine (H2.out _ K1.out).mono ?_
      rintro e w2 ⟨rfl, hb2⟩
      go_wp2
      go_ret2
      exact HBAD.out _ _ HE.out (by omega) (K1.out.trans (hb2.mono K1.out.size))
    | some m =>
      have H2 := Lib.hid (HMY.out m hm)
      have HE3 := Lib.hid (@app_3 S l m (t, v) HST.out hm)
      have HE4 := Lib.hid (@app_4 S l m (t, v) HST.out hm)
      have HE5 := Lib.hid (@app_5 S l m (t, v) HST.out hm)
      have HM16 := (made_facts hm).2.2.2
      clear hm HMN HMY
      generalize hnm : m.length = nm at *
      have HNM := Lib.hid hnm
      clear hnm
      by_cases hm0 : nm = 0
      · have HE := Lib.hid (HE3.out hm0)
        subst hm0
        go_enter Tryd.func11, Tryd.ntmps11
        go_wp2_with fail
        refine (H1.out _ K0.out).mono ?_
        rintro e w1 ⟨rfl, hb1⟩
        have K1 := Lib.hid (K0.out.trans (hb1.mono (by simp)))
        clear hb1
        go_wp2_with fail
        refine (H2.out _ K1.out).mono ?_
        rintro e w2 ⟨A', c', rfl, ho, hb2⟩
        have HO := Lib.hid ho
        clear ho
        go_wp2
        go_ret2
        exact HBAD.out _ _ HE.out (by omega) (K1.out.trans (hb2.mono K1.out.size))
      · have HM0 := Lib.hid hm0
        have d0 : ((nm : Int) == 0) = false := beq_eq_false_iff_ne.2 (by omega)
        cases ht : tmB t with
        | false =>
          have HE := Lib.hid (HE4.out HM0.out ht)
          by_cases ht1 : t < -1125899906842624
          · have d1 : decide (t < -1125899906842624) = true := by simpa using ht1
            clear ht HE3 HE4 HE5
            go_enter Tryd.func11, Tryd.ntmps11
            go_wp2_with fail
            refine (H1.out _ K0.out).mono ?_
            rintro e w1 ⟨rfl, hb1⟩
            have K1 := Lib.hid (K0.out.trans (hb1.mono (by simp)))
            have B1 := Lib.hid (B0.out.below hb1)
            clear hb1
            go_wp2_with fail
            refine (H2.out _ K1.out).mono ?_
            rintro e w2 ⟨A', c', rfl, ho, hb2⟩
            have HO := Lib.hid ho
            have K2 := Lib.hid (K1.out.trans (hb2.mono K1.out.size))
            have q := (B1.out.below hb2).cell 0
            simp at q
            clear ho hb2
            go_wp2
            go_ret2
            exact HBAD.out _ _ HE.out (by omega) K2.out
          · have d1 : decide (t < -1125899906842624) = false := by simpa using ht1
            have d2 : decide (1125899906842624 < t) = true := by
              unfold tmB at ht
              simp only [Bool.and_eq_false_iff, decide_eq_false_iff_not] at ht
              simp; omega
            clear ht HE3 HE4 HE5
            go_enter Tryd.func11, Tryd.ntmps11
            go_wp2_with fail
            refine (H1.out _ K0.out).mono ?_
            rintro e w1 ⟨rfl, hb1⟩
            have K1 := Lib.hid (K0.out.trans (hb1.mono (by simp)))
            have B1 := Lib.hid (B0.out.below hb1)
            clear hb1
            go_wp2_with fail
            refine (H2.out _ K1.out).mono ?_
            rintro e w2 ⟨A', c', rfl, ho, hb2⟩
            have HO := Lib.hid ho
            have K2 := Lib.hid (K1.out.trans (hb2.mono K1.out.size))
            have q := (B1.out.below hb2).cell 0
            simp at q
            clear ho hb2
            go_wp2
            go_ret2
            exact HBAD.out _ _ HE.out (by omega) K2.out
        | true =>
          have HE := Lib.hid (HE5.out HM0.out ht)
          have H4 := Lib.hid (fun W => refnorm_q v HV.out (normI v) rfl W)
          have d1 : decide (t < -1125899906842624) = false := by
            unfold tmB at ht; simp only [Bool.and_eq_true, decide_eq_true_eq] at ht; simp; omega
          have d2 : decide (1125899906842624 < t) = false := by
            unfold tmB at ht; simp only [Bool.and_eq_true, decide_eq_true_eq] at ht; simp; omega
          clear ht HE3 HE4 HE5
          have HBV := Lib.hid (norm_bits HV.out)
          generalize normI v = nv at *
          go_enter Tryd.func11, Tryd.ntmps11
          go_wp2_with fail
          refine (H1.out _ K0.out).mono ?_
          rintro e w1 ⟨rfl, hb1⟩
          have K1 := Lib.hid (K0.out.trans (hb1.mono (by simp)))
          have B1 := Lib.hid (B0.out.below hb1)
          clear hb1
          go_wp2_with fail
          refine (H2.out _ K1.out).mono ?_
          rintro e w2 ⟨A', c', rfl, ho, hb2⟩
          have HO := Lib.hid ho
          have K2 := Lib.hid (K1.out.trans (hb2.mono K1.out.size))
          have B2 := Lib.hid (B1.out.below hb2)
          have q0 := B2.out.cell 0
          have q1 := B2.out.cell 1
          have q2 := B2.out.frozen 1
          have q3 := B2.out.lt
          simp at q0 q1
          clear ho hb2
          go_wp2_with fail
          refine (H4.out _).mono ?_
          rintro e w3 ⟨rfl, rfl⟩
          have KS : Hid (Below w.heap.size w (w3.setCell ⟨w.heap.size, 1, none⟩ (.int .u64 nv))) := K2.out.setCell (p := ⟨w.heap.size, 1, none⟩) (Nat.le_refl _) (.int .u64 nv)
          have BS : Hid (Blk (w3.setCell ⟨w.heap.size, 1, none⟩ (.int .u64 nv)) w.heap.size 26 #[.int .i64 t, .int .u64 nv]) := B2.out.set_ 1 (.int .u64 nv)
          have LS : Hid (Lbs (w3.setCell ⟨w.heap.size, 1, none⟩ (.int .u64 nv)) A' m) := HO.out.1.set_ B2.out 1 (.int .u64 nv)
          have HM2 : Hid (A' = none → c' = 0) := HO.out.2
          clear K1 B1 B0 K0 HO
          go_wp2_with fail
          generalize (w3.setCell ⟨w.heap.size, 1, none⟩ (.int .u64 nv)) = W0 at *
          have HS0 : Hid (Srs W0 A S) := HS.out.below KS.out
          have HC := Lib.hid (fun k (hk : k < S.length) LA lc W (h : Lbs W LA (S.getD k s0).1) (hW : Below W0.heap.size W0 W) => refcmp_below LA A' lc c' (S.getD k s0).1 m W h (LS.out.below hW) (HF.out.2 k hk).1 (by rw [HNM.out]; omega))
          rw [HNM.out] at HC
          clear q0 q1 q2 q3 K2 B2 H1 H2 H4 HS d1 d2
          go_loopw [10, 11, 12] (fun s10 s11 s12 wr => ∃ (k : Nat) (pb : Bool), k ≤ n ∧ s12 = .int .i64 k ∧ s11 = .bool pb ∧ Hid (pb = decide (reach S m < k)) ∧ Hid (Below W0.heap.size W0 wr) ∧ Hid (OutR W0 wr s10 (outK S m (t, nv) k)) ∧ Hid (reach S m < k → 0 < (ptsAt S m).length → lastT (ptsAt S m) < t)) (fun _ _ s12 _ => n - (intOf s12).toNat)
          case atStart => exact ⟨0, false, Nat.zero_le _, rfl, rfl, by show false = decide (reach S m < 0); simp, Below.refl _ _, by show OutR _ _ _ _; rw [outK_low (Nat.zero_le _)]; exact OutR.nil _ _, fun h => absurd h (Nat.not_lt_zero _)⟩
          case round =>
            obtain ⟨k, pb, hk, rfl, rfl, HPB, HB, HO, HLT⟩ := hrel
            by_cases hlt : k < n
            · have hkl : k < S.length := by rw [HN.out]; exact hlt
              obtain ⟨b, off, LA, lc, PA, pc, rfl, hlb, hx0, hy0', hL0, hLn0, hP0, hPn0, hPc0, hPm0⟩ := HS0.out.at_ hkl
              have HEL : Hid (∀ W, Below W0.heap.size W0 W → El W0 W (.slice LA (S.getD k s0).1.length lc, .slice PA (S.getD k s0).2.length pc) (S.getD k s0)) := fun W _ => ⟨LA, lc, rfl, hL0, hLn0, .inl ⟨PA, pc, rfl, hP0, hPn0, hPc0, hPm0⟩⟩
              have HX := Lib.hid (fun W (hW : Below W0.heap.size W0 W) => (hW.cell (p := ⟨b, off + k * 2, none⟩) hlb).trans hx0)
              have HY := Lib.hid (fun W (hW : Below W0.heap.size W0 W) => (hW.cell (p := ⟨b, off + k * 2 + 1, none⟩) hlb).trans hy0')
              have H1 := Lib.hid (HC.out k hkl LA lc wr (hL0.below HB.out) HB.out)
              have HFk := Lib.hid (HF.out.2 k hkl)
              have HRF := round_facts HST.out m (t, nv) hkl
              have HL0 := Lib.hid hL0
              have HLn0 := Lib.hid hLn0
              have hx := HX.out wr HB.out
              have hy := HY.out wr HB.out
              have hki : (k : Int) < (n : Int) := by omega
              clear hx0 hy0' hL0 hLn0 hPn0 hPc0 hPm0
              obtain ⟨q, hq⟩ : ∃ q, cmpL (S.getD k s0).1 m = q := ⟨_, rfl⟩
              rw [hq] at H1 HRF
              generalize hm1 : (S.getD k s0).1.length = m1 at *
              have HP0 := Lib.hid hP0
              clear hP0
              rcases HRF with ⟨hr1, hr2, hr3⟩ | ⟨hr1, hr2, hr3, hr4, hr5⟩ | ⟨hr1, hr2, hr3, hr4⟩ | ⟨hr1, hr2, hr3⟩
              · -- a series that comes before
                obtain rfl : pb = false := by rw [HPB.out]; simp; omega
                have HNX := Lib.hid hr3
                have HRE := Lib.hid hr1
                have d3 : decide (0 < q) = false := by simp; omega
                have d4 : (q == 0) = false := by simp; omega
                generalize hm2 : (S.getD k s0).2.length = m2 at *
                clear hr1 hr2 hr3 hq
                go_wp2_with fail
                refine (H1.out).mono ?_
                rintro e w4 ⟨rfl, hb4⟩
                have HB4 : Hid (Below W0.heap.size W0 w4) := HB.out.trans (hb4.mono HB.out.size)
                have HO4 := Lib.hid (HO.out.below hb4)
                have hx4 := HX.out w4 HB4.out
                have hy4 := HY.out w4 HB4.out
                clear hb4
                have ZO := Lib.hid (two_allocs HO4.out HB4.out (.cells #[.slice LA m1 lc, .slice PA m2 pc] 49) (.cells #[.slice LA m1 lc, .slice PA m2 pc] 49))
                have HLEN : Hid ((outK S m (t, nv) k).length ≤ 100000) := by show _ ≤ _; have := outK_len S m (t, nv) k; rw [HN.out] at this; omega
                go_wp2_with (at_builtin; refine wpList_out rfl (.tmp 94) (.tmp 96) rfl u10 (outK S m (t, nv) k) rfl ZO.out.1 (.slice LA m1 lc) (.slice PA m2 pc) (S.getD k s0) (w4.heap.size + 1) rfl (pair_at (w4.alloc _) _ _ _ (by simp) 49) (HEL.out _ ZO.out.2) HLEN.out ZO.out.2 ?_; intro v5 w5 ho5 hb5)
                have HO5 : Hid (OutR W0 w5 v5 (outK S m (t, nv) (k + 1))) := by show OutR W0 w5 v5 _; rw [HNX.out]; exact ho5
                have HB5 := Lib.hid hb5
                clear ho5 hb5 ZO
                go_wp2
                go_roundw
                case rel => exact ⟨k + 1, false, by omega, by go_num, rfl, by show false = decide (_ < _); have := HRE.out; simp; omega, HB5, HO5, fun h => absurd h (by have := HRE.out; omega)⟩
                case measure => simp [intOf]; omega
              · -- the series that is there
                obtain rfl : pb = false := by rw [HPB.out]; simp; omega
                have HNX := Lib.hid hr5
                have HRE := Lib.hid hr1
                have HPT := Lib.hid hr3
                have d3 : decide (0 < q) = false := by simp; omega
                have d4 : (q == 0) = true := beq_iff_eq.2 hr2
                obtain ⟨ls, P, hlp⟩ : ∃ ls P, S.getD k s0 = (ls, P) := ⟨_, _, rfl⟩
                rw [hlp] at hr4 hm1 HPT HNX HFk HL0 HP0 hy HY HEL
                dsimp only at hr4 hm1 HPT HNX HFk HL0 HP0 hy HY HEL
                have HM1 := Lib.hid hm1
                have hml := HFk.out.2
                obtain ⟨pb', poff, rfl, hpb, hpc⟩ := HP0.out hr4
                have HXL : Hid (∀ W, Below W0.heap.size W0 W → W.cell? ⟨pb', poff + (P.length - 1) * 2, none⟩ = some (.int .i64 (lastT P))) := fun W hW => (hW.cell (p := ⟨pb', poff + (P.length - 1) * 2, none⟩) hpb).trans (hpc (P.length - 1) (by omega)).1
                have HPC := Lib.hid (pts_cells HP0.out)
                have HPBt := Lib.hid HP0.out.bits
                have HFP := Lib.hid (flatP_length P)
                have HF2 := Lib.hid (flatP_one P)
                clear hr1 hr2 hr3 hr5 hq hpc hpb HEL HFk hlp
                generalize hm2 : P.length = m2 at *
                have HM2L := Lib.hid hm2
                have HE2 : Hid (∀ x, lastT P = x → (t ≤ x → (appF S l (t, v)).1 = 3) ∧ (x < t → (reach S m < k + 1 → 0 < (ptsAt S m).length → lastT (ptsAt S m) < t))) := by
                  intro x hx
                  subst hx
                  refine ⟨fun h => ?_, fun h _ _ => ?_⟩
                  · rw [HE.out, if_pos ⟨by rw [HPT.out, hm2]; exact hr4, by rw [HPT.out]; exact h⟩]
                  · rw [HPT.out]; omega
                obtain ⟨lt, hlt2⟩ : ∃ x, lastT P = x := ⟨_, rfl⟩
                have HLT2 := Lib.hid (HE2.out lt hlt2)
                rw [hlt2] at HXL
                have d5 : (0 : Int) < (m2 : Int) := by omega
                have d6 : (1 : Int) ≤ (m2 : Int) := by omega
                have d7 : (m2 : Int) - 1 < (m2 : Int) := by omega
                have d8 : ((m2 : Int) - 1).toNat = m2 - 1 := by omega
                have d9 : IntKind.i64.wrap ((m2 : Int) - 1) = (m2 : Int) - 1 := IntWalk.i64_in _ (by omega)
                have d10 : (0 : Int) ≤ (m2 : Int) - 1 := by omega
                clear hm2 hm1 hlt2 HE2 HPT
                go_wp2_with fail
                refine (H1.out).mono ?_
                rintro e w4 ⟨rfl, hb4⟩
                have HB4 : Hid (Below W0.heap.size W0 w4) := HB.out.trans (hb4.mono HB.out.size)
                have HO4 := Lib.hid (HO.out.below hb4)
                have hx4 := HX.out w4 HB4.out
                have hy4 := HY.out w4 HB4.out
                clear hb4
                have HBX : Hid (Blk (w4.alloc (.cells #[.slice LA m1 lc, .slice (some ⟨pb', poff, none⟩) m2 pc] 49)) w4.heap.size 49 #[.slice LA m1 lc, .slice (some ⟨pb', poff, none⟩) m2 pc]) := Blk.new _ _ _
                have HB45 : Hid (Below w4.heap.size w4 (w4.alloc (.cells #[.slice LA m1 lc, .slice (some ⟨pb', poff, none⟩) m2 pc] 49))) := (Below.refl _ _).alloc (Nat.le_refl _) _
                have HB5 : Hid (Below W0.heap.size W0 (w4.alloc (.cells #[.slice LA m1 lc, .slice (some ⟨pb', poff, none⟩) m2 pc] 49))) := HB4.out.alloc HB4.out.size _
                by_cases hle : t ≤ lt
                · have d11 : decide (t ≤ lt) = true := by simpa using hle
                  have HE3 := Lib.hid (HLT2.out.1 hle)
                  go_wp2_with fail
                  generalize w4.alloc (.cells #[.slice LA m1 lc, .slice (some ⟨pb', poff, none⟩) m2 pc] 49) = w5 at *
                  have y0 := HBX.out.cell 0
                  have y1 := HBX.out.cell 1
                  have z0 := (BS.out.below HB5.out).cell 0
                  have z1 := (BS.out.below HB5.out).cell 1
                  have xl := HXL.out w5 HB5.out
                  simp at y0 y1 z0 z1
                  go_quiet (fail)
                  go_wp2
                  go_ret2
                  exact HBAD.out _ _ HE3.out (by omega) (bel_drawn (KS.out.trans (HB5.out.mono KS.out.size)) _)
                · have d11 : decide (t ≤ lt) = false := by simpa using hle
                  have HE3 := Lib.hid (HLT2.out.2 (by omega))
                  go_wp2_with fail
                  generalize w4.alloc (.cells #[.slice LA m1 lc, .slice (some ⟨pb', poff, none⟩) m2 pc] 49) = w5 at *
                  have y0 := HBX.out.cell 0
                  have y1 := HBX.out.cell 1
                  have z0 := (BS.out.below HB5.out).cell 0
                  have z1 := (BS.out.below HB5.out).cell 1
                  have xl := HXL.out w5 HB5.out
                  simp at y0 y1 z0 z1
                  go_quiet (fail)
                  have HBX6 : Hid (Blk (w5.drewN nq) w4.heap.size 49 #[.slice LA m1 lc, .slice (some ⟨pb', poff, none⟩) m2 pc]) := HBX.out
                  have HB46 : Hid (Below w4.heap.size w4 (w5.drewN nq)) := bel_drawn HB45.out _
                  have HB6 : Hid (Below W0.heap.size W0 (w5.drewN nq)) := bel_drawn HB5.out _
                  have hlt46 : w4.heap.size < (w5.drewN nq).heap.size := HBX6.out.lt
                  clear y0 y1 z0 z1 xl HBX HB45 HB5 d5 d6 d7 d8 d9 d10 d11 hle
                  generalize w5.drewN nq = w6 at *
                  have y1 := HBX6.out.cell 1
                  have z0 := (BS.out.below HB6.out).cell 0
                  have z1 := (BS.out.below HB6.out).cell 1
                  have yf := HBX6.out.frozen 1
                  simp at y1 z0 z1
                  have ZS : Hid (w6.drew.cell? ⟨w4.heap.size, 1, none⟩ = some (.slice (some ⟨pb', poff, none⟩) m2 pc) ∧ w6.drew.cell? ⟨w.heap.size, 0, none⟩ = some (.int .i64 t) ∧ w6.drew.cell? ⟨w.heap.size, 1, none⟩ = some (.int .u64 nv)) := ⟨y1, z0, z1⟩
                  have HPC6 : Hid (∀ ad, (some ⟨pb', poff, none⟩ : Option Addr) = some ad → ∀ j u, (flatP P)[j]? = some u → w6.cell? (ad.add j) = some u) := fun ad h j u hu => below_cell HB6.out (HPC.out ad h j u hu)
                  have BL1 : Hid (Below w6.heap.size w6 ((w6.alloc (.cells #[] 26)).drew)) := ((Below.refl w6.heap.size w6).alloc (Nat.le_refl _) _).drew
                  have BL2 : Hid (Below w6.heap.size w6 (((w6.alloc (.cells #[] 26)).alloc (.cells #[.int .i64 t, .int .u64 nv] 26)).drew)) := (((Below.refl w6.heap.size w6).alloc (Nat.le_refl _) _).alloc (by simp) _).drew
                  have BL3 : Hid (Below w6.heap.size w6 (((w6.alloc (.cells #[.int .i64 t, .int .u64 nv] 26)).alloc (.cells #[] 26)).drew)) := (((Below.refl w6.heap.size w6).alloc (Nat.le_refl _) _).alloc (by simp) _).drew
                  have ma : 0 ≤ maxLen := Nat.zero_le _
                  have OA1 : Hid (((w6.alloc (.cells #[] 26)).drew).ownsRow w6.heap.size 26 2 (.slice (some ⟨w6.heap.size, 0, none⟩) 0 0) 0 []) := World.ownsRow_made w6 #[] 0 (Nat.le_refl _) ma rfl
                  have OA2 : Hid ((((w6.alloc (.cells #[] 26)).alloc (.cells #[.int .i64 t, .int .u64 nv] 26)).drew).ownsRow w6.heap.size 26 2 (.slice (some ⟨w6.heap.size, 0, none⟩) 0 0) 0 []) := (World.ownsRow_made w6 #[] 0 (Nat.le_refl _) ma rfl).alloc _
                  have OA3 : Hid ((((w6.alloc (.cells #[.int .i64 t, .int .u64 nv] 26)).alloc (.cells #[] 26)).drew).ownsRow w6.heap.size 26 2 (.slice (some ⟨w6.heap.size + 1, 0, none⟩) 0 0) 0 []) := by
                    have := World.ownsRow_made (base := w6.heap.size) (e := 26) (size := 2) (w6.alloc (.cells #[.int .i64 t, .int .u64 nv] 26)) #[] 0 (by simp) ma rfl
                    rw [World.size_alloc] at this; exact this
                  have BP2 : Hid (Blk (((w6.alloc (.cells #[] 26)).alloc (.cells #[.int .i64 t, .int .u64 nv] 26)).drew) (w6.heap.size + 1) 26 #[.int .i64 t, .int .u64 nv]) := by
                    have := Blk.new (w6.alloc (.cells #[] 26)) 26 #[.int .i64 t, .int .u64 nv]
                    rw [World.size_alloc] at this; exact this
                  have BP3 : Hid (Blk (((w6.alloc (.cells #[.int .i64 t, .int .u64 nv] 26)).alloc (.cells #[] 26)).drew) w6.heap.size 26 #[.int .i64 t, .int .u64 nv]) := (Blk.new w6 26 #[.int .i64 t, .int .u64 nv]).alloc _
                  have HNN : Hid ((some ⟨pb', poff, none⟩ : Option Addr) = none → m2 = 0 ∧ pc = 0) := fun h => by cases h
                  have HNP : Hid (∀ g : Nat, (some ⟨g, 0, none⟩ : Option Addr) = none → 1 = 0 ∧ 1 = 0) := fun g h => by cases h
                  have hb3 : 0 + m2 ≤ maxLen := by unfold maxLen; omega
                  have hb4 : (0 + m2) * 16 ≤ 140737488355328 := by omega
                  have hb5 : m2 + 1 ≤ maxLen := by unfold maxLen; omega
                  have hb6 : (m2 + 1) * 16 ≤ 140737488355328 := by omega
                  have HFP2 : Hid ((flatP P).length = m2 * 2) := HFP.out
                  have BL4 : Hid (Below w6.heap.size w6 ((w6.alloc (.cells #[.int .i64 t, .int .u64 nv] 26)).drew)) := ((Below.refl w6.heap.size w6).alloc (Nat.le_refl _) _).drew
                  have BL0 : Hid (Below w6.heap.size w6 w6.drew) := (Below.refl w6.heap.size w6).drew
                  have fya := below_cell BL1.out y1
                  have fza := below_cell BL1.out z0
                  have fwa := below_cell BL1.out z1
                  have fyb := below_cell BL2.out y1
                  have fzb := below_cell BL2.out z0
                  have fwb := below_cell BL2.out z1
                  have fyc := below_cell BL3.out y1
                  have fzc := below_cell BL3.out z0
                  have fwc := below_cell BL3.out z1
                  have fyd := below_cell BL4.out y1
                  have fzd := below_cell BL4.out z0
                  have fwd := below_cell BL4.out z1
                  have fye := below_cell BL0.out y1
                  have fze := below_cell BL0.out z0
                  have fwe := below_cell BL0.out z1
                  go_upto_region 22 with fail
                  go_cut [] from 86 to 93 (fun wx => ∃ (P1 : Option Addr) (c1 : Nat) (w8 : World), wx = w8.setCell ⟨w4.heap.size, 1, none⟩ (.slice P1 (m2 + 1) c1) ∧ Hid (Below w6.heap.size w6 w8) ∧ Hid (w8.ownsRow w6.heap.size 26 2 (.slice P1 (m2 + 1) c1) (m2 + 1) (flatP P ++ [.int .i64 t, .int .u64 nv])))
                  case first =>
                    clear HF HBAD HN HST HNM HC HO HLT HX HY H1 HL0 HLn0 HP0 HXL HB HB4 HO4 HLT2 HE3 HM1 HE HS0 LS HM2
                    refine wp_region_noPanic ?_
                    go_region_law
                      (first
                        | (refine step_append_opt (by rfl) (.tmp 86) (.tmp 88) 47 (by rfl) w6.heap.size 26 i1 _ 2 16 Tryd.underlying47 hi1 hq0 hq1 hq2 rfl (by decide) (.slice (some ⟨w6.heap.size, 0, none⟩) 0 0) 0 [] (by rfl) OA1.out (some ⟨pb', poff, none⟩) m2 pc (flatP P) (by rfl) HFP2.out (fun ad h j u hu => below_cell BL1.out (HPC6.out ad h j u hu)) HNN.out HF2.out hb3 hb4 BL1.out.size ?_
                           intro v7 w7 hown7 hg7
                           have HOA : Hid (w7.ownsRow w6.heap.size 26 2 v7 m2 (flatP P)) := own_zero hown7
                           have HB7 : Hid (Below w6.heap.size w6 w7) := BL1.out.grown hg7 BL1.out.size (fun g hg => (OA1.out.lt g hg).1)
                           have HOA8 : Hid ((w7.alloc (.cells #[.int .i64 t, .int .u64 nv] 26)).ownsRow w6.heap.size 26 2 v7 m2 (flatP P)) := HOA.out.alloc _
                           have HB78 : Hid (Below w6.heap.size w6 (w7.alloc (.cells #[.int .i64 t, .int .u64 nv] 26))) := HB7.out.alloc HB7.out.size _
                           have y7 := below_cell HB7.out y1
                           have z70 := below_cell HB7.out z0
                           have z71 := below_cell HB7.out z1
                           clear hown7 hg7)
                        | (refine step_append_opt (by rfl) (.tmp 86) (.tmp 88) 47 (by rfl) w6.heap.size 26 i1 _ 2 16 Tryd.underlying47 hi1 hq0 hq1 hq2 rfl (by decide) (.slice (some ⟨w6.heap.size, 0, none⟩) 0 0) 0 [] (by rfl) OA2.out (some ⟨pb', poff, none⟩) m2 pc (flatP P) (by rfl) HFP2.out (fun ad h j u hu => below_cell BL2.out (HPC6.out ad h j u hu)) HNN.out HF2.out hb3 hb4 BL2.out.size ?_
                           intro v7 w7 hown7 hg7
                           have HOA : Hid (w7.ownsRow w6.heap.size 26 2 v7 m2 (flatP P)) := own_zero hown7
                           have HB7 : Hid (Below w6.heap.size w6 w7) := BL2.out.grown hg7 BL2.out.size (fun g hg => (OA2.out.lt g hg).1)
                           have BP : Hid (Blk w7 (w6.heap.size + 1) 26 #[.int .i64 t, .int .u64 nv]) := BP2.out.grown hg7 (by simp [Value.ownBlock])
                           have y7 := below_cell HB7.out y1
                           have z70 := below_cell HB7.out z0
                           have z71 := below_cell HB7.out z1
                           clear hown7 hg7)
                        | (refine step_append_opt (by rfl) (.tmp 86) (.tmp 88) 47 (by rfl) w6.heap.size 26 i1 _ 2 16 Tryd.underlying47 hi1 hq0 hq1 hq2 rfl (by decide) (.slice (some ⟨w6.heap.size + 1, 0, none⟩) 0 0) 0 [] (by rfl) OA3.out (some ⟨pb', poff, none⟩) m2 pc (flatP P) (by rfl) HFP2.out (fun ad h j u hu => below_cell BL3.out (HPC6.out ad h j u hu)) HNN.out HF2.out hb3 hb4 BL3.out.size ?_
                           intro v7 w7 hown7 hg7
                           have HOA : Hid (w7.ownsRow w6.heap.size 26 2 v7 m2 (flatP P)) := own_zero hown7
                           have HB7 : Hid (Below w6.heap.size w6 w7) := BL3.out.grown hg7 BL3.out.size (fun g hg => (OA3.out.lt g hg).1)
                           have BP : Hid (Blk w7 (w6.heap.size) 26 #[.int .i64 t, .int .u64 nv]) := BP3.out.grown hg7 (by simp [Value.ownBlock])
                           have y7 := below_cell HB7.out y1
                           have z70 := below_cell HB7.out z0
                           have z71 := below_cell HB7.out z1
                           clear hown7 hg7)
                        | (refine step_append_opt (by rfl) (.tmp 89) (.tmp 91) 47 (by rfl) w6.heap.size 26 i1 _ 2 16 Tryd.underlying47 hi1 hq0 hq1 hq2 rfl (by decide) v7 m2 (flatP P) (by rfl) HOA8.out (some ⟨w7.heap.size, 0, none⟩) 1 1 [.int .i64 t, .int .u64 nv] (by rfl) (by rfl) (new_cells w7 _ _ 26) (HNP.out _) (pt_one t nv) hb5 hb6 HB78.out.size ?_
                           intro v8 w8 hown8 hg8
                           have HB8 : Hid (Below w6.heap.size w6 w8) := HB78.out.grown hg8 HB78.out.size (fun g hg => (HOA8.out.lt g hg).1)
                           obtain ⟨P1, c1, hv8, _⟩ := Raw.of_own (r := (P ++ [(t, nv)]).map encP) (by rw [List.length_map, List.length_append, List.length_singleton, HM2L.out]) (by rw [← flatP_snoc]; exact hown8)
                           subst hv8
                           have HOC := Lib.hid hown8
                           have y8 := below_cell HB8.out y1
                           have z80 := below_cell HB8.out z0
                           have z81 := below_cell HB8.out z1
                           have yf8 := (HBX6.out.below HB8.out).frozen 1
                           have yl8 := (HBX6.out.below HB8.out).lt
                           clear hown8 hg8)
                        | (refine step_append_opt (by rfl) (.tmp 89) (.tmp 91) 47 (by rfl) w6.heap.size 26 i1 _ 2 16 Tryd.underlying47 hi1 hq0 hq1 hq2 rfl (by decide) v7 m2 (flatP P) (by rfl) HOA.out (some ⟨w6.heap.size + 1, 0, none⟩) 1 1 [.int .i64 t, .int .u64 nv] (by rfl) (by rfl) (fun ad h => by injection h with h; subst h; exact blk_cells BP.out) (HNP.out _) (pt_one t nv) hb5 hb6 HB7.out.size ?_
                           intro v8 w8 hown8 hg8
                           have HB8 : Hid (Below w6.heap.size w6 w8) := HB7.out.grown hg8 HB7.out.size (fun g hg => (HOA.out.lt g hg).1)
                           obtain ⟨P1, c1, hv8, _⟩ := Raw.of_own (r := (P ++ [(t, nv)]).map encP) (by rw [List.length_map, List.length_append, List.length_singleton, HM2L.out]) (by rw [← flatP_snoc]; exact hown8)
                           subst hv8
                           have HOC := Lib.hid hown8
                           have y8 := below_cell HB8.out y1
                           have z80 := below_cell HB8.out z0
                           have z81 := below_cell HB8.out z1
                           have yf8 := (HBX6.out.below HB8.out).frozen 1
                           have yl8 := (HBX6.out.below HB8.out).lt
                           clear hown8 hg8)
                        | (refine step_append_opt (by rfl) (.tmp 89) (.tmp 91) 47 (by rfl) w6.heap.size 26 i1 _ 2 16 Tryd.underlying47 hi1 hq0 hq1 hq2 rfl (by decide) v7 m2 (flatP P) (by rfl) HOA.out (some ⟨w6.heap.size, 0, none⟩) 1 1 [.int .i64 t, .int .u64 nv] (by rfl) (by rfl) (fun ad h => by injection h with h; subst h; exact blk_cells BP.out) (HNP.out _) (pt_one t nv) hb5 hb6 HB7.out.size ?_
                           intro v8 w8 hown8 hg8
                           have HB8 : Hid (Below w6.heap.size w6 w8) := HB7.out.grown hg8 HB7.out.size (fun g hg => (HOA.out.lt g hg).1)
                           obtain ⟨P1, c1, hv8, _⟩ := Raw.of_own (r := (P ++ [(t, nv)]).map encP) (by rw [List.length_map, List.length_append, List.length_singleton, HM2L.out]) (by rw [← flatP_snoc]; exact hown8)
                           subst hv8
                           have HOC := Lib.hid hown8
                           have y8 := below_cell HB8.out y1
                           have z80 := below_cell HB8.out z0
                           have z81 := below_cell HB8.out z1
                           have yf8 := (HBX6.out.below HB8.out).frozen 1
                           have yl8 := (HBX6.out.below HB8.out).lt
                           clear hown8 hg8))
                    all_goals
                      refine NoPanic.normal ?_
                      go_wp2_with fail
                      go_meet
                      exact ⟨_, _, _, rfl, HB8, HOC⟩
                  case rest =>
                    obtain ⟨P1, c1, w8, rfl, HB8, HOC⟩ := hcut
                    have HO9 : Hid (OutR W0 (w8.setCell ⟨w4.heap.size, 1, none⟩ (.slice P1 (m2 + 1) c1)) u10 (outK S m (t, nv) k)) := HO4.out.below (((HB46.out.trans (HB8.out.mono (by omega)))).setCell (p := ⟨w4.heap.size, 1, none⟩) (Nat.le_refl _) _)
                    have HB9 : Hid (Below W0.heap.size W0 (w8.setCell ⟨w4.heap.size, 1, none⟩ (.slice P1 (m2 + 1) c1))) := (HB6.out.trans (HB8.out.mono HB6.out.size)).setCell (p := ⟨w4.heap.size, 1, none⟩) HB4.out.size _
                    have HR9 : Hid ((w8.setCell ⟨w4.heap.size, 1, none⟩ (.slice P1 (m2 + 1) c1)).ownsRow w6.heap.size 26 2 (.slice P1 (m2 + 1) c1) (m2 + 1) (flatP P ++ [.int .i64 t, .int .u64 nv])) := own_set HOC.out hlt46 _
                    have HX9 : Hid (Blk (w8.setCell ⟨w4.heap.size, 1, none⟩ (.slice P1 (m2 + 1) c1)) w4.heap.size 49 #[.slice LA m1 lc, .slice P1 (m2 + 1) c1]) := (HBX6.out.below HB8.out).set_ 1 (.slice P1 (m2 + 1) c1)
                    clear y1 z0 z1 yf
                    generalize (w8.setCell ⟨w4.heap.size, 1, none⟩ (.slice P1 (m2 + 1) c1)) = w9 at *
                    have x0 := HX9.out.cell 0
                    have x1 := HX9.out.cell 1
                    simp at x0 x1
                    have ZO := Lib.hid (one_alloc HO9.out HB9.out (.cells #[.slice LA m1 lc, .slice P1 (m2 + 1) c1] 49))
                    have HLEN : Hid ((outK S m (t, nv) k).length ≤ 100000) := by show _ ≤ _; have := outK_len S m (t, nv) k; rw [HN.out] at this; omega
                    have HEN : Hid (El W0 (w9.alloc (.cells #[.slice LA m1 lc, .slice P1 (m2 + 1) c1] 49)) (.slice LA m1 lc, .slice P1 (m2 + 1) c1) (ls, P ++ [(t, nv)])) := el_app HM1.out HL0.out HLn0.out (fun i hi => HPBt.out i (by have := HM2L.out; omega)) HBV.out (by rw [HM2L.out]) HB6.out.size (HR9.out.alloc _)
                    go_wp2_with (at_builtin; refine wpList_out rfl (.tmp 94) (.tmp 96) rfl u10 (outK S m (t, nv) k) rfl ZO.out.1 (.slice LA m1 lc) (.slice P1 (m2 + 1) c1) (ls, P ++ [(t, nv)]) w9.heap.size rfl (pair_at w9 _ _ _ rfl 49) HEN.out HLEN.out ZO.out.2 ?_; intro v10 w10 ho10 hb10)
                    have HO10 : Hid (OutR W0 w10 v10 (outK S m (t, nv) (k + 1))) := by show OutR W0 w10 v10 _; rw [HNX.out]; exact ho10
                    have HB10 := Lib.hid hb10
                    clear ho10 hb10 ZO HEN x0 x1
                    go_wp2
                    go_roundw
                    case rel => exact ⟨k + 1, true, by omega, by go_num, rfl, by show true = decide (_ < _); have := HRE.out; simp; omega, HB10, HO10, HE3.out⟩
                    case measure => simp [intOf]; omega
              · -- the place of a series that is new
                obtain rfl : pb = false := by rw [HPB.out]; simp; omega
                have HNX := Lib.hid hr4
                have HRE := Lib.hid hr1
                have HPT := Lib.hid hr3
                have d3 : decide (0 < q) = true := by simp; omega
                have d4 : (q == 0) = false := by simp; omega
                generalize hm2 : (S.getD k s0).2.length = m2 at *
                clear hr1 hr2 hr3 hr4 hq
                go_wp2_with fail
                refine (H1.out).mono ?_
                rintro e w4 ⟨rfl, hb4⟩
                have HB4 : Hid (Below W0.heap.size W0 w4) := HB.out.trans (hb4.mono HB.out.size)
                have HO4 := Lib.hid (HO.out.below hb4)
                have BS4 : Hid (Blk w4 w.heap.size 26 #[.int .i64 t, .int .u64 nv]) := BS.out.below HB4.out
                have p0 := BS4.out.cell 0
                have p1 := BS4.out.cell 1
                simp at p0 p1
                have ZO := Lib.hid (two_allocs HO4.out HB4.out (.cells #[.int .i64 t, .int .u64 nv] 26) (.cells #[.slice A' nm c', .slice (some ⟨w4.heap.size, 0, none⟩) 1 1] 49))
                have HLEN : Hid ((outK S m (t, nv) k).length ≤ 100000 ∧ (outK S m (t, nv) k ++ [(m, [(t, nv)])]).length ≤ 100000) := by
                  show _ ∧ _
                  have := outK_len S m (t, nv) k
                  rw [HN.out] at this
                  rw [List.length_append, List.length_singleton]
                  omega
                have HEN : Hid (El W0 ((w4.alloc (.cells #[.int .i64 t, .int .u64 nv] 26)).alloc (.cells #[.slice A' nm c', .slice (some ⟨w4.heap.size, 0, none⟩) 1 1] 49)) (.slice A' nm c', .slice (some ⟨w4.heap.size, 0, none⟩) 1 1) (m, [(t, nv)])) := by
                  have := el_new (t := t) LS.out HM2.out HB4.out HBV.out (.cells #[.slice A' nm c', .slice (some ⟨w4.heap.size, 0, none⟩) 1 1] 49)
                  rw [HNM.out] at this
                  exact this
                clear hb4
                go_wp2_with (at_builtin; first
                  | (refine wpList_out rfl (.tmp 61) (.tmp 66) rfl u10 (outK S m (t, nv) k) rfl ZO.out.1 (.slice A' nm c') (.slice (some ⟨w4.heap.size, 0, none⟩) 1 1) (m, [(t, nv)]) (w4.heap.size + 1) rfl (pair_at (w4.alloc _) _ _ _ (by simp) 49) HEN.out HLEN.out.1 ZO.out.2 ?_
                     intro v5 w5 ho5 hb5
                     have HO5 := Lib.hid ho5
                     have HB5 := Lib.hid hb5
                     have hx5 := HX.out w5 HB5.out
                     have hy5 := HY.out w5 HB5.out
                     have ZO5 := Lib.hid (two_allocs HO5.out HB5.out (.cells #[.slice LA m1 lc, .slice PA m2 pc] 49) (.cells #[.slice LA m1 lc, .slice PA m2 pc] 49))
                     clear ho5 hb5)
                  | (refine wpList_out rfl (.tmp 94) (.tmp 96) rfl v5 (outK S m (t, nv) k ++ [(m, [(t, nv)])]) rfl ZO5.out.1 (.slice LA m1 lc) (.slice PA m2 pc) (S.getD k s0) (w5.heap.size + 1) rfl (pair_at (w5.alloc _) _ _ _ (by simp) 49) (HEL.out _ ZO5.out.2) HLEN.out.2 ZO5.out.2 ?_
                     intro v6 w6 ho6 hb6))
                have HO6 : Hid (OutR W0 w6 v6 (outK S m (t, nv) (k + 1))) := by show OutR W0 w6 v6 _; rw [HNX.out]; exact ho6
                have HB6 := Lib.hid hb6
                clear ho6 hb6 ZO ZO5 HEN p0 p1
                go_wp2
                go_roundw
                case rel => exact ⟨k + 1, true, by omega, by go_num, rfl, by show true = decide (_ < _); have := HRE.out; simp; omega, HB6, HO6, fun _ h0 => absurd h0 (by rw [HPT.out]; simp)⟩
                case measure => simp [intOf]; omega
              · -- a series that comes behind
                obtain rfl : pb = true := by rw [HPB.out]; simp; omega
                have HNX := Lib.hid hr3
                have HRE := Lib.hid hr1
                have d3 : decide (0 < q) = true := by simp; omega
                have d4 : (q == 0) = false := by simp; omega
                generalize hm2 : (S.getD k s0).2.length = m2 at *
                clear hr1 hr2 hr3 hq
                go_wp2_with fail
                refine (H1.out).mono ?_
                rintro e w4 ⟨rfl, hb4⟩
                have HB4 : Hid (Below W0.heap.size W0 w4) := HB.out.trans (hb4.mono HB.out.size)
                have HO4 := Lib.hid (HO.out.below hb4)
                have hx4 := HX.out w4 HB4.out
                have hy4 := HY.out w4 HB4.out
                clear hb4
                have ZO := Lib.hid (two_allocs HO4.out HB4.out (.cells #[.slice LA m1 lc, .slice PA m2 pc] 49) (.cells #[.slice LA m1 lc, .slice PA m2 pc] 49))
                have HLEN : Hid ((outK S m (t, nv) k).length ≤ 100000) := by show _ ≤ _; have := outK_len S m (t, nv) k; rw [HN.out] at this; omega
                go_wp2_with (at_builtin; refine wpList_out rfl (.tmp 94) (.tmp 96) rfl u10 (outK S m (t, nv) k) rfl ZO.out.1 (.slice LA m1 lc) (.slice PA m2 pc) (S.getD k s0) (w4.heap.size + 1) rfl (pair_at (w4.alloc _) _ _ _ (by simp) 49) (HEL.out _ ZO.out.2) HLEN.out ZO.out.2 ?_; intro v5 w5 ho5 hb5)
                have HO5 : Hid (OutR W0 w5 v5 (outK S m (t, nv) (k + 1))) := by show OutR W0 w5 v5 _; rw [HNX.out]; exact ho5
                have HB5 := Lib.hid hb5
                clear ho5 hb5 ZO
                go_wp2
                go_roundw
                case rel => exact ⟨k + 1, true, by omega, by go_num, rfl, by show true = decide (_ < _); have := HRE.out; simp; omega, HB5, HO5, fun _ => HLT.out HRE.out⟩
                case measure => simp [intOf]; omega
            · have hkn : k = n := by omega
              subst hkn
              by_cases hre : reach S m < S.length
              · obtain rfl : pb = true := by rw [HPB.out, ← HN.out]; simp; exact hre
                have HE2 : Hid (appF S l (t, v) = (0, appOut S m (t, nv))) := by
                  show appF S l (t, v) = _
                  rw [HE.out, if_neg (fun hh => by have := HLT.out (by rw [← HN.out]; exact hre) hh.1; omega)]
                have HQ : Hid (OutR W0 wr u10 (appOut S m (t, nv))) := by show OutR W0 wr u10 _; rw [← outK_end hre, HN.out]; exact HO.out
                obtain ⟨A3, c3, hv3, hs3⟩ := HQ.out.srs HB.out
                have HS3 := Lib.hid hs3
                subst hv3
                clear hre hs3
                go_wp2
                go_ret2
                exact ⟨KS.out.trans (HB.out.mono KS.out.size), .inr ⟨by rw [HE2.out], A3, c3, by rw [HE2.out]; rfl, by rw [HE2.out]; exact HS3.out⟩⟩
              · obtain rfl : pb = false := by rw [HPB.out, ← HN.out]; simp; omega
                obtain ⟨hp0, hap⟩ := outK_end2 (p := (t, nv)) hre
                have HE2 : Hid (appF S l (t, v) = (0, appOut S m (t, nv))) := by
                  show appF S l (t, v) = _
                  rw [HE.out, if_neg (fun hh => by rw [hp0] at hh; simp at hh)]
                rw [HN.out] at hap
                have HAP := Lib.hid hap
                have BS4 : Hid (Blk wr w.heap.size 26 #[.int .i64 t, .int .u64 nv]) := BS.out.below HB.out
                have p0 := BS4.out.cell 0
                have p1 := BS4.out.cell 1
                simp at p0 p1
                have ZO := Lib.hid (two_allocs HO.out HB.out (.cells #[.int .i64 t, .int .u64 nv] 26) (.cells #[.slice A' nm c', .slice (some ⟨wr.heap.size, 0, none⟩) 1 1] 49))
                have HLEN : Hid ((outK S m (t, nv) k).length ≤ 100000) := by show _ ≤ _; have := outK_len S m (t, nv) k; rw [HN.out] at this; omega
                have HEN : Hid (El W0 ((wr.alloc (.cells #[.int .i64 t, .int .u64 nv] 26)).alloc (.cells #[.slice A' nm c', .slice (some ⟨wr.heap.size, 0, none⟩) 1 1] 49)) (.slice A' nm c', .slice (some ⟨wr.heap.size, 0, none⟩) 1 1) (m, [(t, nv)])) := by
                  have := el_new (t := t) LS.out HM2.out HB.out HBV.out (.cells #[.slice A' nm c', .slice (some ⟨wr.heap.size, 0, none⟩) 1 1] 49)
                  rw [HNM.out] at this
                  exact this
                clear hre hp0 hap
                go_wp2_with (at_builtin; refine wpList_out rfl (.tmp 100) (.tmp 105) rfl u10 (outK S m (t, nv) k) rfl ZO.out.1 (.slice A' nm c') (.slice (some ⟨wr.heap.size, 0, none⟩) 1 1) (m, [(t, nv)]) (wr.heap.size + 1) rfl (pair_at (wr.alloc _) _ _ _ (by simp) 49) HEN.out HLEN.out ZO.out.2 ?_; intro v5 w5 ho5 hb5)
                rw [← HAP.out] at ho5
                obtain ⟨A3, c3, hv3, hs3⟩ := ho5.srs hb5
                have HS3 := Lib.hid hs3
                have HB5 := Lib.hid hb5
                subst hv3
                clear ho5 hb5 hs3 ZO HEN
                go_wp2
                go_ret2
                exact ⟨KS.out.trans (HB5.out.mono KS.out.size), .inr ⟨by rw [HE2.out], A3, c3, by rw [HE2.out]; rfl, by rw [HE2.out]; exact HS3.out⟩⟩
end Go.Proofs.YtiabnacgfoaihaaDoor

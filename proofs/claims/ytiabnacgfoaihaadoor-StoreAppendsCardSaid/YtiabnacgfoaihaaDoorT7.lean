import Derived.Test.YtiabnacgfoaihaaDoorT6
namespace Go.Proofs.YtiabnacgfoaihaaDoor
open Go.RowKit Lb
set_option linter.unusedVariables false

/-! points of unlike labels in any order -/
theorem pts_else {S : List Ser} (h : storeB S = true) {x y : List Lab} (hne : x ≠ y) {p : Pt} (hr : storeB (appOut S x p) = true) : ptsAt (appOut S x p) y = ptsAt S y := by
  rcases pts_cases h y with hc | ⟨hc, h0⟩
  · exact pts_mem hr ((mem_app h x p _).2 (.inr ⟨hc, fun e => hne e.symm⟩))
  · rw [h0]
    refine pts_none hr fun z hz => ?_
    rcases (mem_app h x p z).1 hz with rfl | hz
    · exact hne
    · exact hc z hz.1
theorem any_same {S M N : List Ser} {a b x y : List Lab} {p q : Pt} (ha : appF S a p = (0, M)) (hb : appF S b q = (0, N)) (hx : makeF a = some x) (hy : makeF b = some y) (hne : cmpL x y ≠ 0) :
    ∃ Y, appF M b q = (0, Y) ∧ appF N a p = (0, Y) ∧ LowK 0 [] := by
  have hxy : x ≠ y := fun e => hne (by rw [e]; exact cmpL_self y)
  obtain ⟨x', hS, hx', hx0, htp, hlp, hM⟩ := app_took ha
  obtain ⟨y', _, hy', hy0, htq, hlq, hN⟩ := app_took hb
  rw [hx] at hx'; injection hx' with hx'; subst hx'
  rw [hy] at hy'; injection hy' with hy'; subst hy'
  obtain ⟨hrM, hpM⟩ := took_right hS hx hx0 htp hlp hM
  obtain ⟨hrN, hpN⟩ := took_right hS hy hy0 htq hlq hN
  have e1 : ptsAt M y = ptsAt S y := by rw [hM] at hrM ⊢; exact pts_else hS hxy hrM
  have e2 : ptsAt N x = ptsAt S x := by rw [hN] at hrN ⊢; exact pts_else hS (fun e => hxy e.symm) hrN
  have f1 : appF M b q = (0, appOut M y (q.1, normI q.2)) := by
    rw [app_5 hrM hy hy0 htq, if_neg]
    rw [e1]
    rintro ⟨h1, h2⟩
    have := hlq h1
    omega
  have f2 : appF N a p = (0, appOut N x (p.1, normI p.2)) := by
    rw [app_5 hrN hx hx0 htp, if_neg]
    rw [e2]
    rintro ⟨h1, h2⟩
    have := hlp h1
    omega
  have r1 := app_right hrM hy hy0 (p := (q.1, normI q.2)) htq (norm_norm _) (by rw [e1]; exact hlq)
  have r2 := app_right hrN hx hx0 (p := (p.1, normI p.2)) htp (norm_norm _) (by rw [e2]; exact hlp)
  have es : appOut M y (q.1, normI q.2) = appOut N x (p.1, normI p.2) := by
    refine store_same r1 r2 fun z => ?_
    rw [mem_app hrM, mem_app hrN, e1, e2, hM, hN, mem_app hS, mem_app hS]
    constructor
    · rintro (rfl | ⟨rfl | ⟨h1, h2⟩, h3⟩)
      · exact .inr ⟨.inl rfl, fun e => hxy e.symm⟩
      · exact .inl rfl
      · exact .inr ⟨.inr ⟨h1, h3⟩, h2⟩
    · rintro (rfl | ⟨rfl | ⟨h1, h2⟩, h3⟩)
      · exact .inr ⟨.inl rfl, hxy⟩
      · exact .inl rfl
      · exact .inr ⟨.inr ⟨h1, h3⟩, h2⟩
  exact ⟨_, f1, by rw [es]; exact f2, ⟨by simp [many], fun _ h => by cases h⟩⟩
theorem low_took {S R : List Ser} {l : List Lab} {p : Pt} {k : Nat} (h : appF S l p = (0, R)) (hk : LowK k S) : LowK (k + 2) R := by
  obtain ⟨m, hS, hm, _, _, _, hR⟩ := app_took h
  rw [hR]
  exact low_app hk hS (by have := (made_facts hm).2.2.2; omega) _

theorem append_two {S R : List Ser} {l : List Lab} {t v k : Int} (h : appF S l (t, v) = (k, R)) (A L : Option Addr) (c cl : Nat) (w : World) (hS : Own w A c S) (hL : Lbs w L l) (hF : Few S) (hl : l.length ≤ 65536) (hT : Tabs w) (hv : Bits v) :
    Calls Tryd.prog 10 #[.slice A S.length c, .slice L l.length cl, .agg #[.int .i64 t, .int .u64 v]] w fun e w' => Below w.heap.size w w' ∧
      ((k ≠ 0 ∧ e = .returned (.tuple #[.slice none 0 0, .iface 53 (.int .i64 k)])) ∨ (k = 0 ∧ ∃ A' c', e = .returned (.tuple #[.slice A' R.length c', .nilIface]) ∧ Own w' A' c' R)) :=
  (append_any A L c cl S l t v w hS.1 hS.2.1 hS.2.2.1 hS.2.2.2 hL hF hl hT hv).mono fun e w' ⟨hb, hc⟩ => by
    rw [h] at hc
    rcases hc with ⟨h1, he⟩ | ⟨h1, A', c', he, ho⟩
    · exact ⟨hb, .inl ⟨h1, he⟩⟩
    · exact ⟨hb, .inr ⟨h1, A', c', he, ho⟩⟩
/-- two boxes, and all that was -/
def Bx (w0 : World) (t v u x : Int) (W : World) : Prop := Below w0.heap.size w0 W ∧ Blk W w0.heap.size 26 #[.int .i64 t, .int .u64 v] ∧ Blk W (w0.heap.size + 1) 26 #[.int .i64 u, .int .u64 x]
theorem Bx.below {w0 W W' : World} {t v u x : Int} (h : Bx w0 t v u x W) (hb : Below W.heap.size W W') : Bx w0 t v u x W' := ⟨h.1.trans (hb.mono h.1.size), h.2.1.below hb, h.2.2.below hb⟩
theorem Bx.new (w : World) (t v u x : Int) : Bx w t v u x ((w.alloc (.cells #[.int .i64 t, .int .u64 v] 26)).alloc (.cells #[.int .i64 u, .int .u64 x] 26)) :=
  ⟨((Below.refl _ _).alloc (Nat.le_refl _) _).alloc (by simp) _, (Blk.new w 26 _).alloc _, by have := Blk.new (w.alloc (.cells #[.int .i64 t, .int .u64 v] 26)) 26 #[.int .i64 u, .int .u64 x]; rwa [World.size_alloc] at this⟩
theorem Bx.cells {w0 W : World} {t v u x : Int} (h : Bx w0 t v u x W) : W.cell? ⟨w0.heap.size, 0, none⟩ = some (.int .i64 t) ∧ W.cell? ⟨w0.heap.size, 1, none⟩ = some (.int .u64 v) ∧ W.cell? ⟨w0.heap.size + 1, 0, none⟩ = some (.int .i64 u) ∧ W.cell? ⟨w0.heap.size + 1, 1, none⟩ = some (.int .u64 x) ∧ w0.heap.size + 1 < W.heap.size :=
  ⟨h.2.1.cell 0, h.2.1.cell 1, h.2.2.cell 0, h.2.2.cell 1, h.2.2.lt⟩

set_option maxRecDepth 100000 in
set_option maxHeartbeats 4000000 in
theorem any_walk (A La Lb : Option Addr) (c ca cb : Nat) (S : List Ser) (a b : List Lab) (t v u x : Int) (w : World) (hS : Own w A c S) (hRe : Reached S) (hLa : Lbs w La a) (hLb : Lbs w Lb b) (hla : a.length ≤ 9223372036854775807) (hlb : b.length ≤ 9223372036854775807) (hv : Bits v) (hx : Bits x) (hLd : Laid w) :
    Calls Tryd.prog 4 #[.slice A S.length c, .slice La a.length ca, .agg #[.int .i64 t, .int .u64 v], .slice Lb b.length cb, .agg #[.int .i64 u, .int .u64 x]] w fun e w' => e = .returned (.bool true) ∧ Below w.heap.size w w' := by
  have h4 : 4 ≤ w.heap.size := hLd.1.size
  have HA := Lib.hid (fun W (hW : Below w.heap.size w W) => awake_any W (hLd.below h4 hW))
  have HSh := Lib.hid (fun W (hW : Below w.heap.size w W) => sshort_any A c S W (hS.below hW).1 (by have := hS.2.2; omega) hRe)
  obtain ⟨qa, hqa⟩ : ∃ q, shortB a = q := ⟨_, rfl⟩
  obtain ⟨qb, hqb⟩ : ∃ q, shortB b = q := ⟨_, rfl⟩
  obtain ⟨⟨ka, M⟩, hfa⟩ : ∃ q, appF S a (t, v) = q := ⟨_, rfl⟩
  obtain ⟨⟨kb, N⟩, hfb⟩ : ∃ q, appF S b (u, x) = q := ⟨_, rfl⟩
  have HSa := Lib.hid (fun W (hW : Below w.heap.size w W) => short_is La ca a qa hqa W (hLa.below hW) hla)
  have HSb := Lib.hid (fun W (hW : Below w.heap.size w W) => short_is Lb cb b qb hqb W (hLb.below hW) hlb)
  have HQa := Lib.hid hqa
  have HQb := Lib.hid hqb
  have HMa := Lib.hid (fun (hs : shortB a = true) W (hW : Below w.heap.size w W) => refmake_any La ca a W (hLa.below hW) (short_names hs) (by have := short_40 hs; omega))
  have HMb := Lib.hid (fun (hs : shortB b = true) W (hW : Below w.heap.size w W) => refmake_any Lb cb b W (hLb.below hW) (short_names hs) (by have := short_40 hs; omega))
  have HPa := Lib.hid (fun (hl : Low S) (hs : shortB a = true) W (hW : Below w.heap.size w W) => append_two hfa A La c ca W (hS.below hW) (hLa.below hW) (low_few (low_low hl fun _ h => short_40 h) (by omega)) (by have := short_40 hs; omega) (hLd.1.below h4 hW) hv)
  have HPb := Lib.hid (fun (hl : Low S) (hs : shortB b = true) W (hW : Below w.heap.size w W) => append_two hfb A Lb c cb W (hS.below hW) (hLb.below hW) (low_few (low_low hl fun _ h => short_40 h) (by omega)) (by have := short_40 hs; omega) (hLd.1.below h4 hW) hx)
  have HYb := Lib.hid (fun (hs : shortB b = true) (Y : List Ser) (hY : appF M b (u, x) = (0, Y)) A1 c1 W (hW : Below w.heap.size w W) (h1 : Own W A1 c1 M) (hF : Few M) => append_yes hY A1 Lb c1 cb W h1 (hLb.below hW) hF (by have := short_40 hs; omega) (hLd.1.below h4 hW) hx)
  have HYa := Lib.hid (fun (hs : shortB a = true) (Y : List Ser) (hY : appF N a (t, v) = (0, Y)) A1 c1 W (hW : Below w.heap.size w W) (h1 : Own W A1 c1 N) (hF : Few N) => append_yes hY A1 La c1 ca W h1 (hLa.below hW) hF (by have := short_40 hs; omega) (hLd.1.below h4 hW) hv)
  have HFA := Lib.hid hfa
  have HFB := Lib.hid hfb
  have X0 := Lib.hid (Bx.new w t v u x)
  clear hS hRe hLa hLb hla hlb hv hx hLd hqa hqb hfa hfb
  generalize S.length = n at *
  generalize a.length = na at *
  generalize b.length = nb at *
  go_enter Tryd.func4, Tryd.ntmps4
  go_wp2_with fail
  refine (HA.out _ X0.out.1).mono ?_
  rintro e w1 ⟨rfl, hb1⟩
  have X1 := Lib.hid (X0.out.below hb1)
  clear hb1
  go_wp2_with fail
  refine (HSh.out _ X1.out.1).mono ?_
  rintro e w2 ⟨r, rfl, hr, rfl⟩
  have HR := Lib.hid hr
  clear hr
  cases r with
  | false =>
    go_wp2
    go_ret
    exact ⟨rfl, X1.out.1⟩
  | true =>
  have HLo := Lib.hid (HR.out rfl)
  go_wp2_with fail
  refine (HSa.out _ X1.out.1).mono ?_
  rintro e w2 ⟨rfl, rfl⟩
  cases qa with
  | false =>
    go_wp2
    go_ret
    exact ⟨rfl, X1.out.1⟩
  | true =>
  go_wp2_with fail
  refine (HSb.out _ X1.out.1).mono ?_
  rintro e w2 ⟨rfl, rfl⟩
  cases qb with
  | false =>
    go_wp2
    go_ret
    exact ⟨rfl, X1.out.1⟩
  | true =>
  go_wp2_with fail
  refine (HMa.out HQa.out _ X1.out.1).mono ?_
  rintro e w2 ⟨hb2, h2⟩
  have X2 := Lib.hid (X1.out.below hb2)
  clear hb2
  rcases h2 with ⟨hna, rfl⟩ | ⟨o1, M1, c1, hna, rfl, ho1⟩
  · clear hna
    go_wp2_with fail
    refine (HMb.out HQb.out _ X2.out.1).mono ?_
    rintro e w3 ⟨hb3, h3⟩
    rcases h3 with ⟨hnb, rfl⟩ | ⟨o2, M2, c2, hnb, rfl, ho2⟩
    · clear hnb
      go_wp2
      go_ret
      exact ⟨rfl, (X2.out.below hb3).1⟩
    · clear hnb ho2
      go_wp2
      go_ret
      exact ⟨rfl, (X2.out.below hb3).1⟩
  have HO1 := Lib.hid ho1.1
  have HNA := Lib.hid hna
  have ho16 := (made_facts hna).2.2.2
  clear hna ho1
  go_wp2_with fail
  refine (HMb.out HQb.out _ X2.out.1).mono ?_
  rintro e w3 ⟨hb3, h3⟩
  have X3 := Lib.hid (X2.out.below hb3)
  have HO3 := Lib.hid (HO1.out.below hb3)
  clear hb3
  rcases h3 with ⟨hnb, rfl⟩ | ⟨o2, M2, c2, hnb, rfl, ho2⟩
  · clear hnb
    go_wp2
    go_ret
    exact ⟨rfl, X3.out.1⟩
  have HO2 := Lib.hid ho2.1
  have HNB := Lib.hid hnb
  have ho26 := (made_facts hnb).2.2.2
  clear hnb ho2
  have HC := Lib.hid (refcmp_below M1 M2 c1 c2 o1 o2 w3 HO3.out HO2.out (by omega) (by omega))
  obtain ⟨z, hz⟩ : ∃ z, cmpL o1 o2 = z := ⟨_, rfl⟩
  rw [hz] at HC
  have HZ := Lib.hid hz
  clear hz
  generalize o1.length = no1 at *
  generalize o2.length = no2 at *
  go_wp2_with fail
  refine (HC.out).mono ?_
  rintro e w4 ⟨rfl, hb4⟩
  have X4 := Lib.hid (X3.out.below hb4)
  clear hb4
  by_cases hz0 : z = 0
  · have e1 : (z == 0) = true := beq_iff_eq.2 hz0
    clear hz0
    go_wp2
    go_ret
    exact ⟨rfl, X4.out.1⟩
  have e1 : (z == 0) = false := beq_eq_false_iff_ne.2 hz0
  have HZ0 := Lib.hid hz0
  clear hz0
  obtain ⟨y0, y1, y2, y3, y4⟩ := X4.out.cells
  go_wp2_with fail
  refine (HPa.out HLo.out HQa.out _ X4.out.1).mono ?_
  rintro e w5 ⟨hb5, h5⟩
  have X5 := Lib.hid (X4.out.below hb5)
  clear hb5 y0 y1 y2 y3 y4
  obtain ⟨y0, y1, y2, y3, y4⟩ := X5.out.cells
  rcases h5 with ⟨hk, rfl⟩ | ⟨hk, A5, c5, rfl, o5⟩
  · go_wp2_with fail
    refine (HPb.out HLo.out HQb.out _ X5.out.1).mono ?_
    rintro e w6 ⟨hb6, h6⟩
    have X6 := Lib.hid (X5.out.below hb6)
    clear hb6
    rcases h6 with ⟨hk2, rfl⟩ | ⟨hk2, A6, c6, rfl, o6⟩
    · go_wp2
      go_ret
      exact ⟨rfl, X6.out.1⟩
    · clear o6
      go_wp2
      go_ret
      exact ⟨rfl, X6.out.1⟩
  have HK := Lib.hid hk
  have HO5 := Lib.hid o5
  clear hk o5
  generalize hMl : M.length = ml at *
  have HML := Lib.hid hMl
  clear hMl
  go_wp2_with fail
  refine (HPb.out HLo.out HQb.out _ X5.out.1).mono ?_
  rintro e w6 ⟨hb6, h6⟩
  have X6 := Lib.hid (X5.out.below hb6)
  have HO6 := Lib.hid (HO5.out.below hb6)
  clear hb6 y0 y1 y2 y3 y4
  obtain ⟨y0, y1, y2, y3, y4⟩ := X6.out.cells
  rcases h6 with ⟨hk2, rfl⟩ | ⟨hk2, A6, c6, rfl, o6⟩
  · go_wp2
    go_ret
    exact ⟨rfl, X6.out.1⟩
  have HK2 := Lib.hid hk2
  have HN6 := Lib.hid o6
  clear hk2 o6
  have ha0 : appF S a (t, v) = (0, M) := by rw [HFA.out, HK.out]
  have hb0 : appF S b (u, x) = (0, N) := by rw [HFB.out, HK2.out]
  obtain ⟨Y, hy1, hy2, _⟩ := any_same ha0 hb0 HNA.out HNB.out (by rw [HZ.out]; exact HZ0.out)
  have hlow := low_low HLo.out fun _ h => short_40 h
  have hlM := low_took ha0 hlow
  have hlN := low_took hb0 hlow
  have hlY := low_took hy1 hlM
  have HFM := Lib.hid (low_few hlM (by omega))
  have HFN := Lib.hid (low_few hlN (by omega))
  have HFY := Lib.hid (low_few hlY (by omega))
  have H7 := Lib.hid (HYb.out HQb.out Y hy1 A5 c5 w6 X6.out.1 HO6.out HFM.out)
  have H8 := Lib.hid (fun W (hW : Below w.heap.size w W) (h : Own W A6 c6 N) => HYa.out HQa.out Y hy2 A6 c6 W hW h HFN.out)
  clear ha0 hb0 hy1 hy2 hlow hlM hlN hlY
  generalize N.length = nl at *
  go_wp2_with fail
  refine (H7.out).mono ?_
  rintro e w7 ⟨A7, c7, rfl, o7, hb7⟩
  have X7 := Lib.hid (X6.out.below hb7)
  have HN7 := Lib.hid (HN6.out.below hb7)
  have HO7 := Lib.hid o7
  clear hb7 o7 y0 y1 y2 y3 y4
  obtain ⟨y0, y1, y2, y3, y4⟩ := X7.out.cells
  go_wp2_with fail
  refine (H8.out _ X7.out.1 HN7.out).mono ?_
  rintro e w8 ⟨A8, c8, rfl, o8, hb8⟩
  have X8 := Lib.hid (X7.out.below hb8)
  have H9 := Lib.hid (same_any A7 A8 c7 c8 Y w8 (HO7.out.below hb8).1 o8.1 HFY.out)
  clear hb8 o8 y0 y1 y2 y3 y4
  generalize Y.length = yl at *
  go_wp2_with fail
  refine (H9.out).mono ?_
  rintro e w9 ⟨rfl, q9, rfl⟩
  go_wp2
  go_ret
  exact ⟨rfl, bel_drawn X8.out.1 _⟩
end Go.Proofs.YtiabnacgfoaihaaDoor

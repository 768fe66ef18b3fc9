import Derived.Test.YtiabnacgfoaihaaDoorS7
import Derived.Test.YtiabnacgfoaihaaDoorK1
import Derived.Deep.DeepCutAuto
import Derived.Deep.RegionLawGrows
import Derived.Deep.RegionHeld3
import Derived.Laws.Rows
namespace Go.Proofs.YtiabnacgfoaihaaDoor
open Go.RowKit Lb
set_option linter.unusedVariables false

/-- a block that is known whole -/
def Blk (w : World) (g : Nat) (t : TypeId) (cs : Array Value) : Prop := w.heap[g]? = some (.cells cs t (0, 0))
theorem Blk.lt {w : World} {g : Nat} {t : TypeId} {cs : Array Value} (h : Blk w g t cs) : g < w.heap.size := by
  rcases Nat.lt_or_ge g w.heap.size with hlt | hge
  · exact hlt
  · unfold Blk at h; rw [Array.getElem?_eq_none hge] at h; cases h
theorem Blk.cell {w : World} {g : Nat} {t : TypeId} {cs : Array Value} (h : Blk w g t cs) (i : Nat) : w.cell? ⟨g, i, none⟩ = cs[i]? := cell_of_row w g i cs t (0, 0) h
theorem Blk.frozen {w : World} {g : Nat} {t : TypeId} {cs : Array Value} (h : Blk w g t cs) (i : Nat) : w.frozen? ⟨g, i, none⟩ = false := by
  unfold Blk at h
  simp [World.frozen?, h]
theorem Blk.new (w : World) (t : TypeId) (cs : Array Value) : Blk (w.alloc (.cells cs t)) w.heap.size t cs := heap_alloc_new w _
theorem Blk.drewN {w : World} {g : Nat} {t : TypeId} {cs : Array Value} (h : Blk w g t cs) (n : Nat) : Blk (w.drewN n) g t cs := h
theorem Blk.set_ {w : World} {g : Nat} {t : TypeId} {cs : Array Value} (h : Blk w g t cs) (i : Nat) (u : Value) : Blk (w.setCell ⟨g, i, none⟩ u) g t (cs.setIfInBounds i u) := by
  unfold Blk at h ⊢
  simp [World.setCell, Array.getElem?_modify, h]
theorem Blk.alloc {w : World} {g : Nat} {t : TypeId} {cs : Array Value} (h : Blk w g t cs) (o : Obj) : Blk (w.alloc o) g t cs := (Below.heap_alloc w o g h.lt).trans h
theorem Blk.below {w w' : World} {g : Nat} {t : TypeId} {cs : Array Value} (h : Blk w g t cs) (hb : Below w.heap.size w w') : Blk w' g t cs := (hb.block g h.lt).trans h
theorem below_cell {w w' : World} (h : Below w.heap.size w w') {a : Addr} {v : Value} (hc : w.cell? a = some v) : w'.cell? a = some v := (h.cell (World.block_lt_of_cell? _ _ hc)).trans hc
/-- labels don't lie in a block of numbers -/
theorem Lbs.set_ {w : World} {A : Option Addr} {l : List Lab} {g : Nat} {x y : Int} {t : TypeId} (h : Lbs w A l) (hb : Blk w g t #[.int .i64 x, .int .u64 y]) (i : Nat) (u : Value) : Lbs (w.setCell ⟨g, i, none⟩ u) A l := by
  intro hn
  obtain ⟨b, off, e, hlt, hc⟩ := h hn
  have hne : b ≠ g := by
    rintro rfl
    have := (hc 0 hn).1
    rw [hb.cell] at this
    match off, this with
    | 0, this => simp at this
    | 1, this => simp at this
    | off + 2, this => simp at this
  refine ⟨b, off, e, by simpa [World.setCell] using hlt, fun k hk => ?_⟩
  rw [World.cell?_setCell_other w _ _ _ (by intro e; injection e with e1 _; exact hne e1.symm), World.cell?_setCell_other w _ _ _ (by intro e; injection e with e1 _; exact hne e1.symm)]
  exact hc k hk

theorem ser_info : (Tryd.prog.info? 49).map (fun i => (i.zero, i.size, i.bytes)) = some (some (.agg #[.slice none 0 0, .slice none 0 0]), 2, 48) := by kernel_rfl
theorem pt_info : (Tryd.prog.info? 26).map (fun i => (i.zero, i.size, i.bytes)) = some (some (.agg #[.int .i64 0, .int .u64 0]), 2, 16) := by kernel_rfl
theorem wpList_append_raw {w : World} {ops : Array Oper} {rest : List Oper} {o : Oper} {a : Act} {Q : Exit → Act → World → Prop} (hgd : o.guard = none) (s x : Operand)
    (ho : o.op = .call { callee := .builtin .append, args := #[s, x], argTypes := #[22, 22] })
    (base : Nat) (v : Value) (n : Nat) (xs : List Value) (hs : a.eval s = v) (hown : w.ownsRow base 49 2 v n xs)
    (A : Option Addr) (m c : Nat) (r : List VV) (hm : r.length = m) (hx : a.eval x = .slice A m c) (hl : Raw w A r) (h1 : ∀ x ∈ r, x.1.oneCell' = true ∧ x.2.oneCell' = true) (hc : A = none → c = 0) (hsz : n + m ≤ 1000000) (hbase : base ≤ w.heap.size)
    (h : ∀ v' w', w'.ownsRow base 49 2 v' (n + m) (xs ++ flatV r) → w.grownBy w' v.ownBlock → wpList Tryd.prog ops Q rest (a.put o.dst v') w') : wpList Tryd.prog ops Q (o :: rest) a w := by
  obtain ⟨i0, hi0, hz0, hz1, hz2⟩ := info_parts ser_info
  subst hm
  cases A with
  | none =>
    have hc := hc rfl
    have h0 : r = [] := by
      cases r with
      | nil => rfl
      | cons p l => obtain ⟨_, _, e, _⟩ := hl (by simp); cases e
    subst h0
    subst hc
    refine wpList_append_own_none hgd s x 22 ho base 49 i0 2 Tryd.underlying22 hi0 v n xs hs hown hx ?_
    exact h v w (by simpa [flatV] using hown) (World.grownBy.refl w _)
  | some ad =>
    refine wpList_append_own_at w hgd s x 22 ho base 49 i0 _ 2 48 Tryd.underlying22 hi0 hz0 hz1 hz2 rfl (by decide) v n xs hs hown ad r.length c (flatV r) hx (flatV_length r) hl.cells (flatV_one h1) (by unfold maxLen; omega) (by omega) hbase ?_
    intro v' w' h1 h2 _ _
    exact h v' w' h1 h2
theorem pair_at (W : World) (x y : Value) (g : Nat) (h : g = W.heap.size) (t : TypeId) : ∀ j u, ([x, y] : List Value)[j]? = some u → (W.alloc (.cells #[x, y] t)).cell? ((⟨g, 0, none⟩ : Addr).add j) = some u := by
  subst h
  intro j u hu
  match j, hu with
  | 0, hu => simp at hu; subst hu; simp [Addr.add, World.cell?_alloc_at]
  | 1, hu => simp at hu; subst hu; simp [Addr.add, World.cell?_alloc_at]
  | j + 2, hu => simp at hu

theorem flatP_snoc (l : List Pt) (p : Pt) : flatP l ++ [.int .i64 p.1, .int .u64 p.2] = flatV ((l ++ [p]).map encP) := by
  unfold flatP; rw [List.map_append, flatV_append]; rfl
theorem flatV_snoc (l : List VV) (x y : Value) : flatV l ++ [x, y] = flatV (l ++ [(x, y)]) := by rw [flatV_append]; rfl
theorem flatP_length (l : List Pt) : (flatP l).length = l.length * 2 := by unfold flatP; rw [flatV_length, List.length_map]
/-- points with one more -/
theorem pts_made {w : World} {base n : Nat} {v : Value} {l : List Pt} {p : Pt} (hn : l.length + 1 = n) (h : w.ownsRow base 26 2 v n (flatP l ++ [.int .i64 p.1, .int .u64 p.2])) (hb : ∀ i, i < l.length → Bits (l.getD i p0).2) (hp : Bits p.2) :
    ∃ A c, v = .slice A n c ∧ Pts w A (l ++ [p]) ∧ (A = none → c = 0) ∧ n ≤ c ∧ c ≤ 9223372036854775807 := by
  rw [flatP_snoc] at h
  obtain ⟨A, c, h1, h2, h3⟩ := Raw.of_own (by simpa using hn) h
  refine ⟨A, c, h1, Pts.of_raw h2 fun i hi => ?_, h3⟩
  by_cases hlt : i < l.length
  · rw [show (l ++ [p]).getD i p0 = l.getD i p0 by simp [List.getD_eq_getElem?_getD, List.getElem?_append_left hlt]]
    exact hb i hlt
  · have : i = l.length := by simp at hi; omega
    subst this
    rw [show (l ++ [p]).getD l.length p0 = p by simp]
    exact hp
/-- the store with a point more, in memory -/
theorem app_srs {w : World} {raw : List VV} {S : List Ser} {m : List Lab} {a n nm np c' c1 : Nat} {A' P1 : Option Addr} {p : Pt} (hl : raw.length = n) (hV : SerVs w raw S) (hR : reach S m = a) (han : a ≤ n) (hnm : m.length = nm) (hnp : (ptsAt S m).length + 1 = np + 1)
    (hM : Lbs w A' m) (hM0 : A' = none → c' = 0) (hP : Pts w P1 (ptsAt S m ++ [p])) (hP0 : P1 = none → c1 = 0) (hc1 : np + 1 ≤ c1) (hc2 : c1 ≤ 9223372036854775807) :
    SerVs w (raw.take a ++ [(.slice A' nm c', .slice P1 (np + 1) c1)] ++ raw.drop (behindN S m)) (appOut S m p) := by
  unfold appOut
  rw [hR]
  have hx : SerV w (.slice A' nm c', .slice P1 (np + 1) c1) (m, ptsAt S m ++ [p]) :=
    ⟨A', c', P1, c1, by rw [← hnm]; simp [hnp], hM, hM0, hP, hP0, by simpa [hnp] using hc1, hc2⟩
  exact ((hV.take a).append (SerVs.single hx)).append (hV.drop _)
/-- what Append leaves -/
def AppP (S : List Ser) (l : List Lab) (p : Pt) (w : World) (e : Ending) (w' : World) : Prop :=
  Below w.heap.size w w' ∧ (((appF S l p).1 ≠ 0 ∧ e = .returned (.tuple #[.slice none 0 0, .iface 53 (.int .i64 (appF S l p).1)])) ∨
    ((appF S l p).1 = 0 ∧ ∃ A c, e = .returned (.tuple #[.slice A (appF S l p).2.length c, .nilIface]) ∧ Srs w' A (appF S l p).2 ∧ (A = none → c = 0) ∧ (appF S l p).2.length ≤ c ∧ c ≤ 9223372036854775807))
theorem app_bad {S : List Ser} {l : List Lab} {p : Pt} {c : Int} {w w' : World} (h : (appF S l p).1 = c) (h0 : c ≠ 0) (hb : Below w.heap.size w w') : AppP S l p w (.returned (.tuple #[.slice none 0 0, .iface 53 (.int .i64 c)])) w' :=
  ⟨hb, .inl ⟨by rw [h]; exact h0, by rw [h]⟩⟩

theorem app_1 {S : List Ser} {l : List Lab} {p : Pt} (h : storeB S = false) : (appF S l p).1 = 3 := by unfold appF; rw [if_pos h]
theorem app_2 {S : List Ser} {l : List Lab} {p : Pt} (h : storeB S = true) (hm : makeF l = none) : (appF S l p).1 = 1 := by unfold appF; rw [if_neg (by rw [h]; simp), hm]
theorem app_0 {S : List Ser} {l m : List Lab} {p : Pt} (h : storeB S = true) (hm : makeF l = some m) : appF S l p = if m.length = 0 then (1, []) else if tmB p.1 = false then (4, []) else if 0 < (ptsAt S m).length ∧ p.1 ≤ lastT (ptsAt S m) then (3, []) else (0, appOut S m (p.1, normI p.2)) := by
  unfold appF; rw [if_neg (by rw [h]; simp), hm]
theorem app_3 {S : List Ser} {l m : List Lab} {p : Pt} (h : storeB S = true) (hm : makeF l = some m) (h0 : m.length = 0) : (appF S l p).1 = 1 := by rw [app_0 h hm, if_pos h0]
theorem app_4 {S : List Ser} {l m : List Lab} {p : Pt} (h : storeB S = true) (hm : makeF l = some m) (h0 : ¬ m.length = 0) (ht : tmB p.1 = false) : (appF S l p).1 = 4 := by rw [app_0 h hm, if_neg h0, if_pos ht]
theorem app_5 {S : List Ser} {l m : List Lab} {p : Pt} (h : storeB S = true) (hm : makeF l = some m) (h0 : ¬ m.length = 0) (ht : tmB p.1 = true) : appF S l p = if 0 < (ptsAt S m).length ∧ p.1 ≤ lastT (ptsAt S m) then (3, []) else (0, appOut S m (p.1, normI p.2)) := by
  rw [app_0 h hm, if_neg h0, if_neg (by rw [ht]; simp)]

theorem down_of {S : List Ser} (h : storeB S = true) : DownFrom S 0 := by
  intro i _ hi
  have := (store_iff S).1 h (i + 1) hi
  have := this.2.2.2 (by omega)
  rw [Nat.add_sub_cancel] at this
  rw [cmpL_anti]
  omega

theorem at_no {S : List Ser} {m : List Lab} {a : Nat} (hr : Reach S m a) (h : isAt S m a = false) : ptsAt S m = [] ∧ behindN S m = a ∧ reach S m = a := by
  have e : reach S m = a := (reach_is S m).same hr
  unfold ptsAt behindN
  rw [e, h]
  exact ⟨rfl, rfl, rfl⟩
theorem at_yes {S : List Ser} {m : List Lab} {a : Nat} (hr : Reach S m a) (h : isAt S m a = true) : ptsAt S m = (S.getD a s0).2 ∧ behindN S m = a + 1 ∧ a < S.length ∧ reach S m = a := by
  have e : reach S m = a := (reach_is S m).same hr
  have hl : a < S.length := by
    unfold isAt at h
    simp only [Bool.and_eq_true, decide_eq_true_eq] at h
    exact h.1
  unfold ptsAt behindN
  rw [e, h]
  exact ⟨rfl, rfl, hl, rfl⟩
/-- where a slice's rest begins -/
theorem Raw.cut {w : World} {A : Option Addr} {r : List VV} (h : Raw w A r) (a c : Nat) (hc : r.length ≤ c) : Raw w (if c = a then A else Option.map (fun x => x.add (a * 2)) A) (r.drop a) := by
  intro h0
  have hl : a < r.length := by simp at h0; omega
  rw [if_neg (by omega)]
  obtain ⟨b, off, rfl, _⟩ := h (by omega)
  rw [show Option.map (fun x : Addr => x.add (a * 2)) (some ⟨b, off, none⟩) = some ⟨b, off + a * 2, none⟩ by simp [add_plain]]
  exact h.drop a h0
theorem cut_none {A : Option Addr} {a c : Nat} (h : A = none → c = 0) : (if c = a then A else Option.map (fun x : Addr => x.add (a * 2)) A) = none → c - a = 0 := by
  intro h1
  split at h1
  · omega
  · have : A = none := by cases A with | none => rfl | some x => simp at h1
    rw [h this]; omega

set_option maxRecDepth 100000 in
set_option maxHeartbeats 4000000 in
theorem append_any (A L : Option Addr) (c cl : Nat) (S : List Ser) (l : List Lab) (t v : Int) (w : World) (hS : Srs w A S) (hA : A = none → c = 0) (hc1 : S.length ≤ c) (hc2 : c ≤ 9223372036854775807)
    (hL : Lbs w L l) (hF : Few S) (hl : l.length ≤ 65536) (hT : Tabs w) (hv : Bits v) :
    Calls Tryd.prog 10 #[.slice A S.length c, .slice L l.length cl, .agg #[.int .i64 t, .int .u64 v]] w (AppP S l (t, v) w) := by
  have HR := Lib.hid (fun r (hr : storeB S = r) W (hW : Below w.heap.size w W) => (by
    have := sright_any A c S W (hS.below hW) hF (hT.below hT.size hW)
    rw [hr] at this; exact this : Calls Tryd.prog 16 #[.slice A S.length c] W fun e w' => e = .returned (.bool r) ∧ Below W.heap.size W w'))
  have HMY := Lib.hid (fun o (ho : makeF l = some o) W (hW : Below w.heap.size w W) => make_yes ho L cl W (hL.below hW) (hT.below hT.size hW) hl)
  have HMN := Lib.hid (fun (ho : makeF l = none) W (hW : Below w.heap.size w W) => make_no ho L cl W (hL.below hW) (hT.below hT.size hW) hl)
  have HS := Lib.hid hS
  have HA := Lib.hid hA
  have HF := Lib.hid hF
  have hn1 := hF.1
  have HBAD := Lib.hid (fun cc w' => @app_bad S l (t, v) cc w w')
  have k0 : Below w.heap.size w (w.alloc (.cells #[.int .i64 t, .int .u64 v] 26)) := (Below.refl w.heap.size w).alloc (Nat.le_refl _) _
  have K0 := Lib.hid k0
  have b0 : Blk (w.alloc (.cells #[.int .i64 t, .int .u64 v] 26)) w.heap.size 26 #[.int .i64 t, .int .u64 v] := Blk.new w 26 _
  have B0 := Lib.hid b0
  have HV := Lib.hid hv
  obtain ⟨i0, hi0, hz0, hz1, hz2⟩ := info_parts ser_info
  obtain ⟨i1, hi1, hy0, hy1, hy2⟩ := info_parts pt_info
  clear k0 b0 hS hA hL hF hT hv
  generalize hn : S.length = n at *
  have HN := Lib.hid hn
  clear hn
  generalize l.length = nl at *
  cases hst : storeB S with
  | false =>
    have HE := Lib.hid (@app_1 S l (t, v) hst)
    have H1 := Lib.hid (HR.out false hst)
    clear hst HR
    go_enter Tryd.func10, Tryd.ntmps10
    go_wp2_with fail
    refine (H1.out _ K0.out).mono ?_
    rintro e w1 ⟨rfl, hb1⟩
    go_wp2
    go_ret2
    exact HBAD.out _ _ HE.out (by omega) (K0.out.trans (hb1.mono (by simp)))
  | true =>
    have H1 := Lib.hid (HR.out true hst)
    have HST := Lib.hid hst
    clear hst HR
    cases hm : makeF l with
    | none =>
      have HE := Lib.hid (@app_2 S l (t, v) HST.out hm)
      have H2 := Lib.hid (HMN.out hm)
      clear hm HMN HMY
      go_enter Tryd.func10, Tryd.ntmps10
      go_wp2_with fail
      refine (H1.out _ K0.out).mono ?_
      rintro e w1 ⟨rfl, hb1⟩
      have K1 := Lib.hid (K0.out.trans (hb1.mono (by simp)))
      clear hb1
      go_wp2_with fail
      refine (H2.out _ K1.out).mono ?_
      rintro e w2 ⟨rfl, hb2⟩
      go_wp2
      go_ret2
      exact HBAD.out _ _ HE.out (by omega) (K1.out.trans (hb2.mono K1.out.size))
    | some m =>
      have H2 := Lib.hid (HMY.out m hm)
      have HE3 := Lib.hid (@app_3 S l m (t, v) HST.out hm)
      have HE4 := Lib.hid (@app_4 S l m (t, v) HST.out hm)
      have HE5 := Lib.hid (@app_5 S l m (t, v) HST.out hm)
      have HM16 := (made_facts hm).2.2.2
      clear hm HMN HMY
      generalize hnm : m.length = nm at *
      have HNM := Lib.hid hnm
      clear hnm
      by_cases hm0 : nm = 0
      · have HE := Lib.hid (HE3.out hm0)
        subst hm0
        go_enter Tryd.func10, Tryd.ntmps10
        go_wp2_with fail
        refine (H1.out _ K0.out).mono ?_
        rintro e w1 ⟨rfl, hb1⟩
        have K1 := Lib.hid (K0.out.trans (hb1.mono (by simp)))
        clear hb1
        go_wp2_with fail
        refine (H2.out _ K1.out).mono ?_
        rintro e w2 ⟨A', c', rfl, ho, hb2⟩
        have HO := Lib.hid ho
        clear ho
        go_wp2
        go_ret2
        exact HBAD.out _ _ HE.out (by omega) (K1.out.trans (hb2.mono K1.out.size))
      · have HM0 := Lib.hid hm0
        have d0 : ((nm : Int) == 0) = false := beq_eq_false_iff_ne.2 (by omega)
        cases ht : tmB t with
        | false =>
          have HE := Lib.hid (HE4.out HM0.out ht)
          have H3 := Lib.hid (fun W => time_q t false ht W)
          clear ht HE3 HE4 HE5
          go_enter Tryd.func10, Tryd.ntmps10
          go_wp2_with fail
          refine (H1.out _ K0.out).mono ?_
          rintro e w1 ⟨rfl, hb1⟩
          have K1 := Lib.hid (K0.out.trans (hb1.mono (by simp)))
          have B1 := Lib.hid (B0.out.below hb1)
          clear hb1
          go_wp2_with fail
          refine (H2.out _ K1.out).mono ?_
          rintro e w2 ⟨A', c', rfl, ho, hb2⟩
          have HO := Lib.hid ho
          have K2 := Lib.hid (K1.out.trans (hb2.mono K1.out.size))
          have q := (B1.out.below hb2).cell 0
          simp at q
          clear ho hb2
          go_wp2_with fail
          refine (H3.out _).mono ?_
          rintro e w3 ⟨rfl, rfl⟩
          go_wp2
          go_ret2
          exact HBAD.out _ _ HE.out (by omega) K2.out
        | true =>
          have HE := Lib.hid (HE5.out HM0.out ht)
          have H3 := Lib.hid (fun W => time_q t true ht W)
          have H4 := Lib.hid (fun W => norm_q v HV.out (normI v) rfl W)
          clear ht HE3 HE4 HE5
          have HBV := Lib.hid (norm_bits HV.out)
          generalize normI v = nv at *
          go_enter Tryd.func10, Tryd.ntmps10
          go_wp2_with fail
          refine (H1.out _ K0.out).mono ?_
          rintro e w1 ⟨rfl, hb1⟩
          have K1 := Lib.hid (K0.out.trans (hb1.mono (by simp)))
          have B1 := Lib.hid (B0.out.below hb1)
          clear hb1
          go_wp2_with fail
          refine (H2.out _ K1.out).mono ?_
          rintro e w2 ⟨A', c', rfl, ho, hb2⟩
          have HO := Lib.hid ho
          have K2 := Lib.hid (K1.out.trans (hb2.mono K1.out.size))
          have B2 := Lib.hid (B1.out.below hb2)
          have q0 := B2.out.cell 0
          have q1 := B2.out.cell 1
          have q2 := B2.out.frozen 1
          have q3 := B2.out.lt
          simp at q0 q1
          clear ho hb2
          go_wp2_with fail
          refine (H3.out _).mono ?_
          rintro e w3 ⟨rfl, rfl⟩
          go_wp2_with fail
          refine (H4.out _).mono ?_
          rintro e w3 ⟨rfl, rfl⟩
          have KS := Lib.hid ((K2.out.setCell (p := ⟨w.heap.size, 1, none⟩) (Nat.le_refl _) (.int .u64 nv)).alloc (by simpa [World.setCell] using K2.out.size) (.cells #[.slice A n c, .slice A' nm c'] 59))
          have BS := Lib.hid ((B2.out.set_ 1 (.int .u64 nv)).alloc (.cells #[.slice A n c, .slice A' nm c'] 59))
          have XS : Hid (Blk ((w3.setCell ⟨w.heap.size, 1, none⟩ (.int .u64 nv)).alloc (.cells #[.slice A n c, .slice A' nm c'] 59)) w3.heap.size 59 #[.slice A n c, .slice A' nm c']) := by
            have := Blk.new (w3.setCell ⟨w.heap.size, 1, none⟩ (.int .u64 nv)) 59 #[.slice A n c, .slice A' nm c']
            rwa [show (w3.setCell ⟨w.heap.size, 1, none⟩ (.int .u64 nv)).heap.size = w3.heap.size by simp [World.setCell]] at this
          have LS : Hid (Lbs ((w3.setCell ⟨w.heap.size, 1, none⟩ (.int .u64 nv)).alloc (.cells #[.slice A n c, .slice A' nm c'] 59)) A' m) := (HO.out.1.set_ B2.out 1 (.int .u64 nv)).below ((Below.refl _ _).alloc (Nat.le_refl _) _)
          have H6 := Lib.hid (halved_any A A' c c' S m _ (HS.out.below KS.out) LS.out HF.out (by rw [HNM.out]; omega) (rises_of (down_of HST.out) m))
          rw [HN.out, HNM.out] at H6
          go_wp2_with fail
          generalize (w3.setCell ⟨w.heap.size, 1, none⟩ (.int .u64 nv)).alloc (.cells #[.slice A n c, .slice A' nm c'] 59) = w6 at *
          refine (H6.out).mono ?_
          rintro e w7 ⟨⟨a, rfl, ha⟩, hb7⟩
          have HRE := Lib.hid ha
          have HRA := Lib.hid ((reach_is S m).same ha)
          have han : a ≤ n := by have := ha.1; rw [HN.out] at this; exact this
          have K7 := Lib.hid (KS.out.trans (hb7.mono KS.out.size))
          have B7 := Lib.hid (BS.out.below hb7)
          have X7 := Lib.hid (XS.out.below hb7)
          have L7 := Lib.hid (LS.out.below hb7)
          clear hb7 ha KS BS XS LS H6 q0 q1 q2 K2 B2
          generalize hi : isAt S m a = r
          have HI := Lib.hid hi
          have H7 := Lib.hid (is_any A A' c c' S m a r hi w7 (HS.out.below K7.out) L7.out (fun h => (HF.out.2 a h).1) (by rw [HNM.out]; omega))
          rw [HN.out, HNM.out] at H7
          clear hi
          obtain ⟨raw, hraw, hsv⟩ := HS.out.below K7.out
          have hrl : raw.length = n := hsv.1.trans HN.out
          have HD : Hid (Raw w7 (if c = a then A else Option.map (fun x => x.add (a * 2)) A) (raw.drop a)) := hraw.cut a c (by omega)
          have HD0 : Hid ((if c = a then A else Option.map (fun x : Addr => x.add (a * 2)) A) = none → c - a = 0) := cut_none HA.out
          have HD1 : Hid (Raw w7 (if c = a + 1 then A else Option.map (fun x => x.add ((a + 1) * 2)) A) (raw.drop (a + 1))) := hraw.cut (a + 1) c (by omega)
          have HD2 : Hid ((if c = a + 1 then A else Option.map (fun x : Addr => x.add ((a + 1) * 2)) A) = none → c - (a + 1) = 0) := cut_none HA.out
          have HRAW := Lib.hid hraw
          have HSV := Lib.hid hsv
          have HRL := Lib.hid hrl
          clear hraw hsv hrl
          have y0 := X7.out.cell 0
          have y1 := X7.out.cell 1
          have y2 := X7.out.lt
          simp at y0 y1
          by_cases hca : a = c
          all_goals
            first | (subst hca; rw [if_pos rfl] at HD HD0) | (have hca2 : ¬ c = a := fun h => hca h.symm; rw [if_neg hca2] at HD HD0)
            go_wp2_with fail
            refine (H7.out).mono ?_
            rintro e w8 ⟨rfl, hb8⟩
            have K8 := Lib.hid (K7.out.trans (hb8.mono K7.out.size))
            have B8 := Lib.hid (B7.out.below hb8)
            have X8 := Lib.hid (X7.out.below hb8)
            have L8 := Lib.hid (L7.out.below hb8)
            have D8 := Lib.hid (HD.out.below hb8)
            have D9 := Lib.hid (HD1.out.below hb8)
            have R8 := Lib.hid (HRAW.out.below hb8)
            have V8 := Lib.hid (HSV.out.below hb8)
            clear hb8 K7 B7 X7 L7 H7 y0 y1 y2 HD HD1 HRAW HSV
            go_upto_if 52 with fail
            go_cut [12, 13] (fun s12 s13 wx => ∃ (PA BA : Option Addr) (np pc nb cb : Nat), s12 = .slice PA np pc ∧ s13 = .slice BA nb cb ∧ Hid (np = (ptsAt S m).length ∧ nb = n - behindN S m) ∧ Hid (Pts wx PA (ptsAt S m)) ∧ np ≤ pc ∧ np ≤ 65536 ∧ nb ≤ 65536 ∧ Hid (PA = none → pc = 0) ∧ Hid (Raw wx BA (raw.drop (behindN S m))) ∧ Hid (BA = none → cb = 0) ∧ Hid (Below w.heap.size w wx) ∧ Hid (Blk wx w.heap.size 26 #[.int .i64 t, .int .u64 nv]) ∧ Hid (Lbs wx A' m) ∧ Hid (Raw wx A raw) ∧ Hid (SerVs wx raw S))
            case first =>
              cases r with
              | false =>
                have HX := Lib.hid (at_no HRE.out HI.out)
                go_wp2_with fail
                go_meet
                refine ⟨none, _, 0, 0, _, _, rfl, rfl, ?_, ?_, Nat.le_refl _, by omega, by omega, fun _ => rfl, ?_, ?_, K8, B8, L8, R8, V8⟩
                · exact ⟨by rw [HX.out.1]; rfl, by have := HX.out.2.1; omega⟩
                · intro h0; rw [HX.out.1] at h0; exact absurd h0 (Nat.lt_irrefl _)
                · rw [HX.out.2.1]; exact D8.out
                · intro h0; have := HD0.out h0; omega
              | true =>
                have HX := Lib.hid (at_yes HRE.out HI.out)
                have han2 : a < n := by have := HX.out.2.2.1; rw [HN.out] at this; exact this
                try (exfalso; omega)
                all_goals (
                 have HFa := Lib.hid (HF.out.2 a (by rw [HN.out]; exact han2))
                 obtain ⟨b, off, LA, lc, PA, pc, rfl, hlb, hx1, hy1, hLA, _, hPA, hPn, hPc, hPm⟩ := Srs.at_ (w := w8) (A := A) (S := S) ⟨raw, R8.out, V8.out⟩ (i := a) (by rw [HN.out]; exact han2)
                 have HPA := Lib.hid hPA
                 have HPN := Lib.hid hPn
                 have f1 : (a : Int) < (n : Int) := by omega
                 have f2 : a + 1 ≤ n := by omega
                 clear hLA hPA hPn
                 by_cases hc3 : a + 1 = c
                 all_goals
                   first | (subst hc3; rw [if_pos rfl] at D9 HD2) | (have hc4 : ¬ c = a + 1 := fun h => hc3 h.symm; rw [if_neg hc4] at D9 HD2)
                   go_wp2_with fail
                   go_meet
                   refine ⟨PA, _, _, pc, _, _, rfl, rfl, ?_, ?_, ?_, ?_, ?_, HPN, ?_, ?_, K8, B8, L8, R8, V8⟩
                   · exact ⟨by rw [HX.out.1]; rfl, by have := HX.out.2.1; omega⟩
                   · rw [HX.out.1]; exact HPA.out
                   · exact hPc
                   · exact HFa.out.2
                   · omega
                   · rw [HX.out.2.1]; exact D9.out
                   · intro h0; have := HD2.out h0; omega)
            case rest =>
              obtain ⟨PA, BA, np, pc, nb, cb, rfl, rfl, HNP, HP, hnpc, hnp1, hnb1, HPn, HRD, HBn, HK, HB26, HLM, HRW, HSVw⟩ := hcut
              have p0 := HB26.out.cell 0
              have p1 := HB26.out.cell 1
              have p2 := HB26.out.lt
              simp at p0 p1
              clear HD0 HD2 D8 D9 R8 V8 K8 B8 X8 L8 HI
              by_cases hnp0 : np = 0
              · have HE2 : Hid (appF S l (t, v) = (0, appOut S m (t, nv))) := by rw [HE.out, if_neg (by rw [← HNP.out.1, hnp0]; omega)]; exact rfl
                have d0 : decide (0 < np) = false := by simp; omega
                clear hnp0
                go_wp2_with fail
                go_quiet (fail)
                have HPB := Lib.hid HP.out.bits
                have HPR : Hid (∀ b, PA = some b → ∀ j u, (flatP (ptsAt S m))[j]? = some u → (wc.drewN nq).cell? (b.add j) = some u) := by
                  intro b hb j u hu
                  subst hb
                  exact HP.out.raw.cells j u hu
                have HT9 : Hid (∀ b, A = some b → ∀ j u, (flatV (raw.take a))[j]? = some u → (wc.drewN nq).cell? (b.add j) = some u) := by
                  intro b hb j u hu
                  subst hb
                  exact (HRW.out.take a).cells j u hu
                have HRD9 : Hid (Raw (wc.drewN nq) BA (raw.drop (behindN S m))) := HRD.out
                have HSV9 : Hid (SerVs (wc.drewN nq) raw S) := HSVw.out
                have HLM9 : Hid (Lbs (wc.drewN nq) A' m) := HLM.out
                have HK9 : Hid (Below w.heap.size w (wc.drewN nq)) := bel_drawn HK.out _
                have HFL : Hid ((flatP (ptsAt S m)).length = np * 2) := by show (flatP (ptsAt S m)).length = np * 2; rw [flatP_length, ← HNP.out.1]
                have HTL : Hid ((flatV (raw.take a)).length = a * 2) := by show (flatV (raw.take a)).length = a * 2; rw [flatV_length, List.length_take, HRL.out]; omega
                have HNL : Hid ((ptsAt S m).length + 1 = np + 1) := by show (ptsAt S m).length + 1 = np + 1; rw [← HNP.out.1]
                have z0 : (wc.drewN nq).cell? ⟨w.heap.size, 0, none⟩ = some (.int .i64 t) := p0
                have z1 : (wc.drewN nq).cell? ⟨w.heap.size, 1, none⟩ = some (.int .u64 nv) := p1
                have z2 : w.heap.size < (wc.drewN nq).heap.size := p2
                clear HP HRD HSVw HLM HK HB26 HRW p0 p1 p2
                generalize wc.drewN nq = w9 at *
                first | (have hac : a ≤ c := by omega) | skip
                first | (have hac2 : (a : Int) ≤ (c : Int) := by omega) | skip
                have hnpc2 : (np : Int) ≤ (pc : Int) := by omega
                have zS : w9.drew.cell? ⟨w.heap.size, 0, none⟩ = some (.int .i64 t) ∧ w9.drew.cell? ⟨w.heap.size, 1, none⟩ = some (.int .u64 nv) := ⟨z0, z1⟩
                have ZS := Lib.hid zS
                have C1 : Hid (∀ j u, ([.int .i64 t, .int .u64 nv] : List Value)[j]? = some u → ((w9.alloc (.cells #[.int .i64 t, .int .u64 nv] 26)).drew).cell? ((⟨w9.heap.size, 0, none⟩ : Addr).add j) = some u) := pair_at w9 (.int .i64 t) (.int .u64 nv) _ rfl 26
                have C2 : Hid (∀ b, PA = some b → ∀ j u, (flatP (ptsAt S m))[j]? = some u → ((w9.alloc (.cells #[.int .i64 t, .int .u64 nv] 26)).drew).cell? (b.add j) = some u) := fun b hb j u hu => cell_kept (.cells #[.int .i64 t, .int .u64 nv] 26) (HPR.out b hb j u hu)
                clear zS
                go_wp2_with fail
                go_region_held3 (fun w' => w'.cell? ⟨w.heap.size, 0, none⟩ = some (.int .i64 t) ∧ w'.cell? ⟨w.heap.size, 1, none⟩ = some (.int .u64 nv))
                  (first | exact ZS.out | exact ⟨below_cell HB2.out z0, below_cell HB2.out z1⟩ | exact ⟨below_cell HB1.out z0, below_cell HB1.out z1⟩ | go_keep)
                  (first
                    | (refine step_append_grows (by rfl) (.tmp 86) (.tmp 88) 47 (by rfl) 26 i1 _ 2 16 Tryd.underlying47 hi1 hy0 hy1 hy2 rfl (by decide) PA np np (flatP (ptsAt S m)) (by rfl) (fun h => by have := HPn.out h; omega) HFL.out C2.out ⟨w9.heap.size, 0, none⟩ 1 1 [.int .i64 t, .int .u64 nv] (by rfl) (by rfl) C1.out (by intro u hu; simp at hu; rcases hu with rfl | rfl <;> rfl) (by omega) (by unfold maxLen; omega) (by omega) ?_
                       intro v1 w1 hown1 hg1
                       obtain ⟨P1, c1, hv1, hpt1, hpn1, hpl1, hpm1⟩ := pts_made (l := ptsAt S m) (p := (t, nv)) HNL.out hown1 HPB.out HBV.out
                       have HB1 : Hid (Below w9.heap.size w9 w1) := (((Below.refl w9.heap.size w9).alloc (Nat.le_refl _) (.cells #[.int .i64 t, .int .u64 nv] 26)).drew).grown hg1 (by simp) (by simp)
                       have HP1 := Lib.hid hpt1
                       have HPN1 := Lib.hid hpn1
                       subst hv1
                       clear hown1 hg1 hpt1 hpn1)
                    | (refine step_append_grows (by rfl) (.tmp 81) (.tmp 91) 22 (by rfl) 49 i0 _ 2 48 Tryd.underlying22 hi0 hz0 hz1 hz2 rfl (by decide) A a a (flatV (raw.take a)) (by rfl) (fun h => by have := HA.out h; omega) HTL.out (fun b hb j u hu => cell_kept _ (below_cell HB1.out (HT9.out b hb j u hu))) ⟨w1.heap.size, 0, none⟩ 1 1 [.slice A' nm c', .slice P1 (np + 1) c1] (by rfl) (by rfl) (pair_at w1 _ _ _ rfl 49) (by intro u hu; simp at hu; rcases hu with rfl | rfl <;> rfl) (by omega) (by unfold maxLen; omega) (by omega) ?_
                       intro v2 w2 hown2 hg2
                       have HB2 : Hid (Below w9.heap.size w9 w2) := (HB1.out.alloc (HB1.out.size) (.cells #[.slice A' nm c', .slice P1 (np + 1) c1] 49)).grown hg2 (by have := HB1.out.size; simp; omega) (by simp)
                       have HB21 : Hid (Below w1.heap.size w1 w2) := ((Below.refl w1.heap.size w1).alloc (Nat.le_refl _) (.cells #[.slice A' nm c', .slice P1 (np + 1) c1] 49)).grown hg2 (by simp) (by simp)
                       have HO2 : Hid (∃ base, w1.heap.size ≤ base ∧ w9.heap.size ≤ base ∧ base ≤ w2.heap.size ∧ w2.ownsRow base 49 2 v2 (a + 1) (flatV (raw.take a ++ [(.slice A' nm c', .slice P1 (np + 1) c1)]))) := ⟨_, (by simp), (by have := HB1.out.size; simp; omega), hg2.size, (by rw [← flatV_snoc]; exact hown2)⟩
                       clear hown2 hg2))
                obtain ⟨base, hbs0, hbs1, hbs2, hown2⟩ := HO2.out
                have HO3 := Lib.hid hown2
                have HDL : Hid ((raw.drop (behindN S m)).length = nb) := by show (raw.drop (behindN S m)).length = nb; rw [List.length_drop, HRL.out, HNP.out.2]
                have HTK : Hid ((raw.take a).length = a) := by show (raw.take a).length = a; rw [List.length_take, HRL.out]; omega
                clear hown2
                go_wp2_with (at_builtin; refine wpList_append_raw rfl (.tmp 93) (.tmp 94) rfl base v2 (a + 1) (flatV (raw.take a ++ [(.slice A' nm c', .slice P1 (np + 1) c1)])) rfl HO3.out BA nb cb (raw.drop (behindN S m)) HDL.out rfl (HRD9.out.below HB2.out) (HSV9.out.drop _).one HBn.out (by omega) hbs2 ?_; intro v3 w3' hown3 hg3)
                have HB3 : Hid (Below w.heap.size w w3') := (HK9.out.trans (HB2.out.mono HK9.out.size)).grown hg3 (by have := HB2.out.size; have := HK9.out.size; omega) (fun g hg => by have := (HO3.out.lt g hg).1; have := HK9.out.size; omega)
                have HB4 : Hid (Below w9.heap.size w9 w3') := HB2.out.grown hg3 HB2.out.size (fun g hg => by have := (HO3.out.lt g hg).1; omega)
                have HB5 : Hid (Below w1.heap.size w1 w3') := HB21.out.grown hg3 HB21.out.size (fun g hg => by have := (HO3.out.lt g hg).1; omega)
                rw [← flatV_append] at hown3
                obtain ⟨A3, c3, hv3, hr3, hn3, hl3, hm3⟩ := Raw.of_own (by rw [List.length_append, List.length_append, HTK.out, HDL.out]; rfl) hown3
                have HR3 := Lib.hid hr3
                have HN3 := Lib.hid hn3
                subst hv3
                clear hown3 hg3 hr3 hn3
                go_wp2
                go_ret2
                have HSR := app_srs (w := w3') HRL.out (HSV9.out.below HB4.out) HRA.out han HNM.out HNL.out (HLM9.out.below HB4.out) HO.out.2 (HP1.out.below HB5.out) HPN1.out hpl1 hpm1
                have hlen : (appOut S m (t, nv)).length = a + 1 + nb := by rw [← HSR.1, List.length_append, List.length_append, HTK.out, HDL.out]; rfl
                refine ⟨HB3.out, .inr ⟨by rw [HE2.out], A3, c3, ?_, ?_, HN3.out, ?_, hm3⟩⟩
                · rw [HE2.out, hlen]; rfl
                · rw [HE2.out]; exact ⟨_, HR3.out, HSR⟩
                · rw [HE2.out]; show (appOut S m (t, nv)).length ≤ c3; rw [hlen]; exact hl3
              · obtain ⟨pb, poff, rfl, hpb, hpc⟩ := HP.out (by rw [← HNP.out.1]; omega)
                have hx9 : wc.cell? ⟨pb, poff + (np - 1) * 2, none⟩ = some (.int .i64 (lastT (ptsAt S m))) := by
                  have := (hpc (np - 1) (by rw [← HNP.out.1]; omega)).1
                  rw [this]
                  unfold lastT
                  rw [← HNP.out.1]
                have d0 : decide (0 < np) = true := by simp; omega
                have d1 : (0 : Int) < (np : Int) := by omega
                have d2 : (1 : Int) ≤ (np : Int) := by omega
                have d3 : (np : Int) - 1 < (np : Int) := by omega
                have d4 : ((np : Int) - 1).toNat = np - 1 := by omega
                have d5 : IntKind.i64.wrap ((np : Int) - 1) = (np : Int) - 1 := IntWalk.i64_in _ (by omega)
                have d6 : (0 : Int) ≤ (np : Int) - 1 := by omega
                have HLT : Hid (∀ x, lastT (ptsAt S m) = x → (t ≤ x → (appF S l (t, v)).1 = 3) ∧ (¬ t ≤ x → appF S l (t, v) = (0, appOut S m (t, nv)))) := by
                  intro x hx
                  subst hx
                  refine ⟨fun h => ?_, fun h => ?_⟩
                  · rw [HE.out, if_pos ⟨by rw [← HNP.out.1]; omega, h⟩]
                  · rw [HE.out, if_neg (fun hh => h hh.2)]
                clear hpc
                obtain ⟨lt, hlt⟩ : ∃ x, lastT (ptsAt S m) = x := ⟨_, rfl⟩
                have HLT2 := Lib.hid (HLT.out lt hlt)
                rw [hlt] at hx9
                clear hlt HLT hnp0
                by_cases hle : t ≤ lt
                · have d7 : decide (t ≤ lt) = true := by simpa using hle
                  have HE3 := Lib.hid (HLT2.out.1 hle)
                  go_wp2_with fail
                  go_quiet (fail)
                  go_wp2
                  go_ret2
                  exact HBAD.out _ _ HE3.out (by omega) (bel_drawn HK.out _)
                · have d7 : decide (t ≤ lt) = false := by simpa using hle
                  have HE2 := Lib.hid (HLT2.out.2 hle)
                  go_wp2_with fail
                  go_quiet (fail)
                  clear d0 d1 d2 d3 d4 d5 d6 d7 hle hx9
                  have HPB := Lib.hid HP.out.bits
                  have HPR : Hid (∀ b, (some ⟨pb, poff, none⟩ : Option Addr) = some b → ∀ j u, (flatP (ptsAt S m))[j]? = some u → (wc.drewN nq).cell? (b.add j) = some u) := by
                    intro b hb j u hu
                    injection hb with hb
                    subst hb
                    exact HP.out.raw.cells j u hu
                  have HT9 : Hid (∀ b, A = some b → ∀ j u, (flatV (raw.take a))[j]? = some u → (wc.drewN nq).cell? (b.add j) = some u) := by
                    intro b hb j u hu
                    subst hb
                    exact (HRW.out.take a).cells j u hu
                  have HRD9 : Hid (Raw (wc.drewN nq) BA (raw.drop (behindN S m))) := HRD.out
                  have HSV9 : Hid (SerVs (wc.drewN nq) raw S) := HSVw.out
                  have HLM9 : Hid (Lbs (wc.drewN nq) A' m) := HLM.out
                  have HK9 : Hid (Below w.heap.size w (wc.drewN nq)) := bel_drawn HK.out _
                  have HFL : Hid ((flatP (ptsAt S m)).length = np * 2) := by show (flatP (ptsAt S m)).length = np * 2; rw [flatP_length, ← HNP.out.1]
                  have HTL : Hid ((flatV (raw.take a)).length = a * 2) := by show (flatV (raw.take a)).length = a * 2; rw [flatV_length, List.length_take, HRL.out]; omega
                  have HNL : Hid ((ptsAt S m).length + 1 = np + 1) := by show (ptsAt S m).length + 1 = np + 1; rw [← HNP.out.1]
                  have z0 : (wc.drewN nq).cell? ⟨w.heap.size, 0, none⟩ = some (.int .i64 t) := p0
                  have z1 : (wc.drewN nq).cell? ⟨w.heap.size, 1, none⟩ = some (.int .u64 nv) := p1
                  have z2 : w.heap.size < (wc.drewN nq).heap.size := p2
                  clear HP HRD HSVw HLM HK HB26 HRW p0 p1 p2
                  generalize wc.drewN nq = w9 at *
                  first | (have hac : a ≤ c := by omega) | skip
                  first | (have hac2 : (a : Int) ≤ (c : Int) := by omega) | skip
                  have hnpc2 : (np : Int) ≤ (pc : Int) := by omega
                  have zS : w9.drew.cell? ⟨w.heap.size, 0, none⟩ = some (.int .i64 t) ∧ w9.drew.cell? ⟨w.heap.size, 1, none⟩ = some (.int .u64 nv) := ⟨z0, z1⟩
                  have ZS := Lib.hid zS
                  have C1 : Hid (∀ j u, ([.int .i64 t, .int .u64 nv] : List Value)[j]? = some u → ((w9.alloc (.cells #[.int .i64 t, .int .u64 nv] 26)).drew).cell? ((⟨w9.heap.size, 0, none⟩ : Addr).add j) = some u) := pair_at w9 (.int .i64 t) (.int .u64 nv) _ rfl 26
                  have C2 : Hid (∀ b, (some ⟨pb, poff, none⟩ : Option Addr) = some b → ∀ j u, (flatP (ptsAt S m))[j]? = some u → ((w9.alloc (.cells #[.int .i64 t, .int .u64 nv] 26)).drew).cell? (b.add j) = some u) := fun b hb j u hu => cell_kept (.cells #[.int .i64 t, .int .u64 nv] 26) (HPR.out b hb j u hu)
                  clear zS
                  go_wp2_with fail
                  go_region_held3 (fun w' => w'.cell? ⟨w.heap.size, 0, none⟩ = some (.int .i64 t) ∧ w'.cell? ⟨w.heap.size, 1, none⟩ = some (.int .u64 nv))
                    (first | exact ZS.out | exact ⟨below_cell HB2.out z0, below_cell HB2.out z1⟩ | exact ⟨below_cell HB1.out z0, below_cell HB1.out z1⟩ | go_keep)
                    (first
                      | (refine step_append_grows (by rfl) (.tmp 86) (.tmp 88) 47 (by rfl) 26 i1 _ 2 16 Tryd.underlying47 hi1 hy0 hy1 hy2 rfl (by decide) (some ⟨pb, poff, none⟩ : Option Addr) np np (flatP (ptsAt S m)) (by rfl) (fun h => by have := HPn.out h; omega) HFL.out C2.out ⟨w9.heap.size, 0, none⟩ 1 1 [.int .i64 t, .int .u64 nv] (by rfl) (by rfl) C1.out (by intro u hu; simp at hu; rcases hu with rfl | rfl <;> rfl) (by omega) (by unfold maxLen; omega) (by omega) ?_
                         intro v1 w1 hown1 hg1
                         obtain ⟨P1, c1, hv1, hpt1, hpn1, hpl1, hpm1⟩ := pts_made (l := ptsAt S m) (p := (t, nv)) HNL.out hown1 HPB.out HBV.out
                         have HB1 : Hid (Below w9.heap.size w9 w1) := (((Below.refl w9.heap.size w9).alloc (Nat.le_refl _) (.cells #[.int .i64 t, .int .u64 nv] 26)).drew).grown hg1 (by simp) (by simp)
                         have HP1 := Lib.hid hpt1
                         have HPN1 := Lib.hid hpn1
                         subst hv1
                         clear hown1 hg1 hpt1 hpn1)
                      | (refine step_append_grows (by rfl) (.tmp 81) (.tmp 91) 22 (by rfl) 49 i0 _ 2 48 Tryd.underlying22 hi0 hz0 hz1 hz2 rfl (by decide) A a a (flatV (raw.take a)) (by rfl) (fun h => by have := HA.out h; omega) HTL.out (fun b hb j u hu => cell_kept _ (below_cell HB1.out (HT9.out b hb j u hu))) ⟨w1.heap.size, 0, none⟩ 1 1 [.slice A' nm c', .slice P1 (np + 1) c1] (by rfl) (by rfl) (pair_at w1 _ _ _ rfl 49) (by intro u hu; simp at hu; rcases hu with rfl | rfl <;> rfl) (by omega) (by unfold maxLen; omega) (by omega) ?_
                         intro v2 w2 hown2 hg2
                         have HB2 : Hid (Below w9.heap.size w9 w2) := (HB1.out.alloc (HB1.out.size) (.cells #[.slice A' nm c', .slice P1 (np + 1) c1] 49)).grown hg2 (by have := HB1.out.size; simp; omega) (by simp)
                         have HB21 : Hid (Below w1.heap.size w1 w2) := ((Below.refl w1.heap.size w1).alloc (Nat.le_refl _) (.cells #[.slice A' nm c', .slice P1 (np + 1) c1] 49)).grown hg2 (by simp) (by simp)
                         have HO2 : Hid (∃ base, w1.heap.size ≤ base ∧ w9.heap.size ≤ base ∧ base ≤ w2.heap.size ∧ w2.ownsRow base 49 2 v2 (a + 1) (flatV (raw.take a ++ [(.slice A' nm c', .slice P1 (np + 1) c1)]))) := ⟨_, (by simp), (by have := HB1.out.size; simp; omega), hg2.size, (by rw [← flatV_snoc]; exact hown2)⟩
                         clear hown2 hg2))
                  obtain ⟨base, hbs0, hbs1, hbs2, hown2⟩ := HO2.out
                  have HO3 := Lib.hid hown2
                  have HDL : Hid ((raw.drop (behindN S m)).length = nb) := by show (raw.drop (behindN S m)).length = nb; rw [List.length_drop, HRL.out, HNP.out.2]
                  have HTK : Hid ((raw.take a).length = a) := by show (raw.take a).length = a; rw [List.length_take, HRL.out]; omega
                  clear hown2
                  go_wp2_with (at_builtin; refine wpList_append_raw rfl (.tmp 93) (.tmp 94) rfl base v2 (a + 1) (flatV (raw.take a ++ [(.slice A' nm c', .slice P1 (np + 1) c1)])) rfl HO3.out BA nb cb (raw.drop (behindN S m)) HDL.out rfl (HRD9.out.below HB2.out) (HSV9.out.drop _).one HBn.out (by omega) hbs2 ?_; intro v3 w3' hown3 hg3)
                  have HB3 : Hid (Below w.heap.size w w3') := (HK9.out.trans (HB2.out.mono HK9.out.size)).grown hg3 (by have := HB2.out.size; have := HK9.out.size; omega) (fun g hg => by have := (HO3.out.lt g hg).1; have := HK9.out.size; omega)
                  have HB4 : Hid (Below w9.heap.size w9 w3') := HB2.out.grown hg3 HB2.out.size (fun g hg => by have := (HO3.out.lt g hg).1; omega)
                  have HB5 : Hid (Below w1.heap.size w1 w3') := HB21.out.grown hg3 HB21.out.size (fun g hg => by have := (HO3.out.lt g hg).1; omega)
                  rw [← flatV_append] at hown3
                  obtain ⟨A3, c3, hv3, hr3, hn3, hl3, hm3⟩ := Raw.of_own (by rw [List.length_append, List.length_append, HTK.out, HDL.out]; rfl) hown3
                  have HR3 := Lib.hid hr3
                  have HN3 := Lib.hid hn3
                  subst hv3
                  clear hown3 hg3 hr3 hn3
                  go_wp2
                  go_ret2
                  have HSR := app_srs (w := w3') HRL.out (HSV9.out.below HB4.out) HRA.out han HNM.out HNL.out (HLM9.out.below HB4.out) HO.out.2 (HP1.out.below HB5.out) HPN1.out hpl1 hpm1
                  have hlen : (appOut S m (t, nv)).length = a + 1 + nb := by rw [← HSR.1, List.length_append, List.length_append, HTK.out, HDL.out]; rfl
                  refine ⟨HB3.out, .inr ⟨by rw [HE2.out], A3, c3, ?_, ?_, HN3.out, ?_, hm3⟩⟩
                  · rw [HE2.out, hlen]; rfl
                  · rw [HE2.out]; exact ⟨_, HR3.out, HSR⟩
                  · rw [HE2.out]; show (appOut S m (t, nv)).length ≤ c3; rw [hlen]; exact hl3
end Go.Proofs.YtiabnacgfoaihaaDoor

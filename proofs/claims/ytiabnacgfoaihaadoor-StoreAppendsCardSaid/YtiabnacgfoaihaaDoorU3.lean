import Derived.Test.YtiabnacgfoaihaaDoorU2
namespace Go.Proofs.YtiabnacgfoaihaaDoor
open Go.RowKit Lb
set_option linter.unusedVariables false

/-! the document's Copy of a store -/
theorem step_append_opt {ops : Array Oper} {o : Oper} {a : Act} {w : World} {K : Act → World → Prop} {Q : Exit → Act → World → Prop} {E : Prop} (hgd : o.guard = none) (s x : Operand) (t : TypeId)
    (ho : o.op = .call { callee := .builtin .append, args := #[s, x], argTypes := #[t, t] })
    (base : Nat) (e : TypeId) (i : TypeInfo) (z : Value) (size bytes : Nat) (ht : Tryd.prog.underlying t = some (.slice e)) (hi : Tryd.prog.info? e = some i) (hz : i.zero = some z)
    (hsize : i.size = size) (hby : i.bytes = bytes) (hzs : z.cells.size = size) (hsz : 0 < size)
    (v : Value) (n : Nat) (xs : List Value) (hs : a.eval s = v) (hown : w.ownsRow base e size v n xs)
    (A : Option Addr) (m c : Nat) (news : List Value) (hx : a.eval x = .slice A m c) (hl : news.length = m * size) (hc : ∀ ad, A = some ad → ∀ j u, news[j]? = some u → w.cell? (ad.add j) = some u) (hn0 : A = none → m = 0 ∧ c = 0)
    (h1 : ∀ u ∈ news, u.oneCell' = true) (h63 : n + m ≤ maxLen) (hbytes : (n + m) * bytes ≤ 140737488355328) (hbase : base ≤ w.heap.size)
    (h : ∀ v' w', w'.ownsRow base e size v' (n + m) (xs ++ news) → w.grownBy w' v.ownBlock → K (a.put o.dst v') w') :
    if Region.wanted o (yielded ops a.tmps) = true then Oper.wp Tryd.prog o a w K Q else E := by
  have hw : Region.wanted o (yielded ops a.tmps) = true := by simp [Region.wanted, hgd]
  rw [if_pos hw]
  cases A with
  | some ad =>
    obtain ⟨v', w', hrun, r1, r2, _⟩ := run_append_own_at (P := Tryd.prog) w base t o.type e i z size bytes ht hi hz hsize hby hzs hsz v n xs hown ad m c news hl (hc ad rfl) h1 h63 hbytes hbase
    unfold Oper.wp
    simp [execOp, ho, resolve, invoke, builtin, hs, hx, hrun, Result.andThen]
    exact h v' w' r1 r2
  | none =>
    obtain ⟨rfl, rfl⟩ := hn0 rfl
    obtain rfl : news = [] := List.eq_nil_of_length_eq_zero (by simpa using hl)
    have hrun := run_append_owned_none (P := Tryd.prog) (w := w) base t o.type e i size ht hi v n xs hown
    unfold Oper.wp
    simp [execOp, ho, resolve, invoke, builtin, hs, hx, hrun, Result.andThen]
    exact h v w (by simpa using hown) (World.grownBy.refl w _)
/-- rows of unlike types lie apart -/
theorem own_apart {w : World} {base base' : Nat} {e e' : TypeId} {s s' n n' : Nat} {v v' : Value} {xs xs' : List Value} (h : w.ownsRow base e s v n xs) (h' : w.ownsRow base' e' s' v' n' xs') (hne : e ≠ e') : v.ownBlock = none ∨ v.ownBlock ≠ v'.ownBlock := by
  rcases h.2 with ⟨rfl, _⟩ | ⟨g, cap, cur, rfl, _, hg, _⟩
  · exact .inl rfl
  · refine .inr fun he => ?_
    rcases h'.2 with ⟨rfl, _⟩ | ⟨g', cap', cur', rfl, _, hg', _⟩
    · simp [Value.ownBlock] at he
    · have : g = g' := by simpa [Value.ownBlock] using he
      subst this
      rw [hg] at hg'
      injection hg' with hg'
      injection hg' with _ ht
      exact hne ht
theorem own_base {w : World} {base base' : Nat} {e : TypeId} {s n : Nat} {v : Value} {xs : List Value} (h : w.ownsRow base e s v n xs) (hb : base' ≤ base) : w.ownsRow base' e s v n xs := by
  refine ⟨h.1, ?_⟩
  rcases h.2 with h2 | ⟨g, cap, cur, h1, h2, h3⟩
  · exact .inl h2
  · exact .inr ⟨g, cap, cur, h1, by omega, h3⟩
/-- a series' two slices, each a row of its own -/
def Part (w : World) (base : Nat) (x : VV) (s : Ser) : Prop := w.ownsRow base 52 2 x.1 s.1.length (flatL s.1) ∧ w.ownsRow base 26 2 x.2 s.2.length (flatP s.2)
theorem Part.below {w w' : World} {base : Nat} {x : VV} {s : Ser} (h : Part w base x s) (hb : Below w.heap.size w w') : Part w' base x s := ⟨own_below h.1 hb, own_below h.2 hb⟩
theorem Part.kept {w w' : World} {base b2 n : Nat} {x : VV} {s : Ser} {v : Value} {xs : List Value} (h : Part w base x s) (hv : w.ownsRow b2 49 2 v n xs) (hg : w.grownBy w' v.ownBlock) : Part w' base x s :=
  ⟨h.1.kept hg (own_apart h.1 hv (by decide)), h.2.kept hg (own_apart h.2 hv (by decide))⟩
def PartsK (w : World) (base : Nat) (r : List VV) (S : List Ser) (k : Nat) : Prop := r.length = k ∧ ∀ i, i < k → Part w base (r.getD i v0) (S.getD i s0)
theorem parts_snoc {w : World} {base k : Nat} {r : List VV} {S : List Ser} {x : VV} (h : PartsK w base r S k) (hx : Part w base x (S.getD k s0)) : PartsK w base (r ++ [x]) S (k + 1) := by
  refine ⟨by simp [h.1], fun i hi => ?_⟩
  by_cases e : i < k
  · rw [show (r ++ [x]).getD i v0 = r.getD i v0 by simp [List.getD_eq_getElem?_getD, List.getElem?_append_left (show i < r.length by rw [h.1]; exact e)]]
    exact h.2 i e
  · have : i = k := by omega
    subst this
    rw [show (r ++ [x]).getD i v0 = x by rw [← h.1]; simp]
    exact hx
theorem part_ser {w : World} {base : Nat} {x : VV} {s : Ser} (h : Part w base x s) (hb : ∀ i, i < s.2.length → Bits (s.2.getD i p0).2) : SerV w x s := by
  obtain ⟨LA, lc, h1, h2⟩ := own_lbs rfl h.1
  obtain ⟨PA, pc, h3, h4, h5, h6, h7⟩ := Raw.of_own (r := s.2.map encP) (by simp) h.2
  exact ⟨LA, lc, PA, pc, Prod.ext h1 h3, h2.1, h2.2, Pts.of_raw h4 hb, h5, h6, h7⟩
theorem lbs_cells {w : World} {A : Option Addr} {l : List Lab} (h : Lbs w A l) : ∀ ad, A = some ad → ∀ j u, (flatL l)[j]? = some u → w.cell? (ad.add j) = some u := by
  intro ad e j u hu
  subst e
  exact h.cells j u hu
theorem pts_cells {w : World} {A : Option Addr} {l : List Pt} (h : Pts w A l) : ∀ ad, A = some ad → ∀ j u, (flatP l)[j]? = some u → w.cell? (ad.add j) = some u := by
  intro ad e j u hu
  subst e
  exact h.raw.cells j u hu

theorem new_cells (w : World) (x y : Value) (t : TypeId) : ∀ ad, (some ⟨w.heap.size, 0, none⟩ : Option Addr) = some ad → ∀ j u, ([x, y] : List Value)[j]? = some u → (w.alloc (.cells #[x, y] t)).cell? (ad.add j) = some u := by
  intro ad h
  injection h with h
  subst h
  exact pair_at w x y _ rfl t
theorem two_one (a b : Option Addr) (n c m d : Nat) : ∀ u ∈ ([.slice a n c, .slice b m d] : List Value), u.oneCell' = true := by
  intro u hu
  simp at hu
  rcases hu with rfl | rfl <;> rfl
theorem own_zero {w : World} {base n : Nat} {e : TypeId} {s : Nat} {v : Value} {xs : List Value} (h : w.ownsRow base e s v (0 + n) ([] ++ xs)) : w.ownsRow base e s v n xs := by
  rw [Nat.zero_add] at h; exact h
theorem map_len {α β : Type} {f : α → β} {l : List α} {n : Nat} (h : l.length = n) : (l.map f).length = n := by rw [List.length_map]; exact h
set_option maxRecDepth 100000 in
set_option maxHeartbeats 8000000 in
theorem copy_any (A : Option Addr) (c : Nat) (S : List Ser) (w : World) (hS : Own w A c S) (hF : Few S) :
    Calls Tryd.prog 9 #[.slice A S.length c] w fun e w' => (∃ A' c', e = .returned (.slice A' S.length c') ∧ Own w' A' c' S) ∧ Below w.heap.size w w' := by
  obtain ⟨i0, hi0, hz0, hz1, hz2⟩ := info_parts ser_info
  obtain ⟨i1, hi1, hq0, hq1, hq2⟩ := info_parts pt_info
  obtain ⟨i2, hi2, hw0, hw1, hw2⟩ := info_parts lab_info
  have HS := Lib.hid hS.1
  have HF := Lib.hid hF.2
  have hn1 := hF.1
  clear hS hF
  generalize hn : S.length = n at *
  have HN := Lib.hid hn
  clear hn
  go_enter Tryd.func9, Tryd.ntmps9
  go_wp2
  go_loopw [3, 4] (fun v s4 wr => ∃ k : Nat, k ≤ n ∧ s4 = .int .i64 k ∧ Hid (Below w.heap.size w wr) ∧ Hid (∃ r, wr.ownsRow w.heap.size 49 2 v k (flatV r) ∧ PartsK wr w.heap.size r S k)) (fun _ s4 _ => n - (intOf s4).toNat)
  case atStart => exact ⟨0, Nat.zero_le _, rfl, Below.refl _ _, ⟨[], World.ownsRow_nil _ _ _ _, rfl, fun i hi => absurd hi (Nat.not_lt_zero _)⟩⟩
  case round =>
    obtain ⟨k, hk, rfl, HB, HO⟩ := hrel
    obtain ⟨r, ho, hpk⟩ := HO.out
    have HOW := Lib.hid ho
    have HPK := Lib.hid hpk
    clear ho hpk HO
    by_cases hlt : k < n
    · have hkl : k < S.length := by rw [HN.out]; exact hlt
      obtain ⟨b, off, LA, lc, PA, pc, rfl, hlb, hx0, hy0', hL0, hLn0, hP0, hPn0, _⟩ := HS.out.at_ hkl
      have HFk := Lib.hid (HF.out k hlt)
      have hlab := HFk.out.1
      have hpts := HFk.out.2
      have HX := Lib.hid hx0
      have HY := Lib.hid hy0'
      have hL := hL0.below HB.out
      have hP := hP0.below HB.out
      have HLC := Lib.hid (lbs_cells hL)
      have HPC := Lib.hid (pts_cells hP)
      have HLN : Hid (LA = none → (S.getD k s0).1.length = 0 ∧ lc = 0) := by
        intro h
        refine ⟨?_, hLn0 h⟩
        rcases Nat.eq_zero_or_pos (S.getD k s0).1.length with h0 | h0
        · exact h0
        · obtain ⟨_, _, e, _⟩ := hL0 h0
          rw [h] at e; cases e
      have HPN : Hid (PA = none → (S.getD k s0).2.length = 0 ∧ pc = 0) := by
        intro h
        refine ⟨?_, hPn0 h⟩
        rcases Nat.eq_zero_or_pos (S.getD k s0).2.length with h0 | h0
        · exact h0
        · obtain ⟨_, _, e, _⟩ := hP0 h0
          rw [h] at e; cases e
      have HFL := Lib.hid (flatL_length (S.getD k s0).1)
      have HFP := Lib.hid (flatP_length (S.getD k s0).2)
      have HF1 := Lib.hid (flatL_one (S.getD k s0).1)
      have HF2 := Lib.hid (flatP_one (S.getD k s0).2)
      have hx := (HB.out.cell (p := ⟨b, off + k * 2, none⟩) hlb).trans hx0
      have hy := (HB.out.cell (p := ⟨b, off + k * 2 + 1, none⟩) hlb).trans hy0'
      have hsz := HB.out.size
      have hbr : b < wr.heap.size := by omega
      have hki : (k : Int) < (n : Int) := by omega
      clear hx0 hy0' hL hP hL0 hP0 hLn0 hPn0
      have HM1 : Hid (∃ q, q = (S.getD k s0).1.length) := ⟨_, rfl⟩
      generalize hm1 : (S.getD k s0).1.length = m1 at *
      generalize hm2 : (S.getD k s0).2.length = m2 at *
      have HQ1 := Lib.hid hm1
      have HQ2 := Lib.hid hm2
      clear hm1 hm2 HM1
      -- where the two empty slices may lie
      have BL1 : Hid (Below wr.heap.size wr ((wr.alloc (.cells #[] 52)).drew)) := ((Below.refl wr.heap.size wr).alloc (Nat.le_refl _) _).drew
      have BL2 : Hid (Below wr.heap.size wr (((wr.alloc (.cells #[] 52)).alloc (.cells #[] 26)).drew)) := (((Below.refl wr.heap.size wr).alloc (Nat.le_refl _) _).alloc (by simp) _).drew
      have BL3 : Hid (Below wr.heap.size wr (((wr.alloc (.cells #[] 26)).alloc (.cells #[] 52)).drew)) := (((Below.refl wr.heap.size wr).alloc (Nat.le_refl _) _).alloc (by simp) _).drew
      have ma : 0 ≤ maxLen := Nat.zero_le _
      have OA1 : Hid (((wr.alloc (.cells #[] 52)).drew).ownsRow wr.heap.size 52 2 (.slice (some ⟨wr.heap.size, 0, none⟩) 0 0) 0 []) := World.ownsRow_made wr #[] 0 (Nat.le_refl _) ma rfl
      have OA2 : Hid ((((wr.alloc (.cells #[] 52)).alloc (.cells #[] 26)).drew).ownsRow wr.heap.size 52 2 (.slice (some ⟨wr.heap.size, 0, none⟩) 0 0) 0 []) := (World.ownsRow_made wr #[] 0 (Nat.le_refl _) ma rfl).alloc _
      have OA3 : Hid ((((wr.alloc (.cells #[] 26)).alloc (.cells #[] 52)).drew).ownsRow wr.heap.size 52 2 (.slice (some ⟨wr.heap.size + 1, 0, none⟩) 0 0) 0 []) := by
        have := World.ownsRow_made (base := wr.heap.size) (e := 52) (size := 2) (wr.alloc (.cells #[] 26)) #[] 0 (by simp) ma rfl
        rw [World.size_alloc] at this; exact this
      have OP2 : Hid ((((wr.alloc (.cells #[] 52)).alloc (.cells #[] 26)).drew).ownsRow wr.heap.size 26 2 (.slice (some ⟨wr.heap.size + 1, 0, none⟩) 0 0) 0 []) := by
        have := World.ownsRow_made (base := wr.heap.size) (e := 26) (size := 2) (wr.alloc (.cells #[] 52)) #[] 0 (by simp) ma rfl
        rw [World.size_alloc] at this; exact this
      have OP3 : Hid ((((wr.alloc (.cells #[] 26)).alloc (.cells #[] 52)).drew).ownsRow wr.heap.size 26 2 (.slice (some ⟨wr.heap.size, 0, none⟩) 0 0) 0 []) := (World.ownsRow_made wr #[] 0 (Nat.le_refl _) ma rfl).alloc _
      have ZS : Hid (wr.drew.cell? ⟨b, off + k * 2, none⟩ = some (.slice LA m1 lc) ∧ wr.drew.cell? ⟨b, off + k * 2 + 1, none⟩ = some (.slice PA m2 pc)) := ⟨hx, hy⟩
      have HFL2 : Hid ((flatL (S.getD k s0).1).length = m1 * 2) := HFL.out
      have HFP2 : Hid ((flatP (S.getD k s0).2).length = m2 * 2) := HFP.out
      have hb1 : 0 + m1 ≤ maxLen := by unfold maxLen; omega
      have hb2 : (0 + m1) * 32 ≤ 140737488355328 := by omega
      have hb3 : 0 + m2 ≤ maxLen := by unfold maxLen; omega
      have hb4 : (0 + m2) * 16 ≤ 140737488355328 := by omega
      have hb5 : k + 1 ≤ maxLen := by unfold maxLen; omega
      have hb6 : (k + 1) * 48 ≤ 140737488355328 := by omega
      go_wp2_with fail
      go_region_held3? (fun w' => w'.cell? ⟨b, off + k * 2, none⟩ = some (.slice LA m1 lc) ∧ w'.cell? ⟨b, off + k * 2 + 1, none⟩ = some (.slice PA m2 pc))
        (first | exact ZS.out | exact ⟨below_cell HBW3.out HX.out, below_cell HBW3.out HY.out⟩ | exact ⟨hx2, hy2⟩ | exact ⟨hx1, hy1⟩ | go_keep)
        (first
          | (refine step_append_opt (by rfl) (.tmp 12) (.tmp 17) 23 (by rfl) wr.heap.size 52 i2 _ 2 32 Tryd.underlying23 hi2 hw0 hw1 hw2 rfl (by decide) (.slice (some ⟨wr.heap.size, 0, none⟩) 0 0) 0 [] (by rfl) OA1.out LA m1 lc (flatL (S.getD k s0).1) (by rfl) HFL2.out (fun ad h j u hu => below_cell BL1.out (HLC.out ad h j u hu)) HLN.out HF1.out hb1 hb2 BL1.out.size ?_
             intro v1 w1 hown1 hg1
             have HOA : Hid (w1.ownsRow wr.heap.size 52 2 v1 m1 (flatL (S.getD k s0).1)) := own_zero hown1
             have HB1 : Hid (Below wr.heap.size wr w1) := BL1.out.grown hg1 BL1.out.size (fun g hg => (OA1.out.lt g hg).1)
             have OB : Hid ((w1.alloc (.cells #[] 26)).ownsRow wr.heap.size 26 2 (.slice (some ⟨w1.heap.size, 0, none⟩) 0 0) 0 []) := World.ownsRow_made w1 #[] 0 HB1.out.size ma rfl
             have BLB : Hid (Below wr.heap.size wr (w1.alloc (.cells #[] 26))) := HB1.out.alloc HB1.out.size _
             have HOAB : Hid ((w1.alloc (.cells #[] 26)).ownsRow wr.heap.size 52 2 v1 m1 (flatL (S.getD k s0).1)) := HOA.out.alloc _
             obtain ⟨L1, lc1, hv1, _⟩ := own_lbs HQ1.out HOA.out
             subst hv1
             have hx1 := below_cell HB1.out hx
             have hy1 := below_cell HB1.out hy
             have hs1 := World.block_lt_of_cell? _ _ hx1
             clear hown1 hg1)
          | (refine step_append_opt (by rfl) (.tmp 12) (.tmp 17) 23 (by rfl) wr.heap.size 52 i2 _ 2 32 Tryd.underlying23 hi2 hw0 hw1 hw2 rfl (by decide) (.slice (some ⟨wr.heap.size, 0, none⟩) 0 0) 0 [] (by rfl) OA2.out LA m1 lc (flatL (S.getD k s0).1) (by rfl) HFL2.out (fun ad h j u hu => below_cell BL2.out (HLC.out ad h j u hu)) HLN.out HF1.out hb1 hb2 BL2.out.size ?_
             intro v1 w1 hown1 hg1
             have HOA : Hid (w1.ownsRow wr.heap.size 52 2 v1 m1 (flatL (S.getD k s0).1)) := own_zero hown1
             have HB1 : Hid (Below wr.heap.size wr w1) := BL2.out.grown hg1 BL2.out.size (fun g hg => (OA2.out.lt g hg).1)
             have OB : Hid (w1.ownsRow wr.heap.size 26 2 (.slice (some ⟨wr.heap.size + 1, 0, none⟩) 0 0) 0 []) := OP2.out.kept hg1 (own_apart OP2.out OA2.out (by decide))
             obtain ⟨L1, lc1, hv1, _⟩ := own_lbs HQ1.out HOA.out
             subst hv1
             have hx1 := below_cell HB1.out hx
             have hy1 := below_cell HB1.out hy
             have hs1 := World.block_lt_of_cell? _ _ hx1
             clear hown1 hg1)
          | (refine step_append_opt (by rfl) (.tmp 12) (.tmp 17) 23 (by rfl) wr.heap.size 52 i2 _ 2 32 Tryd.underlying23 hi2 hw0 hw1 hw2 rfl (by decide) (.slice (some ⟨wr.heap.size + 1, 0, none⟩) 0 0) 0 [] (by rfl) OA3.out LA m1 lc (flatL (S.getD k s0).1) (by rfl) HFL2.out (fun ad h j u hu => below_cell BL3.out (HLC.out ad h j u hu)) HLN.out HF1.out hb1 hb2 BL3.out.size ?_
             intro v1 w1 hown1 hg1
             have HOA : Hid (w1.ownsRow wr.heap.size 52 2 v1 m1 (flatL (S.getD k s0).1)) := own_zero hown1
             have HB1 : Hid (Below wr.heap.size wr w1) := BL3.out.grown hg1 BL3.out.size (fun g hg => (OA3.out.lt g hg).1)
             have OB : Hid (w1.ownsRow wr.heap.size 26 2 (.slice (some ⟨wr.heap.size, 0, none⟩) 0 0) 0 []) := OP3.out.kept hg1 (own_apart OP3.out OA3.out (by decide))
             obtain ⟨L1, lc1, hv1, _⟩ := own_lbs HQ1.out HOA.out
             subst hv1
             have hx1 := below_cell HB1.out hx
             have hy1 := below_cell HB1.out hy
             have hs1 := World.block_lt_of_cell? _ _ hx1
             clear hown1 hg1)
          | (refine step_append_opt (by rfl) (.tmp 19) (.tmp 24) 47 (by rfl) wr.heap.size 26 i1 _ 2 16 Tryd.underlying47 hi1 hq0 hq1 hq2 rfl (by decide) (.slice (some ⟨w1.heap.size, 0, none⟩) 0 0) 0 [] (by rfl) OB.out PA m2 pc (flatP (S.getD k s0).2) (by rfl) HFP2.out (fun ad h j u hu => below_cell BLB.out (HPC.out ad h j u hu)) HPN.out HF2.out hb3 hb4 BLB.out.size ?_
             intro v2 w2 hown2 hg2
             have HOC : Hid (w2.ownsRow wr.heap.size 26 2 v2 m2 (flatP (S.getD k s0).2)) := own_zero hown2
             have HOD : Hid (w2.ownsRow wr.heap.size 52 2 (.slice L1 m1 lc1) m1 (flatL (S.getD k s0).1)) := HOAB.out.kept hg2 (own_apart HOAB.out OB.out (by decide))
             have HB2 : Hid (Below wr.heap.size wr w2) := BLB.out.grown hg2 BLB.out.size (fun g hg => (OB.out.lt g hg).1)
             obtain ⟨P1, pc1, hv2, _⟩ := Raw.of_own (r := (S.getD k s0).2.map encP) (map_len HQ2.out) HOC.out
             subst hv2
             have hx2 := below_cell HB2.out hx
             have hy2 := below_cell HB2.out hy
             have hs2 := World.block_lt_of_cell? _ _ hx2
             clear hown2 hg2 hx1 hy1 hs1)
          | (refine step_append_opt (by rfl) (.tmp 19) (.tmp 24) 47 (by rfl) wr.heap.size 26 i1 _ 2 16 Tryd.underlying47 hi1 hq0 hq1 hq2 rfl (by decide) (.slice (some ⟨wr.heap.size + 1, 0, none⟩) 0 0) 0 [] (by rfl) OB.out PA m2 pc (flatP (S.getD k s0).2) (by rfl) HFP2.out (fun ad h j u hu => below_cell HB1.out (HPC.out ad h j u hu)) HPN.out HF2.out hb3 hb4 HB1.out.size ?_
             intro v2 w2 hown2 hg2
             have HOC : Hid (w2.ownsRow wr.heap.size 26 2 v2 m2 (flatP (S.getD k s0).2)) := own_zero hown2
             have HOD : Hid (w2.ownsRow wr.heap.size 52 2 (.slice L1 m1 lc1) m1 (flatL (S.getD k s0).1)) := HOA.out.kept hg2 (own_apart HOA.out OB.out (by decide))
             have HB2 : Hid (Below wr.heap.size wr w2) := HB1.out.grown hg2 HB1.out.size (fun g hg => (OB.out.lt g hg).1)
             obtain ⟨P1, pc1, hv2, _⟩ := Raw.of_own (r := (S.getD k s0).2.map encP) (map_len HQ2.out) HOC.out
             subst hv2
             have hx2 := below_cell HB2.out hx
             have hy2 := below_cell HB2.out hy
             have hs2 := World.block_lt_of_cell? _ _ hx2
             clear hown2 hg2 hx1 hy1 hs1)
          | (refine step_append_opt (by rfl) (.tmp 19) (.tmp 24) 47 (by rfl) wr.heap.size 26 i1 _ 2 16 Tryd.underlying47 hi1 hq0 hq1 hq2 rfl (by decide) (.slice (some ⟨wr.heap.size, 0, none⟩) 0 0) 0 [] (by rfl) OB.out PA m2 pc (flatP (S.getD k s0).2) (by rfl) HFP2.out (fun ad h j u hu => below_cell HB1.out (HPC.out ad h j u hu)) HPN.out HF2.out hb3 hb4 HB1.out.size ?_
             intro v2 w2 hown2 hg2
             have HOC : Hid (w2.ownsRow wr.heap.size 26 2 v2 m2 (flatP (S.getD k s0).2)) := own_zero hown2
             have HOD : Hid (w2.ownsRow wr.heap.size 52 2 (.slice L1 m1 lc1) m1 (flatL (S.getD k s0).1)) := HOA.out.kept hg2 (own_apart HOA.out OB.out (by decide))
             have HB2 : Hid (Below wr.heap.size wr w2) := HB1.out.grown hg2 HB1.out.size (fun g hg => (OB.out.lt g hg).1)
             obtain ⟨P1, pc1, hv2, _⟩ := Raw.of_own (r := (S.getD k s0).2.map encP) (map_len HQ2.out) HOC.out
             subst hv2
             have hx2 := below_cell HB2.out hx
             have hy2 := below_cell HB2.out hy
             have hs2 := World.block_lt_of_cell? _ _ hx2
             clear hown2 hg2 hx1 hy1 hs1)
          | (refine step_append_opt (by rfl) (.tmp 11) (.tmp 27) 22 (by rfl) w.heap.size 49 i0 _ 2 48 Tryd.underlying22 hi0 hz0 hz1 hz2 rfl (by decide) u3 k (flatV r) (by rfl) ((own_below HOW.out HB2.out).alloc _) (some ⟨w2.heap.size, 0, none⟩) 1 1 [.slice L1 m1 lc1, .slice P1 m2 pc1] (by rfl) (by rfl) (new_cells w2 _ _ 49) (fun h => by cases h) (two_one _ _ _ _ _ _) hb5 hb6 (by have := HB2.out.size; simp; omega) ?_
             intro v3 w3 hown3 hg3
             have HBW3 : Hid (Below w.heap.size w w3) := ((HB.out.trans (HB2.out.mono HB.out.size)).alloc (by have := HB2.out.size; omega) _).grown hg3 (by have := HB2.out.size; simp; omega) (fun g hg => (HOW.out.lt g hg).1)
             have HREL : Hid (∃ r', w3.ownsRow w.heap.size 49 2 v3 (k + 1) (flatV r') ∧ PartsK w3 w.heap.size r' S (k + 1)) := by
               refine ⟨r ++ [(.slice L1 m1 lc1, .slice P1 m2 pc1)], by rw [← flatV_snoc]; exact hown3, parts_snoc ⟨HPK.out.1, fun i hi => ?_⟩ ?_⟩
               · exact (((HPK.out.2 i hi).below HB2.out).below ((Below.refl _ _).alloc (Nat.le_refl _) _)).kept ((own_below HOW.out HB2.out).alloc _) hg3
               · refine Part.kept (w := w2.alloc (.cells #[.slice L1 m1 lc1, .slice P1 m2 pc1] 49)) (v := u3) (xs := flatV r) (n := k) (b2 := w.heap.size) ⟨?_, ?_⟩ ((own_below HOW.out HB2.out).alloc _) hg3
                 · show World.ownsRow _ _ 52 2 _ (S.getD k s0).1.length _
                   rw [HQ1.out]; exact (own_base HOD.out hsz).alloc _
                 · show World.ownsRow _ _ 26 2 _ (S.getD k s0).2.length _
                   rw [HQ2.out]; exact (own_base HOC.out hsz).alloc _
             clear hown3 hg3))
      all_goals
        go_wp2
        go_roundw
        case rel => exact ⟨k + 1, by omega, by go_num, HBW3, HREL⟩
        case measure => simp [intOf]; omega
    · have hkn : k = n := by omega
      subst hkn
      obtain ⟨A3, c3, hv3, hr3, hn3, hl3, hm3⟩ := Raw.of_own HPK.out.1 HOW.out
      have HSV : Hid (SerVs wr r S) := ⟨by rw [HPK.out.1, HN.out], fun i hi => part_ser (HPK.out.2 i (by rw [← HN.out]; exact hi)) (fun j hj => by
        obtain ⟨_, _, _, _, _, _, _, _, _, _, _, _, hP, _⟩ := HS.out.at_ hi
        exact hP.bits j hj)⟩
      have HR3 := Lib.hid hr3
      have HN3 := Lib.hid hn3
      subst hv3
      clear hr3 hn3
      go_wp2
      go_ret
      exact ⟨⟨A3, c3, rfl, ⟨r, HR3.out, HSV.out⟩, HN3.out, by rw [HN.out]; exact hl3, hm3⟩, HB.out⟩
end Go.Proofs.YtiabnacgfoaihaaDoor

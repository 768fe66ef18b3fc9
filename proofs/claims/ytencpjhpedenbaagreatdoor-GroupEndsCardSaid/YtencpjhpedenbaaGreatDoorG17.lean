/- The heap of places: Pop, Less, heap.Push, heap.Pop, offer. Conditions: at most one place is kept. -/
import Derived.Test.YtencpjhpedenbaaGreatDoorG16
namespace Go.Proofs.YtencpjhpedenbaaGreatDoor
open Go.RowKit Lb
set_option linter.unusedVariables false
set_option linter.unusedSimpArgs false
set_option maxRecDepth 100000
set_option maxHeartbeats 2000000

theorem own_pop {w : World} {base g c : Nat} {a1 a2 b1 b2 : Value} (h : w.ownsRow base 83 2 (.slice (some ⟨g, 0, none⟩) 2 c) 2 [a1, a2, b1, b2]) : w.ownsRow base 83 2 (.slice (some ⟨g, 0, none⟩) 1 c) 1 [a1, a2] := by
  rcases h.2 with ⟨hv, _⟩ | ⟨q, cap, cur, hv, h2, h3, h4, h5, h6, h7⟩
  · cases hv
  · injection hv with e1 _ e3
    injection e1 with e1
    injection e1 with e1
    subst e1; subst e3
    refine ⟨rfl, .inr ⟨g, c, cur, rfl, h2, h3, by omega, h5, h6, ?_⟩⟩
    have : cur.toList.take (1 * 2) = (cur.toList.take (2 * 2)).take 2 := by rw [List.take_take]; rfl
    rw [this, h7]; rfl
theorem slice_pop (g n cap : Nat) (h : n + 1 ≤ cap) (W : World) : (Instr.slice 78 (.slice (some ⟨g, 0, none⟩) (n + 1) cap) none (some (.int .i64 (n : Int))) none).run Tryz.prog W = .ok (.slice (some ⟨g, 0, none⟩) n cap) W := by
  have e : Tryz.prog.underlying 78 = some (.slice (Tryz.prog.elem 78)) := by kernel_rfl
  have hs : ∀ W, (sizeOf (Tryz.prog.elem 78)).run Tryz.prog W = .ok 2 W := fun W => by kernel_rfl
  rw [run_slice_h W 78 _ _ _ e .i64 _ (by omega) (by omega), hs]
  simp [Result.andThen, sliced, Addr.add]
theorem pop_any (K fn : Nat) (a b : Pc) (w : World) (h : Rk w K fn [a, b]) :
    Calls Tryz.prog 133 #[.pointer (some ⟨K, 0, none⟩)] w (HeapP K fn [a] (.iface 83 (.agg #[.int .u64 b.1, .int .i64 (b.2 : Nat)])) w) := by
  obtain ⟨g, c, h1, h2, hKg⟩ := h.two
  have hKl := h.lt
  have k0 := h1.cell 0
  have kf := h1.frozen 0
  have g2 := h2.cellAt 2 (by decide)
  have g3 := h2.cellAt 3 (by decide)
  simp at k0 g2 g3
  have hgl := (h2.lt g rfl).2
  have hc2 : 2 ≤ c := by
    rcases h2.2 with ⟨hv, _⟩ | ⟨q, cap, cur, hv, _, _, h4, _⟩
    · cases hv
    · injection hv with _ _ e3; subst e3; exact h4
  have hsl : ∀ W, (Instr.slice 78 (.slice (some ⟨g, 0, none⟩) 2 c) none (some (.int .i64 1)) none).run Tryz.prog W = .ok (.slice (some ⟨g, 0, none⟩) 1 c) W := fun W => slice_pop g 1 c hc2 W
  have H1 := Lib.hid h1
  have H2 := Lib.hid h2
  have HKG := Lib.hid hKg
  clear h1 h2 h
  go_enter Tryz.func133, Tryz.ntmps133
  go_upto_region 3 with fail
  have HB1 : Hid (Below K w (w.alloc (.cells #[.int .u64 b.1, .int .i64 (b.2 : Nat)] 83))) := (Below.refl K w).alloc (Nat.le_of_lt hKl) _
  have HX1 := Lib.hid (Blk.new w 83 #[.int .u64 b.1, .int .i64 (b.2 : Nat)])
  have HK1 := Lib.hid (H1.out.alloc (.cells #[.int .u64 b.1, .int .i64 (b.2 : Nat)] 83))
  have HO1 := Lib.hid (own_pop (H2.out.alloc (.cells #[.int .u64 b.1, .int .i64 (b.2 : Nat)] 83)))
  have hne : w.heap.size ≠ K := by omega
  generalize w.alloc (.cells #[.int .u64 b.1, .int .i64 (b.2 : Nat)] 83) = w1 at *
  clear k0 kf g2 g3
  have k0 := HK1.out.cell 0
  have kf := HK1.out.frozen 0
  simp only [List.getElem?_toArray, List.getElem?_cons_zero, List.getElem?_cons_succ] at k0
  have HX2 := Lib.hid (HX1.out.other hne 0 (.slice (some ⟨g, 0, none⟩) 1 c))
  have x0 := HX2.out.cell 0
  have x1 := HX2.out.cell 1
  simp only [List.getElem?_toArray, List.getElem?_cons_zero, List.getElem?_cons_succ] at x0 x1
  go_wp2
  go_ret
  have hgK : (Value.slice (some ⟨g, 0, none⟩) 1 c).ownBlock ≠ some K := own_apart HO1.out HK1.out (by decide)
  exact ⟨rfl, ⟨_, HK1.out.set_ 0 (.slice (some ⟨g, 0, none⟩) 1 c), HO1.out.kept (grown_set w1 K 0 _) (.inr hgK)⟩, HB1.out.setCell (p := ⟨K, 0, none⟩) (Nat.le_refl _) _⟩
def lessF (B : Int → Int → Bool) (p q : Pc) : Bool :=
  if ((p.1 == 9221120237041090561) != (q.1 == 9221120237041090561)) = true then p.1 == 9221120237041090561 else if B p.1 q.1 = true then false else if B q.1 p.1 = true then true else decide (q.2 < p.2)
def gtI (a b : Int) : Bool := decide (0 < Vl.cmpI a b)
def ltI (a b : Int) : Bool := decide (Vl.cmpI a b < 0)
theorem close_38 (a b : Int) (ha : Vl.Bits a) (hb : Vl.Bits b) (r : Bool) (h : gtI a b = r) (w : World) : Calls Tryz.prog 38 #[.int .u64 a, .int .u64 b] w fun e w' => e = .returned (.bool r) ∧ w' = w := by
  subst h; exact (high_any a b ha hb w).mono fun e w' ⟨h1, h2⟩ => ⟨h1, h2.symm⟩
theorem less_38 (K : Nat) (a b : Pc) (w : World) (h : Rk w K 38 [a, b]) (ha : Vl.Bits a.1) (hb : Vl.Bits b.1) :
    Calls Tryz.prog 132 #[.pointer (some ⟨K, 0, none⟩), .int .i64 1, .int .i64 0] w fun e w' => e = .returned (.bool (lessF gtI b a)) ∧ Below w.heap.size w w' := by
  obtain ⟨g, c, h1, h2, hKg⟩ := h.two
  have hKl := h.lt
  have k0 := h1.cell 0
  have k1 := h1.cell 1
  have g0 := h2.cellAt 0 (by decide)
  have g1 := h2.cellAt 1 (by decide)
  have g2 := h2.cellAt 2 (by decide)
  have g3 := h2.cellAt 3 (by decide)
  simp at k0 k1 g0 g1 g2 g3
  have H1 := Lib.hid h1
  obtain ⟨r, hr⟩ : ∃ r, lessF gtI b a = r := ⟨_, rfl⟩
  have HC := Lib.hid (fun W r h => close_38 b.1 a.1 hb ha r h W)
  have HD := Lib.hid (fun W r h => close_38 a.1 b.1 ha hb r h W)
  rw [hr]
  unfold lessF at hr
  have HR := Lib.hid hr
  obtain ⟨av, aa⟩ := a
  obtain ⟨bv, ba⟩ := b
  simp only at g0 g1 g2 g3 HC HD HR
  have ka := fun o => cell_kept o k0
  have kb := fun o o' => cell_kept o' (cell_kept o k0)
  have ga0 := fun o => cell_kept o g0
  have gb0 := fun o o' => cell_kept o' (cell_kept o g0)
  have ga1 := fun o => cell_kept o g1
  have gb1 := fun o o' => cell_kept o' (cell_kept o g1)
  have ga2 := fun o => cell_kept o g2
  have gb2 := fun o o' => cell_kept o' (cell_kept o g2)
  have ga3 := fun o => cell_kept o g3
  have gb3 := fun o o' => cell_kept o' (cell_kept o g3)
  clear h1 h2 h hKg ha hb hr
  go_enter Tryz.func132, Tryz.ntmps132
  go_wp2_with fail
  go_region
  · have X7 : Hid (Blk (((w.alloc (.cells #[.int .u64 bv, .int .i64 (ba : Nat)] 83)).alloc (.cells #[.int .u64 av, .int .i64 (aa : Nat)] 83)).drew) (w.heap.size) 83 #[.int .u64 bv, .int .i64 (ba : Nat)]) := ((Blk.new w 83 _).alloc _).drewN 1
    have X8 : Hid (Blk (((w.alloc (.cells #[.int .u64 bv, .int .i64 (ba : Nat)] 83)).alloc (.cells #[.int .u64 av, .int .i64 (aa : Nat)] 83)).drew) (w.heap.size + 1) 83 #[.int .u64 av, .int .i64 (aa : Nat)]) := by
      have := (Blk.new (w.alloc (.cells #[.int .u64 bv, .int .i64 (ba : Nat)] 83)) 83 #[.int .u64 av, .int .i64 (aa : Nat)]).drewN 1
      rw [World.size_alloc] at this; exact this
    have XK : Hid (Blk (((w.alloc (.cells #[.int .u64 bv, .int .i64 (ba : Nat)] 83)).alloc (.cells #[.int .u64 av, .int .i64 (aa : Nat)] 83)).drew) K 80 #[.slice (some ⟨g, 0, none⟩) 2 c, .func (.func 38) #[] #[]]) := ((H1.out.alloc _).alloc _).drewN 1
    have XB : Hid (Below w.heap.size w (((w.alloc (.cells #[.int .u64 bv, .int .i64 (ba : Nat)] 83)).alloc (.cells #[.int .u64 av, .int .i64 (aa : Nat)] 83)).drew)) := (((Below.refl _ _).alloc (Nat.le_refl _) _).alloc (by simp) _).drew
    clear k0 k1 g0 g1 g2 g3 ka kb ga0 gb0 ga1 gb1 ga2 gb2 ga3 gb3
    generalize ((w.alloc (.cells #[.int .u64 bv, .int .i64 (ba : Nat)] 83)).alloc (.cells #[.int .u64 av, .int .i64 (aa : Nat)] 83)).drew = W1 at *
    have x0 := X7.out.cell 0
    have x1 := X7.out.cell 1
    have y0 := X8.out.cell 0
    have y1 := X8.out.cell 1
    have k1 := XK.out.cell 1
    simp only [List.getElem?_toArray, List.getElem?_cons_zero, List.getElem?_cons_succ] at x0 x1 y0 y1 k1
    have hr := HR.out
    cases q1 : (bv == 9221120237041090561) <;> cases q2 : (av == 9221120237041090561) <;> rw [q1, q2] at hr
    case false.true =>
      obtain rfl : false = r := hr
      go_wp2
      go_ret
      exact ⟨rfl, XB.out⟩
    case true.false =>
      obtain rfl : true = r := hr
      go_wp2
      go_ret
      exact ⟨rfl, XB.out⟩
    all_goals
      rw [if_neg (by decide)] at hr
      cases h1 : gtI bv av with
      | true =>
        rw [h1, if_pos rfl] at hr
        obtain rfl : false = r := hr
        have C1 := Lib.hid (fun W => HC.out W true h1)
        clear h1 HC HD HR
        go_wp2_with fail
        go_quiet ((go_at_call 38; exact Calls.quiet_of_same (C1.out _)))
        go_wp2
        go_ret
        exact ⟨rfl, bel_drawn XB.out _⟩
      | false =>
        rw [h1, if_neg (by decide)] at hr
        have C1 := Lib.hid (fun W => HC.out W false h1)
        cases h2 : gtI av bv with
        | true =>
          rw [h2, if_pos rfl] at hr
          obtain rfl : true = r := hr
          have C2 := Lib.hid (fun W => HD.out W true h2)
          clear h1 h2 HC HD HR
          go_wp2_with fail
          go_quiet ((go_at_call 38; exact Calls.quiet_of_same (C1.out _)))
          go_wp2_with fail
          have X7b := Lib.hid (X7.out.drewN nq)
          have X8b := Lib.hid (X8.out.drewN nq)
          have XKb := Lib.hid (XK.out.drewN nq)
          have XBb := Lib.hid (bel_drawn XB.out nq)
          clear x0 x1 y0 y1 k1 X7 X8 XK XB
          generalize W1.drewN nq = W2 at *
          have x0 := X7b.out.cell 0
          have x1 := X7b.out.cell 1
          have y0 := X8b.out.cell 0
          have y1 := X8b.out.cell 1
          have k1 := XKb.out.cell 1
          simp only [List.getElem?_toArray, List.getElem?_cons_zero, List.getElem?_cons_succ] at x0 x1 y0 y1 k1
          go_quiet ((go_at_call 38; exact Calls.quiet_of_same (C2.out _)))
          go_wp2
          go_ret
          exact ⟨rfl, bel_drawn XBb.out _⟩
        | false =>
          rw [h2, if_neg (by decide)] at hr
          subst hr
          have C2 := Lib.hid (fun W => HD.out W false h2)
          clear h1 h2 HC HD HR
          go_wp2_with fail
          go_quiet ((go_at_call 38; exact Calls.quiet_of_same (C1.out _)))
          go_wp2_with fail
          have X7b := Lib.hid (X7.out.drewN nq)
          have X8b := Lib.hid (X8.out.drewN nq)
          have XKb := Lib.hid (XK.out.drewN nq)
          have XBb := Lib.hid (bel_drawn XB.out nq)
          clear x0 x1 y0 y1 k1 X7 X8 XK XB
          generalize W1.drewN nq = W2 at *
          have x0 := X7b.out.cell 0
          have x1 := X7b.out.cell 1
          have y0 := X8b.out.cell 0
          have y1 := X8b.out.cell 1
          have k1 := XKb.out.cell 1
          simp only [List.getElem?_toArray, List.getElem?_cons_zero, List.getElem?_cons_succ] at x0 x1 y0 y1 k1
          go_quiet ((go_at_call 38; exact Calls.quiet_of_same (C2.out _)))
          go_wp2
          go_ret
          exact ⟨by simp, bel_drawn XBb.out _⟩
  · have X7 : Hid (Blk (((w.alloc (.cells #[.int .u64 av, .int .i64 (aa : Nat)] 83)).alloc (.cells #[.int .u64 bv, .int .i64 (ba : Nat)] 83)).drew) (w.heap.size + 1) 83 #[.int .u64 bv, .int .i64 (ba : Nat)]) := by
      have := (Blk.new (w.alloc (.cells #[.int .u64 av, .int .i64 (aa : Nat)] 83)) 83 #[.int .u64 bv, .int .i64 (ba : Nat)]).drewN 1
      rw [World.size_alloc] at this; exact this
    have X8 : Hid (Blk (((w.alloc (.cells #[.int .u64 av, .int .i64 (aa : Nat)] 83)).alloc (.cells #[.int .u64 bv, .int .i64 (ba : Nat)] 83)).drew) (w.heap.size) 83 #[.int .u64 av, .int .i64 (aa : Nat)]) := ((Blk.new w 83 _).alloc _).drewN 1
    have XK : Hid (Blk (((w.alloc (.cells #[.int .u64 av, .int .i64 (aa : Nat)] 83)).alloc (.cells #[.int .u64 bv, .int .i64 (ba : Nat)] 83)).drew) K 80 #[.slice (some ⟨g, 0, none⟩) 2 c, .func (.func 38) #[] #[]]) := ((H1.out.alloc _).alloc _).drewN 1
    have XB : Hid (Below w.heap.size w (((w.alloc (.cells #[.int .u64 av, .int .i64 (aa : Nat)] 83)).alloc (.cells #[.int .u64 bv, .int .i64 (ba : Nat)] 83)).drew)) := (((Below.refl _ _).alloc (Nat.le_refl _) _).alloc (by simp) _).drew
    clear k0 k1 g0 g1 g2 g3 ka kb ga0 gb0 ga1 gb1 ga2 gb2 ga3 gb3
    generalize ((w.alloc (.cells #[.int .u64 av, .int .i64 (aa : Nat)] 83)).alloc (.cells #[.int .u64 bv, .int .i64 (ba : Nat)] 83)).drew = W1 at *
    have x0 := X7.out.cell 0
    have x1 := X7.out.cell 1
    have y0 := X8.out.cell 0
    have y1 := X8.out.cell 1
    have k1 := XK.out.cell 1
    simp only [List.getElem?_toArray, List.getElem?_cons_zero, List.getElem?_cons_succ] at x0 x1 y0 y1 k1
    have hr := HR.out
    cases q1 : (bv == 9221120237041090561) <;> cases q2 : (av == 9221120237041090561) <;> rw [q1, q2] at hr
    case false.true =>
      obtain rfl : false = r := hr
      go_wp2
      go_ret
      exact ⟨rfl, XB.out⟩
    case true.false =>
      obtain rfl : true = r := hr
      go_wp2
      go_ret
      exact ⟨rfl, XB.out⟩
    all_goals
      rw [if_neg (by decide)] at hr
      cases h1 : gtI bv av with
      | true =>
        rw [h1, if_pos rfl] at hr
        obtain rfl : false = r := hr
        have C1 := Lib.hid (fun W => HC.out W true h1)
        clear h1 HC HD HR
        go_wp2_with fail
        go_quiet ((go_at_call 38; exact Calls.quiet_of_same (C1.out _)))
        go_wp2
        go_ret
        exact ⟨rfl, bel_drawn XB.out _⟩
      | false =>
        rw [h1, if_neg (by decide)] at hr
        have C1 := Lib.hid (fun W => HC.out W false h1)
        cases h2 : gtI av bv with
        | true =>
          rw [h2, if_pos rfl] at hr
          obtain rfl : true = r := hr
          have C2 := Lib.hid (fun W => HD.out W true h2)
          clear h1 h2 HC HD HR
          go_wp2_with fail
          go_quiet ((go_at_call 38; exact Calls.quiet_of_same (C1.out _)))
          go_wp2_with fail
          have X7b := Lib.hid (X7.out.drewN nq)
          have X8b := Lib.hid (X8.out.drewN nq)
          have XKb := Lib.hid (XK.out.drewN nq)
          have XBb := Lib.hid (bel_drawn XB.out nq)
          clear x0 x1 y0 y1 k1 X7 X8 XK XB
          generalize W1.drewN nq = W2 at *
          have x0 := X7b.out.cell 0
          have x1 := X7b.out.cell 1
          have y0 := X8b.out.cell 0
          have y1 := X8b.out.cell 1
          have k1 := XKb.out.cell 1
          simp only [List.getElem?_toArray, List.getElem?_cons_zero, List.getElem?_cons_succ] at x0 x1 y0 y1 k1
          go_quiet ((go_at_call 38; exact Calls.quiet_of_same (C2.out _)))
          go_wp2
          go_ret
          exact ⟨rfl, bel_drawn XBb.out _⟩
        | false =>
          rw [h2, if_neg (by decide)] at hr
          subst hr
          have C2 := Lib.hid (fun W => HD.out W false h2)
          clear h1 h2 HC HD HR
          go_wp2_with fail
          go_quiet ((go_at_call 38; exact Calls.quiet_of_same (C1.out _)))
          go_wp2_with fail
          have X7b := Lib.hid (X7.out.drewN nq)
          have X8b := Lib.hid (X8.out.drewN nq)
          have XKb := Lib.hid (XK.out.drewN nq)
          have XBb := Lib.hid (bel_drawn XB.out nq)
          clear x0 x1 y0 y1 k1 X7 X8 XK XB
          generalize W1.drewN nq = W2 at *
          have x0 := X7b.out.cell 0
          have x1 := X7b.out.cell 1
          have y0 := X8b.out.cell 0
          have y1 := X8b.out.cell 1
          have k1 := XKb.out.cell 1
          simp only [List.getElem?_toArray, List.getElem?_cons_zero, List.getElem?_cons_succ] at x0 x1 y0 y1 k1
          go_quiet ((go_at_call 38; exact Calls.quiet_of_same (C2.out _)))
          go_wp2
          go_ret
          exact ⟨by simp, bel_drawn XBb.out _⟩
theorem close_40 (a b : Int) (ha : Vl.Bits a) (hb : Vl.Bits b) (r : Bool) (h : ltI a b = r) (w : World) : Calls Tryz.prog 40 #[.int .u64 a, .int .u64 b] w fun e w' => e = .returned (.bool r) ∧ w' = w := by
  subst h; exact (low_any a b ha hb w).mono fun e w' ⟨h1, h2⟩ => ⟨h1, h2.symm⟩
theorem less_40 (K : Nat) (a b : Pc) (w : World) (h : Rk w K 40 [a, b]) (ha : Vl.Bits a.1) (hb : Vl.Bits b.1) :
    Calls Tryz.prog 132 #[.pointer (some ⟨K, 0, none⟩), .int .i64 1, .int .i64 0] w fun e w' => e = .returned (.bool (lessF ltI b a)) ∧ Below w.heap.size w w' := by
  obtain ⟨g, c, h1, h2, hKg⟩ := h.two
  have hKl := h.lt
  have k0 := h1.cell 0
  have k1 := h1.cell 1
  have g0 := h2.cellAt 0 (by decide)
  have g1 := h2.cellAt 1 (by decide)
  have g2 := h2.cellAt 2 (by decide)
  have g3 := h2.cellAt 3 (by decide)
  simp at k0 k1 g0 g1 g2 g3
  have H1 := Lib.hid h1
  obtain ⟨r, hr⟩ : ∃ r, lessF ltI b a = r := ⟨_, rfl⟩
  have HC := Lib.hid (fun W r h => close_40 b.1 a.1 hb ha r h W)
  have HD := Lib.hid (fun W r h => close_40 a.1 b.1 ha hb r h W)
  rw [hr]
  unfold lessF at hr
  have HR := Lib.hid hr
  obtain ⟨av, aa⟩ := a
  obtain ⟨bv, ba⟩ := b
  simp only at g0 g1 g2 g3 HC HD HR
  have ka := fun o => cell_kept o k0
  have kb := fun o o' => cell_kept o' (cell_kept o k0)
  have ga0 := fun o => cell_kept o g0
  have gb0 := fun o o' => cell_kept o' (cell_kept o g0)
  have ga1 := fun o => cell_kept o g1
  have gb1 := fun o o' => cell_kept o' (cell_kept o g1)
  have ga2 := fun o => cell_kept o g2
  have gb2 := fun o o' => cell_kept o' (cell_kept o g2)
  have ga3 := fun o => cell_kept o g3
  have gb3 := fun o o' => cell_kept o' (cell_kept o g3)
  clear h1 h2 h hKg ha hb hr
  go_enter Tryz.func132, Tryz.ntmps132
  go_wp2_with fail
  go_region
  · have X7 : Hid (Blk (((w.alloc (.cells #[.int .u64 bv, .int .i64 (ba : Nat)] 83)).alloc (.cells #[.int .u64 av, .int .i64 (aa : Nat)] 83)).drew) (w.heap.size) 83 #[.int .u64 bv, .int .i64 (ba : Nat)]) := ((Blk.new w 83 _).alloc _).drewN 1
    have X8 : Hid (Blk (((w.alloc (.cells #[.int .u64 bv, .int .i64 (ba : Nat)] 83)).alloc (.cells #[.int .u64 av, .int .i64 (aa : Nat)] 83)).drew) (w.heap.size + 1) 83 #[.int .u64 av, .int .i64 (aa : Nat)]) := by
      have := (Blk.new (w.alloc (.cells #[.int .u64 bv, .int .i64 (ba : Nat)] 83)) 83 #[.int .u64 av, .int .i64 (aa : Nat)]).drewN 1
      rw [World.size_alloc] at this; exact this
    have XK : Hid (Blk (((w.alloc (.cells #[.int .u64 bv, .int .i64 (ba : Nat)] 83)).alloc (.cells #[.int .u64 av, .int .i64 (aa : Nat)] 83)).drew) K 80 #[.slice (some ⟨g, 0, none⟩) 2 c, .func (.func 40) #[] #[]]) := ((H1.out.alloc _).alloc _).drewN 1
    have XB : Hid (Below w.heap.size w (((w.alloc (.cells #[.int .u64 bv, .int .i64 (ba : Nat)] 83)).alloc (.cells #[.int .u64 av, .int .i64 (aa : Nat)] 83)).drew)) := (((Below.refl _ _).alloc (Nat.le_refl _) _).alloc (by simp) _).drew
    clear k0 k1 g0 g1 g2 g3 ka kb ga0 gb0 ga1 gb1 ga2 gb2 ga3 gb3
    generalize ((w.alloc (.cells #[.int .u64 bv, .int .i64 (ba : Nat)] 83)).alloc (.cells #[.int .u64 av, .int .i64 (aa : Nat)] 83)).drew = W1 at *
    have x0 := X7.out.cell 0
    have x1 := X7.out.cell 1
    have y0 := X8.out.cell 0
    have y1 := X8.out.cell 1
    have k1 := XK.out.cell 1
    simp only [List.getElem?_toArray, List.getElem?_cons_zero, List.getElem?_cons_succ] at x0 x1 y0 y1 k1
    have hr := HR.out
    cases q1 : (bv == 9221120237041090561) <;> cases q2 : (av == 9221120237041090561) <;> rw [q1, q2] at hr
    case false.true =>
      obtain rfl : false = r := hr
      go_wp2
      go_ret
      exact ⟨rfl, XB.out⟩
    case true.false =>
      obtain rfl : true = r := hr
      go_wp2
      go_ret
      exact ⟨rfl, XB.out⟩
    all_goals
      rw [if_neg (by decide)] at hr
      cases h1 : ltI bv av with
      | true =>
        rw [h1, if_pos rfl] at hr
        obtain rfl : false = r := hr
        have C1 := Lib.hid (fun W => HC.out W true h1)
        clear h1 HC HD HR
        go_wp2_with fail
        go_quiet ((go_at_call 40; exact Calls.quiet_of_same (C1.out _)))
        go_wp2
        go_ret
        exact ⟨rfl, bel_drawn XB.out _⟩
      | false =>
        rw [h1, if_neg (by decide)] at hr
        have C1 := Lib.hid (fun W => HC.out W false h1)
        cases h2 : ltI av bv with
        | true =>
          rw [h2, if_pos rfl] at hr
          obtain rfl : true = r := hr
          have C2 := Lib.hid (fun W => HD.out W true h2)
          clear h1 h2 HC HD HR
          go_wp2_with fail
          go_quiet ((go_at_call 40; exact Calls.quiet_of_same (C1.out _)))
          go_wp2_with fail
          have X7b := Lib.hid (X7.out.drewN nq)
          have X8b := Lib.hid (X8.out.drewN nq)
          have XKb := Lib.hid (XK.out.drewN nq)
          have XBb := Lib.hid (bel_drawn XB.out nq)
          clear x0 x1 y0 y1 k1 X7 X8 XK XB
          generalize W1.drewN nq = W2 at *
          have x0 := X7b.out.cell 0
          have x1 := X7b.out.cell 1
          have y0 := X8b.out.cell 0
          have y1 := X8b.out.cell 1
          have k1 := XKb.out.cell 1
          simp only [List.getElem?_toArray, List.getElem?_cons_zero, List.getElem?_cons_succ] at x0 x1 y0 y1 k1
          go_quiet ((go_at_call 40; exact Calls.quiet_of_same (C2.out _)))
          go_wp2
          go_ret
          exact ⟨rfl, bel_drawn XBb.out _⟩
        | false =>
          rw [h2, if_neg (by decide)] at hr
          subst hr
          have C2 := Lib.hid (fun W => HD.out W false h2)
          clear h1 h2 HC HD HR
          go_wp2_with fail
          go_quiet ((go_at_call 40; exact Calls.quiet_of_same (C1.out _)))
          go_wp2_with fail
          have X7b := Lib.hid (X7.out.drewN nq)
          have X8b := Lib.hid (X8.out.drewN nq)
          have XKb := Lib.hid (XK.out.drewN nq)
          have XBb := Lib.hid (bel_drawn XB.out nq)
          clear x0 x1 y0 y1 k1 X7 X8 XK XB
          generalize W1.drewN nq = W2 at *
          have x0 := X7b.out.cell 0
          have x1 := X7b.out.cell 1
          have y0 := X8b.out.cell 0
          have y1 := X8b.out.cell 1
          have k1 := XKb.out.cell 1
          simp only [List.getElem?_toArray, List.getElem?_cons_zero, List.getElem?_cons_succ] at x0 x1 y0 y1 k1
          go_quiet ((go_at_call 40; exact Calls.quiet_of_same (C2.out _)))
          go_wp2
          go_ret
          exact ⟨by simp, bel_drawn XBb.out _⟩
  · have X7 : Hid (Blk (((w.alloc (.cells #[.int .u64 av, .int .i64 (aa : Nat)] 83)).alloc (.cells #[.int .u64 bv, .int .i64 (ba : Nat)] 83)).drew) (w.heap.size + 1) 83 #[.int .u64 bv, .int .i64 (ba : Nat)]) := by
      have := (Blk.new (w.alloc (.cells #[.int .u64 av, .int .i64 (aa : Nat)] 83)) 83 #[.int .u64 bv, .int .i64 (ba : Nat)]).drewN 1
      rw [World.size_alloc] at this; exact this
    have X8 : Hid (Blk (((w.alloc (.cells #[.int .u64 av, .int .i64 (aa : Nat)] 83)).alloc (.cells #[.int .u64 bv, .int .i64 (ba : Nat)] 83)).drew) (w.heap.size) 83 #[.int .u64 av, .int .i64 (aa : Nat)]) := ((Blk.new w 83 _).alloc _).drewN 1
    have XK : Hid (Blk (((w.alloc (.cells #[.int .u64 av, .int .i64 (aa : Nat)] 83)).alloc (.cells #[.int .u64 bv, .int .i64 (ba : Nat)] 83)).drew) K 80 #[.slice (some ⟨g, 0, none⟩) 2 c, .func (.func 40) #[] #[]]) := ((H1.out.alloc _).alloc _).drewN 1
    have XB : Hid (Below w.heap.size w (((w.alloc (.cells #[.int .u64 av, .int .i64 (aa : Nat)] 83)).alloc (.cells #[.int .u64 bv, .int .i64 (ba : Nat)] 83)).drew)) := (((Below.refl _ _).alloc (Nat.le_refl _) _).alloc (by simp) _).drew
    clear k0 k1 g0 g1 g2 g3 ka kb ga0 gb0 ga1 gb1 ga2 gb2 ga3 gb3
    generalize ((w.alloc (.cells #[.int .u64 av, .int .i64 (aa : Nat)] 83)).alloc (.cells #[.int .u64 bv, .int .i64 (ba : Nat)] 83)).drew = W1 at *
    have x0 := X7.out.cell 0
    have x1 := X7.out.cell 1
    have y0 := X8.out.cell 0
    have y1 := X8.out.cell 1
    have k1 := XK.out.cell 1
    simp only [List.getElem?_toArray, List.getElem?_cons_zero, List.getElem?_cons_succ] at x0 x1 y0 y1 k1
    have hr := HR.out
    cases q1 : (bv == 9221120237041090561) <;> cases q2 : (av == 9221120237041090561) <;> rw [q1, q2] at hr
    case false.true =>
      obtain rfl : false = r := hr
      go_wp2
      go_ret
      exact ⟨rfl, XB.out⟩
    case true.false =>
      obtain rfl : true = r := hr
      go_wp2
      go_ret
      exact ⟨rfl, XB.out⟩
    all_goals
      rw [if_neg (by decide)] at hr
      cases h1 : ltI bv av with
      | true =>
        rw [h1, if_pos rfl] at hr
        obtain rfl : false = r := hr
        have C1 := Lib.hid (fun W => HC.out W true h1)
        clear h1 HC HD HR
        go_wp2_with fail
        go_quiet ((go_at_call 40; exact Calls.quiet_of_same (C1.out _)))
        go_wp2
        go_ret
        exact ⟨rfl, bel_drawn XB.out _⟩
      | false =>
        rw [h1, if_neg (by decide)] at hr
        have C1 := Lib.hid (fun W => HC.out W false h1)
        cases h2 : ltI av bv with
        | true =>
          rw [h2, if_pos rfl] at hr
          obtain rfl : true = r := hr
          have C2 := Lib.hid (fun W => HD.out W true h2)
          clear h1 h2 HC HD HR
          go_wp2_with fail
          go_quiet ((go_at_call 40; exact Calls.quiet_of_same (C1.out _)))
          go_wp2_with fail
          have X7b := Lib.hid (X7.out.drewN nq)
          have X8b := Lib.hid (X8.out.drewN nq)
          have XKb := Lib.hid (XK.out.drewN nq)
          have XBb := Lib.hid (bel_drawn XB.out nq)
          clear x0 x1 y0 y1 k1 X7 X8 XK XB
          generalize W1.drewN nq = W2 at *
          have x0 := X7b.out.cell 0
          have x1 := X7b.out.cell 1
          have y0 := X8b.out.cell 0
          have y1 := X8b.out.cell 1
          have k1 := XKb.out.cell 1
          simp only [List.getElem?_toArray, List.getElem?_cons_zero, List.getElem?_cons_succ] at x0 x1 y0 y1 k1
          go_quiet ((go_at_call 40; exact Calls.quiet_of_same (C2.out _)))
          go_wp2
          go_ret
          exact ⟨rfl, bel_drawn XBb.out _⟩
        | false =>
          rw [h2, if_neg (by decide)] at hr
          subst hr
          have C2 := Lib.hid (fun W => HD.out W false h2)
          clear h1 h2 HC HD HR
          go_wp2_with fail
          go_quiet ((go_at_call 40; exact Calls.quiet_of_same (C1.out _)))
          go_wp2_with fail
          have X7b := Lib.hid (X7.out.drewN nq)
          have X8b := Lib.hid (X8.out.drewN nq)
          have XKb := Lib.hid (XK.out.drewN nq)
          have XBb := Lib.hid (bel_drawn XB.out nq)
          clear x0 x1 y0 y1 k1 X7 X8 XK XB
          generalize W1.drewN nq = W2 at *
          have x0 := X7b.out.cell 0
          have x1 := X7b.out.cell 1
          have y0 := X8b.out.cell 0
          have y1 := X8b.out.cell 1
          have k1 := XKb.out.cell 1
          simp only [List.getElem?_toArray, List.getElem?_cons_zero, List.getElem?_cons_succ] at x0 x1 y0 y1 k1
          go_quiet ((go_at_call 40; exact Calls.quiet_of_same (C2.out _)))
          go_wp2
          go_ret
          exact ⟨by simp, bel_drawn XBb.out _⟩
end Go.Proofs.YtencpjhpedenbaaGreatDoor

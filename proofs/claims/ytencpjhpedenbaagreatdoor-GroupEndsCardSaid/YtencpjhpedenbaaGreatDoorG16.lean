/- The heap of places: Len, Swap, Push, Pop, Less at a list of one or two. No condition. -/
import Derived.Test.YtencpjhpedenbaaGreatDoorG10
import Derived.Test.YtencpjhpedenbaaGreatDoorG2
import Derived.Deep.RegionHeld3
import Derived.Deep.RegionLaw
import Derived.BigRegion
import Derived.StillTailTactics
namespace Go.Proofs.YtencpjhpedenbaaGreatDoor
open Go.RowKit Lb
set_option linter.unusedVariables false
set_option linter.unusedSimpArgs false
set_option maxRecDepth 100000
set_option maxHeartbeats 2000000

theorem place_info : (Tryz.prog.info? 83).map (fun i => (i.zero, i.size, i.bytes)) = some (some (.agg #[.int .u64 0, .int .i64 0]), 2, 16) := by kernel_rfl
theorem assert_place (v a : Int) (w : World) : (Instr.typeAssert (.iface 83 (.agg #[.int .u64 v, .int .i64 a])) 20 83 true).run Tryz.prog w = .ok (.tuple #[.agg #[.int .u64 v, .int .i64 a], .bool true]) w := by kernel_rfl
abbrev Pc := Int × Nat
def encQ (p : Pc) : VV := (.int .u64 p.1, .int .i64 (p.2 : Nat))
def flatQ (l : List Pc) : List Value := flatV (l.map encQ)
/-- a ranking: its places are a row of its own -/
def Rk (w : World) (K fn : Nat) (l : List Pc) : Prop :=
  ∃ v, Blk w K 80 #[v, .func (.func fn) #[] #[]] ∧ w.ownsRow K 83 2 v l.length (flatQ l)
theorem Rk.below {w w' : World} {K fn : Nat} {l : List Pc} (h : Rk w K fn l) (hb : Below w.heap.size w w') : Rk w' K fn l := by
  obtain ⟨v, h1, h2⟩ := h
  exact ⟨v, h1.below hb, own_below h2 hb⟩
theorem Rk.lt {w : World} {K fn : Nat} {l : List Pc} (h : Rk w K fn l) : K < w.heap.size := by
  obtain ⟨v, h1, _⟩ := h
  exact h1.lt
/-- one or two of them -/
theorem Rk.one {w : World} {K fn : Nat} {a : Pc} (h : Rk w K fn [a]) : ∃ g c, Blk w K 80 #[.slice (some ⟨g, 0, none⟩) 1 c, .func (.func fn) #[] #[]] ∧ w.ownsRow K 83 2 (.slice (some ⟨g, 0, none⟩) 1 c) 1 [.int .u64 a.1, .int .i64 (a.2 : Nat)] ∧ K < g := by
  obtain ⟨v, h1, h2⟩ := h
  obtain ⟨g, c, rfl, hg, _⟩ := h2.form (by simp)
  refine ⟨g, c, h1, h2, ?_⟩
  rcases Nat.lt_or_eq_of_le hg with h | rfl
  · exact h
  · exact absurd rfl (own_apart h2 h1 (by decide))
theorem Rk.two {w : World} {K fn : Nat} {a b : Pc} (h : Rk w K fn [a, b]) : ∃ g c, Blk w K 80 #[.slice (some ⟨g, 0, none⟩) 2 c, .func (.func fn) #[] #[]] ∧ w.ownsRow K 83 2 (.slice (some ⟨g, 0, none⟩) 2 c) 2 [.int .u64 a.1, .int .i64 (a.2 : Nat), .int .u64 b.1, .int .i64 (b.2 : Nat)] ∧ K < g := by
  obtain ⟨v, h1, h2⟩ := h
  obtain ⟨g, c, rfl, hg, _⟩ := h2.form (by simp)
  refine ⟨g, c, h1, h2, ?_⟩
  rcases Nat.lt_or_eq_of_le hg with h | rfl
  · exact h
  · exact absurd rfl (own_apart h2 h1 (by decide))
theorem two_new (W : World) (x y : Value) (g : Nat) (h : g = W.heap.size) (t : TypeId) : ∀ j u, ([x, y] : List Value)[j]? = some u → (W.alloc (.cells #[x, y] t)).cell? ((⟨g, 0, none⟩ : Addr).add j) = some u := by
  subst h
  intro j u hu
  match j, hu with
  | 0, hu => simp at hu; subst hu; simp [Addr.add, World.cell?_alloc_at]
  | 1, hu => simp at hu; subst hu; simp [Addr.add, World.cell?_alloc_at]
  | j + 2, hu => simp at hu
theorem cell_far {w w' : World} (h : Below w.heap.size w w') {a : Addr} {v : Value} (hc : w.cell? a = some v) : w'.cell? a = some v := (h.cell (World.block_lt_of_cell? _ _ hc)).trans hc
theorem len_any (K fn : Nat) (l : List Pc) (w : World) (h : Rk w K fn l) (hl : l.length ≤ 10) :
    Calls Tryz.prog 65 #[.pointer (some ⟨K, 0, none⟩)] w fun e w' => e = .returned (.int .i64 l.length) ∧ w = w' := by
  obtain ⟨v, h1, h2⟩ := h
  obtain ⟨A, c, rfl, _⟩ := Raw.of_own (r := l.map encQ) (List.length_map ..) h2
  have c0 := h1.cell 0
  simp at c0
  generalize l.length = n at *
  go_enter Tryz.func65, Tryz.ntmps65
  go_wp2
  go_ret
  exact ⟨rfl, rfl⟩
/-- what a call leaves of the heap -/
def HeapP (K fn : Nat) (l : List Pc) (v : Value) (w : World) (e : Ending) (w' : World) : Prop := e = .returned v ∧ Rk w' K fn l ∧ Below K w w'
theorem swap_any (K fn : Nat) (a b : Pc) (w : World) (h : Rk w K fn [a, b]) :
    Calls Tryz.prog 135 #[.pointer (some ⟨K, 0, none⟩), .int .i64 0, .int .i64 1] w (HeapP K fn [b, a] (.tuple #[]) w) := by
  obtain ⟨g, c, h1, h2, hKg⟩ := h.two
  have k0 := h1.cell 0
  have g0 := h2.cellAt 0 (by decide)
  have g1 := h2.cellAt 1 (by decide)
  have g2 := h2.cellAt 2 (by decide)
  have g3 := h2.cellAt 3 (by decide)
  have f := fun j => h2.frozenAt j
  simp at k0 g0 g1 g2 g3
  have H1 := Lib.hid h1
  have H2 := Lib.hid h2
  have HKG := Lib.hid hKg
  clear h1 h2 h
  go_enter Tryz.func135, Tryz.ntmps135
  go_wp2_with fail
  go_region
  go_end0
  have hne : K ≠ g := by have := HKG.out; omega
  refine ⟨rfl, ⟨_, (((((H1.out.other hne 0 (.int .u64 b.1)).other hne 1 (.int .i64 (b.2 : Nat))).other hne 2 (.int .u64 a.1)).other hne 3 (.int .i64 (a.2 : Nat)))).drewN 1, ?_⟩, ?_⟩
  · exact (row_set (row_set (row_set (row_set H2.out (g := g) rfl (.int .u64 b.1) (i := 0) (by simp)) (g := g) rfl (.int .i64 (b.2 : Nat)) (i := 1) (by simp)) (g := g) rfl (.int .u64 a.1) (i := 2) (by simp)) (g := g) rfl (.int .i64 (a.2 : Nat)) (i := 3) (by simp))
  · exact (((((Below.refl K w).setCell (p := ⟨g, 0, none⟩) (Nat.le_of_lt HKG.out) _).setCell (p := ⟨g, 1, none⟩) (Nat.le_of_lt HKG.out) _).setCell (p := ⟨g, 2, none⟩) (Nat.le_of_lt HKG.out) _).setCell (p := ⟨g, 3, none⟩) (Nat.le_of_lt HKG.out) _).drew
/-- Push of what is a place -/
theorem push_any (K fn : Nat) (l : List Pc) (x : Pc) (w : World) (h : Rk w K fn l) (hl : l.length ≤ 10) :
    Calls Tryz.prog 134 #[.pointer (some ⟨K, 0, none⟩), .iface 83 (.agg #[.int .u64 x.1, .int .i64 (x.2 : Nat)])] w (HeapP K fn (l ++ [x]) (.tuple #[]) w) := by
  obtain ⟨i1, hi1, hy0, hy1, hy2⟩ := info_parts place_info
  have hKl := h.lt
  obtain ⟨v, h1, h2⟩ := h
  obtain ⟨n, hn⟩ : ∃ n, l.length = n := ⟨_, rfl⟩
  have hp := fun w => assert_place x.1 (x.2 : Nat) w
  rw [hn] at h2 hl
  have H1 := Lib.hid h1
  have H2 := Lib.hid h2
  have HN := Lib.hid hn
  have HFQ := Lib.hid (show flatQ (l ++ [x]) = flatQ l ++ [.int .u64 x.1, .int .i64 (x.2 : Nat)] by unfold flatQ; rw [List.map_append, flatV_append]; rfl)
  generalize flatQ l = xs at *
  generalize x.1 = xv at *
  generalize x.2 = xa at *
  have k0 := h1.cell 0
  have kf := h1.frozen 0
  simp at k0
  clear h1 h2 hn
  go_enter Tryz.func134, Tryz.ntmps134
  go_upto_region 2 with fail
  have HB1 : Hid (Below w.heap.size w (w.alloc (.cells #[.int .u64 xv, .int .i64 (xa : Nat)] 83))) := (Below.refl _ _).alloc (Nat.le_refl _) _
  have HX1 := Lib.hid (Blk.new w 83 #[.int .u64 xv, .int .i64 (xa : Nat)])
  have HK1 := Lib.hid (H1.out.alloc (.cells #[.int .u64 xv, .int .i64 (xa : Nat)] 83))
  have HO1 := Lib.hid (H2.out.alloc (.cells #[.int .u64 xv, .int .i64 (xa : Nat)] 83))
  have hs1 : w.heap.size < (w.alloc (.cells #[.int .u64 xv, .int .i64 (xa : Nat)] 83)).heap.size := by simp
  generalize w.alloc (.cells #[.int .u64 xv, .int .i64 (xa : Nat)] 83) = w1 at *
  clear k0 kf
  have k0 := HK1.out.cell 0
  have x0 := HX1.out.cell 0
  have x1 := HX1.out.cell 1
  simp only [List.getElem?_toArray, List.getElem?_cons_zero, List.getElem?_cons_succ] at k0 x0 x1
  have BL0 : Hid (Below w1.heap.size w1 w1.drew) := (Below.refl _ _).drew
  have BL1 : Hid (Below w1.heap.size w1 ((w1.alloc (.cells #[.int .u64 xv, .int .i64 (xa : Nat)] 83)).drew)) := ((Below.refl _ _).alloc (Nat.le_refl _) _).drew
  have OW1 : Hid (((w1.alloc (.cells #[.int .u64 xv, .int .i64 (xa : Nat)] 83)).drew).ownsRow K 83 2 v n xs) := HO1.out.alloc _
  have KW1 : Hid (Blk ((w1.alloc (.cells #[.int .u64 xv, .int .i64 (xa : Nat)] 83)).drew) K 80 #[v, .func (.func fn) #[] #[]]) := HK1.out.alloc _
  have ka := cell_far BL0.out k0
  have kb := cell_far BL1.out k0
  have xa0 := cell_far BL0.out x0
  have xb0 := cell_far BL1.out x0
  have xa1 := cell_far BL0.out x1
  have xb1 := cell_far BL1.out x1
  have b3 : n + 1 ≤ maxLen := by unfold maxLen; omega
  have b4 : (n + 1) * 16 ≤ 140737488355328 := by omega
  have b5 : K ≤ ((w1.alloc (.cells #[.int .u64 xv, .int .i64 (xa : Nat)] 83)).drew).heap.size := by simp; omega
  refine wp_region_noPanic ?_
  go_region_law
    (refine step_append_lies _ (by rfl) (.tmp 16) (.tmp 18) 78 (by rfl) K 83 i1 _ 2 16 Tryz.underlying78 hi1 hy0 hy1 hy2 rfl (by decide) v n xs (by rfl) OW1.out ⟨w1.heap.size, 0, none⟩ 1 1 [.int .u64 xv, .int .i64 (xa : Nat)] (by rfl) (by rfl) (two_new w1 _ _ _ rfl _) (by intro u hu; simp at hu; rcases hu with rfl | rfl <;> rfl) (by decide) b3 b4 b5 _ rfl ?_
     intro g cp w8 hown8 hg8 hor8 hlt8
     have KW8 := Lib.hid (KW1.out.grown hg8 (fun e => own_apart OW1.out KW1.out (by decide) e))
     have y8 := KW8.out.cell 0
     have yf8 := KW8.out.frozen 0
     simp only [List.getElem?_toArray, List.getElem?_cons_zero, List.getElem?_cons_succ] at y8
     have HOW8 := Lib.hid hown8
     have HB8 := Lib.hid ((HB1.out.trans (BL1.out.mono HB1.out.size)).mono (Nat.le_of_lt hKl) |>.grown hg8 b5 (fun q hq => (OW1.out.lt q hq).1))
     clear hown8 hg8 hor8 hlt8)
  all_goals
    refine NoPanic.normal ?_
    clear ka kb xa0 xb0 xa1 xb1 k0 x0 x1 y8 yf8
    go_wp2_with fail
    go_end0
    have hgK : (Value.slice (some ⟨g, 0, none⟩) (n + 1) cp).ownBlock ≠ some K := own_apart HOW8.out KW8.out (by decide)
    refine ⟨rfl, ⟨_, KW8.out.set_ 0 (.slice (some ⟨g, 0, none⟩) (n + 1) cp), ?_⟩, HB8.out.setCell (p := ⟨K, 0, none⟩) (Nat.le_refl _) _⟩
    rw [HFQ.out, List.length_append, HN.out]
    exact HOW8.out.kept (grown_set w8 K 0 _) (.inr hgK)
end Go.Proofs.YtencpjhpedenbaaGreatDoor

import Derived.Test.YtmgcigdjnaeiiaaA2
import Derived.Deep.DeepCutAuto
import Derived.Deep.CutBlock
namespace Go.Proofs.Ytmgcigdjnaeiiaa
open Go.RowKit Fl Ieee
set_option linter.unusedVariables false

abbrev Pt := Int × Nat
def e0 : Pt := (0, 0)
/-- points in memory -/
def Pts (w : World) (A : Option Addr) (l : List Pt) : Prop :=
  0 < l.length → ∃ b off, A = some ⟨b, off, none⟩ ∧ b < w.heap.size ∧ ∀ i, i < l.length → w.cell? ⟨b, off + i * 2, none⟩ = some (.int .i64 (l.getD i e0).1) ∧ w.cell? ⟨b, off + i * 2 + 1, none⟩ = some (.int .u64 ((l.getD i e0).2 : Int))
theorem Pts.below {w w' : World} {A : Option Addr} {l : List Pt} (h : Pts w A l) (hb : Below w.heap.size w w') : Pts w' A l := by
  intro hn
  obtain ⟨b, off, rfl, hlt, hc⟩ := h hn
  exact ⟨b, off, rfl, by have := hb.size; omega, fun i hi => ⟨(hb.cell (p := ⟨b, off + i * 2, none⟩) hlt).trans (hc i hi).1, (hb.cell (p := ⟨b, off + i * 2 + 1, none⟩) hlt).trans (hc i hi).2⟩⟩
theorem number_b (t : Int) (v : Nat) (w : World) : Calls Try.prog 26 #[.agg #[.int .i64 t, .int .u64 (v : Int)]] w fun e w' => e = .returned (.float .f64 v) ∧ Below w.heap.size w w' :=
  (number_any t v w).mono fun e w' ⟨h1, h2⟩ => ⟨h1, by rw [h2]; exact (Below.refl _ _).alloc (Nat.le_refl _) _⟩
theorem bel_drew {B : Nat} {w w' : World} (h : Hid (Below B w w')) : Hid (Below B w w'.drew) := (⟨h.out.os, h.out.tape, h.out.output, h.out.size, h.out.block⟩ : Below B w w'.drew)

/-- how the growth stands behind k points -/
def GState (l : List Pt) (k g : Nat) : Prop := NN g ∨ ∃ r, g = double.word true r ∧ r ≤ (l.getD 0 e0).2 ∧ (l.getD (l.length - 1) e0).2 < (l.getD 0 e0).2 ∧ (l.getD 0 e0).2 ≤ (l.getD (k - 1) e0).2
theorem gstate_end {l : List Pt} {g : Nat} (h : GState l l.length g) : NN g := by
  rcases h with h | ⟨r, _, _, h3, h4⟩
  · exact h
  · omega
theorem gstate_fall {l : List Pt} {k g : Nat} (h : GState l k g) (hv : (l.getD (k - 1) e0).2 < 9218868437227405312) : ∃ z, double.add g (l.getD (k - 1) e0).2 = some z ∧ NN z := by
  rcases h with h | ⟨r, rfl, h2, _, h4⟩
  · obtain ⟨z, h1, h2, _⟩ := add_nn h (Nat.le_of_lt hv)
    exact ⟨z, h1, h2⟩
  · exact add_rise (Nat.le_trans h2 h4) hv
theorem gstate_up {l : List Pt} {k g : Nat} (h : GState l k g) (hk : 1 ≤ k) (hv : (l.getD (k - 1) e0).2 ≤ (l.getD k e0).2) : GState l (k + 1) g := by
  rcases h with h | ⟨r, h1, h2, h3, h4⟩
  · exact .inl h
  · exact .inr ⟨r, h1, h2, h3, by rw [Nat.add_sub_cancel]; omega⟩
theorem kept4 {w W W3 : World} {b o1 o2 o3 o4 : Nat} {x1 x2 x3 x4 : Value}
    (h : W.cell? ⟨b, o1, none⟩ = some x1 ∧ W.cell? ⟨b, o2, none⟩ = some x2 ∧ W.cell? ⟨b, o3, none⟩ = some x3 ∧ W.cell? ⟨b, o4, none⟩ = some x4 ∧ b < W.heap.size ∧ Hid (Below w.heap.size w W)) (hb : Below W.heap.size W W3) :
    W3.cell? ⟨b, o1, none⟩ = some x1 ∧ W3.cell? ⟨b, o2, none⟩ = some x2 ∧ W3.cell? ⟨b, o3, none⟩ = some x3 ∧ W3.cell? ⟨b, o4, none⟩ = some x4 ∧ b < W3.heap.size ∧ Hid (Below w.heap.size w W3) := by
  obtain ⟨h1, h2, h3, h4, h5, h6⟩ := h
  exact ⟨(hb.cell (p := ⟨b, o1, none⟩) h5).trans h1, (hb.cell (p := ⟨b, o2, none⟩) h5).trans h2, (hb.cell (p := ⟨b, o3, none⟩) h5).trans h3, (hb.cell (p := ⟨b, o4, none⟩) h5).trans h4, Nat.lt_of_lt_of_le h5 hb.size, h6.out.trans (hb.mono h6.out.size)⟩
/-- the growth behind k points -/
def gSeq (l : List Pt) : Nat → Nat
  | 0 => (double.sub (l.getD (l.length - 1) e0).2 (l.getD 0 e0).2).getD 0
  | k + 1 => if k = 0 then gSeq l 0 else if (l.getD k e0).2 < (l.getD (k - 1) e0).2 then (double.add (gSeq l k) (l.getD (k - 1) e0).2).getD 0 else gSeq l k
theorem gSeq_one (l : List Pt) : gSeq l 1 = (double.sub (l.getD (l.length - 1) e0).2 (l.getD 0 e0).2).getD 0 := by simp [gSeq]
theorem gSeq_fall {l : List Pt} {k x z : Nat} (hk : 1 ≤ k) (h : (l.getD k e0).2 < (l.getD (k - 1) e0).2) (hx : x = gSeq l k) (hz : double.add x (l.getD (k - 1) e0).2 = some z) : z = gSeq l (k + 1) := by
  rw [gSeq, if_neg (by omega), if_pos h, ← hx, hz]; rfl
theorem gSeq_up {l : List Pt} {k x : Nat} (hk : 1 ≤ k) (h : ¬ (l.getD k e0).2 < (l.getD (k - 1) e0).2) (hx : x = gSeq l k) : x = gSeq l (k + 1) := by
  rw [gSeq, if_neg (by omega), if_neg h]; exact hx
def GOut (l : List Pt) (w : World) (e : Ending) (w' : World) : Prop := NN (gSeq l l.length) ∧ e = .returned (.float .f64 (gSeq l l.length)) ∧ Below w.heap.size w w'

set_option maxRecDepth 100000 in
set_option maxHeartbeats 4000000 in
theorem gained_true (A : Option Addr) (cap : Nat) (l : List Pt) (w : World) (hL : Pts w A l) (hl : 2 ≤ l.length) (hm : l.length ≤ 65536) (hv : ∀ i, i < l.length → (l.getD i e0).2 < 9218868437227405312) :
    Calls Try.prog 25 #[.slice A l.length cap, .bool true] w (GOut l w) := by
  obtain ⟨b, off, rfl, hlt, hc⟩ := hL (by omega)
  have HC := Lib.hid hc
  have HV := Lib.hid hv
  have a1 := (hc (l.length - 1) (by omega)).1
  have a2 := (hc (l.length - 1) (by omega)).2
  have a3 := (hc 0 (by omega)).1
  have a4 := (hc 0 (by omega)).2
  rw [Nat.zero_mul, Nat.add_zero] at a3 a4
  obtain ⟨g0, hg0, hgs⟩ := sub_fall (hv (l.length - 1) (by omega)) (hv 0 (by omega))
  have HG0 : Hid (GState l 1 g0) := by
    rcases hgs with h | ⟨r, h1, h2, h3⟩
    · exact .inl h.1
    · exact .inr ⟨r, h1, h2, h3, Nat.le_refl _⟩
  have HGO : Hid (g0 = gSeq l 1) := by
    show g0 = gSeq l 1
    rw [gSeq_one, hg0]; rfl
  have hr := fun (w : World) => run_float_arith (P := Try.prog) (w := w) .sub 28 .f64 _ _ g0 hg0
  have HN := Lib.hid (fun t v w => number_b t v w)
  clear hgs hg0 hc hv hL
  have HHN := Lib.hid (rfl : l.length = l.length)
  generalize hn : l.length = n at *
  have HLN := Lib.hid hn
  clear hn HHN
  generalize (l.getD (n - 1) e0).1 = t1 at *
  generalize (l.getD (n - 1) e0).2 = v1 at *
  generalize (l.getD 0 e0).1 = t0 at *
  generalize (l.getD 0 e0).2 = v0 at *
  have i1 : (0 : Int) ≤ (n : Int) - 1 := by omega
  have i2 : (n : Int) - 1 < (n : Int) := by omega
  have i3 : ((n : Int) - 1).toNat = n - 1 := by omega
  have i4 : (1 : Int) ≤ (n : Int) := by omega
  have i5 : (0 : Int) < (n : Int) := by omega
  have i6 : 0 < n := by omega
  have i7 : 1 ≤ n := by omega
  have hw1 : IntKind.i64.wrap ((n : Int) - 1) = (n : Int) - 1 := IntWalk.i64_in _ (by omega)
  go_enter Try.func25, Try.ntmps25
  go_upto_region 1 with fail
  go_cut [5] (fun s5 wx => s5 = .float .f64 g0 ∧ Hid (Below w.heap.size w wx))
  case first =>
    have hS0 : w.drew.cell? ⟨b, off + (n - 1) * 2, none⟩ = some (.int .i64 t1) ∧ w.drew.cell? ⟨b, off + (n - 1) * 2 + 1, none⟩ = some (.int .u64 (v1 : Int)) ∧ w.drew.cell? ⟨b, off, none⟩ = some (.int .i64 t0) ∧ w.drew.cell? ⟨b, off + 1, none⟩ = some (.int .u64 (v0 : Int)) ∧ b < w.drew.heap.size ∧ Hid (Below w.heap.size w w.drew) := ⟨a1, a2, a3, a4, hlt, bel_drew (Below.refl _ _)⟩
    have HS0 := Lib.hid hS0
    clear hS0
    go_region_held3 (fun w' => w'.cell? ⟨b, off + (n - 1) * 2, none⟩ = some (.int .i64 t1) ∧ w'.cell? ⟨b, off + (n - 1) * 2 + 1, none⟩ = some (.int .u64 (v1 : Int)) ∧ w'.cell? ⟨b, off, none⟩ = some (.int .i64 t0) ∧ w'.cell? ⟨b, off + 1, none⟩ = some (.int .u64 (v0 : Int)) ∧ b < w'.heap.size ∧ Hid (Below w.heap.size w w'))
      (first | exact HS0.out | exact HS4.out | exact HS3.out)
      (first | (go_at_call_of 26 (Value.agg #[Value.int IntKind.i64 t1, Value.int IntKind.u64 (v1 : Int)]); refine (HN.out t1 v1 _).mono ?_; rintro e w3 ⟨rfl, hb3⟩; have HS3 := Lib.hid (kept4 (by first | exact HS0.out | exact HS4.out) hb3); clear hb3)
             | (go_at_call_of 26 (Value.agg #[Value.int IntKind.i64 t0, Value.int IntKind.u64 (v0 : Int)]); refine (HN.out t0 v0 _).mono ?_; rintro e w4 ⟨rfl, hb4⟩; have HS4 := Lib.hid (kept4 (by first | exact HS0.out | exact HS3.out) hb4); clear hb4))
    all_goals (go_wp2_with fail; go_meet; first | exact ⟨rfl, HS4.out.2.2.2.2.2⟩ | exact ⟨rfl, HS3.out.2.2.2.2.2⟩)
  case rest =>
    obtain ⟨rfl, HB0⟩ := hcut
    clear hw1 hr a1 a2 a3 a4 i1 i2 i3
    go_wp2_with fail
    go_loopg [5, 6] (n - 1) (fun g s5 s6 wx => ∃ (k x : Nat), 1 ≤ k ∧ k + g = n ∧ s5 = .float .f64 x ∧ s6 = .int .i64 k ∧ Hid (GState l k x) ∧ Hid (x = gSeq l k) ∧ Hid (Below w.heap.size w wx))
    case atStart => exact ⟨1, g0, by omega, by omega, rfl, rfl, HG0, HGO, HB0⟩
    case round =>
      obtain ⟨k, x, hk1, hkg, rfl, rfl, HG, HX, HB⟩ := hrel
      by_cases hlt2 : k < n
      · obtain ⟨g, rfl⟩ : ∃ g, gk = g + 1 := ⟨gk - 1, by omega⟩
        have hkl : k < l.length := by rw [HLN.out]; exact hlt2
        have c1 := (HB.out.cell (p := ⟨b, off + (k - 1) * 2, none⟩) hlt).trans (HC.out (k - 1) (by omega)).1
        have c2 := (HB.out.cell (p := ⟨b, off + (k - 1) * 2 + 1, none⟩) hlt).trans (HC.out (k - 1) (by omega)).2
        have HC3 := Lib.hid (fun W (hW : Below w.heap.size w W) => (hW.cell (p := ⟨b, off + k * 2, none⟩) hlt).trans (HC.out k hlt2).1)
        have HC4 := Lib.hid (fun W (hW : Below w.heap.size w W) => (hW.cell (p := ⟨b, off + k * 2 + 1, none⟩) hlt).trans (HC.out k hlt2).2)
        have hva := HV.out (k - 1) (by omega)
        have hvk := HV.out k hlt2
        have HFALL := Lib.hid (@gstate_fall l k x HG.out hva)
        have HUP := Lib.hid (@gstate_up l k x HG.out hk1)
        have HSF := Lib.hid (fun h z => @gSeq_fall l k x z hk1 h HX.out)
        have HSU := Lib.hid (fun h => @gSeq_up l k x hk1 h HX.out)
        have hord := order_nn (x := (l.getD k e0).2) (y := (l.getD (k - 1) e0).2) (Nat.le_of_lt hvk) (Nat.le_of_lt hva)
        have j1 : (1 : Int) ≤ (k : Int) := by omega
        have j2 : (k : Int) - 1 < (n : Int) := by omega
        have j3 : ((k : Int) - 1).toNat = k - 1 := by omega
        have j4 : (0 : Int) ≤ (k : Int) - 1 := by omega
        generalize (l.getD (k - 1) e0).1 = ta at *
        generalize (l.getD (k - 1) e0).2 = va at *
        generalize (l.getD k e0).1 = tk at *
        generalize (l.getD k e0).2 = vk at *
        by_cases hf : vk < va
        · obtain ⟨z, hz, hzn⟩ := HFALL.out
          have HZ := Lib.hid (HSF.out hf z hz)
          have hr := fun (w : World) => run_float_arith (P := Try.prog) (w := w) .add 28 .f64 _ _ z hz
          have ho : (FloatKind.f64.format.order vk va == some .lt) = true := by
            show (double.order vk va == some .lt) = true
            rw [hord, Nat.compare_eq_lt.2 hf]; rfl
          clear hord hz
          go_wp2_with fail
          refine (HN.out _ _ _).mono ?_
          rintro e w1 ⟨rfl, b1⟩
          have k1 := HB.out.trans (b1.mono HB.out.size)
          have c3 := HC3.out w1 k1
          have c4 := HC4.out w1 k1
          clear c1 c2 b1
          go_wp2_with fail
          refine (HN.out _ _ _).mono ?_
          rintro e w2 ⟨rfl, b2⟩
          have k2 := k1.trans (b2.mono k1.size)
          clear c3 c4 b2
          go_wp2
          go_roundg g
          case measure => omega
          case rel => exact ⟨k + 1, z, by omega, by omega, rfl, by go_num, .inl hzn, HZ, k2⟩
        · have HS := Lib.hid (HUP.out (by omega))
          have HZ := Lib.hid (HSU.out hf)
          have ho : (FloatKind.f64.format.order vk va == some .lt) = false := by
            show (double.order vk va == some .lt) = false
            rw [hord]
            rcases Nat.lt_trichotomy va vk with h | h | h
            · rw [Nat.compare_eq_gt.2 h]; rfl
            · subst h; simp
            · exact absurd h hf
          clear hord
          go_wp2_with fail
          refine (HN.out _ _ _).mono ?_
          rintro e w1 ⟨rfl, b1⟩
          have k1 := HB.out.trans (b1.mono HB.out.size)
          have c3 := HC3.out w1 k1
          have c4 := HC4.out w1 k1
          clear c1 c2 b1
          go_wp2_with fail
          refine (HN.out _ _ _).mono ?_
          rintro e w2 ⟨rfl, b2⟩
          have k2 := k1.trans (b2.mono k1.size)
          clear c3 c4 b2
          go_wp2
          go_roundg g
          case measure => omega
          case rel => exact ⟨k + 1, x, by omega, by omega, rfl, by go_num, HS, HZ, k2⟩
      · obtain rfl : k = n := by omega
        have hfin : NN x := gstate_end (by rw [HLN.out]; exact HG.out)
        go_wp2
        go_ret
        have hx := HX.out
        rw [← HLN.out] at hx
        exact ⟨by rw [← hx]; exact hfin, by rw [← hx]; rfl, HB.out⟩

set_option maxRecDepth 100000 in
set_option maxHeartbeats 4000000 in
theorem gained_false (g0 : Nat) (A : Option Addr) (cap : Nat) (l : List Pt) (w : World) (hL : Pts w A l) (hl : 2 ≤ l.length) (hm : l.length ≤ 65536) (hg0 : double.sub (l.getD (l.length - 1) e0).2 (l.getD 0 e0).2 = some g0) :
    Calls Try.prog 25 #[.slice A l.length cap, .bool false] w fun e w' => e = .returned (.float .f64 g0) ∧ Below w.heap.size w w' := by
  obtain ⟨b, off, rfl, hlt, hc⟩ := hL (by omega)
  have HC := Lib.hid hc
  have a1 := (hc (l.length - 1) (by omega)).1
  have a2 := (hc (l.length - 1) (by omega)).2
  have a3 := (hc 0 (by omega)).1
  have a4 := (hc 0 (by omega)).2
  rw [Nat.zero_mul, Nat.add_zero] at a3 a4
  have hr := fun (w : World) => run_float_arith (P := Try.prog) (w := w) .sub 28 .f64 _ _ g0 hg0
  have HN := Lib.hid (fun t v w => number_b t v w)
  clear hg0 hc hL
  have HHN := Lib.hid (rfl : l.length = l.length)
  generalize hn : l.length = n at *
  have HLN := Lib.hid hn
  clear hn HHN
  generalize (l.getD (n - 1) e0).1 = t1 at *
  generalize (l.getD (n - 1) e0).2 = v1 at *
  generalize (l.getD 0 e0).1 = t0 at *
  generalize (l.getD 0 e0).2 = v0 at *
  have i1 : (0 : Int) ≤ (n : Int) - 1 := by omega
  have i2 : (n : Int) - 1 < (n : Int) := by omega
  have i3 : ((n : Int) - 1).toNat = n - 1 := by omega
  have i4 : (1 : Int) ≤ (n : Int) := by omega
  have i5 : (0 : Int) < (n : Int) := by omega
  have i6 : 0 < n := by omega
  have i7 : 1 ≤ n := by omega
  have hw1 : IntKind.i64.wrap ((n : Int) - 1) = (n : Int) - 1 := IntWalk.i64_in _ (by omega)
  go_enter Try.func25, Try.ntmps25
  go_upto_region 1 with fail
  go_cut [5] (fun s5 wx => s5 = .float .f64 g0 ∧ Hid (Below w.heap.size w wx))
  case first =>
    have hS0 : w.drew.cell? ⟨b, off + (n - 1) * 2, none⟩ = some (.int .i64 t1) ∧ w.drew.cell? ⟨b, off + (n - 1) * 2 + 1, none⟩ = some (.int .u64 (v1 : Int)) ∧ w.drew.cell? ⟨b, off, none⟩ = some (.int .i64 t0) ∧ w.drew.cell? ⟨b, off + 1, none⟩ = some (.int .u64 (v0 : Int)) ∧ b < w.drew.heap.size ∧ Hid (Below w.heap.size w w.drew) := ⟨a1, a2, a3, a4, hlt, bel_drew (Below.refl _ _)⟩
    have HS0 := Lib.hid hS0
    clear hS0
    go_region_held3 (fun w' => w'.cell? ⟨b, off + (n - 1) * 2, none⟩ = some (.int .i64 t1) ∧ w'.cell? ⟨b, off + (n - 1) * 2 + 1, none⟩ = some (.int .u64 (v1 : Int)) ∧ w'.cell? ⟨b, off, none⟩ = some (.int .i64 t0) ∧ w'.cell? ⟨b, off + 1, none⟩ = some (.int .u64 (v0 : Int)) ∧ b < w'.heap.size ∧ Hid (Below w.heap.size w w'))
      (first | exact HS0.out | exact HS4.out | exact HS3.out)
      (first | (go_at_call_of 26 (Value.agg #[Value.int IntKind.i64 t1, Value.int IntKind.u64 (v1 : Int)]); refine (HN.out t1 v1 _).mono ?_; rintro e w3 ⟨rfl, hb3⟩; have HS3 := Lib.hid (kept4 (by first | exact HS0.out | exact HS4.out) hb3); clear hb3)
             | (go_at_call_of 26 (Value.agg #[Value.int IntKind.i64 t0, Value.int IntKind.u64 (v0 : Int)]); refine (HN.out t0 v0 _).mono ?_; rintro e w4 ⟨rfl, hb4⟩; have HS4 := Lib.hid (kept4 (by first | exact HS0.out | exact HS3.out) hb4); clear hb4))
    all_goals (go_wp2_with fail; go_meet; first | exact ⟨rfl, HS4.out.2.2.2.2.2⟩ | exact ⟨rfl, HS3.out.2.2.2.2.2⟩)
  case rest =>
    obtain ⟨rfl, HB0⟩ := hcut
    clear hw1 hr a1 a2 a3 a4 i1 i2 i3
    go_wp2_with fail
    refine wp_loop_rounds 1 ?_
    rw [rounds_succ]
    go_wp2
    go_ret
    exact ⟨rfl, HB0.out⟩
end Go.Proofs.Ytmgcigdjnaeiiaa

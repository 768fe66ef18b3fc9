import Derived.Test.YtmgcigdjnaeiiaaA3
import Derived.Laws.EntriesVeiled
import Derived.BigRegion
import Derived.Laws.NewBlocks
namespace Go.Proofs.Ytmgcigdjnaeiiaa
open Go.RowKit Fl Ieee
set_option linter.unusedVariables false

/-- what growth has laid -/
def Cl (w : World) (c p q : Nat) (t0 t1 : Int) (v0 v1 : Nat) (W : World) : Prop :=
  W.cell? ⟨c, 0, none⟩ = some (.func (.func 24) #[] #[]) ∧ W.cell? ⟨p, 0, none⟩ = some (.int .i64 t0) ∧ W.cell? ⟨p, 1, none⟩ = some (.int .u64 (v0 : Int)) ∧ W.cell? ⟨q, 0, none⟩ = some (.int .i64 t1) ∧ W.cell? ⟨q, 1, none⟩ = some (.int .u64 (v1 : Int)) ∧
    c < W.heap.size ∧ p < W.heap.size ∧ q < W.heap.size ∧ Below w.heap.size w W
theorem Cl.below {w W W' : World} {c p q : Nat} {t0 t1 : Int} {v0 v1 : Nat} (h : Cl w c p q t0 t1 v0 v1 W) (hb : Below W.heap.size W W') : Cl w c p q t0 t1 v0 v1 W' := by
  obtain ⟨h1, h2, h3, h4, h5, h6, h7, h8, h9⟩ := h
  exact ⟨(hb.cell (p := ⟨c, 0, none⟩) h6).trans h1, (hb.cell (p := ⟨p, 0, none⟩) h7).trans h2, (hb.cell (p := ⟨p, 1, none⟩) h7).trans h3, (hb.cell (p := ⟨q, 0, none⟩) h8).trans h4, (hb.cell (p := ⟨q, 1, none⟩) h8).trans h5,
    Nat.lt_of_lt_of_le h6 hb.size, Nat.lt_of_lt_of_le h7 hb.size, Nat.lt_of_lt_of_le h8 hb.size, h9.trans (hb.mono h9.size)⟩
theorem Cl.drawn {w W : World} {c p q : Nat} {t0 t1 : Int} {v0 v1 : Nat} (h : Cl w c p q t0 t1 v0 v1 W) (n : Nat) : Cl w c p q t0 t1 v0 v1 (W.drewN n) := h.below (bel_drawn (Below.refl _ _) n)
theorem cl_one {w w1 : World} {c : Nat} {t0 t1 : Int} {v0 v1 : Nat} (h0 : w1.cell? ⟨c, 0, none⟩ = some (.func (.func 24) #[] #[])) (h1 : c < w1.heap.size) (hb : Below w.heap.size w w1) :
    Cl w c w1.heap.size (w1.heap.size + 1) t0 t1 v0 v1 ((w1.alloc (.cells #[.int .i64 t0, .int .u64 (v0 : Int)] 31)).alloc (.cells #[.int .i64 t1, .int .u64 (v1 : Int)] 31)).drew := by
  have k1 : ∀ o, ((w1.alloc (.cells #[.int .i64 t0, .int .u64 (v0 : Int)] 31)).alloc (.cells #[.int .i64 t1, .int .u64 (v1 : Int)] 31)).cell? ⟨w1.heap.size, o, none⟩ = (w1.alloc (.cells #[.int .i64 t0, .int .u64 (v0 : Int)] 31)).cell? ⟨w1.heap.size, o, none⟩ := fun o => World.cell?_alloc_lt _ _ _ (by simp)
  have k2 : ∀ o, ((w1.alloc (.cells #[.int .i64 t0, .int .u64 (v0 : Int)] 31)).alloc (.cells #[.int .i64 t1, .int .u64 (v1 : Int)] 31)).cell? ⟨w1.heap.size + 1, o, none⟩ = #[.int .i64 t1, .int .u64 (v1 : Int)][o]? := fun o => by
    rw [World.cell?_alloc_at _ _ _ _ (by simp)]
  have k3 : ∀ o, (w1.alloc (.cells #[.int .i64 t0, .int .u64 (v0 : Int)] 31)).cell? ⟨w1.heap.size, o, none⟩ = #[.int .i64 t0, .int .u64 (v0 : Int)][o]? := fun o => by
    rw [World.cell?_alloc_at _ _ _ _ rfl]
  have b2 : Below w1.heap.size w1 ((w1.alloc (.cells #[.int .i64 t0, .int .u64 (v0 : Int)] 31)).alloc (.cells #[.int .i64 t1, .int .u64 (v1 : Int)] 31)).drew := by
    have := (((Below.refl w1.heap.size w1).alloc (Nat.le_refl _) (.cells #[.int .i64 t0, .int .u64 (v0 : Int)] 31)).alloc (by simp) (.cells #[.int .i64 t1, .int .u64 (v1 : Int)] 31))
    exact ⟨this.os, this.tape, this.output, this.size, this.block⟩
  have hsz : ((w1.alloc (.cells #[.int .i64 t0, .int .u64 (v0 : Int)] 31)).alloc (.cells #[.int .i64 t1, .int .u64 (v1 : Int)] 31)).drew.heap.size = w1.heap.size + 2 := by
    show ((w1.alloc _).alloc _).heap.size = _
    simp
  exact ⟨(b2.cell (p := ⟨c, 0, none⟩) h1).trans h0, (k1 0).trans (k3 0), (k1 1).trans (k3 1), k2 0, k2 1, by rw [hsz]; omega, by rw [hsz]; omega, by rw [hsz]; omega, hb.trans (b2.mono hb.size)⟩
theorem cl_two {w W : World} {c p q : Nat} {t0 t1 : Int} {v0 v1 : Nat} (h : Cl w c p q t1 t0 v1 v0 W) : Cl w c q p t0 t1 v0 v1 W := by
  obtain ⟨h1, h2, h3, h4, h5, h6, h7, h8, h9⟩ := h
  exact ⟨h1, h4, h5, h2, h3, h6, h8, h7, h9⟩
def Cm (w : World) (c p q : Nat) (t0 t1 : Int) (v0 v1 mb mean : Nat) (W : World) : Prop := Cl w c p q t0 t1 v0 v1 W ∧ W.cell? ⟨mb, 0, none⟩ = some (.float .f64 mean) ∧ mb < W.heap.size
theorem Cm.below {w W W' : World} {c p q : Nat} {t0 t1 : Int} {v0 v1 mb mean : Nat} (h : Cm w c p q t0 t1 v0 v1 mb mean W) (hb : Below W.heap.size W W') : Cm w c p q t0 t1 v0 v1 mb mean W' :=
  ⟨h.1.below hb, (hb.cell (p := ⟨mb, 0, none⟩) h.2.2).trans h.2.1, Nat.lt_of_lt_of_le h.2.2 hb.size⟩
theorem cm_mk {w W : World} {c p q : Nat} {t0 t1 : Int} {v0 v1 : Nat} (h : Cl w c p q t0 t1 v0 v1 W) (mean : Nat) : Cm w c p q t0 t1 v0 v1 W.heap.size mean (W.alloc (.cells #[.float .f64 mean] 28)) :=
  ⟨h.below ((Below.refl _ _).alloc (Nat.le_refl _) _), by rw [World.cell?_alloc_at _ _ _ _ rfl]; rfl, by simp⟩
theorem seconds_q (a b : Int) (d : Nat) (hd : b - a = (d : Int)) (h : d ≤ 9007199254740992) (w : World) : Calls Try.prog 16 #[.int .i64 a, .int .i64 b] w fun e w' => e = .returned (.float .f64 (secF d)) ∧ w' = w :=
  (seconds_any a b d hd h w).mono fun e w' ⟨h1, h2⟩ => ⟨h1, h2.symm⟩
/-- where it begins -/
def Begins (counts : Bool) (g v0 span bg b0 : Nat) : Prop :=
  (counts = false ∧ bg = b0) ∨ (counts = true ∧ (double.order g 0 == some .gt) = false ∧ bg = b0) ∨
    (counts = true ∧ (double.order g 0 == some .gt) = true ∧ (double.order v0 0 == some .gt || double.order v0 0 == some .eq) = true ∧ ∃ q0 z, double.div v0 g = some q0 ∧ double.mul span q0 = some z ∧ bg = if (double.order z b0 == some .lt) = true then z else b0)
theorem Cm.drew {w W : World} {c p q : Nat} {t0 t1 : Int} {v0 v1 mb mean : Nat} (h : Cm w c p q t0 t1 v0 v1 mb mean W) : Cm w c p q t0 t1 v0 v1 mb mean W.drew := h.below (⟨rfl, rfl, rfl, Nat.le_refl _, fun _ _ => rfl⟩ : Below W.heap.size W W.drew)
theorem cm_limbs {w W : World} {c p q : Nat} {t0 t1 : Int} {v0 v1 mb mean : Nat} (h : Cm w c p q t0 t1 v0 v1 mb mean W) :
    W.cell? ⟨c, 0, none⟩ = some (.func (.func 24) #[] #[]) ∧ W.cell? ⟨p, 0, none⟩ = some (.int .i64 t0) ∧ W.cell? ⟨p, 1, none⟩ = some (.int .u64 (v0 : Int)) ∧ Hid (Cm w c p q t0 t1 v0 v1 mb mean W) := ⟨h.1.1, h.1.2.1, h.1.2.2.1, h⟩
theorem over_q (a b c : Nat) (h : double.div a b = some c) (w : World) : Calls Try.prog 24 #[.float .f64 a, .float .f64 b] w fun e w' => e = .returned (.float .f64 c) ∧ w' = w := (over_is a b c h w).mono fun e w' ⟨h1, h2⟩ => ⟨h1, h2.symm⟩
theorem times_q (a b c : Nat) (h : double.mul a b = some c) (w : World) : Calls Try.prog 23 #[.float .f64 a, .float .f64 b] w fun e w' => e = .returned (.float .f64 c) ∧ w' = w := (times_is a b c h w).mono fun e w' ⟨h1, h2⟩ => ⟨h1, h2.symm⟩
/-- what the test tells of where it begins -/
def Tells (cc : Bool) (g v0 span bg b0 : Nat) : Prop := (cc = false ∧ bg = b0) ∨ (cc = true ∧ ∃ q0 z, double.div v0 g = some q0 ∧ double.mul span q0 = some z ∧ bg = if (double.order z b0 == some .lt) = true then z else b0)
theorem store_new (W : World) (m : Nat) : (store ⟨W.heap.size, 0, none⟩ (.float .f64 m)).run Try.prog (W.alloc (.cells #[.float .f64 0] 28)) = .ok () (W.alloc (.cells #[.float .f64 m] 28)) := by
  rw [run_store Try.prog _ _ _ .plain rfl, World.cell?_alloc_at _ _ _ _ rfl]
  have hf : (W.alloc (.cells #[.float .f64 0] 28)).frozen? ⟨W.heap.size, 0, none⟩ = false := World.frozen?_alloc_at _ _ _ _ rfl
  simp [hf]
  rw [World.setCell_alloc_at _ _ _ _ _ rfl]
  rfl
theorem reach_is (gap most mean half r : Nat) (a b c : Nat) (w : World) (h1 : w.cell? ⟨a, 0, none⟩ = some (.float .f64 most)) (h2 : w.cell? ⟨b, 0, none⟩ = some (.func (.func 24) #[] #[])) (h3 : w.cell? ⟨c, 0, none⟩ = some (.float .f64 mean))
    (hd : double.div mean 4611686018427387904 = some half) (hr : r = if (double.order gap most == some .lt) = true then gap else half) :
    Calls Try.prog 27 #[.float .f64 gap, .pointer (some ⟨a, 0, none⟩), .pointer (some ⟨b, 0, none⟩), .pointer (some ⟨c, 0, none⟩)] w fun e w' => e = .returned (.float .f64 r) ∧ w = w' := by
  subst hr
  cases h : (double.order gap most == some .lt) with
  | true => rw [if_pos rfl]; exact reach_lt gap most a b c w h1 h
  | false => rw [if_neg (by simp)]; exact reach_ge gap most mean half a b c w h1 h2 h3 h hd

set_option maxRecDepth 100000 in
set_option maxHeartbeats 8000000 in
theorem growth_is (A : Option Addr) (cap : Nat) (l : List Pt) (s e : Int) (counts : Bool) (dv g : Nat) (w : World) (hL : Pts w A l) (hl : 2 ≤ l.length) (hm : l.length ≤ 65536)
    (d1 d2 d3 mean bg most half r1 r2 g1 g2 q1 q2 res : Nat) (hd1 : (l.getD 0 e0).1 - s = (d1 : Int)) (hd2 : e - (l.getD (l.length - 1) e0).1 = (d2 : Int)) (hd3 : (l.getD (l.length - 1) e0).1 - (l.getD 0 e0).1 = (d3 : Int)) (hm1 : d1 ≤ 9007199254740992) (hm2 : d2 ≤ 9007199254740992) (hm3 : d3 ≤ 9007199254740992)
    (hmean : double.div (secF d3) (ofN (l.length - 1)) = some mean) (hbg : Begins counts g (l.getD 0 e0).2 (secF d3) bg (secF d1)) (hmost : double.mul mean 4607632778762754458 = some most) (hhalf : double.div mean 4611686018427387904 = some half)
    (hr1 : r1 = if (double.order bg most == some .lt) = true then bg else half) (hr2 : r2 = if (double.order (secF d2) most == some .lt) = true then secF d2 else half)
    (hg1 : double.add (secF d3) r1 = some g1) (hg2 : double.add g1 r2 = some g2) (hq1 : double.div g2 (secF d3) = some q1) (hq2 : double.div q1 dv = some q2) (hres : double.mul g q2 = some res)
    (HG : Hid (∀ W, Below w.heap.size w W → Calls Try.prog 25 #[.slice A l.length cap, .bool counts] W fun e w' => e = .returned (.float .f64 g) ∧ Below W.heap.size W w')) :
    Calls Try.prog 15 #[.slice A l.length cap, .int .i64 s, .int .i64 e, .bool counts, .float .f64 dv] w fun e w' => e = .returned (.float .f64 res) ∧ Below w.heap.size w w' := by
  obtain ⟨b, off, rfl, hlt, hc⟩ := hL (by omega)
  have a1 := (hc (l.length - 1) (by omega)).1
  have a2 := (hc (l.length - 1) (by omega)).2
  have a3 := (hc 0 (by omega)).1
  have a4 := (hc 0 (by omega)).2
  rw [Nat.zero_mul, Nat.add_zero] at a3 a4
  have S1 := Lib.hid (fun W => seconds_q _ _ d1 hd1 hm1 W)
  have S2 := Lib.hid (fun W => seconds_q _ _ d2 hd2 hm2 W)
  have S3 := Lib.hid (fun W => seconds_q _ _ d3 hd3 hm3 W)
  have hf1 := floatOf (l.length - 1)
  rw [show ((l.length - 1 : Nat) : Int) = (l.length : Int) - 1 by omega] at hf1
  have HM := Lib.hid (fun W => over_is _ _ _ hmean W)
  have HBG := Lib.hid hbg
  have HMO := Lib.hid (fun W => times_is _ _ _ hmost W)
  have HHA := Lib.hid hhalf
  have HR1 := Lib.hid hr1
  have HR2 := Lib.hid hr2
  have HG1 := Lib.hid hg1
  have HG2 := Lib.hid hg2
  have HQ1 := Lib.hid (fun W => over_q _ _ _ hq1 W)
  have HQ2 := Lib.hid (fun W => over_q _ _ _ hq2 W)
  have HRE := Lib.hid (fun W => times_q _ _ _ hres W)
  clear hd1 hd2 hd3 hmean hbg hmost hhalf hr1 hr2 hg1 hg2 hq1 hq2 hres hm1 hm2 hm3
  generalize secF d1 = b0 at *
  generalize secF d2 = x2 at *
  generalize secF d3 = x3 at *
  generalize ofN (l.length - 1) = m1 at *
  clear hc hL
  generalize hn : l.length = n at *
  have HLN := Lib.hid hn
  clear hn
  generalize (l.getD (n - 1) e0).1 = t1 at *
  generalize (l.getD (n - 1) e0).2 = v1 at *
  generalize (l.getD 0 e0).1 = t0 at *
  generalize (l.getD 0 e0).2 = v0 at *
  have i1 : (0 : Int) ≤ (n : Int) - 1 := by omega
  have i2 : (n : Int) - 1 < (n : Int) := by omega
  have i3 : ((n : Int) - 1).toNat = n - 1 := by omega
  have i4 : (1 : Int) ≤ (n : Int) := by omega
  have i5 : (0 : Int) < (n : Int) := by omega
  have i6 : 0 < n := by omega
  have hw1 : IntKind.i64.wrap ((n : Int) - 1) = (n : Int) - 1 := IntWalk.i64_in _ (by omega)
  go_enter Try.func15, Try.ntmps15
  go_upto_region 3 with fail
  have c0 : (w.alloc (.cells #[.func (.func 24) #[] #[]] 42)).cell? ⟨w.heap.size, 0, none⟩ = some (.func (.func 24) #[] #[]) := by rw [World.cell?_alloc_at _ _ _ _ rfl]; rfl
  have b1 := (World.cell?_alloc_lt w (.cells #[.func (.func 24) #[] #[]] 42) ⟨b, off + (n - 1) * 2, none⟩ hlt).trans a1
  have b2 := (World.cell?_alloc_lt w (.cells #[.func (.func 24) #[] #[]] 42) ⟨b, off + (n - 1) * 2 + 1, none⟩ hlt).trans a2
  have b3 := (World.cell?_alloc_lt w (.cells #[.func (.func 24) #[] #[]] 42) ⟨b, off, none⟩ hlt).trans a3
  have b4 := (World.cell?_alloc_lt w (.cells #[.func (.func 24) #[] #[]] 42) ⟨b, off + 1, none⟩ hlt).trans a4
  have hc1 : w.heap.size < (w.alloc (.cells #[.func (.func 24) #[] #[]] 42)).heap.size := by simp
  have hb1 : b < (w.alloc (.cells #[.func (.func 24) #[] #[]] 42)).heap.size := by simp; omega
  have HB1 := Lib.hid ((Below.refl w.heap.size w).alloc (Nat.le_refl _) (.cells #[.func (.func 24) #[] #[]] 42))
  clear a1 a2 a3 a4
  generalize w.alloc (.cells #[.func (.func 24) #[] #[]] 42) = w1 at *
  generalize hC : w.heap.size = C at *
  have HCC := Lib.hid hC
  clear hC
  have HF1 := Lib.hid hf1
  clear hf1
  go_cut [13, 14] (fun s13 s14 wx => ∃ p q : Nat, s13 = .pointer (some ⟨p, 0, none⟩) ∧ s14 = .pointer (some ⟨q, 0, none⟩) ∧ Hid (Cl w C p q t0 t1 v0 v1 wx))
  case first =>
    go_region_held3 (fun w' => w'.cell? ⟨b, off + (n - 1) * 2, none⟩ = some (.int .i64 t1) ∧ w'.cell? ⟨b, off + (n - 1) * 2 + 1, none⟩ = some (.int .u64 (v1 : Int)) ∧ w'.cell? ⟨b, off, none⟩ = some (.int .i64 t0) ∧ w'.cell? ⟨b, off + 1, none⟩ = some (.int .u64 (v0 : Int)))
      (first | go_keep) (first | fail)
    all_goals (go_wp2_with fail; go_meet; first | exact ⟨_, _, rfl, rfl, cl_one c0 hc1 (by rw [HCC.out]; exact HB1.out)⟩ | exact ⟨_, _, rfl, rfl, cl_two (cl_one c0 hc1 (by rw [HCC.out]; exact HB1.out))⟩)
  case rest =>
    obtain ⟨p, q, rfl, rfl, HC⟩ := hcut
    go_wp2_with fail
    refine (HG.out _ (by rw [← HCC.out]; exact HC.out.2.2.2.2.2.2.2.2)).mono ?_
    rintro e w2 ⟨rfl, hb2⟩
    have HC2 := Lib.hid (HC.out.below hb2)
    clear hb2 c0 b1 b2 b3 b4 hc1 hb1 HB1 i1 i2 i3 i6
    obtain ⟨_, e2, e3, e4, e5, _, _, _, _⟩ := HC2.out
    clear e3 e5
    go_wp2_with fail
    go_quiet (first | (go_at_call_of 16 (Value.int IntKind.i64 s); exact Calls.quiet_of_same (S1.out _)) | (go_at_call_of 16 (Value.int IntKind.i64 t1); exact Calls.quiet_of_same (S2.out _)) | (go_at_call_of 16 (Value.int IntKind.i64 t0); exact Calls.quiet_of_same (S3.out _)))
    have HC3 := Lib.hid (HC2.out.drawn nq)
    generalize w2.drewN nq = w3 at *
    clear e2 e4
    have e1 := HC3.out.1
    have hf1 := HF1.out
    go_wp2_with fail
    have hst := fun W m => store_new W m
    refine (HM.out _).mono ?_
    rintro e w4 ⟨rfl, rfl⟩
    go_upto_region 7 with fail
    have HC4 := Lib.hid (cm_mk HC3.out mean)
    generalize w3.alloc (.cells #[.float .f64 mean] 28) = w4 at *
    generalize w3.heap.size = mb at *
    clear e1 hf1 hw1
    have HNB := Lib.hid (fun t v w => number_b t v w)
    go_cut [65] (fun s65 wx => ∃ cc : Bool, s65 = .bool cc ∧ Hid (Tells cc g v0 x3 bg b0) ∧ Hid (Cm w C p q t0 t1 v0 v1 mb mean wx))
    case first =>
      rcases HBG.out with ⟨h1, h2⟩ | ⟨h1, h2, h3⟩ | ⟨h1, h2, h3, h4⟩
      · subst h1
        have HT : Hid (Tells false g v0 x3 bg b0) := (.inl ⟨rfl, h2⟩ : Tells false g v0 x3 bg b0)
        clear h2
        go_wp2_with fail
        go_meet
        exact ⟨false, rfl, HT, HC4⟩
      · subst h1
        have HT : Hid (Tells false g v0 x3 bg b0) := (.inl ⟨rfl, h3⟩ : Tells false g v0 x3 bg b0)
        have h2' : (FloatKind.f64.format.order g 0 == some .gt) = false := h2
        clear h2 h3
        go_wp2_with fail
        go_meet
        exact ⟨false, rfl, HT, HC4⟩
      · subst h1
        have HT : Hid (Tells true g v0 x3 bg b0) := (.inr ⟨rfl, h4⟩ : Tells true g v0 x3 bg b0)
        have h2' : (FloatKind.f64.format.order g 0 == some .gt) = true := h2
        have h3' : (FloatKind.f64.format.order v0 0 == some .gt || FloatKind.f64.format.order v0 0 == some .eq) = true := h3
        clear h2 h3 h4
        have e2 := HC4.out.1.2.1
        have e3 := HC4.out.1.2.2.1
        go_wp2_with fail
        refine (HNB.out _ _ _).mono ?_
        rintro e w5 ⟨rfl, hb5⟩
        have HC5 := Lib.hid (HC4.out.below hb5)
        clear hb5 e2 e3
        go_wp2_with fail
        go_meet
        exact ⟨true, rfl, HT, HC5⟩
    case rest =>
      obtain ⟨cc, rfl, HT, HC5⟩ := hcut
      go_upto_if 65 with fail
      go_cut [16] (fun s16 wx => s16 = .float .f64 bg ∧ Hid (Cm w C p q t0 t1 v0 v1 mb mean wx))
      case first =>
        rcases HT.out with ⟨h1, h2⟩ | ⟨h1, q0, z, h2, h3, h4⟩
        · subst h1
          have H2 := Lib.hid h2
          clear h2
          go_wp2_with fail
          go_meet
          exact ⟨by rw [H2.out], HC5⟩
        · subst h1
          have HO := Lib.hid (fun W => over_is _ _ _ h2 W)
          have HI := Lib.hid (fun W => times_is _ _ _ h3 W)
          have H4 := Lib.hid h4
          clear h2 h3 h4 HT
          have HL0 := Lib.hid (cm_limbs HC5.out.drew)
          obtain ⟨f1, f2, f3, _⟩ := cm_limbs HC5.out
          go_upto_region 8 with fail
          go_cut [20] (fun s20 wx => s20 = .float .f64 z ∧ Hid (Cm w C p q t0 t1 v0 v1 mb mean wx))
          case first =>
            go_region_held3 (fun w' => w'.cell? ⟨C, 0, none⟩ = some (.func (.func 24) #[] #[]) ∧ w'.cell? ⟨p, 0, none⟩ = some (.int .i64 t0) ∧ w'.cell? ⟨p, 1, none⟩ = some (.int .u64 (v0 : Int)) ∧ Hid (Cm w C p q t0 t1 v0 v1 mb mean w'))
              (first | exact HL0.out | exact cm_limbs HC6.out)
              (first
                | (go_at_call 26; refine (HNB.out _ _ _).mono ?_; rintro e w6 ⟨rfl, hb6⟩; have HC6 := Lib.hid (HC5.out.drew.below hb6); clear hb6)
                | (go_at_call 24; refine (HO.out _).mono ?_; rintro e w7 ⟨rfl, rfl⟩)
                | (go_at_call 23; refine (HI.out _).mono ?_; rintro e w8 ⟨rfl, rfl⟩))
            all_goals (go_wp2_with fail; go_meet; exact ⟨rfl, HC6⟩)
          case rest =>
            obtain ⟨rfl, HC7⟩ := hcut
            cases ho : (double.order z b0 == some .lt) with
            | true =>
              have ho' : (FloatKind.f64.format.order z b0 == some .lt) = true := ho
              rw [ho, if_pos rfl] at H4
              clear ho f1 f2 f3
              go_wp2_with fail
              go_meet
              exact ⟨by rw [H4.out], HC7⟩
            | false =>
              have ho' : (FloatKind.f64.format.order z b0 == some .lt) = false := ho
              rw [ho, if_neg (by simp)] at H4
              clear ho f1 f2 f3
              go_wp2_with fail
              go_meet
              exact ⟨by rw [H4.out], HC7⟩
      case rest =>
        obtain ⟨rfl, HC6⟩ := hcut
        have e1 := HC6.out.1.1
        have e2 := HC6.out.2.1
        clear HT HC5
        go_wp2_with fail
        refine (HMO.out _).mono ?_
        rintro e w7 ⟨rfl, rfl⟩
        go_upto_region 12 with fail
        have HC7 := Lib.hid (HC6.out.below ((Below.refl wc.heap.size wc).alloc (Nat.le_refl _) (.cells #[.float .f64 most] 28)))
        have e3 : (wc.alloc (.cells #[.float .f64 most] 28)).cell? ⟨wc.heap.size, 0, none⟩ = some (.float .f64 most) := by rw [World.cell?_alloc_at _ _ _ _ rfl]; rfl
        clear e1 e2
        generalize wc.alloc (.cells #[.float .f64 most] 28) = w8 at *
        generalize wc.heap.size = nb at *
        have e1 := HC7.out.1.1
        have e2 := HC7.out.2.1
        have HRA := Lib.hid (reach_is bg most mean half r1 nb C mb w8 e3 e1 e2 HHA.out HR1.out)
        have HRB := Lib.hid (reach_is x2 most mean half r2 nb C mb w8 e3 e1 e2 HHA.out HR2.out)
        have hs1 := fun (w : World) => run_float_arith (P := Try.prog) (w := w) .add 28 .f64 x3 r1 g1 HG1.out
        have hs2 := fun (w : World) => run_float_arith (P := Try.prog) (w := w) .add 28 .f64 g1 r2 g2 HG2.out
        clear e2 e3 hst
        go_wp2_with fail
        refine (HRA.out).mono ?_
        rintro e w9 ⟨rfl, rfl⟩
        go_wp2_with fail
        refine (HRB.out).mono ?_
        rintro e w9 ⟨rfl, rfl⟩
        go_wp2_with fail
        go_quiet (first | (go_at_call_of 24 (Value.float FloatKind.f64 g2); exact Calls.quiet_of_same (HQ1.out _)) | (go_at_call 24; exact Calls.quiet_of_same (HQ2.out _)) | (go_at_call 23; exact Calls.quiet_of_same (HRE.out _)))
        go_wp2
        go_ret
        exact ⟨rfl, bel_drawn HC7.out.1.2.2.2.2.2.2.2.2 _⟩
end Go.Proofs.Ytmgcigdjnaeiiaa

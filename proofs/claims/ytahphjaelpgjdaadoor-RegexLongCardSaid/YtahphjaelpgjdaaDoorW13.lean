import Derived.Test.YtahphjaelpgjdaaDoorW12
namespace Go.Proofs.YtahphjaelpgjdaaDoor
open Go.RowKit Rx
set_option linter.unusedVariables false

theorem Moves.tz {w w1 : World} {b : Nat} {T F T1 F1 : Value} {l : ByteArray} {m : Mach} {a o : Nat} (h : Moves b T F w T1 F1 w1) (hr : Rdr w b T F l m a o) (ht : TzT w) : TzT w1 := ht.low (h.low hr)
set_option maxRecDepth 100000 in
set_option maxHeartbeats 8000000 in
theorem link_any (b a o fr tq : Nat) (T F : Value) (l : ByteArray) (m : Mach) (w : World) (hr : Rdr w b T F l m a o) (hT : TzT w) (hf : fr < 2 ^ m.follow.length) (hn : m.follow.length ≤ 256) :
    Calls Tryd.prog 73 #[.pointer (some ⟨b, 0, none⟩), setV fr, setV tq] w fun e w' => e = .returned (.tuple #[]) ∧ Rdr w' b T F l (linkM m fr tq) a o ∧ Moves b T F w T F w' := by
  have hfoot : ∀ j, w.heap.size ≤ j → ¬ Foot b T F j := fun j hj hf => by have := (hr.lt_foot hf).1; omega
  have H := Lib.hid (each_83 fr (.pointer (some ⟨w.heap.size, 0, none⟩)) (.pointer (some ⟨w.heap.size + 1 + 1, 0, none⟩))
    (fun j W => Rdr W b T F l ⟨m.takes, linkP tq fr m.follow j⟩ a o ∧ Moves b T F w T F W ∧ Blk W w.heap.size 52 #[.pointer (some ⟨b, 0, none⟩)] ∧ Blk W (w.heap.size + 1 + 1) 61 (setC tq) ∧ TzT W)
    (((w.alloc (.cells #[.pointer (some ⟨b, 0, none⟩)] 52)).alloc (.cells (setC fr) 61)).alloc (.cells (setC tq) 61))
    (fun ob => by
      have h3 : Blk (((w.alloc (.cells #[.pointer (some ⟨b, 0, none⟩)] 52)).alloc (.cells (setC fr) 61)).alloc (.cells (setC tq) 61)) (w.heap.size + 1 + 1) 61 (setC tq) := by
        have := Blk.new ((w.alloc (.cells #[.pointer (some ⟨b, 0, none⟩)] 52)).alloc (.cells (setC fr) 61)) 61 (setC tq)
        rw [World.size_alloc, World.size_alloc] at this
        exact this
      have hm := ((((Moves.refl b T F w).alloc (.cells #[.pointer (some ⟨b, 0, none⟩)] 52)).alloc (.cells (setC fr) 61)).alloc (.cells (setC tq) 61)).alloc ob
      refine ⟨?_, hm, (((Blk.new w 52 #[.pointer (some ⟨b, 0, none⟩)]).alloc _).alloc _).alloc _, h3.alloc _, hm.tz hr hT⟩
      rw [linkP_zero]
      exact (((hr.alloc _).alloc _).alloc _).alloc _)
    (fun j W h => h.2.2.2.2)
    (fun j W hj hbit h => by
      have hjl : j < m.follow.length := bit_lt hf hbit
      have hl := linkP_length tq fr m.follow j
      refine (link1_any b a o j tq w.heap.size (w.heap.size + 1 + 1) T F l _ W h.1 (by rw [hl]; exact hjl) (by rw [hl]; exact hn) h.2.2.1 h.2.2.2.1 (hfoot _ (by omega))).mono ?_
      rintro e w1 ⟨rfl, h1, h2⟩
      refine ⟨rfl, ?_, h.2.1.trans h2, h.2.2.1.moves h2 (hfoot _ (Nat.le_refl _)), h.2.2.2.1.moves h2 (hfoot _ (by omega)), h2.tz h.1 h.2.2.2.2⟩
      rw [linkP_step tq fr m.follow j hbit hjl]
      dsimp only at h1
      rw [linkP_getD tq fr m.follow j hjl] at h1
      exact h1)
    (fun j W hbit h => by
      refine ⟨?_, h.2⟩
      rw [linkP_skip tq fr m.follow j hbit]
      exact h.1))
  have HE := Lib.hid (linkP_end tq fr m.follow 256 hn)
  clear hfoot hr hT hf
  go_enter Tryd.func73, Tryd.ntmps73
  go_wp2_with fail
  refine (H.out).mono ?_
  rintro e w1 ⟨rfl, h1, h2, _⟩
  rw [HE.out] at h1
  have H1 := Lib.hid h1
  have H2 := Lib.hid h2
  clear h1 h2
  go_wp2
  exact bodyPost_end (v := .tuple #[]) (by simp [results, Tryd.results73, go_sem]) rfl ⟨rfl, H1.out, H2.out⟩

/-- two parts in memory -/
abbrev S18 (j0 j1 : Nat) (pe : Bool) (pf pl : Nat) (qe : Bool) (qf ql : Nat) (w' : World) : Prop := w'.cell? ⟨j0, 0, none⟩ = some (.bool pe) ∧ w'.cell? ⟨j0, 1, none⟩ = some (wv pf 0) ∧ w'.cell? ⟨j0, 2, none⟩ = some (wv pf 1) ∧ w'.cell? ⟨j0, 3, none⟩ = some (wv pf 2) ∧ w'.cell? ⟨j0, 4, none⟩ = some (wv pf 3) ∧ w'.cell? ⟨j0, 5, none⟩ = some (wv pl 0) ∧ w'.cell? ⟨j0, 6, none⟩ = some (wv pl 1) ∧ w'.cell? ⟨j0, 7, none⟩ = some (wv pl 2) ∧ w'.cell? ⟨j0, 8, none⟩ = some (wv pl 3) ∧ w'.cell? ⟨j1, 0, none⟩ = some (.bool qe) ∧ w'.cell? ⟨j1, 1, none⟩ = some (wv qf 0) ∧ w'.cell? ⟨j1, 2, none⟩ = some (wv qf 1) ∧ w'.cell? ⟨j1, 3, none⟩ = some (wv qf 2) ∧ w'.cell? ⟨j1, 4, none⟩ = some (wv qf 3) ∧ w'.cell? ⟨j1, 5, none⟩ = some (wv ql 0) ∧ w'.cell? ⟨j1, 6, none⟩ = some (wv ql 1) ∧ w'.cell? ⟨j1, 7, none⟩ = some (wv ql 2) ∧ w'.cell? ⟨j1, 8, none⟩ = some (wv ql 3)
theorem s18_below {j0 j1 : Nat} {pe : Bool} {pf pl : Nat} {qe : Bool} {qf ql : Nat} {w w1 : World} (h : S18 j0 j1 pe pf pl qe qf ql w) (hb : Below w.heap.size w w1) : S18 j0 j1 pe pf pl qe qf ql w1 := by
  obtain ⟨h0, h1, h2, h3, h4, h5, h6, h7, h8, h9, h10, h11, h12, h13, h14, h15, h16, h17⟩ := h
  exact ⟨below_cell hb h0, below_cell hb h1, below_cell hb h2, below_cell hb h3, below_cell hb h4, below_cell hb h5, below_cell hb h6, below_cell hb h7, below_cell hb h8, below_cell hb h9, below_cell hb h10, below_cell hb h11, below_cell hb h12, below_cell hb h13, below_cell hb h14, below_cell hb h15, below_cell hb h16, below_cell hb h17⟩
theorem kept9 {w : World} {a : Addr} {v : Value} {g : Nat} {v0 v1 v2 v3 v4 v5 v6 v7 v8 : Value} (h : w.cell? a = some v) (hn : a.block ≠ g) : (put9 w g v0 v1 v2 v3 v4 v5 v6 v7 v8).cell? a = some v := by
  have e : ∀ x, (⟨g, x, none⟩ : Addr) ≠ a := fun x he => hn (by rw [← he])
  unfold put9
  rw [World.cell?_setCell_other _ _ _ _ (e 8), World.cell?_setCell_other _ _ _ _ (e 7), World.cell?_setCell_other _ _ _ _ (e 6), World.cell?_setCell_other _ _ _ _ (e 5), World.cell?_setCell_other _ _ _ _ (e 4), World.cell?_setCell_other _ _ _ _ (e 3), World.cell?_setCell_other _ _ _ _ (e 2), World.cell?_setCell_other _ _ _ _ (e 1), World.cell?_setCell_other _ _ _ _ (e 0)]
  exact h
theorem s18_put9 {j0 j1 j : Nat} {pe : Bool} {pf pl : Nat} {qe : Bool} {qf ql : Nat} {w : World} (h : S18 j0 j1 pe pf pl qe qf ql w) (h0 : j0 ≠ j) (h1 : j1 ≠ j) (v0 v1 v2 v3 v4 v5 v6 v7 v8 : Value) : S18 j0 j1 pe pf pl qe qf ql (put9 w j v0 v1 v2 v3 v4 v5 v6 v7 v8) := by
  obtain ⟨k0, k1, k2, k3, k4, k5, k6, k7, k8, k9, k10, k11, k12, k13, k14, k15, k16, k17⟩ := h
  exact ⟨kept9 k0 h0, kept9 k1 h0, kept9 k2 h0, kept9 k3 h0, kept9 k4 h0, kept9 k5 h0, kept9 k6 h0, kept9 k7 h0, kept9 k8 h0, kept9 k9 h1, kept9 k10 h1, kept9 k11 h1, kept9 k12 h1, kept9 k13 h1, kept9 k14 h1, kept9 k15 h1, kept9 k16 h1, kept9 k17 h1⟩
theorem s18_of {j0 j1 : Nat} {pe : Bool} {pf pl : Nat} {qe : Bool} {qf ql : Nat} {w : World} (h0 : Blk w j0 85 (pcC ⟨pe, pf, pl⟩)) (h1 : Blk w j1 85 (pcC ⟨qe, qf, ql⟩)) : S18 j0 j1 pe pf pl qe qf ql w :=
  ⟨h0.cell 0, h0.cell 1, h0.cell 2, h0.cell 3, h0.cell 4, h0.cell 5, h0.cell 6, h0.cell 7, h0.cell 8, h1.cell 0, h1.cell 1, h1.cell 2, h1.cell 3, h1.cell 4, h1.cell 5, h1.cell 6, h1.cell 7, h1.cell 8⟩
theorem frozen9 {w : World} {g : Nat} {t : TypeId} {cs : Array Value} (h : Blk w g t cs) : w.frozen? ⟨g, 0, none⟩ = false ∧ w.frozen? ⟨g, 1, none⟩ = false ∧ w.frozen? ⟨g, 2, none⟩ = false ∧ w.frozen? ⟨g, 3, none⟩ = false ∧ w.frozen? ⟨g, 4, none⟩ = false ∧ w.frozen? ⟨g, 5, none⟩ = false ∧ w.frozen? ⟨g, 6, none⟩ = false ∧ w.frozen? ⟨g, 7, none⟩ = false ∧ w.frozen? ⟨g, 8, none⟩ = false :=
  ⟨h.frozen 0, h.frozen 1, h.frozen 2, h.frozen 3, h.frozen 4, h.frozen 5, h.frozen 6, h.frozen 7, h.frozen 8⟩
theorem cells9 {w : World} {g : Nat} {t : TypeId} {v0 v1 v2 v3 v4 v5 v6 v7 v8 : Value} (h : Blk w g t #[v0, v1, v2, v3, v4, v5, v6, v7, v8]) : w.cell? ⟨g, 0, none⟩ = some v0 ∧ w.cell? ⟨g, 1, none⟩ = some v1 ∧ w.cell? ⟨g, 2, none⟩ = some v2 ∧ w.cell? ⟨g, 3, none⟩ = some v3 ∧ w.cell? ⟨g, 4, none⟩ = some v4 ∧ w.cell? ⟨g, 5, none⟩ = some v5 ∧ w.cell? ⟨g, 6, none⟩ = some v6 ∧ w.cell? ⟨g, 7, none⟩ = some v7 ∧ w.cell? ⟨g, 8, none⟩ = some v8 :=
  ⟨h.cell 0, h.cell 1, h.cell 2, h.cell 3, h.cell 4, h.cell 5, h.cell 6, h.cell 7, h.cell 8⟩
abbrev zero9 : Array Value := #[.bool false, .int .u64 0, .int .u64 0, .int .u64 0, .int .u64 0, .int .u64 0, .int .u64 0, .int .u64 0, .int .u64 0]
theorem below_of {B : Nat} {w w' : World} (h1 : w'.os = w.os) (h2 : w'.tape = w.tape) (h3 : w'.output = w.output) (h4 : w.heap.size ≤ w'.heap.size) (h5 : ∀ k, k < B → w'.heap[k]? = w.heap[k]?) : Below B w w' := ⟨h1, h2, h3, h4, h5⟩
theorem below9 {B : Nat} {w0 w : World} (h : Below B w0 w) {j : Nat} (hj : B ≤ j) (v0 v1 v2 v3 v4 v5 v6 v7 v8 : Value) : Below B w0 (put9 w j v0 v1 v2 v3 v4 v5 v6 v7 v8) :=
  (((((((((h.setCell (p := ⟨j, 0, none⟩) hj v0).setCell (p := ⟨j, 1, none⟩) hj v1).setCell (p := ⟨j, 2, none⟩) hj v2).setCell (p := ⟨j, 3, none⟩) hj v3).setCell (p := ⟨j, 4, none⟩) hj v4).setCell (p := ⟨j, 5, none⟩) hj v5).setCell (p := ⟨j, 6, none⟩) hj v6).setCell (p := ⟨j, 7, none⟩) hj v7).setCell (p := ⟨j, 8, none⟩) hj v8)
set_option maxRecDepth 100000 in
set_option maxHeartbeats 8000000 in
theorem either_any (b : Nat) (p q : Pc) (w : World) :
    Calls Tryd.prog 52 #[.pointer (some ⟨b, 0, none⟩), pcV p, pcV q] w fun e w' => e = .returned (pcV (eitherP p q)) ∧ Below w.heap.size w w' := by
  obtain ⟨pe, pf, pl⟩ := p
  obtain ⟨qe, qf, ql⟩ := q
  have H1 := Lib.hid (fun W => with_any pf qf W)
  have H2 := Lib.hid (fun W => with_any pl ql W)
  have b0 : Blk (((w.alloc (.cells (pcC ⟨pe, pf, pl⟩) 85)).alloc (.cells (pcC ⟨qe, qf, ql⟩) 85)).alloc (.cells zero9 85)) w.heap.size 85 (pcC ⟨pe, pf, pl⟩) := ((Blk.new w 85 _).alloc _).alloc _
  have b1 : Blk (((w.alloc (.cells (pcC ⟨pe, pf, pl⟩) 85)).alloc (.cells (pcC ⟨qe, qf, ql⟩) 85)).alloc (.cells zero9 85)) (w.heap.size + 1) 85 (pcC ⟨qe, qf, ql⟩) := by
    have := (Blk.new (w.alloc (.cells (pcC ⟨pe, pf, pl⟩) 85)) 85 (pcC ⟨qe, qf, ql⟩)).alloc (.cells zero9 85)
    rw [World.size_alloc] at this
    exact this
  have b2 : Blk (((w.alloc (.cells (pcC ⟨pe, pf, pl⟩) 85)).alloc (.cells (pcC ⟨qe, qf, ql⟩) 85)).alloc (.cells zero9 85)) (w.heap.size + 1 + 1) 85 zero9 := by
    have := Blk.new ((w.alloc (.cells (pcC ⟨pe, pf, pl⟩) 85)).alloc (.cells (pcC ⟨qe, qf, ql⟩) 85)) 85 zero9
    rw [World.size_alloc, World.size_alloc] at this
    exact this
  have HS := Lib.hid (s18_of b0 b1)
  have hbl : Below w.heap.size w (((w.alloc (.cells (pcC ⟨pe, pf, pl⟩) 85)).alloc (.cells (pcC ⟨qe, qf, ql⟩) 85)).alloc (.cells zero9 85)) := (((Below.refl _ _).alloc (Nat.le_refl _) _).alloc (by simp) _).alloc (by simp; omega) _
  have HBL := Lib.hid hbl
  have HZ := Lib.hid b2
  clear b0 b1 b2 hbl
  cases pe with
  | false =>
    go_enter Tryd.func52, Tryd.ntmps52
    go_wp2_with fail
    generalize hW : (((w.alloc (.cells (pcC _) 85)).alloc (.cells (pcC _) 85)).alloc (.cells zero9 85)) = W at *
    clear hW
    go_region_held3 (fun w' => w'.cell? ⟨w.heap.size, 0, none⟩ = some (.bool false) ∧ w'.cell? ⟨w.heap.size, 1, none⟩ = some (wv pf 0) ∧ w'.cell? ⟨w.heap.size, 2, none⟩ = some (wv pf 1) ∧ w'.cell? ⟨w.heap.size, 3, none⟩ = some (wv pf 2) ∧ w'.cell? ⟨w.heap.size, 4, none⟩ = some (wv pf 3) ∧ w'.cell? ⟨w.heap.size, 5, none⟩ = some (wv pl 0) ∧ w'.cell? ⟨w.heap.size, 6, none⟩ = some (wv pl 1) ∧ w'.cell? ⟨w.heap.size, 7, none⟩ = some (wv pl 2) ∧ w'.cell? ⟨w.heap.size, 8, none⟩ = some (wv pl 3) ∧ w'.cell? ⟨w.heap.size + 1, 0, none⟩ = some (.bool qe) ∧ w'.cell? ⟨w.heap.size + 1, 1, none⟩ = some (wv qf 0) ∧ w'.cell? ⟨w.heap.size + 1, 2, none⟩ = some (wv qf 1) ∧ w'.cell? ⟨w.heap.size + 1, 3, none⟩ = some (wv qf 2) ∧ w'.cell? ⟨w.heap.size + 1, 4, none⟩ = some (wv qf 3) ∧ w'.cell? ⟨w.heap.size + 1, 5, none⟩ = some (wv ql 0) ∧ w'.cell? ⟨w.heap.size + 1, 6, none⟩ = some (wv ql 1) ∧ w'.cell? ⟨w.heap.size + 1, 7, none⟩ = some (wv ql 2) ∧ w'.cell? ⟨w.heap.size + 1, 8, none⟩ = some (wv ql 3))
      (first | with_reducible exact HSn.out | with_reducible exact s18_put9 HSn.out (by omega) (by omega) _ _ _ _ _ _ _ _ _ | exact HS.out | go_keep)
      (first
        | (go_at_call 40; refine (with_any _ _ _).mono ?_; rintro e wn ⟨rfl, hb⟩
           first | have HSn := Lib.hid (s18_below HSn.out hb) | have HSn := Lib.hid (s18_below (by exact HS.out) hb)
           first | have HZn := Lib.hid (HZn.out.below hb) | have HZn := Lib.hid (Blk.below (by exact HZ.out) hb)
           first | have HBn := Lib.hid (HBn.out.trans (hb.mono HBn.out.size)) | have HBn := Lib.hid (HBL.out.trans (below_of hb.os hb.tape hb.output hb.size (fun k hk => hb.block k (Nat.lt_of_lt_of_le hk HBL.out.size))))
           obtain ⟨z0, z1, z2, z3, z4, z5, z6, z7, z8⟩ := cells9 HZn.out
           obtain ⟨f0, f1, f2, f3, f4, f5, f6, f7, f8⟩ := frozen9 HZn.out
           clear hb))
    all_goals
      go_wp2
      refine bodyPost_ret (v := pcV (eitherP ⟨false, pf, pl⟩ ⟨qe, qf, ql⟩)) (by simp [results, Tryd.results52, go_sem, eitherP, z0, z1, z2, z3, z4, z5, z6, z7, z8]) rfl ⟨rfl, below9 HBn.out (by omega) _ _ _ _ _ _ _ _ _⟩
  | true =>
    go_enter Tryd.func52, Tryd.ntmps52
    go_wp2_with fail
    generalize hW : (((w.alloc (.cells (pcC _) 85)).alloc (.cells (pcC _) 85)).alloc (.cells zero9 85)) = W at *
    clear hW
    refine wp_region_held_drew (S := (fun w' => w'.cell? ⟨w.heap.size, 0, none⟩ = some (.bool true) ∧ w'.cell? ⟨w.heap.size, 1, none⟩ = some (wv pf 0) ∧ w'.cell? ⟨w.heap.size, 2, none⟩ = some (wv pf 1) ∧ w'.cell? ⟨w.heap.size, 3, none⟩ = some (wv pf 2) ∧ w'.cell? ⟨w.heap.size, 4, none⟩ = some (wv pf 3) ∧ w'.cell? ⟨w.heap.size, 5, none⟩ = some (wv pl 0) ∧ w'.cell? ⟨w.heap.size, 6, none⟩ = some (wv pl 1) ∧ w'.cell? ⟨w.heap.size, 7, none⟩ = some (wv pl 2) ∧ w'.cell? ⟨w.heap.size, 8, none⟩ = some (wv pl 3) ∧ w'.cell? ⟨w.heap.size + 1, 0, none⟩ = some (.bool qe) ∧ w'.cell? ⟨w.heap.size + 1, 1, none⟩ = some (wv qf 0) ∧ w'.cell? ⟨w.heap.size + 1, 2, none⟩ = some (wv qf 1) ∧ w'.cell? ⟨w.heap.size + 1, 3, none⟩ = some (wv qf 2) ∧ w'.cell? ⟨w.heap.size + 1, 4, none⟩ = some (wv qf 3) ∧ w'.cell? ⟨w.heap.size + 1, 5, none⟩ = some (wv ql 0) ∧ w'.cell? ⟨w.heap.size + 1, 6, none⟩ = some (wv ql 1) ∧ w'.cell? ⟨w.heap.size + 1, 7, none⟩ = some (wv ql 2) ∧ w'.cell? ⟨w.heap.size + 1, 8, none⟩ = some (wv ql 3))) (by kernel_rfl) (by exact HS.out) (fun hHeld => ?_)
    refine wpAnyH_take (i := 0) (oi := { dst := some 7, op := Op.fieldAddr 85 (Operand.tmp 4) 0, type := 0, pos := "machine.go:48", after := #[], guard := none }) (v := ?vv0) rfl (by kernel_rfl) (by kernel_rfl) (by kernel_rfl) (fun _ _ _ h => h) (Or.inl ⟨by rfl, ?hy0⟩) (by assumption) ?more0
    case hy0 => (intro w' hSw; (try dsimp only at hSw); go_simp; try with_reducible rfl)
    try simp only [Act.put, List.setIfInBounds_toArray, List.set_cons_zero, List.set_cons_succ]
    refine wpAnyH_take (i := 1) (oi := { dst := some 8, op := Op.load 4 (Operand.tmp 7), type := 4, pos := "machine.go:48", after := #[{ on := 0, ground := Ground.data }], guard := none }) (v := ?vv1) rfl (by kernel_rfl) (by kernel_rfl) (by kernel_rfl) (fun _ _ _ h => h) (Or.inl ⟨by rfl, ?hy1⟩) (by assumption) ?more1
    case hy1 => (intro w' hSw; (try dsimp only at hSw); go_simp; try with_reducible rfl)
    try simp only [Act.put, List.setIfInBounds_toArray, List.set_cons_zero, List.set_cons_succ]
    refine wpAnyH_take (i := 2) (oi := { dst := some 9, op := Op.move (Operand.tmp 8), type := 4, pos := "machine.go:48", after := #[{ on := 1, ground := Ground.data }], guard := none }) (v := ?vv2) rfl (by kernel_rfl) (by kernel_rfl) (by kernel_rfl) (fun _ _ _ h => h) (Or.inl ⟨by rfl, ?hy2⟩) (by assumption) ?more2
    case hy2 => (intro w' hSw; (try dsimp only at hSw); go_simp; try with_reducible rfl)
    try simp only [Act.put, List.setIfInBounds_toArray, List.set_cons_zero, List.set_cons_succ]
    refine wpAnyH_take (i := 3) (oi := { dst := some 10, op := Op.fieldAddr 85 (Operand.tmp 5) 0, type := 0, pos := "machine.go:48", after := #[{ on := 2, ground := Ground.guard }], guard := some (2, false) }) (v := undef) rfl (by kernel_rfl) (by kernel_rfl) (by kernel_rfl) (fun _ _ _ h => h) (Or.inr ⟨by rfl, rfl⟩) (by assumption) ?_
    try simp only [Act.put, List.setIfInBounds_toArray, List.set_cons_zero, List.set_cons_succ]
    refine wpAnyH_take (i := 4) (oi := { dst := some 11, op := Op.load 4 (Operand.tmp 10), type := 4, pos := "machine.go:48", after := #[{ on := 3, ground := Ground.data }, { on := 2, ground := Ground.guard }], guard := some (2, false) }) (v := undef) rfl (by kernel_rfl) (by kernel_rfl) (by kernel_rfl) (fun _ _ _ h => h) (Or.inr ⟨by rfl, rfl⟩) (by assumption) ?_
    try simp only [Act.put, List.setIfInBounds_toArray, List.set_cons_zero, List.set_cons_succ]
    refine wpAnyH_take (i := 5) (oi := { dst := some 12, op := Op.pick (Operand.tmp 9) (Operand.const (Value.bool true)) (Operand.tmp 11), type := 4, pos := "machine.go:48", after := #[{ on := 2, ground := Ground.data }, { on := 4, ground := Ground.data }], guard := none }) (v := ?vv5) rfl (by kernel_rfl) (by kernel_rfl) (by kernel_rfl) (fun _ _ _ h => h) (Or.inl ⟨by rfl, ?hy5⟩) (by assumption) ?more5
    case hy5 => (intro w' hSw; (try dsimp only at hSw); go_simp; try with_reducible rfl)
    try simp only [Act.put, List.setIfInBounds_toArray, List.set_cons_zero, List.set_cons_succ]
    refine wpAnyH_take (i := 6) (oi := { dst := some 13, op := Op.fieldAddr 85 (Operand.tmp 4) 1, type := 0, pos := "machine.go:48", after := #[], guard := none }) (v := ?vv6) rfl (by kernel_rfl) (by kernel_rfl) (by kernel_rfl) (fun _ _ _ h => h) (Or.inl ⟨by rfl, ?hy6⟩) (by assumption) ?more6
    case hy6 => (intro w' hSw; (try dsimp only at hSw); go_simp; try with_reducible rfl)
    try simp only [Act.put, List.setIfInBounds_toArray, List.set_cons_zero, List.set_cons_succ]
    refine wpAnyH_take (i := 7) (oi := { dst := some 14, op := Op.load 61 (Operand.tmp 13), type := 61, pos := "machine.go:48", after := #[{ on := 6, ground := Ground.data }], guard := none }) (v := ?vv7) rfl (by kernel_rfl) (by kernel_rfl) (by kernel_rfl) (fun _ _ _ h => h) (Or.inl ⟨by rfl, ?hy7⟩) (by assumption) ?more7
    case hy7 => (intro w' hSw; (try dsimp only at hSw); go_simp; try with_reducible rfl)
    try simp only [Act.put, List.setIfInBounds_toArray, List.set_cons_zero, List.set_cons_succ]
    refine wpAnyH_take (i := 8) (oi := { dst := some 15, op := Op.fieldAddr 85 (Operand.tmp 5) 1, type := 0, pos := "machine.go:48", after := #[], guard := none }) (v := ?vv8) rfl (by kernel_rfl) (by kernel_rfl) (by kernel_rfl) (fun _ _ _ h => h) (Or.inl ⟨by rfl, ?hy8⟩) (by assumption) ?more8
    case hy8 => (intro w' hSw; (try dsimp only at hSw); go_simp; try with_reducible rfl)
    try simp only [Act.put, List.setIfInBounds_toArray, List.set_cons_zero, List.set_cons_succ]
    refine wpAnyH_take (i := 9) (oi := { dst := some 16, op := Op.load 61 (Operand.tmp 15), type := 61, pos := "machine.go:48", after := #[{ on := 8, ground := Ground.data }], guard := none }) (v := ?vv9) rfl (by kernel_rfl) (by kernel_rfl) (by kernel_rfl) (fun _ _ _ h => h) (Or.inl ⟨by rfl, ?hy9⟩) (by assumption) ?more9
    case hy9 => (intro w' hSw; (try dsimp only at hSw); go_simp; try with_reducible rfl)
    try simp only [Act.put, List.setIfInBounds_toArray, List.set_cons_zero, List.set_cons_succ]
    refine wpAnyH_take (i := 11) (oi := { dst := some 18, op := Op.fieldAddr 85 (Operand.tmp 4) 2, type := 0, pos := "machine.go:48", after := #[], guard := none }) (v := ?vv11) rfl (by kernel_rfl) (by kernel_rfl) (by kernel_rfl) (fun _ _ _ h => h) (Or.inl ⟨by rfl, ?hy11⟩) (by assumption) ?more11
    case hy11 => (intro w' hSw; (try dsimp only at hSw); go_simp; try with_reducible rfl)
    try simp only [Act.put, List.setIfInBounds_toArray, List.set_cons_zero, List.set_cons_succ]
    refine wpAnyH_take (i := 12) (oi := { dst := some 19, op := Op.load 61 (Operand.tmp 18), type := 61, pos := "machine.go:48", after := #[{ on := 11, ground := Ground.data }], guard := none }) (v := ?vv12) rfl (by kernel_rfl) (by kernel_rfl) (by kernel_rfl) (fun _ _ _ h => h) (Or.inl ⟨by rfl, ?hy12⟩) (by assumption) ?more12
    case hy12 => (intro w' hSw; (try dsimp only at hSw); go_simp; try with_reducible rfl)
    try simp only [Act.put, List.setIfInBounds_toArray, List.set_cons_zero, List.set_cons_succ]
    refine wpAnyH_take (i := 13) (oi := { dst := some 20, op := Op.fieldAddr 85 (Operand.tmp 5) 2, type := 0, pos := "machine.go:48", after := #[], guard := none }) (v := ?vv13) rfl (by kernel_rfl) (by kernel_rfl) (by kernel_rfl) (fun _ _ _ h => h) (Or.inl ⟨by rfl, ?hy13⟩) (by assumption) ?more13
    case hy13 => (intro w' hSw; (try dsimp only at hSw); go_simp; try with_reducible rfl)
    try simp only [Act.put, List.setIfInBounds_toArray, List.set_cons_zero, List.set_cons_succ]
    refine wpAnyH_take (i := 14) (oi := { dst := some 21, op := Op.load 61 (Operand.tmp 20), type := 61, pos := "machine.go:48", after := #[{ on := 13, ground := Ground.data }], guard := none }) (v := ?vv14) rfl (by kernel_rfl) (by kernel_rfl) (by kernel_rfl) (fun _ _ _ h => h) (Or.inl ⟨by rfl, ?hy14⟩) (by assumption) ?more14
    case hy14 => (intro w' hSw; (try dsimp only at hSw); go_simp; try with_reducible rfl)
    try simp only [Act.put, List.setIfInBounds_toArray, List.set_cons_zero, List.set_cons_succ]
    refine wpAnyH_ready (rs := [10]) (by kernel_rfl) (by simp) (AllReadyH.cons (o := { dst := some 17, op := Op.call { callee := Callee.value (Operand.func 40), args := #[Operand.tmp 14, Operand.tmp 16], argTypes := #[61, 61] }, type := 61, pos := "machine.go:48", after := #[{ on := 7, ground := Ground.data }, { on := 9, ground := Ground.data }, { on := 2, ground := Ground.chain }], guard := none }) rfl (fun K hK => ?_) AllReadyH.nil)
    go_simp
    go_at_call 40
    refine (with_any _ _ _).mono ?_
    rintro e wn ⟨rfl, hb⟩
    have HSn := Lib.hid (s18_below (by exact HS.out) hb)
    have HZn := Lib.hid (Blk.below (by exact HZ.out) hb)
    have HBn := Lib.hid (HBL.out.trans (below_of hb.os hb.tape hb.output hb.size (fun k hk => hb.block k (Nat.lt_of_lt_of_le hk HBL.out.size))))
    clear hb
    go_wp2_with fail
    refine hK.out _ _ (by with_reducible exact HSn.out) (fun hHeld => ?_)
    clear hK K
    try simp only [Act.put, List.setIfInBounds_toArray, List.set_cons_zero, List.set_cons_succ]
    refine wpAnyH_ready (rs := [15]) (by kernel_rfl) (by simp) (AllReadyH.cons (o := { dst := some 22, op := Op.call { callee := Callee.value (Operand.func 40), args := #[Operand.tmp 19, Operand.tmp 21], argTypes := #[61, 61] }, type := 61, pos := "machine.go:48", after := #[{ on := 12, ground := Ground.data }, { on := 14, ground := Ground.data }, { on := 10, ground := Ground.chain }], guard := none }) rfl (fun K hK => ?_) AllReadyH.nil)
    go_simp
    go_at_call 40
    refine (with_any _ _ _).mono ?_
    rintro e wn ⟨rfl, hb⟩
    have HSn := Lib.hid (s18_below HSn.out hb)
    have HZn := Lib.hid (HZn.out.below hb)
    have HBn := Lib.hid (HBn.out.trans (hb.mono HBn.out.size))
    obtain ⟨z0, z1, z2, z3, z4, z5, z6, z7, z8⟩ := cells9 HZn.out
    obtain ⟨f0, f1, f2, f3, f4, f5, f6, f7, f8⟩ := frozen9 HZn.out
    clear hb
    go_wp2_with fail
    refine hK.out _ _ (by with_reducible exact HSn.out) (fun hHeld => ?_)
    clear hK K
    try simp only [Act.put, List.setIfInBounds_toArray, List.set_cons_zero, List.set_cons_succ]
    refine wpAnyH_take (i := 16) (oi := { dst := some 23, op := Op.build 85 #[(0, Operand.tmp 12), (1, Operand.tmp 17), (2, Operand.tmp 22)], type := 85, pos := "machine.go:48", after := #[{ on := 5, ground := Ground.data }, { on := 10, ground := Ground.data }, { on := 15, ground := Ground.data }], guard := none }) (v := ?vv16) rfl (by kernel_rfl) (by kernel_rfl) (by kernel_rfl) (fun _ _ _ h => h) (Or.inl ⟨by rfl, ?hy16⟩) (by assumption) ?more16
    case hy16 => (intro w' hSw; (try dsimp only at hSw); go_simp; try with_reducible rfl)
    try simp only [Act.put, List.setIfInBounds_toArray, List.set_cons_zero, List.set_cons_succ]
    refine wpAnyH_ready (rs := [17]) (by kernel_rfl) (by simp) (AllReadyH.cons (o := { dst := none, op := Op.store 85 (Operand.tmp 6) (Operand.tmp 23), type := 0, pos := "machine.go:48", after := #[{ on := 16, ground := Ground.data }, { on := 15, ground := Ground.chain }, { on := 0, ground := Ground.phase }, { on := 1, ground := Ground.phase }, { on := 2, ground := Ground.phase }, { on := 3, ground := Ground.phase }, { on := 4, ground := Ground.phase }, { on := 5, ground := Ground.phase }, { on := 6, ground := Ground.phase }, { on := 7, ground := Ground.phase }, { on := 8, ground := Ground.phase }, { on := 9, ground := Ground.phase }, { on := 10, ground := Ground.phase }, { on := 11, ground := Ground.phase }, { on := 12, ground := Ground.phase }, { on := 13, ground := Ground.phase }, { on := 14, ground := Ground.phase }, { on := 15, ground := Ground.phase }, { on := 16, ground := Ground.phase }], guard := none }) rfl (fun K hK => ?_) AllReadyH.nil)
    go_simp
    refine hK.out _ _ (by with_reducible exact s18_put9 HSn.out (by omega) (by omega) _ _ _ _ _ _ _ _ _) (fun hHeld2 => ?_)
    clear hK K
    try simp only [Act.put, List.setIfInBounds_toArray, List.set_cons_zero, List.set_cons_succ]
    refine wpAnyH_done (by kernel_rfl) ?_ _
    all_goals
      go_wp2
      refine bodyPost_ret (v := pcV (eitherP ⟨true, pf, pl⟩ ⟨qe, qf, ql⟩)) (by simp [results, Tryd.results52, go_sem, eitherP, z0, z1, z2, z3, z4, z5, z6, z7, z8]) rfl ⟨rfl, below9 HBn.out (by omega) _ _ _ _ _ _ _ _ _⟩
end Go.Proofs.YtahphjaelpgjdaaDoor

/- Lemmas. No condition. -/
import Derived.Test.YtmodehfedhgcbaaGreatDoorKWc
import Derived.StillTailTactics
namespace Go.Proofs.YtmodehfedhgcbaaGreatDoor.Rg
open Go.RowKit Rx
set_option linter.unusedVariables false

theorem Moves.tz {w w1 : World} {b : Nat} {T F T1 F1 : Value} {l : ByteArray} {m : Mach} {a o : Nat} (h : Moves b T F w T1 F1 w1) (hr : Rdr w b T F l m a o) (ht : TzT w) : TzT w1 := ht.low (h.low hr)
set_option maxRecDepth 100000 in
set_option maxHeartbeats 8000000 in
theorem link_any (b a o fr tq : Nat) (T F : Value) (l : ByteArray) (m : Mach) (w : World) (hr : Rdr w b T F l m a o) (hT : TzT w) (hf : fr < 2 ^ m.follow.length) (hn : m.follow.length ≤ 256) :
    Calls Tryz.prog 132 #[.pointer (some ⟨b, 0, none⟩), setV fr, setV tq] w fun e w' => e = .returned (.tuple #[]) ∧ Rdr w' b T F l (linkM m fr tq) a o ∧ Moves b T F w T F w' := by
  have hfoot : ∀ j, w.heap.size ≤ j → ¬ Foot b T F j := fun j hj hf => by have := (hr.lt_foot hf).1; omega
  have H := Lib.hid (each_83 fr (.pointer (some ⟨w.heap.size, 0, none⟩)) (.pointer (some ⟨w.heap.size + 1 + 1, 0, none⟩))
    (fun j W => Rdr W b T F l ⟨m.takes, linkP tq fr m.follow j⟩ a o ∧ Moves b T F w T F W ∧ Blk W w.heap.size 122 #[.pointer (some ⟨b, 0, none⟩)] ∧ Blk W (w.heap.size + 1 + 1) 136 (setC tq) ∧ TzT W)
    (((w.alloc (.cells #[.pointer (some ⟨b, 0, none⟩)] 122)).alloc (.cells (setC fr) 136)).alloc (.cells (setC tq) 136))
    (fun ob => by
      have h3 : Blk (((w.alloc (.cells #[.pointer (some ⟨b, 0, none⟩)] 122)).alloc (.cells (setC fr) 136)).alloc (.cells (setC tq) 136)) (w.heap.size + 1 + 1) 136 (setC tq) := by
        have := Blk.new ((w.alloc (.cells #[.pointer (some ⟨b, 0, none⟩)] 122)).alloc (.cells (setC fr) 136)) 136 (setC tq)
        rw [World.size_alloc, World.size_alloc] at this
        exact this
      have hm := ((((Moves.refl b T F w).alloc (.cells #[.pointer (some ⟨b, 0, none⟩)] 122)).alloc (.cells (setC fr) 136)).alloc (.cells (setC tq) 136)).alloc ob
      refine ⟨?_, hm, (((Blk.new w 122 #[.pointer (some ⟨b, 0, none⟩)]).alloc _).alloc _).alloc _, h3.alloc _, hm.tz hr hT⟩
      rw [linkP_zero]
      exact (((hr.alloc _).alloc _).alloc _).alloc _)
    (fun j W h => h.2.2.2.2)
    (fun j W hj hbit h => by
      have hjl : j < m.follow.length := bit_lt hf hbit
      have hl := linkP_length tq fr m.follow j
      refine (link1_any b a o j tq w.heap.size (w.heap.size + 1 + 1) T F l _ W h.1 (by rw [hl]; exact hjl) (by rw [hl]; exact hn) h.2.2.1 h.2.2.2.1 (hfoot _ (by omega))).mono ?_
      rintro e w1 ⟨rfl, h1, h2⟩
      refine ⟨rfl, ?_, h.2.1.trans h2, h.2.2.1.moves h2 (hfoot _ (Nat.le_refl _)), h.2.2.2.1.moves h2 (hfoot _ (by omega)), h2.tz h.1 h.2.2.2.2⟩
      rw [linkP_step tq fr m.follow j hbit hjl]
      dsimp only at h1
      rw [linkP_getD tq fr m.follow j hjl] at h1
      exact h1)
    (fun j W hbit h => by
      refine ⟨?_, h.2⟩
      rw [linkP_skip tq fr m.follow j hbit]
      exact h.1))
  have HE := Lib.hid (linkP_end tq fr m.follow 256 hn)
  clear hfoot hr hT hf
  go_enter Tryz.func132, Tryz.ntmps132
  go_wp2_with fail
  refine (H.out).mono ?_
  rintro e w1 ⟨rfl, h1, h2, _⟩
  rw [HE.out] at h1
  have H1 := Lib.hid h1
  have H2 := Lib.hid h2
  clear h1 h2
  go_wp2
  exact bodyPost_end (v := .tuple #[]) (by simp [results, Tryz.results132, go_sem]) rfl ⟨rfl, H1.out, H2.out⟩

/-- two parts in memory -/
abbrev S18 (j0 j1 : Nat) (pe : Bool) (pf pl : Nat) (qe : Bool) (qf ql : Nat) (w' : World) : Prop := w'.cell? ⟨j0, 0, none⟩ = some (.bool pe) ∧ w'.cell? ⟨j0, 1, none⟩ = some (wv pf 0) ∧ w'.cell? ⟨j0, 2, none⟩ = some (wv pf 1) ∧ w'.cell? ⟨j0, 3, none⟩ = some (wv pf 2) ∧ w'.cell? ⟨j0, 4, none⟩ = some (wv pf 3) ∧ w'.cell? ⟨j0, 5, none⟩ = some (wv pl 0) ∧ w'.cell? ⟨j0, 6, none⟩ = some (wv pl 1) ∧ w'.cell? ⟨j0, 7, none⟩ = some (wv pl 2) ∧ w'.cell? ⟨j0, 8, none⟩ = some (wv pl 3) ∧ w'.cell? ⟨j1, 0, none⟩ = some (.bool qe) ∧ w'.cell? ⟨j1, 1, none⟩ = some (wv qf 0) ∧ w'.cell? ⟨j1, 2, none⟩ = some (wv qf 1) ∧ w'.cell? ⟨j1, 3, none⟩ = some (wv qf 2) ∧ w'.cell? ⟨j1, 4, none⟩ = some (wv qf 3) ∧ w'.cell? ⟨j1, 5, none⟩ = some (wv ql 0) ∧ w'.cell? ⟨j1, 6, none⟩ = some (wv ql 1) ∧ w'.cell? ⟨j1, 7, none⟩ = some (wv ql 2) ∧ w'.cell? ⟨j1, 8, none⟩ = some (wv ql 3)
theorem s18_below {j0 j1 : Nat} {pe : Bool} {pf pl : Nat} {qe : Bool} {qf ql : Nat} {w w1 : World} (h : S18 j0 j1 pe pf pl qe qf ql w) (hb : Below w.heap.size w w1) : S18 j0 j1 pe pf pl qe qf ql w1 := by
  obtain ⟨h0, h1, h2, h3, h4, h5, h6, h7, h8, h9, h10, h11, h12, h13, h14, h15, h16, h17⟩ := h
  exact ⟨below_cell hb h0, below_cell hb h1, below_cell hb h2, below_cell hb h3, below_cell hb h4, below_cell hb h5, below_cell hb h6, below_cell hb h7, below_cell hb h8, below_cell hb h9, below_cell hb h10, below_cell hb h11, below_cell hb h12, below_cell hb h13, below_cell hb h14, below_cell hb h15, below_cell hb h16, below_cell hb h17⟩
theorem kept9 {w : World} {a : Addr} {v : Value} {g : Nat} {v0 v1 v2 v3 v4 v5 v6 v7 v8 : Value} (h : w.cell? a = some v) (hn : a.block ≠ g) : (put9 w g v0 v1 v2 v3 v4 v5 v6 v7 v8).cell? a = some v := by
  have e : ∀ x, (⟨g, x, none⟩ : Addr) ≠ a := fun x he => hn (by rw [← he])
  unfold put9
  rw [World.cell?_setCell_other _ _ _ _ (e 8), World.cell?_setCell_other _ _ _ _ (e 7), World.cell?_setCell_other _ _ _ _ (e 6), World.cell?_setCell_other _ _ _ _ (e 5), World.cell?_setCell_other _ _ _ _ (e 4), World.cell?_setCell_other _ _ _ _ (e 3), World.cell?_setCell_other _ _ _ _ (e 2), World.cell?_setCell_other _ _ _ _ (e 1), World.cell?_setCell_other _ _ _ _ (e 0)]
  exact h
theorem s18_put9 {j0 j1 j : Nat} {pe : Bool} {pf pl : Nat} {qe : Bool} {qf ql : Nat} {w : World} (h : S18 j0 j1 pe pf pl qe qf ql w) (h0 : j0 ≠ j) (h1 : j1 ≠ j) (v0 v1 v2 v3 v4 v5 v6 v7 v8 : Value) : S18 j0 j1 pe pf pl qe qf ql (put9 w j v0 v1 v2 v3 v4 v5 v6 v7 v8) := by
  obtain ⟨k0, k1, k2, k3, k4, k5, k6, k7, k8, k9, k10, k11, k12, k13, k14, k15, k16, k17⟩ := h
  exact ⟨kept9 k0 h0, kept9 k1 h0, kept9 k2 h0, kept9 k3 h0, kept9 k4 h0, kept9 k5 h0, kept9 k6 h0, kept9 k7 h0, kept9 k8 h0, kept9 k9 h1, kept9 k10 h1, kept9 k11 h1, kept9 k12 h1, kept9 k13 h1, kept9 k14 h1, kept9 k15 h1, kept9 k16 h1, kept9 k17 h1⟩
theorem s18_of {j0 j1 : Nat} {pe : Bool} {pf pl : Nat} {qe : Bool} {qf ql : Nat} {w : World} (h0 : Blk w j0 144 (pcC ⟨pe, pf, pl⟩)) (h1 : Blk w j1 144 (pcC ⟨qe, qf, ql⟩)) : S18 j0 j1 pe pf pl qe qf ql w :=
  ⟨h0.cell 0, h0.cell 1, h0.cell 2, h0.cell 3, h0.cell 4, h0.cell 5, h0.cell 6, h0.cell 7, h0.cell 8, h1.cell 0, h1.cell 1, h1.cell 2, h1.cell 3, h1.cell 4, h1.cell 5, h1.cell 6, h1.cell 7, h1.cell 8⟩
theorem frozen9 {w : World} {g : Nat} {t : TypeId} {cs : Array Value} (h : Blk w g t cs) : w.frozen? ⟨g, 0, none⟩ = false ∧ w.frozen? ⟨g, 1, none⟩ = false ∧ w.frozen? ⟨g, 2, none⟩ = false ∧ w.frozen? ⟨g, 3, none⟩ = false ∧ w.frozen? ⟨g, 4, none⟩ = false ∧ w.frozen? ⟨g, 5, none⟩ = false ∧ w.frozen? ⟨g, 6, none⟩ = false ∧ w.frozen? ⟨g, 7, none⟩ = false ∧ w.frozen? ⟨g, 8, none⟩ = false :=
  ⟨h.frozen 0, h.frozen 1, h.frozen 2, h.frozen 3, h.frozen 4, h.frozen 5, h.frozen 6, h.frozen 7, h.frozen 8⟩
theorem cells9 {w : World} {g : Nat} {t : TypeId} {v0 v1 v2 v3 v4 v5 v6 v7 v8 : Value} (h : Blk w g t #[v0, v1, v2, v3, v4, v5, v6, v7, v8]) : w.cell? ⟨g, 0, none⟩ = some v0 ∧ w.cell? ⟨g, 1, none⟩ = some v1 ∧ w.cell? ⟨g, 2, none⟩ = some v2 ∧ w.cell? ⟨g, 3, none⟩ = some v3 ∧ w.cell? ⟨g, 4, none⟩ = some v4 ∧ w.cell? ⟨g, 5, none⟩ = some v5 ∧ w.cell? ⟨g, 6, none⟩ = some v6 ∧ w.cell? ⟨g, 7, none⟩ = some v7 ∧ w.cell? ⟨g, 8, none⟩ = some v8 :=
  ⟨h.cell 0, h.cell 1, h.cell 2, h.cell 3, h.cell 4, h.cell 5, h.cell 6, h.cell 7, h.cell 8⟩
abbrev zero9 : Array Value := #[.bool false, .int .u64 0, .int .u64 0, .int .u64 0, .int .u64 0, .int .u64 0, .int .u64 0, .int .u64 0, .int .u64 0]
theorem below_of {B : Nat} {w w' : World} (h1 : w'.os = w.os) (h2 : w'.tape = w.tape) (h3 : w'.output = w.output) (h4 : w.heap.size ≤ w'.heap.size) (h5 : ∀ k, k < B → w'.heap[k]? = w.heap[k]?) : Below B w w' := ⟨h1, h2, h3, h4, h5⟩
theorem below9 {B : Nat} {w0 w : World} (h : Below B w0 w) {j : Nat} (hj : B ≤ j) (v0 v1 v2 v3 v4 v5 v6 v7 v8 : Value) : Below B w0 (put9 w j v0 v1 v2 v3 v4 v5 v6 v7 v8) :=
  (((((((((h.setCell (p := ⟨j, 0, none⟩) hj v0).setCell (p := ⟨j, 1, none⟩) hj v1).setCell (p := ⟨j, 2, none⟩) hj v2).setCell (p := ⟨j, 3, none⟩) hj v3).setCell (p := ⟨j, 4, none⟩) hj v4).setCell (p := ⟨j, 5, none⟩) hj v5).setCell (p := ⟨j, 6, none⟩) hj v6).setCell (p := ⟨j, 7, none⟩) hj v7).setCell (p := ⟨j, 8, none⟩) hj v8)
set_option maxRecDepth 100000 in
set_option maxHeartbeats 8000000 in
theorem either_any (b : Nat) (p q : Pc) (w : World) :
    Calls Tryz.prog 104 #[.pointer (some ⟨b, 0, none⟩), pcV p, pcV q] w fun e w' => e = .returned (pcV (eitherP p q)) ∧ Below w.heap.size w w' := by
  obtain ⟨pe, pf, pl⟩ := p
  obtain ⟨qe, qf, ql⟩ := q
  have H1 := Lib.hid (fun W => with_any pf qf W)
  have H2 := Lib.hid (fun W => with_any pl ql W)
  have b0 : Blk (((w.alloc (.cells (pcC ⟨pe, pf, pl⟩) 144)).alloc (.cells (pcC ⟨qe, qf, ql⟩) 144)).alloc (.cells zero9 144)) w.heap.size 144 (pcC ⟨pe, pf, pl⟩) := ((Blk.new w 144 _).alloc _).alloc _
  have b1 : Blk (((w.alloc (.cells (pcC ⟨pe, pf, pl⟩) 144)).alloc (.cells (pcC ⟨qe, qf, ql⟩) 144)).alloc (.cells zero9 144)) (w.heap.size + 1) 144 (pcC ⟨qe, qf, ql⟩) := by
    have := (Blk.new (w.alloc (.cells (pcC ⟨pe, pf, pl⟩) 144)) 144 (pcC ⟨qe, qf, ql⟩)).alloc (.cells zero9 144)
    rw [World.size_alloc] at this
    exact this
  have b2 : Blk (((w.alloc (.cells (pcC ⟨pe, pf, pl⟩) 144)).alloc (.cells (pcC ⟨qe, qf, ql⟩) 144)).alloc (.cells zero9 144)) (w.heap.size + 1 + 1) 144 zero9 := by
    have := Blk.new ((w.alloc (.cells (pcC ⟨pe, pf, pl⟩) 144)).alloc (.cells (pcC ⟨qe, qf, ql⟩) 144)) 144 zero9
    rw [World.size_alloc, World.size_alloc] at this
    exact this
  have HS := Lib.hid (s18_of b0 b1)
  have hbl : Below w.heap.size w (((w.alloc (.cells (pcC ⟨pe, pf, pl⟩) 144)).alloc (.cells (pcC ⟨qe, qf, ql⟩) 144)).alloc (.cells zero9 144)) := (((Below.refl _ _).alloc (Nat.le_refl _) _).alloc (by simp) _).alloc (by simp; omega) _
  have HBL := Lib.hid hbl
  have HZ := Lib.hid b2
  clear b0 b1 b2 hbl
  cases pe with
  | false =>
    go_enter Tryz.func104, Tryz.ntmps104
    go_wp2_with fail
    generalize hW : (((w.alloc (.cells (pcC _) 144)).alloc (.cells (pcC _) 144)).alloc (.cells zero9 144)) = W at *
    clear hW
    go_region_held3 (fun w' => w'.cell? ⟨w.heap.size, 0, none⟩ = some (.bool false) ∧ w'.cell? ⟨w.heap.size, 1, none⟩ = some (wv pf 0) ∧ w'.cell? ⟨w.heap.size, 2, none⟩ = some (wv pf 1) ∧ w'.cell? ⟨w.heap.size, 3, none⟩ = some (wv pf 2) ∧ w'.cell? ⟨w.heap.size, 4, none⟩ = some (wv pf 3) ∧ w'.cell? ⟨w.heap.size, 5, none⟩ = some (wv pl 0) ∧ w'.cell? ⟨w.heap.size, 6, none⟩ = some (wv pl 1) ∧ w'.cell? ⟨w.heap.size, 7, none⟩ = some (wv pl 2) ∧ w'.cell? ⟨w.heap.size, 8, none⟩ = some (wv pl 3) ∧ w'.cell? ⟨w.heap.size + 1, 0, none⟩ = some (.bool qe) ∧ w'.cell? ⟨w.heap.size + 1, 1, none⟩ = some (wv qf 0) ∧ w'.cell? ⟨w.heap.size + 1, 2, none⟩ = some (wv qf 1) ∧ w'.cell? ⟨w.heap.size + 1, 3, none⟩ = some (wv qf 2) ∧ w'.cell? ⟨w.heap.size + 1, 4, none⟩ = some (wv qf 3) ∧ w'.cell? ⟨w.heap.size + 1, 5, none⟩ = some (wv ql 0) ∧ w'.cell? ⟨w.heap.size + 1, 6, none⟩ = some (wv ql 1) ∧ w'.cell? ⟨w.heap.size + 1, 7, none⟩ = some (wv ql 2) ∧ w'.cell? ⟨w.heap.size + 1, 8, none⟩ = some (wv ql 3))
      (first | with_reducible exact HSn.out | with_reducible exact s18_put9 HSn.out (by omega) (by omega) _ _ _ _ _ _ _ _ _ | exact HS.out | go_keep)
      (first
        | (go_at_call 120; refine (with_any _ _ _).mono ?_; rintro e wn ⟨rfl, hb⟩
           first | have HSn := Lib.hid (s18_below HSn.out hb) | have HSn := Lib.hid (s18_below (by exact HS.out) hb)
           first | have HZn := Lib.hid (HZn.out.below hb) | have HZn := Lib.hid (Blk.below (by exact HZ.out) hb)
           first | have HBn := Lib.hid (HBn.out.trans (hb.mono HBn.out.size)) | have HBn := Lib.hid (HBL.out.trans (below_of hb.os hb.tape hb.output hb.size (fun k hk => hb.block k (Nat.lt_of_lt_of_le hk HBL.out.size))))
           obtain ⟨z0, z1, z2, z3, z4, z5, z6, z7, z8⟩ := cells9 HZn.out
           obtain ⟨f0, f1, f2, f3, f4, f5, f6, f7, f8⟩ := frozen9 HZn.out
           clear hb))
    all_goals
      go_wp2
      refine bodyPost_ret (v := pcV (eitherP ⟨false, pf, pl⟩ ⟨qe, qf, ql⟩)) (by simp [results, Tryz.results104, go_sem, eitherP, z0, z1, z2, z3, z4, z5, z6, z7, z8]) rfl ⟨rfl, below9 HBn.out (by omega) _ _ _ _ _ _ _ _ _⟩
  | true =>
    go_enter Tryz.func104, Tryz.ntmps104
    go_wp2_with fail
    generalize hW : (((w.alloc (.cells (pcC _) 144)).alloc (.cells (pcC _) 144)).alloc (.cells zero9 144)) = W at *
    clear hW
    refine wp_region_held_drew (S := (fun w' => w'.cell? ⟨w.heap.size, 0, none⟩ = some (.bool true) ∧ w'.cell? ⟨w.heap.size, 1, none⟩ = some (wv pf 0) ∧ w'.cell? ⟨w.heap.size, 2, none⟩ = some (wv pf 1) ∧ w'.cell? ⟨w.heap.size, 3, none⟩ = some (wv pf 2) ∧ w'.cell? ⟨w.heap.size, 4, none⟩ = some (wv pf 3) ∧ w'.cell? ⟨w.heap.size, 5, none⟩ = some (wv pl 0) ∧ w'.cell? ⟨w.heap.size, 6, none⟩ = some (wv pl 1) ∧ w'.cell? ⟨w.heap.size, 7, none⟩ = some (wv pl 2) ∧ w'.cell? ⟨w.heap.size, 8, none⟩ = some (wv pl 3) ∧ w'.cell? ⟨w.heap.size + 1, 0, none⟩ = some (.bool qe) ∧ w'.cell? ⟨w.heap.size + 1, 1, none⟩ = some (wv qf 0) ∧ w'.cell? ⟨w.heap.size + 1, 2, none⟩ = some (wv qf 1) ∧ w'.cell? ⟨w.heap.size + 1, 3, none⟩ = some (wv qf 2) ∧ w'.cell? ⟨w.heap.size + 1, 4, none⟩ = some (wv qf 3) ∧ w'.cell? ⟨w.heap.size + 1, 5, none⟩ = some (wv ql 0) ∧ w'.cell? ⟨w.heap.size + 1, 6, none⟩ = some (wv ql 1) ∧ w'.cell? ⟨w.heap.size + 1, 7, none⟩ = some (wv ql 2) ∧ w'.cell? ⟨w.heap.size + 1, 8, none⟩ = some (wv ql 3))) (by kernel_rfl) (by exact HS.out) (fun hHeld => ?_)
    refine wpAnyH_take (i := 0) (oi := { dst := some 7, op := Op.fieldAddr 144 (Operand.tmp 4) 0, type := 0, pos := "machine.go:48", after := #[], guard := none }) (v := ?vv0) rfl (by kernel_rfl) (by kernel_rfl) (by kernel_rfl) (fun _ _ _ h => h) (Or.inl ⟨by rfl, ?hy0⟩) (by assumption) ?more0
    case hy0 => (intro w' hSw; (try dsimp only at hSw); go_simp; try with_reducible rfl)
    try simp only [Act.put, List.setIfInBounds_toArray, List.set_cons_zero, List.set_cons_succ]
    refine wpAnyH_take (i := 1) (oi := { dst := some 8, op := Op.load 4 (Operand.tmp 7), type := 4, pos := "machine.go:48", after := #[{ on := 0, ground := Ground.data }], guard := none }) (v := ?vv1) rfl (by kernel_rfl) (by kernel_rfl) (by kernel_rfl) (fun _ _ _ h => h) (Or.inl ⟨by rfl, ?hy1⟩) (by assumption) ?more1
    case hy1 => (intro w' hSw; (try dsimp only at hSw); go_simp; try with_reducible rfl)
    try simp only [Act.put, List.setIfInBounds_toArray, List.set_cons_zero, List.set_cons_succ]
    refine wpAnyH_take (i := 2) (oi := { dst := some 9, op := Op.move (Operand.tmp 8), type := 4, pos := "machine.go:48", after := #[{ on := 1, ground := Ground.data }], guard := none }) (v := ?vv2) rfl (by kernel_rfl) (by kernel_rfl) (by kernel_rfl) (fun _ _ _ h => h) (Or.inl ⟨by rfl, ?hy2⟩) (by assumption) ?more2
    case hy2 => (intro w' hSw; (try dsimp only at hSw); go_simp; try with_reducible rfl)
    try simp only [Act.put, List.setIfInBounds_toArray, List.set_cons_zero, List.set_cons_succ]
    refine wpAnyH_take (i := 3) (oi := { dst := some 10, op := Op.fieldAddr 144 (Operand.tmp 5) 0, type := 0, pos := "machine.go:48", after := #[{ on := 2, ground := Ground.guard }], guard := some (2, false) }) (v := undef) rfl (by kernel_rfl) (by kernel_rfl) (by kernel_rfl) (fun _ _ _ h => h) (Or.inr ⟨by rfl, rfl⟩) (by assumption) ?_
    try simp only [Act.put, List.setIfInBounds_toArray, List.set_cons_zero, List.set_cons_succ]
    refine wpAnyH_take (i := 4) (oi := { dst := some 11, op := Op.load 4 (Operand.tmp 10), type := 4, pos := "machine.go:48", after := #[{ on := 3, ground := Ground.data }, { on := 2, ground := Ground.guard }], guard := some (2, false) }) (v := undef) rfl (by kernel_rfl) (by kernel_rfl) (by kernel_rfl) (fun _ _ _ h => h) (Or.inr ⟨by rfl, rfl⟩) (by assumption) ?_
    try simp only [Act.put, List.setIfInBounds_toArray, List.set_cons_zero, List.set_cons_succ]
    refine wpAnyH_take (i := 5) (oi := { dst := some 12, op := Op.pick (Operand.tmp 9) (Operand.const (Value.bool true)) (Operand.tmp 11), type := 4, pos := "machine.go:48", after := #[{ on := 2, ground := Ground.data }, { on := 4, ground := Ground.data }], guard := none }) (v := ?vv5) rfl (by kernel_rfl) (by kernel_rfl) (by kernel_rfl) (fun _ _ _ h => h) (Or.inl ⟨by rfl, ?hy5⟩) (by assumption) ?more5
    case hy5 => (intro w' hSw; (try dsimp only at hSw); go_simp; try with_reducible rfl)
    try simp only [Act.put, List.setIfInBounds_toArray, List.set_cons_zero, List.set_cons_succ]
    refine wpAnyH_take (i := 6) (oi := { dst := some 13, op := Op.fieldAddr 144 (Operand.tmp 4) 1, type := 0, pos := "machine.go:48", after := #[], guard := none }) (v := ?vv6) rfl (by kernel_rfl) (by kernel_rfl) (by kernel_rfl) (fun _ _ _ h => h) (Or.inl ⟨by rfl, ?hy6⟩) (by assumption) ?more6
    case hy6 => (intro w' hSw; (try dsimp only at hSw); go_simp; try with_reducible rfl)
    try simp only [Act.put, List.setIfInBounds_toArray, List.set_cons_zero, List.set_cons_succ]
    refine wpAnyH_take (i := 7) (oi := { dst := some 14, op := Op.load 136 (Operand.tmp 13), type := 136, pos := "machine.go:48", after := #[{ on := 6, ground := Ground.data }], guard := none }) (v := ?vv7) rfl (by kernel_rfl) (by kernel_rfl) (by kernel_rfl) (fun _ _ _ h => h) (Or.inl ⟨by rfl, ?hy7⟩) (by assumption) ?more7
    case hy7 => (intro w' hSw; (try dsimp only at hSw); go_simp; try with_reducible rfl)
    try simp only [Act.put, List.setIfInBounds_toArray, List.set_cons_zero, List.set_cons_succ]
    refine wpAnyH_take (i := 8) (oi := { dst := some 15, op := Op.fieldAddr 144 (Operand.tmp 5) 1, type := 0, pos := "machine.go:48", after := #[], guard := none }) (v := ?vv8) rfl (by kernel_rfl) (by kernel_rfl) (by kernel_rfl) (fun _ _ _ h => h) (Or.inl ⟨by rfl, ?hy8⟩) (by assumption) ?more8
    case hy8 => (intro w' hSw; (try dsimp only at hSw); go_simp; try with_reducible rfl)
    try simp only [Act.put, List.setIfInBounds_toArray, List.set_cons_zero, List.set_cons_succ]
    refine wpAnyH_take (i := 9) (oi := { dst := some 16, op := Op.load 136 (Operand.tmp 15), type := 136, pos := "machine.go:48", after := #[{ on := 8, ground := Ground.data }], guard := none }) (v := ?vv9) rfl (by kernel_rfl) (by kernel_rfl) (by kernel_rfl) (fun _ _ _ h => h) (Or.inl ⟨by rfl, ?hy9⟩) (by assumption) ?more9
    case hy9 => (intro w' hSw; (try dsimp only at hSw); go_simp; try with_reducible rfl)
    try simp only [Act.put, List.setIfInBounds_toArray, List.set_cons_zero, List.set_cons_succ]
    refine wpAnyH_take (i := 11) (oi := { dst := some 18, op := Op.fieldAddr 144 (Operand.tmp 4) 2, type := 0, pos := "machine.go:48", after := #[], guard := none }) (v := ?vv11) rfl (by kernel_rfl) (by kernel_rfl) (by kernel_rfl) (fun _ _ _ h => h) (Or.inl ⟨by rfl, ?hy11⟩) (by assumption) ?more11
    case hy11 => (intro w' hSw; (try dsimp only at hSw); go_simp; try with_reducible rfl)
    try simp only [Act.put, List.setIfInBounds_toArray, List.set_cons_zero, List.set_cons_succ]
    refine wpAnyH_take (i := 12) (oi := { dst := some 19, op := Op.load 136 (Operand.tmp 18), type := 136, pos := "machine.go:48", after := #[{ on := 11, ground := Ground.data }], guard := none }) (v := ?vv12) rfl (by kernel_rfl) (by kernel_rfl) (by kernel_rfl) (fun _ _ _ h => h) (Or.inl ⟨by rfl, ?hy12⟩) (by assumption) ?more12
    case hy12 => (intro w' hSw; (try dsimp only at hSw); go_simp; try with_reducible rfl)
    try simp only [Act.put, List.setIfInBounds_toArray, List.set_cons_zero, List.set_cons_succ]
    refine wpAnyH_take (i := 13) (oi := { dst := some 20, op := Op.fieldAddr 144 (Operand.tmp 5) 2, type := 0, pos := "machine.go:48", after := #[], guard := none }) (v := ?vv13) rfl (by kernel_rfl) (by kernel_rfl) (by kernel_rfl) (fun _ _ _ h => h) (Or.inl ⟨by rfl, ?hy13⟩) (by assumption) ?more13
    case hy13 => (intro w' hSw; (try dsimp only at hSw); go_simp; try with_reducible rfl)
    try simp only [Act.put, List.setIfInBounds_toArray, List.set_cons_zero, List.set_cons_succ]
    refine wpAnyH_take (i := 14) (oi := { dst := some 21, op := Op.load 136 (Operand.tmp 20), type := 136, pos := "machine.go:48", after := #[{ on := 13, ground := Ground.data }], guard := none }) (v := ?vv14) rfl (by kernel_rfl) (by kernel_rfl) (by kernel_rfl) (fun _ _ _ h => h) (Or.inl ⟨by rfl, ?hy14⟩) (by assumption) ?more14
    case hy14 => (intro w' hSw; (try dsimp only at hSw); go_simp; try with_reducible rfl)
    try simp only [Act.put, List.setIfInBounds_toArray, List.set_cons_zero, List.set_cons_succ]
    refine wpAnyH_ready (rs := [10]) (by kernel_rfl) (by simp) (AllReadyH.cons (o := { dst := some 17, op := Op.call { callee := Callee.value (Operand.func 120), args := #[Operand.tmp 14, Operand.tmp 16], argTypes := #[136, 136] }, type := 136, pos := "machine.go:48", after := #[{ on := 7, ground := Ground.data }, { on := 9, ground := Ground.data }, { on := 2, ground := Ground.chain }], guard := none }) rfl (fun K hK => ?_) AllReadyH.nil)
    go_simp
    go_at_call 120
    refine (with_any _ _ _).mono ?_
    rintro e wn ⟨rfl, hb⟩
    have HSn := Lib.hid (s18_below (by exact HS.out) hb)
    have HZn := Lib.hid (Blk.below (by exact HZ.out) hb)
    have HBn := Lib.hid (HBL.out.trans (below_of hb.os hb.tape hb.output hb.size (fun k hk => hb.block k (Nat.lt_of_lt_of_le hk HBL.out.size))))
    clear hb
    go_wp2_with fail
    refine hK.out _ _ (by with_reducible exact HSn.out) (fun hHeld => ?_)
    clear hK K
    try simp only [Act.put, List.setIfInBounds_toArray, List.set_cons_zero, List.set_cons_succ]
    refine wpAnyH_ready (rs := [15]) (by kernel_rfl) (by simp) (AllReadyH.cons (o := { dst := some 22, op := Op.call { callee := Callee.value (Operand.func 120), args := #[Operand.tmp 19, Operand.tmp 21], argTypes := #[136, 136] }, type := 136, pos := "machine.go:48", after := #[{ on := 12, ground := Ground.data }, { on := 14, ground := Ground.data }, { on := 10, ground := Ground.chain }], guard := none }) rfl (fun K hK => ?_) AllReadyH.nil)
    go_simp
    go_at_call 120
    refine (with_any _ _ _).mono ?_
    rintro e wn ⟨rfl, hb⟩
    have HSn := Lib.hid (s18_below HSn.out hb)
    have HZn := Lib.hid (HZn.out.below hb)
    have HBn := Lib.hid (HBn.out.trans (hb.mono HBn.out.size))
    obtain ⟨z0, z1, z2, z3, z4, z5, z6, z7, z8⟩ := cells9 HZn.out
    obtain ⟨f0, f1, f2, f3, f4, f5, f6, f7, f8⟩ := frozen9 HZn.out
    clear hb
    go_wp2_with fail
    refine hK.out _ _ (by with_reducible exact HSn.out) (fun hHeld => ?_)
    clear hK K
    try simp only [Act.put, List.setIfInBounds_toArray, List.set_cons_zero, List.set_cons_succ]
    refine wpAnyH_take (i := 16) (oi := { dst := some 23, op := Op.build 144 #[(0, Operand.tmp 12), (1, Operand.tmp 17), (2, Operand.tmp 22)], type := 144, pos := "machine.go:48", after := #[{ on := 5, ground := Ground.data }, { on := 10, ground := Ground.data }, { on := 15, ground := Ground.data }], guard := none }) (v := ?vv16) rfl (by kernel_rfl) (by kernel_rfl) (by kernel_rfl) (fun _ _ _ h => h) (Or.inl ⟨by rfl, ?hy16⟩) (by assumption) ?more16
    case hy16 => (intro w' hSw; (try dsimp only at hSw); go_simp; try with_reducible rfl)
    try simp only [Act.put, List.setIfInBounds_toArray, List.set_cons_zero, List.set_cons_succ]
    refine wpAnyH_ready (rs := [17]) (by kernel_rfl) (by simp) (AllReadyH.cons (o := { dst := none, op := Op.store 144 (Operand.tmp 6) (Operand.tmp 23), type := 0, pos := "machine.go:48", after := #[{ on := 16, ground := Ground.data }, { on := 15, ground := Ground.chain }, { on := 0, ground := Ground.phase }, { on := 1, ground := Ground.phase }, { on := 2, ground := Ground.phase }, { on := 3, ground := Ground.phase }, { on := 4, ground := Ground.phase }, { on := 5, ground := Ground.phase }, { on := 6, ground := Ground.phase }, { on := 7, ground := Ground.phase }, { on := 8, ground := Ground.phase }, { on := 9, ground := Ground.phase }, { on := 10, ground := Ground.phase }, { on := 11, ground := Ground.phase }, { on := 12, ground := Ground.phase }, { on := 13, ground := Ground.phase }, { on := 14, ground := Ground.phase }, { on := 15, ground := Ground.phase }, { on := 16, ground := Ground.phase }], guard := none }) rfl (fun K hK => ?_) AllReadyH.nil)
    go_simp
    refine hK.out _ _ (by with_reducible exact s18_put9 HSn.out (by omega) (by omega) _ _ _ _ _ _ _ _ _) (fun hHeld2 => ?_)
    clear hK K
    try simp only [Act.put, List.setIfInBounds_toArray, List.set_cons_zero, List.set_cons_succ]
    refine wpAnyH_done (by kernel_rfl) ?_ _
    all_goals
      go_wp2
      refine bodyPost_ret (v := pcV (eitherP ⟨true, pf, pl⟩ ⟨qe, qf, ql⟩)) (by simp [results, Tryz.results104, go_sem, eitherP, z0, z1, z2, z3, z4, z5, z6, z7, z8]) rfl ⟨rfl, below9 HBn.out (by omega) _ _ _ _ _ _ _ _ _⟩
end Go.Proofs.YtmodehfedhgcbaaGreatDoor.Rg

namespace Go.Proofs.YtmodehfedhgcbaaGreatDoor.Rg
open Go.RowKit Rx
set_option linter.unusedVariables false

def ChainP (b : Nat) (T F : Value) (l : ByteArray) (a o : Nat) (w : World) (m' : Mach) (p' : Pc) (e : Ending) (w' : World) : Prop := e = .returned (pcV p') ∧ Rdr w' b T F l m' a o ∧ Moves b T F w T F w'
theorem Blk.part_a {w : World} {j u f l : Nat} {e : Bool} {t : TypeId} (h : Blk w j t (pcC ⟨e, f, l⟩)) : Blk ((((w.setCell ⟨j, 1, none⟩ (wv u 0)).setCell ⟨j, 2, none⟩ (wv u 1)).setCell ⟨j, 3, none⟩ (wv u 2)).setCell ⟨j, 4, none⟩ (wv u 3)) j t (pcC ⟨e, u, l⟩) := by
  have h0 := h.set_ 1 (wv u 0)
  simp only [List.setIfInBounds_toArray, List.set_cons_zero, List.set_cons_succ] at h0
  have h1 := h0.set_ 2 (wv u 1)
  simp only [List.setIfInBounds_toArray, List.set_cons_zero, List.set_cons_succ] at h1
  have h2 := h1.set_ 3 (wv u 2)
  simp only [List.setIfInBounds_toArray, List.set_cons_zero, List.set_cons_succ] at h2
  have h3 := h2.set_ 4 (wv u 3)
  simp only [List.setIfInBounds_toArray, List.set_cons_zero, List.set_cons_succ] at h3
  exact h3
theorem Blk.past_a {w : World} {j k : Nat} {t : TypeId} {cs : Array Value} (h : Blk w k t cs) (hj : k ≠ j) (v0 v1 v2 v3 : Value) : Blk ((((w.setCell ⟨j, 1, none⟩ v0).setCell ⟨j, 2, none⟩ v1).setCell ⟨j, 3, none⟩ v2).setCell ⟨j, 4, none⟩ v3) k t cs := ((((h.other hj 1 _).other hj 2 _).other hj 3 _).other hj 4 _)
theorem Rdr.past_a {w : World} {b : Nat} {T F : Value} {l : ByteArray} {m : Mach} {a o j : Nat} (h : Rdr w b T F l m a o) (hj : ¬ Foot b T F j) (v0 v1 v2 v3 : Value) : Rdr ((((w.setCell ⟨j, 1, none⟩ v0).setCell ⟨j, 2, none⟩ v1).setCell ⟨j, 3, none⟩ v2).setCell ⟨j, 4, none⟩ v3) b T F l m a o := ((((h.other hj 1 _).other hj 2 _).other hj 3 _).other hj 4 _)
theorem Moves.past_a {b : Nat} {T F T1 F1 : Value} {w0 w : World} (h : Moves b T F w0 T1 F1 w) {j : Nat} (hj : w0.heap.size ≤ j) (v0 v1 v2 v3 : Value) : Moves b T F w0 T1 F1 ((((w.setCell ⟨j, 1, none⟩ v0).setCell ⟨j, 2, none⟩ v1).setCell ⟨j, 3, none⟩ v2).setCell ⟨j, 4, none⟩ v3) := ((((h.set_new hj 1 _).set_new hj 2 _).set_new hj 3 _).set_new hj 4 _)
theorem Blk.part_b {w : World} {j u f l : Nat} {e : Bool} {t : TypeId} (h : Blk w j t (pcC ⟨e, f, l⟩)) : Blk ((((w.setCell ⟨j, 5, none⟩ (wv u 0)).setCell ⟨j, 6, none⟩ (wv u 1)).setCell ⟨j, 7, none⟩ (wv u 2)).setCell ⟨j, 8, none⟩ (wv u 3)) j t (pcC ⟨e, f, u⟩) := by
  have h0 := h.set_ 5 (wv u 0)
  simp only [List.setIfInBounds_toArray, List.set_cons_zero, List.set_cons_succ] at h0
  have h1 := h0.set_ 6 (wv u 1)
  simp only [List.setIfInBounds_toArray, List.set_cons_zero, List.set_cons_succ] at h1
  have h2 := h1.set_ 7 (wv u 2)
  simp only [List.setIfInBounds_toArray, List.set_cons_zero, List.set_cons_succ] at h2
  have h3 := h2.set_ 8 (wv u 3)
  simp only [List.setIfInBounds_toArray, List.set_cons_zero, List.set_cons_succ] at h3
  exact h3
theorem Blk.past_b {w : World} {j k : Nat} {t : TypeId} {cs : Array Value} (h : Blk w k t cs) (hj : k ≠ j) (v0 v1 v2 v3 : Value) : Blk ((((w.setCell ⟨j, 5, none⟩ v0).setCell ⟨j, 6, none⟩ v1).setCell ⟨j, 7, none⟩ v2).setCell ⟨j, 8, none⟩ v3) k t cs := ((((h.other hj 5 _).other hj 6 _).other hj 7 _).other hj 8 _)
theorem Rdr.past_b {w : World} {b : Nat} {T F : Value} {l : ByteArray} {m : Mach} {a o j : Nat} (h : Rdr w b T F l m a o) (hj : ¬ Foot b T F j) (v0 v1 v2 v3 : Value) : Rdr ((((w.setCell ⟨j, 5, none⟩ v0).setCell ⟨j, 6, none⟩ v1).setCell ⟨j, 7, none⟩ v2).setCell ⟨j, 8, none⟩ v3) b T F l m a o := ((((h.other hj 5 _).other hj 6 _).other hj 7 _).other hj 8 _)
theorem Moves.past_b {b : Nat} {T F T1 F1 : Value} {w0 w : World} (h : Moves b T F w0 T1 F1 w) {j : Nat} (hj : w0.heap.size ≤ j) (v0 v1 v2 v3 : Value) : Moves b T F w0 T1 F1 ((((w.setCell ⟨j, 5, none⟩ v0).setCell ⟨j, 6, none⟩ v1).setCell ⟨j, 7, none⟩ v2).setCell ⟨j, 8, none⟩ v3) := ((((h.set_new hj 5 _).set_new hj 6 _).set_new hj 7 _).set_new hj 8 _)

set_option maxRecDepth 100000 in
set_option maxHeartbeats 8000000 in
theorem chain_true_true (b a o pf pl qf ql : Nat) (T F : Value) (l : ByteArray) (m : Mach) (w : World) (hr : Rdr w b T F l m a o) (hT : TzT w) (hp : pl < 2 ^ m.follow.length) (hn : m.follow.length ≤ 256) :
    Calls Tryz.prog 119 #[.pointer (some ⟨b, 0, none⟩), pcV ⟨true, pf, pl⟩, pcV ⟨true, qf, ql⟩] w (ChainP b T F l a o w (chainM m ⟨true, pf, pl⟩ ⟨true, qf, ql⟩) (chainP ⟨true, pf, pl⟩ ⟨true, qf, ql⟩)) := by
  have b0 : Blk (((w.alloc (.cells (pcC ⟨true, pf, pl⟩) 144)).alloc (.cells (pcC ⟨true, qf, ql⟩) 144)).alloc (.cells zero9 144)) w.heap.size 144 (pcC ⟨true, pf, pl⟩) := ((Blk.new w 144 _).alloc _).alloc _
  have b1 : Blk (((w.alloc (.cells (pcC ⟨true, pf, pl⟩) 144)).alloc (.cells (pcC ⟨true, qf, ql⟩) 144)).alloc (.cells zero9 144)) (w.heap.size + 1) 144 (pcC ⟨true, qf, ql⟩) := by
    have := (Blk.new (w.alloc (.cells (pcC ⟨true, pf, pl⟩) 144)) 144 (pcC ⟨true, qf, ql⟩)).alloc (.cells zero9 144)
    rw [World.size_alloc] at this
    exact this
  have b2 : Blk (((w.alloc (.cells (pcC ⟨true, pf, pl⟩) 144)).alloc (.cells (pcC ⟨true, qf, ql⟩) 144)).alloc (.cells zero9 144)) (w.heap.size + 1 + 1) 144 zero9 := by
    have := Blk.new ((w.alloc (.cells (pcC ⟨true, pf, pl⟩) 144)).alloc (.cells (pcC ⟨true, qf, ql⟩) 144)) 144 zero9
    rw [World.size_alloc, World.size_alloc] at this
    exact this
  have HR := Lib.hid (((hr.alloc (.cells (pcC ⟨true, pf, pl⟩) 144)).alloc (.cells (pcC ⟨true, qf, ql⟩) 144)).alloc (.cells zero9 144))
  have HM := Lib.hid ((((Moves.refl b T F w).alloc (.cells (pcC ⟨true, pf, pl⟩) 144)).alloc (.cells (pcC ⟨true, qf, ql⟩) 144)).alloc (.cells zero9 144))
  have HL := Lib.hid (link_any b a o pl qf T F l m _ HR.out (HM.out.tz hr hT) hp hn)
  have B0 := Lib.hid b0
  have B1 := Lib.hid b1
  have B2 := Lib.hid b2
  have q := s18_of b0 b1
  have HS0 := Lib.hid q
  clear b0 b1 b2 hT hp hn hr q
  go_enter Tryz.func119, Tryz.ntmps119
  go_wp2_with fail
  refine (HL.out).mono ?_
  rintro e w1 ⟨rfl, hR1, hM1⟩
  have HR1 := Lib.hid hR1
  have HM1 := Lib.hid (HM.out.trans hM1)
  have hb0 := B0.out.moves hM1 (HR.out.off B0.out (by decide) (by decide))
  have hb1 := B1.out.moves hM1 (HR.out.off B1.out (by decide) (by decide))
  have hb2 := B2.out.moves hM1 (HR.out.off B2.out (by decide) (by decide))
  have B0' := Lib.hid hb0
  have B1' := Lib.hid hb1
  have B2' := Lib.hid hb2
  clear hR1 hM1 HR HM HS0 HL B0 B1 B2 hb0 hb1 hb2
  have hsz : w.heap.size + 1 + 1 < w1.heap.size := B2'.out.lt
  have B3 := Lib.hid (Blk.new w1 144 (pcC ⟨true, pf, ql⟩))
  have HRb := Lib.hid (HR1.out.alloc (.cells (pcC ⟨true, pf, ql⟩) 144))
  have HMb := Lib.hid (HM1.out.alloc (.cells (pcC ⟨true, pf, ql⟩) 144))
  have C0 := Lib.hid (B0'.out.alloc (.cells (pcC ⟨true, pf, ql⟩) 144))
  have C1 := Lib.hid (B1'.out.alloc (.cells (pcC ⟨true, pf, ql⟩) 144))
  have C2 := Lib.hid (B2'.out.alloc (.cells (pcC ⟨true, pf, ql⟩) 144))
  obtain ⟨x0, x1, x2, x3, x4, x5, x6, x7, x8⟩ := cells9 B0'.out
  obtain ⟨y0, y1, y2, y3, y4, y5, y6, y7, y8⟩ := cells9 B1'.out
  go_upto_region 3 with fail
  generalize hW : w1.alloc (.cells (pcC _) 144) = W at *
  generalize hj3 : w1.heap.size = j3 at *
  clear hW hj3 x0 x1 x2 x3 x4 x5 x6 x7 x8 y0 y1 y2 y3 y4 y5 y6 y7 y8
  obtain ⟨x0, x1, x2, x3, x4, x5, x6, x7, x8⟩ := cells9 C0.out
  obtain ⟨y0, y1, y2, y3, y4, y5, y6, y7, y8⟩ := cells9 C1.out
  obtain ⟨z0, z1, z2, z3, z4, z5, z6, z7, z8⟩ := cells9 B3.out
  go_wp2_with fail
  refine (with_any pf qf _).mono ?_
  rintro e wn ⟨rfl, hb⟩
  have D0 := Lib.hid (C0.out.below hb)
  have D1 := Lib.hid (C1.out.below hb)
  have D2 := Lib.hid (C2.out.below hb)
  have D3 := Lib.hid (B3.out.below hb)
  have HRd := Lib.hid (HRb.out.below hb)
  have HMd := Lib.hid (HMb.out.below hb)
  clear hb C0 C1 C2 B3 HRb HMb x0 x1 x2 x3 x4 x5 x6 x7 x8 y0 y1 y2 y3 y4 y5 y6 y7 y8 z0 z1 z2 z3 z4 z5 z6 z7 z8
  obtain ⟨x0, x1, x2, x3, x4, x5, x6, x7, x8⟩ := cells9 D0.out
  obtain ⟨y0, y1, y2, y3, y4, y5, y6, y7, y8⟩ := cells9 D1.out
  obtain ⟨z0, z1, z2, z3, z4, z5, z6, z7, z8⟩ := cells9 D3.out
  obtain ⟨f0, f1, f2, f3, f4, f5, f6, f7, f8⟩ := frozen9 D3.out
  go_upto_region 5 with fail
  have C0 := Lib.hid (D0.out.past_a (j := j3) (by omega) (wv (pf ||| qf) 0) (wv (pf ||| qf) 1) (wv (pf ||| qf) 2) (wv (pf ||| qf) 3))
  have C1 := Lib.hid (D1.out.past_a (j := j3) (by omega) (wv (pf ||| qf) 0) (wv (pf ||| qf) 1) (wv (pf ||| qf) 2) (wv (pf ||| qf) 3))
  have C2 := Lib.hid (D2.out.past_a (j := j3) (by omega) (wv (pf ||| qf) 0) (wv (pf ||| qf) 1) (wv (pf ||| qf) 2) (wv (pf ||| qf) 3))
  have B3 := Lib.hid (D3.out.part_a (u := (pf ||| qf)))
  have HRb := Lib.hid (HRd.out.past_a (HRd.out.off D3.out (by decide) (by decide)) (wv (pf ||| qf) 0) (wv (pf ||| qf) 1) (wv (pf ||| qf) 2) (wv (pf ||| qf) 3))
  have HMb := Lib.hid (HMd.out.past_a (j := j3) (by omega) (wv (pf ||| qf) 0) (wv (pf ||| qf) 1) (wv (pf ||| qf) 2) (wv (pf ||| qf) 3))
  generalize hW : ((((wn.setCell ⟨j3, 1, none⟩ (wv (pf ||| qf) 0)).setCell ⟨j3, 2, none⟩ (wv (pf ||| qf) 1)).setCell ⟨j3, 3, none⟩ (wv (pf ||| qf) 2)).setCell ⟨j3, 4, none⟩ (wv (pf ||| qf) 3)) = W at *
  clear hW D0 D1 D2 D3 HRd HMd x0 x1 x2 x3 x4 x5 x6 x7 x8 y0 y1 y2 y3 y4 y5 y6 y7 y8 z0 z1 z2 z3 z4 z5 z6 z7 z8 f0 f1 f2 f3 f4 f5 f6 f7 f8
  obtain ⟨x0, x1, x2, x3, x4, x5, x6, x7, x8⟩ := cells9 C0.out
  obtain ⟨y0, y1, y2, y3, y4, y5, y6, y7, y8⟩ := cells9 C1.out
  obtain ⟨z0, z1, z2, z3, z4, z5, z6, z7, z8⟩ := cells9 B3.out
  go_wp2_with fail
  refine (with_any ql pl _).mono ?_
  rintro e wn ⟨rfl, hb⟩
  have D0 := Lib.hid (C0.out.below hb)
  have D1 := Lib.hid (C1.out.below hb)
  have D2 := Lib.hid (C2.out.below hb)
  have D3 := Lib.hid (B3.out.below hb)
  have HRd := Lib.hid (HRb.out.below hb)
  have HMd := Lib.hid (HMb.out.below hb)
  clear hb C0 C1 C2 B3 HRb HMb x0 x1 x2 x3 x4 x5 x6 x7 x8 y0 y1 y2 y3 y4 y5 y6 y7 y8 z0 z1 z2 z3 z4 z5 z6 z7 z8
  obtain ⟨x0, x1, x2, x3, x4, x5, x6, x7, x8⟩ := cells9 D0.out
  obtain ⟨y0, y1, y2, y3, y4, y5, y6, y7, y8⟩ := cells9 D1.out
  obtain ⟨z0, z1, z2, z3, z4, z5, z6, z7, z8⟩ := cells9 D3.out
  obtain ⟨f0, f1, f2, f3, f4, f5, f6, f7, f8⟩ := frozen9 D3.out
  go_upto_region 7 with fail
  have C0 := Lib.hid (D0.out.past_b (j := j3) (by omega) (wv (ql ||| pl) 0) (wv (ql ||| pl) 1) (wv (ql ||| pl) 2) (wv (ql ||| pl) 3))
  have C1 := Lib.hid (D1.out.past_b (j := j3) (by omega) (wv (ql ||| pl) 0) (wv (ql ||| pl) 1) (wv (ql ||| pl) 2) (wv (ql ||| pl) 3))
  have C2 := Lib.hid (D2.out.past_b (j := j3) (by omega) (wv (ql ||| pl) 0) (wv (ql ||| pl) 1) (wv (ql ||| pl) 2) (wv (ql ||| pl) 3))
  have B3 := Lib.hid (D3.out.part_b (u := (ql ||| pl)))
  have HRb := Lib.hid (HRd.out.past_b (HRd.out.off D3.out (by decide) (by decide)) (wv (ql ||| pl) 0) (wv (ql ||| pl) 1) (wv (ql ||| pl) 2) (wv (ql ||| pl) 3))
  have HMb := Lib.hid (HMd.out.past_b (j := j3) (by omega) (wv (ql ||| pl) 0) (wv (ql ||| pl) 1) (wv (ql ||| pl) 2) (wv (ql ||| pl) 3))
  generalize hW : ((((wn.setCell ⟨j3, 5, none⟩ (wv (ql ||| pl) 0)).setCell ⟨j3, 6, none⟩ (wv (ql ||| pl) 1)).setCell ⟨j3, 7, none⟩ (wv (ql ||| pl) 2)).setCell ⟨j3, 8, none⟩ (wv (ql ||| pl) 3)) = W at *
  clear hW D0 D1 D2 D3 HRd HMd x0 x1 x2 x3 x4 x5 x6 x7 x8 y0 y1 y2 y3 y4 y5 y6 y7 y8 z0 z1 z2 z3 z4 z5 z6 z7 z8 f0 f1 f2 f3 f4 f5 f6 f7 f8
  obtain ⟨x0, x1, x2, x3, x4, x5, x6, x7, x8⟩ := cells9 C0.out
  obtain ⟨y0, y1, y2, y3, y4, y5, y6, y7, y8⟩ := cells9 C1.out
  obtain ⟨z0, z1, z2, z3, z4, z5, z6, z7, z8⟩ := cells9 B3.out
  obtain ⟨r0, r1, r2, r3, r4, r5, r6, r7, r8⟩ := cells9 C2.out
  obtain ⟨g0, g1, g2, g3, g4, g5, g6, g7, g8⟩ := frozen9 C2.out
  go_wp2
  exact bodyPost_ret (v := pcV ⟨true, (pf ||| qf), (ql ||| pl)⟩) (by simp [results, Tryz.results119, go_sem, r0, r1, r2, r3, r4, r5, r6, r7, r8]) rfl ⟨rfl, HRb.out.set9 (HRb.out.off C2.out (by decide) (by decide)) _ _ _ _ _ _ _ _ _, HMb.out.set9 (by omega) _ _ _ _ _ _ _ _ _⟩

set_option maxRecDepth 100000 in
set_option maxHeartbeats 8000000 in
theorem chain_true_false (b a o pf pl qf ql : Nat) (T F : Value) (l : ByteArray) (m : Mach) (w : World) (hr : Rdr w b T F l m a o) (hT : TzT w) (hp : pl < 2 ^ m.follow.length) (hn : m.follow.length ≤ 256) :
    Calls Tryz.prog 119 #[.pointer (some ⟨b, 0, none⟩), pcV ⟨true, pf, pl⟩, pcV ⟨false, qf, ql⟩] w (ChainP b T F l a o w (chainM m ⟨true, pf, pl⟩ ⟨false, qf, ql⟩) (chainP ⟨true, pf, pl⟩ ⟨false, qf, ql⟩)) := by
  have b0 : Blk (((w.alloc (.cells (pcC ⟨true, pf, pl⟩) 144)).alloc (.cells (pcC ⟨false, qf, ql⟩) 144)).alloc (.cells zero9 144)) w.heap.size 144 (pcC ⟨true, pf, pl⟩) := ((Blk.new w 144 _).alloc _).alloc _
  have b1 : Blk (((w.alloc (.cells (pcC ⟨true, pf, pl⟩) 144)).alloc (.cells (pcC ⟨false, qf, ql⟩) 144)).alloc (.cells zero9 144)) (w.heap.size + 1) 144 (pcC ⟨false, qf, ql⟩) := by
    have := (Blk.new (w.alloc (.cells (pcC ⟨true, pf, pl⟩) 144)) 144 (pcC ⟨false, qf, ql⟩)).alloc (.cells zero9 144)
    rw [World.size_alloc] at this
    exact this
  have b2 : Blk (((w.alloc (.cells (pcC ⟨true, pf, pl⟩) 144)).alloc (.cells (pcC ⟨false, qf, ql⟩) 144)).alloc (.cells zero9 144)) (w.heap.size + 1 + 1) 144 zero9 := by
    have := Blk.new ((w.alloc (.cells (pcC ⟨true, pf, pl⟩) 144)).alloc (.cells (pcC ⟨false, qf, ql⟩) 144)) 144 zero9
    rw [World.size_alloc, World.size_alloc] at this
    exact this
  have HR := Lib.hid (((hr.alloc (.cells (pcC ⟨true, pf, pl⟩) 144)).alloc (.cells (pcC ⟨false, qf, ql⟩) 144)).alloc (.cells zero9 144))
  have HM := Lib.hid ((((Moves.refl b T F w).alloc (.cells (pcC ⟨true, pf, pl⟩) 144)).alloc (.cells (pcC ⟨false, qf, ql⟩) 144)).alloc (.cells zero9 144))
  have HL := Lib.hid (link_any b a o pl qf T F l m _ HR.out (HM.out.tz hr hT) hp hn)
  have B0 := Lib.hid b0
  have B1 := Lib.hid b1
  have B2 := Lib.hid b2
  have q := s18_of b0 b1
  have HS0 := Lib.hid q
  clear b0 b1 b2 hT hp hn hr q
  go_enter Tryz.func119, Tryz.ntmps119
  go_wp2_with fail
  refine (HL.out).mono ?_
  rintro e w1 ⟨rfl, hR1, hM1⟩
  have HR1 := Lib.hid hR1
  have HM1 := Lib.hid (HM.out.trans hM1)
  have hb0 := B0.out.moves hM1 (HR.out.off B0.out (by decide) (by decide))
  have hb1 := B1.out.moves hM1 (HR.out.off B1.out (by decide) (by decide))
  have hb2 := B2.out.moves hM1 (HR.out.off B2.out (by decide) (by decide))
  have B0' := Lib.hid hb0
  have B1' := Lib.hid hb1
  have B2' := Lib.hid hb2
  clear hR1 hM1 HR HM HS0 HL B0 B1 B2 hb0 hb1 hb2
  have hsz : w.heap.size + 1 + 1 < w1.heap.size := B2'.out.lt
  have B3 := Lib.hid (Blk.new w1 144 (pcC ⟨false, pf, ql⟩))
  have HRb := Lib.hid (HR1.out.alloc (.cells (pcC ⟨false, pf, ql⟩) 144))
  have HMb := Lib.hid (HM1.out.alloc (.cells (pcC ⟨false, pf, ql⟩) 144))
  have C0 := Lib.hid (B0'.out.alloc (.cells (pcC ⟨false, pf, ql⟩) 144))
  have C1 := Lib.hid (B1'.out.alloc (.cells (pcC ⟨false, pf, ql⟩) 144))
  have C2 := Lib.hid (B2'.out.alloc (.cells (pcC ⟨false, pf, ql⟩) 144))
  obtain ⟨x0, x1, x2, x3, x4, x5, x6, x7, x8⟩ := cells9 B0'.out
  obtain ⟨y0, y1, y2, y3, y4, y5, y6, y7, y8⟩ := cells9 B1'.out
  go_upto_region 3 with fail
  generalize hW : w1.alloc (.cells (pcC _) 144) = W at *
  generalize hj3 : w1.heap.size = j3 at *
  clear hW hj3 x0 x1 x2 x3 x4 x5 x6 x7 x8 y0 y1 y2 y3 y4 y5 y6 y7 y8
  obtain ⟨x0, x1, x2, x3, x4, x5, x6, x7, x8⟩ := cells9 C0.out
  obtain ⟨y0, y1, y2, y3, y4, y5, y6, y7, y8⟩ := cells9 C1.out
  obtain ⟨z0, z1, z2, z3, z4, z5, z6, z7, z8⟩ := cells9 B3.out
  go_wp2_with fail
  refine (with_any pf qf _).mono ?_
  rintro e wn ⟨rfl, hb⟩
  have D0 := Lib.hid (C0.out.below hb)
  have D1 := Lib.hid (C1.out.below hb)
  have D2 := Lib.hid (C2.out.below hb)
  have D3 := Lib.hid (B3.out.below hb)
  have HRd := Lib.hid (HRb.out.below hb)
  have HMd := Lib.hid (HMb.out.below hb)
  clear hb C0 C1 C2 B3 HRb HMb x0 x1 x2 x3 x4 x5 x6 x7 x8 y0 y1 y2 y3 y4 y5 y6 y7 y8 z0 z1 z2 z3 z4 z5 z6 z7 z8
  obtain ⟨x0, x1, x2, x3, x4, x5, x6, x7, x8⟩ := cells9 D0.out
  obtain ⟨y0, y1, y2, y3, y4, y5, y6, y7, y8⟩ := cells9 D1.out
  obtain ⟨z0, z1, z2, z3, z4, z5, z6, z7, z8⟩ := cells9 D3.out
  obtain ⟨f0, f1, f2, f3, f4, f5, f6, f7, f8⟩ := frozen9 D3.out
  go_upto_region 5 with fail
  have C0 := Lib.hid (D0.out.past_a (j := j3) (by omega) (wv (pf ||| qf) 0) (wv (pf ||| qf) 1) (wv (pf ||| qf) 2) (wv (pf ||| qf) 3))
  have C1 := Lib.hid (D1.out.past_a (j := j3) (by omega) (wv (pf ||| qf) 0) (wv (pf ||| qf) 1) (wv (pf ||| qf) 2) (wv (pf ||| qf) 3))
  have C2 := Lib.hid (D2.out.past_a (j := j3) (by omega) (wv (pf ||| qf) 0) (wv (pf ||| qf) 1) (wv (pf ||| qf) 2) (wv (pf ||| qf) 3))
  have B3 := Lib.hid (D3.out.part_a (u := (pf ||| qf)))
  have HRb := Lib.hid (HRd.out.past_a (HRd.out.off D3.out (by decide) (by decide)) (wv (pf ||| qf) 0) (wv (pf ||| qf) 1) (wv (pf ||| qf) 2) (wv (pf ||| qf) 3))
  have HMb := Lib.hid (HMd.out.past_a (j := j3) (by omega) (wv (pf ||| qf) 0) (wv (pf ||| qf) 1) (wv (pf ||| qf) 2) (wv (pf ||| qf) 3))
  generalize hW : ((((wn.setCell ⟨j3, 1, none⟩ (wv (pf ||| qf) 0)).setCell ⟨j3, 2, none⟩ (wv (pf ||| qf) 1)).setCell ⟨j3, 3, none⟩ (wv (pf ||| qf) 2)).setCell ⟨j3, 4, none⟩ (wv (pf ||| qf) 3)) = W at *
  clear hW D0 D1 D2 D3 HRd HMd x0 x1 x2 x3 x4 x5 x6 x7 x8 y0 y1 y2 y3 y4 y5 y6 y7 y8 z0 z1 z2 z3 z4 z5 z6 z7 z8 f0 f1 f2 f3 f4 f5 f6 f7 f8
  obtain ⟨x0, x1, x2, x3, x4, x5, x6, x7, x8⟩ := cells9 C0.out
  obtain ⟨y0, y1, y2, y3, y4, y5, y6, y7, y8⟩ := cells9 C1.out
  obtain ⟨z0, z1, z2, z3, z4, z5, z6, z7, z8⟩ := cells9 B3.out
  obtain ⟨r0, r1, r2, r3, r4, r5, r6, r7, r8⟩ := cells9 C2.out
  obtain ⟨g0, g1, g2, g3, g4, g5, g6, g7, g8⟩ := frozen9 C2.out
  go_wp2
  exact bodyPost_ret (v := pcV ⟨false, (pf ||| qf), ql⟩) (by simp [results, Tryz.results119, go_sem, r0, r1, r2, r3, r4, r5, r6, r7, r8]) rfl ⟨rfl, HRb.out.set9 (HRb.out.off C2.out (by decide) (by decide)) _ _ _ _ _ _ _ _ _, HMb.out.set9 (by omega) _ _ _ _ _ _ _ _ _⟩

set_option maxRecDepth 100000 in
set_option maxHeartbeats 8000000 in
theorem chain_false_true (b a o pf pl qf ql : Nat) (T F : Value) (l : ByteArray) (m : Mach) (w : World) (hr : Rdr w b T F l m a o) (hT : TzT w) (hp : pl < 2 ^ m.follow.length) (hn : m.follow.length ≤ 256) :
    Calls Tryz.prog 119 #[.pointer (some ⟨b, 0, none⟩), pcV ⟨false, pf, pl⟩, pcV ⟨true, qf, ql⟩] w (ChainP b T F l a o w (chainM m ⟨false, pf, pl⟩ ⟨true, qf, ql⟩) (chainP ⟨false, pf, pl⟩ ⟨true, qf, ql⟩)) := by
  have b0 : Blk (((w.alloc (.cells (pcC ⟨false, pf, pl⟩) 144)).alloc (.cells (pcC ⟨true, qf, ql⟩) 144)).alloc (.cells zero9 144)) w.heap.size 144 (pcC ⟨false, pf, pl⟩) := ((Blk.new w 144 _).alloc _).alloc _
  have b1 : Blk (((w.alloc (.cells (pcC ⟨false, pf, pl⟩) 144)).alloc (.cells (pcC ⟨true, qf, ql⟩) 144)).alloc (.cells zero9 144)) (w.heap.size + 1) 144 (pcC ⟨true, qf, ql⟩) := by
    have := (Blk.new (w.alloc (.cells (pcC ⟨false, pf, pl⟩) 144)) 144 (pcC ⟨true, qf, ql⟩)).alloc (.cells zero9 144)
    rw [World.size_alloc] at this
    exact this
  have b2 : Blk (((w.alloc (.cells (pcC ⟨false, pf, pl⟩) 144)).alloc (.cells (pcC ⟨true, qf, ql⟩) 144)).alloc (.cells zero9 144)) (w.heap.size + 1 + 1) 144 zero9 := by
    have := Blk.new ((w.alloc (.cells (pcC ⟨false, pf, pl⟩) 144)).alloc (.cells (pcC ⟨true, qf, ql⟩) 144)) 144 zero9
    rw [World.size_alloc, World.size_alloc] at this
    exact this
  have HR := Lib.hid (((hr.alloc (.cells (pcC ⟨false, pf, pl⟩) 144)).alloc (.cells (pcC ⟨true, qf, ql⟩) 144)).alloc (.cells zero9 144))
  have HM := Lib.hid ((((Moves.refl b T F w).alloc (.cells (pcC ⟨false, pf, pl⟩) 144)).alloc (.cells (pcC ⟨true, qf, ql⟩) 144)).alloc (.cells zero9 144))
  have HL := Lib.hid (link_any b a o pl qf T F l m _ HR.out (HM.out.tz hr hT) hp hn)
  have B0 := Lib.hid b0
  have B1 := Lib.hid b1
  have B2 := Lib.hid b2
  have q := s18_of b0 b1
  have HS0 := Lib.hid q
  clear b0 b1 b2 hT hp hn hr q
  go_enter Tryz.func119, Tryz.ntmps119
  go_wp2_with fail
  refine (HL.out).mono ?_
  rintro e w1 ⟨rfl, hR1, hM1⟩
  have HR1 := Lib.hid hR1
  have HM1 := Lib.hid (HM.out.trans hM1)
  have hb0 := B0.out.moves hM1 (HR.out.off B0.out (by decide) (by decide))
  have hb1 := B1.out.moves hM1 (HR.out.off B1.out (by decide) (by decide))
  have hb2 := B2.out.moves hM1 (HR.out.off B2.out (by decide) (by decide))
  have B0' := Lib.hid hb0
  have B1' := Lib.hid hb1
  have B2' := Lib.hid hb2
  clear hR1 hM1 HR HM HS0 HL B0 B1 B2 hb0 hb1 hb2
  have hsz : w.heap.size + 1 + 1 < w1.heap.size := B2'.out.lt
  have B3 := Lib.hid (Blk.new w1 144 (pcC ⟨false, pf, ql⟩))
  have HRb := Lib.hid (HR1.out.alloc (.cells (pcC ⟨false, pf, ql⟩) 144))
  have HMb := Lib.hid (HM1.out.alloc (.cells (pcC ⟨false, pf, ql⟩) 144))
  have C0 := Lib.hid (B0'.out.alloc (.cells (pcC ⟨false, pf, ql⟩) 144))
  have C1 := Lib.hid (B1'.out.alloc (.cells (pcC ⟨false, pf, ql⟩) 144))
  have C2 := Lib.hid (B2'.out.alloc (.cells (pcC ⟨false, pf, ql⟩) 144))
  obtain ⟨x0, x1, x2, x3, x4, x5, x6, x7, x8⟩ := cells9 B0'.out
  obtain ⟨y0, y1, y2, y3, y4, y5, y6, y7, y8⟩ := cells9 B1'.out
  go_upto_region 3 with fail
  generalize hW : w1.alloc (.cells (pcC _) 144) = W at *
  generalize hj3 : w1.heap.size = j3 at *
  clear hW hj3 x0 x1 x2 x3 x4 x5 x6 x7 x8 y0 y1 y2 y3 y4 y5 y6 y7 y8
  obtain ⟨x0, x1, x2, x3, x4, x5, x6, x7, x8⟩ := cells9 C0.out
  obtain ⟨y0, y1, y2, y3, y4, y5, y6, y7, y8⟩ := cells9 C1.out
  obtain ⟨z0, z1, z2, z3, z4, z5, z6, z7, z8⟩ := cells9 B3.out
  go_wp2_with fail
  refine (with_any ql pl _).mono ?_
  rintro e wn ⟨rfl, hb⟩
  have D0 := Lib.hid (C0.out.below hb)
  have D1 := Lib.hid (C1.out.below hb)
  have D2 := Lib.hid (C2.out.below hb)
  have D3 := Lib.hid (B3.out.below hb)
  have HRd := Lib.hid (HRb.out.below hb)
  have HMd := Lib.hid (HMb.out.below hb)
  clear hb C0 C1 C2 B3 HRb HMb x0 x1 x2 x3 x4 x5 x6 x7 x8 y0 y1 y2 y3 y4 y5 y6 y7 y8 z0 z1 z2 z3 z4 z5 z6 z7 z8
  obtain ⟨x0, x1, x2, x3, x4, x5, x6, x7, x8⟩ := cells9 D0.out
  obtain ⟨y0, y1, y2, y3, y4, y5, y6, y7, y8⟩ := cells9 D1.out
  obtain ⟨z0, z1, z2, z3, z4, z5, z6, z7, z8⟩ := cells9 D3.out
  obtain ⟨f0, f1, f2, f3, f4, f5, f6, f7, f8⟩ := frozen9 D3.out
  go_upto_region 7 with fail
  have C0 := Lib.hid (D0.out.past_b (j := j3) (by omega) (wv (ql ||| pl) 0) (wv (ql ||| pl) 1) (wv (ql ||| pl) 2) (wv (ql ||| pl) 3))
  have C1 := Lib.hid (D1.out.past_b (j := j3) (by omega) (wv (ql ||| pl) 0) (wv (ql ||| pl) 1) (wv (ql ||| pl) 2) (wv (ql ||| pl) 3))
  have C2 := Lib.hid (D2.out.past_b (j := j3) (by omega) (wv (ql ||| pl) 0) (wv (ql ||| pl) 1) (wv (ql ||| pl) 2) (wv (ql ||| pl) 3))
  have B3 := Lib.hid (D3.out.part_b (u := (ql ||| pl)))
  have HRb := Lib.hid (HRd.out.past_b (HRd.out.off D3.out (by decide) (by decide)) (wv (ql ||| pl) 0) (wv (ql ||| pl) 1) (wv (ql ||| pl) 2) (wv (ql ||| pl) 3))
  have HMb := Lib.hid (HMd.out.past_b (j := j3) (by omega) (wv (ql ||| pl) 0) (wv (ql ||| pl) 1) (wv (ql ||| pl) 2) (wv (ql ||| pl) 3))
  generalize hW : ((((wn.setCell ⟨j3, 5, none⟩ (wv (ql ||| pl) 0)).setCell ⟨j3, 6, none⟩ (wv (ql ||| pl) 1)).setCell ⟨j3, 7, none⟩ (wv (ql ||| pl) 2)).setCell ⟨j3, 8, none⟩ (wv (ql ||| pl) 3)) = W at *
  clear hW D0 D1 D2 D3 HRd HMd x0 x1 x2 x3 x4 x5 x6 x7 x8 y0 y1 y2 y3 y4 y5 y6 y7 y8 z0 z1 z2 z3 z4 z5 z6 z7 z8 f0 f1 f2 f3 f4 f5 f6 f7 f8
  obtain ⟨x0, x1, x2, x3, x4, x5, x6, x7, x8⟩ := cells9 C0.out
  obtain ⟨y0, y1, y2, y3, y4, y5, y6, y7, y8⟩ := cells9 C1.out
  obtain ⟨z0, z1, z2, z3, z4, z5, z6, z7, z8⟩ := cells9 B3.out
  obtain ⟨r0, r1, r2, r3, r4, r5, r6, r7, r8⟩ := cells9 C2.out
  obtain ⟨g0, g1, g2, g3, g4, g5, g6, g7, g8⟩ := frozen9 C2.out
  go_wp2
  exact bodyPost_ret (v := pcV ⟨false, pf, (ql ||| pl)⟩) (by simp [results, Tryz.results119, go_sem, r0, r1, r2, r3, r4, r5, r6, r7, r8]) rfl ⟨rfl, HRb.out.set9 (HRb.out.off C2.out (by decide) (by decide)) _ _ _ _ _ _ _ _ _, HMb.out.set9 (by omega) _ _ _ _ _ _ _ _ _⟩

set_option maxRecDepth 100000 in
set_option maxHeartbeats 8000000 in
theorem chain_false_false (b a o pf pl qf ql : Nat) (T F : Value) (l : ByteArray) (m : Mach) (w : World) (hr : Rdr w b T F l m a o) (hT : TzT w) (hp : pl < 2 ^ m.follow.length) (hn : m.follow.length ≤ 256) :
    Calls Tryz.prog 119 #[.pointer (some ⟨b, 0, none⟩), pcV ⟨false, pf, pl⟩, pcV ⟨false, qf, ql⟩] w (ChainP b T F l a o w (chainM m ⟨false, pf, pl⟩ ⟨false, qf, ql⟩) (chainP ⟨false, pf, pl⟩ ⟨false, qf, ql⟩)) := by
  have b0 : Blk (((w.alloc (.cells (pcC ⟨false, pf, pl⟩) 144)).alloc (.cells (pcC ⟨false, qf, ql⟩) 144)).alloc (.cells zero9 144)) w.heap.size 144 (pcC ⟨false, pf, pl⟩) := ((Blk.new w 144 _).alloc _).alloc _
  have b1 : Blk (((w.alloc (.cells (pcC ⟨false, pf, pl⟩) 144)).alloc (.cells (pcC ⟨false, qf, ql⟩) 144)).alloc (.cells zero9 144)) (w.heap.size + 1) 144 (pcC ⟨false, qf, ql⟩) := by
    have := (Blk.new (w.alloc (.cells (pcC ⟨false, pf, pl⟩) 144)) 144 (pcC ⟨false, qf, ql⟩)).alloc (.cells zero9 144)
    rw [World.size_alloc] at this
    exact this
  have b2 : Blk (((w.alloc (.cells (pcC ⟨false, pf, pl⟩) 144)).alloc (.cells (pcC ⟨false, qf, ql⟩) 144)).alloc (.cells zero9 144)) (w.heap.size + 1 + 1) 144 zero9 := by
    have := Blk.new ((w.alloc (.cells (pcC ⟨false, pf, pl⟩) 144)).alloc (.cells (pcC ⟨false, qf, ql⟩) 144)) 144 zero9
    rw [World.size_alloc, World.size_alloc] at this
    exact this
  have HR := Lib.hid (((hr.alloc (.cells (pcC ⟨false, pf, pl⟩) 144)).alloc (.cells (pcC ⟨false, qf, ql⟩) 144)).alloc (.cells zero9 144))
  have HM := Lib.hid ((((Moves.refl b T F w).alloc (.cells (pcC ⟨false, pf, pl⟩) 144)).alloc (.cells (pcC ⟨false, qf, ql⟩) 144)).alloc (.cells zero9 144))
  have HL := Lib.hid (link_any b a o pl qf T F l m _ HR.out (HM.out.tz hr hT) hp hn)
  have B0 := Lib.hid b0
  have B1 := Lib.hid b1
  have B2 := Lib.hid b2
  have q := s18_of b0 b1
  have HS0 := Lib.hid q
  clear b0 b1 b2 hT hp hn hr q
  go_enter Tryz.func119, Tryz.ntmps119
  go_wp2_with fail
  refine (HL.out).mono ?_
  rintro e w1 ⟨rfl, hR1, hM1⟩
  have HR1 := Lib.hid hR1
  have HM1 := Lib.hid (HM.out.trans hM1)
  have hb0 := B0.out.moves hM1 (HR.out.off B0.out (by decide) (by decide))
  have hb1 := B1.out.moves hM1 (HR.out.off B1.out (by decide) (by decide))
  have hb2 := B2.out.moves hM1 (HR.out.off B2.out (by decide) (by decide))
  have B0' := Lib.hid hb0
  have B1' := Lib.hid hb1
  have B2' := Lib.hid hb2
  clear hR1 hM1 HR HM HS0 HL B0 B1 B2 hb0 hb1 hb2
  have hsz : w.heap.size + 1 + 1 < w1.heap.size := B2'.out.lt
  have B3 := Lib.hid (Blk.new w1 144 (pcC ⟨false, pf, ql⟩))
  have HRb := Lib.hid (HR1.out.alloc (.cells (pcC ⟨false, pf, ql⟩) 144))
  have HMb := Lib.hid (HM1.out.alloc (.cells (pcC ⟨false, pf, ql⟩) 144))
  have C0 := Lib.hid (B0'.out.alloc (.cells (pcC ⟨false, pf, ql⟩) 144))
  have C1 := Lib.hid (B1'.out.alloc (.cells (pcC ⟨false, pf, ql⟩) 144))
  have C2 := Lib.hid (B2'.out.alloc (.cells (pcC ⟨false, pf, ql⟩) 144))
  obtain ⟨x0, x1, x2, x3, x4, x5, x6, x7, x8⟩ := cells9 B0'.out
  obtain ⟨y0, y1, y2, y3, y4, y5, y6, y7, y8⟩ := cells9 B1'.out
  go_upto_region 3 with fail
  generalize hW : w1.alloc (.cells (pcC _) 144) = W at *
  generalize hj3 : w1.heap.size = j3 at *
  clear hW hj3 x0 x1 x2 x3 x4 x5 x6 x7 x8 y0 y1 y2 y3 y4 y5 y6 y7 y8
  obtain ⟨x0, x1, x2, x3, x4, x5, x6, x7, x8⟩ := cells9 C0.out
  obtain ⟨y0, y1, y2, y3, y4, y5, y6, y7, y8⟩ := cells9 C1.out
  obtain ⟨z0, z1, z2, z3, z4, z5, z6, z7, z8⟩ := cells9 B3.out
  obtain ⟨r0, r1, r2, r3, r4, r5, r6, r7, r8⟩ := cells9 C2.out
  obtain ⟨g0, g1, g2, g3, g4, g5, g6, g7, g8⟩ := frozen9 C2.out
  go_wp2
  exact bodyPost_ret (v := pcV ⟨false, pf, ql⟩) (by simp [results, Tryz.results119, go_sem, r0, r1, r2, r3, r4, r5, r6, r7, r8]) rfl ⟨rfl, HRb.out.set9 (HRb.out.off C2.out (by decide) (by decide)) _ _ _ _ _ _ _ _ _, HMb.out.set9 (by omega) _ _ _ _ _ _ _ _ _⟩

theorem chain_any (b a o : Nat) (p q : Pc) (T F : Value) (l : ByteArray) (m : Mach) (w : World) (hr : Rdr w b T F l m a o) (hT : TzT w) (hp : p.last < 2 ^ m.follow.length) (hn : m.follow.length ≤ 256) :
    Calls Tryz.prog 119 #[.pointer (some ⟨b, 0, none⟩), pcV p, pcV q] w (ChainP b T F l a o w (chainM m p q) (chainP p q)) := by
  obtain ⟨pe, pf, pl⟩ := p
  obtain ⟨qe, qf, ql⟩ := q
  cases pe <;> cases qe
  · exact chain_false_false b a o pf pl qf ql T F l m w hr hT hp hn
  · exact chain_false_true b a o pf pl qf ql T F l m w hr hT hp hn
  · exact chain_true_false b a o pf pl qf ql T F l m w hr hT hp hn
  · exact chain_true_true b a o pf pl qf ql T F l m w hr hT hp hn
end Go.Proofs.YtmodehfedhgcbaaGreatDoor.Rg

namespace Go.Proofs.YtmodehfedhgcbaaGreatDoor.Rg
open Go.RowKit Rx
set_option linter.unusedVariables false

set_option maxRecDepth 100000 in
set_option maxHeartbeats 8000000 in
theorem repeat_q (b a o pf pl : Nat) (pe : Bool) (T F : Value) (l : ByteArray) (m : Mach) (w : World) (hr : Rdr w b T F l m a o) (hT : TzT w) (hp : pl < 2 ^ m.follow.length) (hn : m.follow.length ≤ 256) :
    Calls Tryz.prog 131 #[.pointer (some ⟨b, 0, none⟩), pcV ⟨pe, pf, pl⟩, .int .u8 63] w (ChainP b T F l a o w m ⟨true, pf, pl⟩) := by
  have b0 : Blk ((w.alloc (.cells (pcC ⟨pe, pf, pl⟩) 144)).alloc (.cells zero9 144)) w.heap.size 144 (pcC ⟨pe, pf, pl⟩) := (Blk.new w 144 _).alloc _
  have b2 : Blk ((w.alloc (.cells (pcC ⟨pe, pf, pl⟩) 144)).alloc (.cells zero9 144)) (w.heap.size + 1) 144 zero9 := by
    have := Blk.new (w.alloc (.cells (pcC ⟨pe, pf, pl⟩) 144)) 144 zero9
    rw [World.size_alloc] at this
    exact this
  have HR := Lib.hid ((hr.alloc (.cells (pcC ⟨pe, pf, pl⟩) 144)).alloc (.cells zero9 144))
  have HM := Lib.hid (((Moves.refl b T F w).alloc (.cells (pcC ⟨pe, pf, pl⟩) 144)).alloc (.cells zero9 144))
  have HL := Lib.hid (link_any b a o pl pf T F l m _ HR.out (HM.out.tz hr hT) hp hn)
  have B0 := Lib.hid b0
  have B2 := Lib.hid b2
  clear b0 b2 hT hp hn hr
  go_enter Tryz.func131, Tryz.ntmps131
  go_upto_region 3 with fail
  generalize hW : (w.alloc (.cells (pcC _) 144)).alloc (.cells zero9 144) = w1 at *
  have HR1 := HR
  have HM1 := HM
  have C0 := B0
  have C2 := B2
  clear hW HR HM B0 B2 HL
  obtain ⟨x0, x1, x2, x3, x4, x5, x6, x7, x8⟩ := cells9 C0.out
  obtain ⟨f0, f1, f2, f3, f4, f5, f6, f7, f8⟩ := frozen9 C0.out
  go_upto_region 5 with fail
  have D0 : Hid (Blk (w1.setCell ⟨w.heap.size, 0, none⟩ (.bool true)) w.heap.size 144 (pcC ⟨true, pf, pl⟩)) := by
    have h := C0.out.set_ 0 (.bool true)
    simp only [List.setIfInBounds_toArray, List.set_cons_zero] at h
    exact h
  have D2 := Lib.hid (C2.out.other (k := w.heap.size) (by omega) 0 (.bool true))
  have HR2 := Lib.hid (HR1.out.other (HR1.out.off C0.out (by decide) (by decide)) 0 (.bool true))
  have HM2 := Lib.hid (HM1.out.set_new (g := w.heap.size) (Nat.le_refl _) 0 (.bool true))
  generalize hW : w1.setCell ⟨w.heap.size, 0, none⟩ (.bool true) = w2 at *
  clear hW C0 C2 HR1 HM1 x0 x1 x2 x3 x4 x5 x6 x7 x8 f0 f1 f2 f3 f4 f5 f6 f7 f8
  obtain ⟨x0, x1, x2, x3, x4, x5, x6, x7, x8⟩ := cells9 D0.out
  obtain ⟨r0, r1, r2, r3, r4, r5, r6, r7, r8⟩ := cells9 D2.out
  obtain ⟨g0, g1, g2, g3, g4, g5, g6, g7, g8⟩ := frozen9 D2.out
  go_wp2
  exact bodyPost_ret (v := pcV ⟨true, pf, pl⟩) (by simp [results, Tryz.results131, go_sem, r0, r1, r2, r3, r4, r5, r6, r7, r8]) rfl ⟨rfl, HR2.out.set9 (HR2.out.off D2.out (by decide) (by decide)) _ _ _ _ _ _ _ _ _, HM2.out.set9 (by omega) _ _ _ _ _ _ _ _ _⟩

set_option maxRecDepth 100000 in
set_option maxHeartbeats 8000000 in
theorem repeat_p (b a o pf pl : Nat) (pe : Bool) (T F : Value) (l : ByteArray) (m : Mach) (w : World) (hr : Rdr w b T F l m a o) (hT : TzT w) (hp : pl < 2 ^ m.follow.length) (hn : m.follow.length ≤ 256) :
    Calls Tryz.prog 131 #[.pointer (some ⟨b, 0, none⟩), pcV ⟨pe, pf, pl⟩, .int .u8 43] w (ChainP b T F l a o w (linkM m pl pf) ⟨pe, pf, pl⟩) := by
  have b0 : Blk ((w.alloc (.cells (pcC ⟨pe, pf, pl⟩) 144)).alloc (.cells zero9 144)) w.heap.size 144 (pcC ⟨pe, pf, pl⟩) := (Blk.new w 144 _).alloc _
  have b2 : Blk ((w.alloc (.cells (pcC ⟨pe, pf, pl⟩) 144)).alloc (.cells zero9 144)) (w.heap.size + 1) 144 zero9 := by
    have := Blk.new (w.alloc (.cells (pcC ⟨pe, pf, pl⟩) 144)) 144 zero9
    rw [World.size_alloc] at this
    exact this
  have HR := Lib.hid ((hr.alloc (.cells (pcC ⟨pe, pf, pl⟩) 144)).alloc (.cells zero9 144))
  have HM := Lib.hid (((Moves.refl b T F w).alloc (.cells (pcC ⟨pe, pf, pl⟩) 144)).alloc (.cells zero9 144))
  have HL := Lib.hid (link_any b a o pl pf T F l m _ HR.out (HM.out.tz hr hT) hp hn)
  have B0 := Lib.hid b0
  have B2 := Lib.hid b2
  clear b0 b2 hT hp hn hr
  go_enter Tryz.func131, Tryz.ntmps131
  obtain ⟨x0, x1, x2, x3, x4, x5, x6, x7, x8⟩ := cells9 B0.out
  go_wp2_with fail
  refine (HL.out).mono ?_
  rintro e w1 ⟨rfl, hR1, hM1⟩
  have HR1 := Lib.hid hR1
  have HM1 := Lib.hid (HM.out.trans hM1)
  have C0 := Lib.hid (B0.out.moves hM1 (HR.out.off B0.out (by decide) (by decide)))
  have C2 := Lib.hid (B2.out.moves hM1 (HR.out.off B2.out (by decide) (by decide)))
  clear hR1 hM1 HR HM HL B0 B2 x0 x1 x2 x3 x4 x5 x6 x7 x8
  have D0 := C0
  have D2 := C2
  have HR2 := HR1
  have HM2 := HM1
  clear C0 C2 HR1 HM1
  obtain ⟨x0, x1, x2, x3, x4, x5, x6, x7, x8⟩ := cells9 D0.out
  obtain ⟨r0, r1, r2, r3, r4, r5, r6, r7, r8⟩ := cells9 D2.out
  obtain ⟨g0, g1, g2, g3, g4, g5, g6, g7, g8⟩ := frozen9 D2.out
  go_wp2
  exact bodyPost_ret (v := pcV ⟨pe, pf, pl⟩) (by simp [results, Tryz.results131, go_sem, r0, r1, r2, r3, r4, r5, r6, r7, r8]) rfl ⟨rfl, HR2.out.set9 (HR2.out.off D2.out (by decide) (by decide)) _ _ _ _ _ _ _ _ _, HM2.out.set9 (by omega) _ _ _ _ _ _ _ _ _⟩

set_option maxRecDepth 100000 in
set_option maxHeartbeats 8000000 in
theorem repeat_s (b a o pf pl c : Nat) (pe : Bool) (T F : Value) (l : ByteArray) (m : Mach) (w : World) (hr : Rdr w b T F l m a o) (hT : TzT w) (hp : pl < 2 ^ m.follow.length) (hn : m.follow.length ≤ 256) (h1 : c ≠ 63) (h2 : c ≠ 43) :
    Calls Tryz.prog 131 #[.pointer (some ⟨b, 0, none⟩), pcV ⟨pe, pf, pl⟩, .int .u8 c] w (ChainP b T F l a o w (linkM m pl pf) ⟨true, pf, pl⟩) := by
  have b0 : Blk ((w.alloc (.cells (pcC ⟨pe, pf, pl⟩) 144)).alloc (.cells zero9 144)) w.heap.size 144 (pcC ⟨pe, pf, pl⟩) := (Blk.new w 144 _).alloc _
  have b2 : Blk ((w.alloc (.cells (pcC ⟨pe, pf, pl⟩) 144)).alloc (.cells zero9 144)) (w.heap.size + 1) 144 zero9 := by
    have := Blk.new (w.alloc (.cells (pcC ⟨pe, pf, pl⟩) 144)) 144 zero9
    rw [World.size_alloc] at this
    exact this
  have HR := Lib.hid ((hr.alloc (.cells (pcC ⟨pe, pf, pl⟩) 144)).alloc (.cells zero9 144))
  have HM := Lib.hid (((Moves.refl b T F w).alloc (.cells (pcC ⟨pe, pf, pl⟩) 144)).alloc (.cells zero9 144))
  have HL := Lib.hid (link_any b a o pl pf T F l m _ HR.out (HM.out.tz hr hT) hp hn)
  have B0 := Lib.hid b0
  have B2 := Lib.hid b2
  have e1 : ((c : Int) != 63) = true := by simp; omega
  have e2 : ((c : Int) != 43) = true := by simp; omega
  clear b0 b2 hT hp hn hr
  go_enter Tryz.func131, Tryz.ntmps131
  obtain ⟨x0, x1, x2, x3, x4, x5, x6, x7, x8⟩ := cells9 B0.out
  go_wp2_with fail
  refine (HL.out).mono ?_
  rintro e w1 ⟨rfl, hR1, hM1⟩
  have HR1 := Lib.hid hR1
  have HM1 := Lib.hid (HM.out.trans hM1)
  have C0 := Lib.hid (B0.out.moves hM1 (HR.out.off B0.out (by decide) (by decide)))
  have C2 := Lib.hid (B2.out.moves hM1 (HR.out.off B2.out (by decide) (by decide)))
  clear hR1 hM1 HR HM HL B0 B2 x0 x1 x2 x3 x4 x5 x6 x7 x8
  obtain ⟨x0, x1, x2, x3, x4, x5, x6, x7, x8⟩ := cells9 C0.out
  obtain ⟨f0, f1, f2, f3, f4, f5, f6, f7, f8⟩ := frozen9 C0.out
  go_upto_region 5 with fail
  have D0 : Hid (Blk (w1.setCell ⟨w.heap.size, 0, none⟩ (.bool true)) w.heap.size 144 (pcC ⟨true, pf, pl⟩)) := by
    have h := C0.out.set_ 0 (.bool true)
    simp only [List.setIfInBounds_toArray, List.set_cons_zero] at h
    exact h
  have D2 := Lib.hid (C2.out.other (k := w.heap.size) (by omega) 0 (.bool true))
  have HR2 := Lib.hid (HR1.out.other (HR1.out.off C0.out (by decide) (by decide)) 0 (.bool true))
  have HM2 := Lib.hid (HM1.out.set_new (g := w.heap.size) (Nat.le_refl _) 0 (.bool true))
  generalize hW : w1.setCell ⟨w.heap.size, 0, none⟩ (.bool true) = w2 at *
  clear hW C0 C2 HR1 HM1 x0 x1 x2 x3 x4 x5 x6 x7 x8 f0 f1 f2 f3 f4 f5 f6 f7 f8
  obtain ⟨x0, x1, x2, x3, x4, x5, x6, x7, x8⟩ := cells9 D0.out
  obtain ⟨r0, r1, r2, r3, r4, r5, r6, r7, r8⟩ := cells9 D2.out
  obtain ⟨g0, g1, g2, g3, g4, g5, g6, g7, g8⟩ := frozen9 D2.out
  go_wp2
  exact bodyPost_ret (v := pcV ⟨true, pf, pl⟩) (by simp [results, Tryz.results131, go_sem, r0, r1, r2, r3, r4, r5, r6, r7, r8]) rfl ⟨rfl, HR2.out.set9 (HR2.out.off D2.out (by decide) (by decide)) _ _ _ _ _ _ _ _ _, HM2.out.set9 (by omega) _ _ _ _ _ _ _ _ _⟩

theorem repeat_any (b a o c : Nat) (p : Pc) (T F : Value) (l : ByteArray) (m : Mach) (w : World) (hr : Rdr w b T F l m a o) (hT : TzT w) (hp : p.last < 2 ^ m.follow.length) (hn : m.follow.length ≤ 256) :
    Calls Tryz.prog 131 #[.pointer (some ⟨b, 0, none⟩), pcV p, .int .u8 c] w (ChainP b T F l a o w (repM m p c) (repP p c)) := by
  obtain ⟨pe, pf, pl⟩ := p
  by_cases h1 : c = 63
  · subst h1; exact repeat_q b a o pf pl pe T F l m w hr hT hp hn
  · by_cases h2 : c = 43
    · subst h2; exact repeat_p b a o pf pl pe T F l m w hr hT hp hn
    · have e1 : repM m ⟨pe, pf, pl⟩ c = linkM m pl pf := if_neg h1
      have e2 : repP ⟨pe, pf, pl⟩ c = ⟨true, pf, pl⟩ := if_neg h2
      rw [e1, e2]
      exact repeat_s b a o pf pl c pe T F l m w hr hT hp hn h1 h2

theorem Blk.whole9 {w : World} {g : Nat} {T F l a o v0 v1 v2 v3 v4 v5 v6 v7 v8 x0 x1 x2 x3 x4 x5 x6 x7 x8 : Value} (h : Blk w g 142 #[T, F, x0, x1, x2, x3, x4, x5, x6, x7, x8, l, a, o]) : Blk (((((((((w.setCell ⟨g, 2, none⟩ v0).setCell ⟨g, 3, none⟩ v1).setCell ⟨g, 4, none⟩ v2).setCell ⟨g, 5, none⟩ v3).setCell ⟨g, 6, none⟩ v4).setCell ⟨g, 7, none⟩ v5).setCell ⟨g, 8, none⟩ v6).setCell ⟨g, 9, none⟩ v7).setCell ⟨g, 10, none⟩ v8) g 142 #[T, F, v0, v1, v2, v3, v4, v5, v6, v7, v8, l, a, o] := by
  have h0 := h.set_ 2 v0
  simp only [List.setIfInBounds_toArray, List.set_cons_zero, List.set_cons_succ] at h0
  have h1 := h0.set_ 3 v1
  simp only [List.setIfInBounds_toArray, List.set_cons_zero, List.set_cons_succ] at h1
  have h2 := h1.set_ 4 v2
  simp only [List.setIfInBounds_toArray, List.set_cons_zero, List.set_cons_succ] at h2
  have h3 := h2.set_ 5 v3
  simp only [List.setIfInBounds_toArray, List.set_cons_zero, List.set_cons_succ] at h3
  have h4 := h3.set_ 6 v4
  simp only [List.setIfInBounds_toArray, List.set_cons_zero, List.set_cons_succ] at h4
  have h5 := h4.set_ 7 v5
  simp only [List.setIfInBounds_toArray, List.set_cons_zero, List.set_cons_succ] at h5
  have h6 := h5.set_ 8 v6
  simp only [List.setIfInBounds_toArray, List.set_cons_zero, List.set_cons_succ] at h6
  have h7 := h6.set_ 9 v7
  simp only [List.setIfInBounds_toArray, List.set_cons_zero, List.set_cons_succ] at h7
  have h8 := h7.set_ 10 v8
  simp only [List.setIfInBounds_toArray, List.set_cons_zero, List.set_cons_succ] at h8
  exact h8
theorem Blk.past4 {w : World} {j k : Nat} {t : TypeId} {cs : Array Value} (h : Blk w k t cs) (hj : k ≠ j) (v0 v1 v2 v3 : Value) : Blk ((((w.setCell ⟨j, 2, none⟩ v0).setCell ⟨j, 3, none⟩ v1).setCell ⟨j, 4, none⟩ v2).setCell ⟨j, 5, none⟩ v3) k t cs := (((h.other hj 2 _).other hj 3 _).other hj 4 _).other hj 5 _
set_option maxRecDepth 100000 in
set_option maxHeartbeats 8000000 in
/-- the machine is whole: the reader is read no more -/
theorem whole_any (b a o : Nat) (p : Pc) (T F : Value) (l : ByteArray) (m : Mach) (w : World) (hr : Rdr w b T F l m a o) :
    Calls Tryz.prog 90 #[.pointer (some ⟨b, 0, none⟩), pcV p] w fun e w' => e = .returned (.tuple #[]) ∧ Moves b T F w T F w' ∧
      Blk w' b 142 #[T, F, wv p.last 0, wv p.last 1, wv p.last 2, wv p.last 3, wv p.first 0, wv p.first 1, wv p.first 2, wv p.first 3, .bool p.empty, .string l, .int .i64 a, .int .i64 o] ∧ rowS w' T m.takes ∧ rowS w' F m.follow := by
  obtain ⟨pe, pf, pl⟩ := p
  have HR := Lib.hid (hr.alloc (.cells (pcC ⟨pe, pf, pl⟩) 144))
  have HM := Lib.hid ((Moves.refl b T F w).alloc (.cells (pcC ⟨pe, pf, pl⟩) 144))
  have B0 := Lib.hid (Blk.new w 144 (pcC ⟨pe, pf, pl⟩))
  obtain ⟨x0, x1, x2, x3, x4, x5, x6, x7, x8⟩ := cells9 B0.out
  have c2 : (w.alloc (.cells (pcC ⟨pe, pf, pl⟩) 144)).cell? ⟨b, 2, none⟩ = some (.int .u64 0) := HR.out.blk.cell 2
  have c3 : (w.alloc (.cells (pcC ⟨pe, pf, pl⟩) 144)).cell? ⟨b, 3, none⟩ = some (.int .u64 0) := HR.out.blk.cell 3
  have c4 : (w.alloc (.cells (pcC ⟨pe, pf, pl⟩) 144)).cell? ⟨b, 4, none⟩ = some (.int .u64 0) := HR.out.blk.cell 4
  have c5 : (w.alloc (.cells (pcC ⟨pe, pf, pl⟩) 144)).cell? ⟨b, 5, none⟩ = some (.int .u64 0) := HR.out.blk.cell 5
  have c6 : (w.alloc (.cells (pcC ⟨pe, pf, pl⟩) 144)).cell? ⟨b, 6, none⟩ = some (.int .u64 0) := HR.out.blk.cell 6
  have c7 : (w.alloc (.cells (pcC ⟨pe, pf, pl⟩) 144)).cell? ⟨b, 7, none⟩ = some (.int .u64 0) := HR.out.blk.cell 7
  have c8 : (w.alloc (.cells (pcC ⟨pe, pf, pl⟩) 144)).cell? ⟨b, 8, none⟩ = some (.int .u64 0) := HR.out.blk.cell 8
  have c9 : (w.alloc (.cells (pcC ⟨pe, pf, pl⟩) 144)).cell? ⟨b, 9, none⟩ = some (.int .u64 0) := HR.out.blk.cell 9
  have c10 : (w.alloc (.cells (pcC ⟨pe, pf, pl⟩) 144)).cell? ⟨b, 10, none⟩ = some (.bool false) := HR.out.blk.cell 10
  have f2 := HR.out.blk.frozen 2
  have f3 := HR.out.blk.frozen 3
  have f4 := HR.out.blk.frozen 4
  have f5 := HR.out.blk.frozen 5
  have f6 := HR.out.blk.frozen 6
  have f7 := HR.out.blk.frozen 7
  have f8 := HR.out.blk.frozen 8
  have f9 := HR.out.blk.frozen 9
  have f10 := HR.out.blk.frozen 10
  have hbn : b < w.heap.size := hr.blk.lt
  have HK := Lib.hid hr
  clear hr
  go_enter Tryz.func90, Tryz.ntmps90
  go_upto_region 1 with fail
  generalize hW : w.alloc (.cells (pcC _) 144) = W at *
  clear hW
  go_upto_region 2 with fail
  have hne : b ≠ w.heap.size := by omega
  have hne2 : w.heap.size ≠ b := by omega
  obtain ⟨y0, y1, y2, y3, y4, y5, y6, y7, y8⟩ := cells9 (B0.out.past4 hne2 (wv pl 0) (wv pl 1) (wv pl 2) (wv pl 3))
  go_wp2
  refine bodyPost_end (v := .tuple #[]) (by simp [results, Tryz.results90, go_sem]) rfl ⟨rfl, ?_, ?_, ?_, ?_⟩
  · exact (((((((((HM.out.set_foot (foot_self b T F) _ _).set_foot (foot_self b T F) _ _).set_foot (foot_self b T F) _ _).set_foot (foot_self b T F) _ _).set_foot (foot_self b T F) _ _).set_foot (foot_self b T F) _ _).set_foot (foot_self b T F) _ _).set_foot (foot_self b T F) _ _).set_foot (foot_self b T F) _ _)
  · exact HR.out.blk.whole9
  · exact own_ne (own_ne (own_ne (own_ne (own_ne (own_ne (own_ne (own_ne (own_ne HR.out.tk HR.out.t_b _ _) HR.out.t_b _ _) HR.out.t_b _ _) HR.out.t_b _ _) HR.out.t_b _ _) HR.out.t_b _ _) HR.out.t_b _ _) HR.out.t_b _ _) HR.out.t_b _ _
  · exact own_ne (own_ne (own_ne (own_ne (own_ne (own_ne (own_ne (own_ne (own_ne HR.out.fl HR.out.f_b _ _) HR.out.f_b _ _) HR.out.f_b _ _) HR.out.f_b _ _) HR.out.f_b _ _) HR.out.f_b _ _) HR.out.f_b _ _) HR.out.f_b _ _) HR.out.f_b _ _
end Go.Proofs.YtmodehfedhgcbaaGreatDoor.Rg

namespace Go.Proofs.YtmodehfedhgcbaaGreatDoor.Rg
open Go.RowKit Rx
set_option linter.unusedVariables false

/-! classes -/
def PP (b : Nat) (T F : Value) (l : ByteArray) (o : Nat) (w : World) (r : Res) (e : Ending) (w' : World) : Prop :=
  ∃ T' F', Moves b T F w T' F' w' ∧ match r with
  | .bad pl c => ∃ p err, e = .returned (.tuple #[pcV p, err]) ∧ ErrAt w' err pl c
  | .ok a m p => e = .returned (.tuple #[pcV p, .nilIface]) ∧ Rdr w' b T' F' l m a o
theorem pp_bad {b : Nat} {T F T' F' : Value} {l : ByteArray} {o : Nat} {w w' : World} {r : Res} {pl c f : Nat} {v : Value} {p : Pc} (hr : r = .bad pl c) (hM : Moves b T F w T' F' w') (hv : v = pcV p) (hb : Blk w' f 130 #[.int .i64 pl, .iface 41 (.int .i64 c)]) :
    PP b T F l o w r (.returned (.tuple #[v, .iface 128 (.pointer (some ⟨f, 0, none⟩))])) w' := by
  subst hr; subst hv; exact ⟨T', F', hM, p, _, rfl, f, rfl, hb⟩
theorem pp_ok {b : Nat} {T F T' F' : Value} {l : ByteArray} {o : Nat} {w w' : World} {r : Res} {a : Nat} {m : Mach} {v : Value} {p : Pc} (hr : r = .ok a m p) (hM : Moves b T F w T' F' w') (hv : v = pcV p) (hR : Rdr w' b T' F' l m a o) :
    PP b T F l o w r (.returned (.tuple #[v, .nilIface])) w' := by
  subst hr; subst hv; exact ⟨T', F', hM, rfl, hR⟩
def pc0 : Pc := ⟨false, 0, 0⟩
theorem pc0_eq : (.agg #[.bool false, .int .u64 0, .int .u64 0, .int .u64 0, .int .u64 0, .int .u64 0, .int .u64 0, .int .u64 0, .int .u64 0] : Value) = pcV pc0 := by
  unfold pcV pcC pc0
  simp only [wv_zero]
/-- the place of a reader, for a loop's measure -/
def atOf (w : World) (b : Nat) : Nat := match w.cell? ⟨b, 12, none⟩ with | some v => (intOf v).toNat | none => 0
theorem Rdr.at_of {w : World} {b : Nat} {T F : Value} {l : ByteArray} {m : Mach} {a o : Nat} (h : Rdr w b T F l m a o) : atOf w b = a := by
  unfold atOf; rw [(rd_cells h).2.2.2.1]; simp [intOf]
theorem blk_ne {w : World} {j k : Nat} {t u : TypeId} {cs ds : Array Value} (h1 : Blk w j t cs) (h2 : Blk w k u ds) (ht : t ≠ u) : j ≠ k := by
  rintro rfl
  unfold Blk at h1 h2
  rw [h1] at h2
  injection h2 with h2
  injection h2 with _ h2
  exact ht h2
theorem below_drew (w : World) : Below w.heap.size w w.drew := ⟨rfl, rfl, rfl, Nat.le_refl _, fun _ _ => rfl⟩
theorem Blk.set4c {w : World} {j t u : Nat} {ty : TypeId} (h : Blk w j ty (setC t)) : Blk ((((w.setCell ⟨j, 0, none⟩ (wv u 0)).setCell ⟨j, 1, none⟩ (wv u 1)).setCell ⟨j, 2, none⟩ (wv u 2)).setCell ⟨j, 3, none⟩ (wv u 3)) j ty (setC u) := by
  have h0 := h.set_ 0 (wv u 0)
  simp only [List.setIfInBounds_toArray, List.set_cons_zero] at h0
  have h1 := h0.set_ 1 (wv u 1)
  simp only [List.setIfInBounds_toArray, List.set_cons_zero, List.set_cons_succ] at h1
  have h2 := h1.set_ 2 (wv u 2)
  simp only [List.setIfInBounds_toArray, List.set_cons_zero, List.set_cons_succ] at h2
  have h3 := h2.set_ 3 (wv u 3)
  simp only [List.setIfInBounds_toArray, List.set_cons_zero, List.set_cons_succ] at h3
  exact h3
set_option maxRecDepth 100000 in
set_option maxHeartbeats 8000000 in
theorem class_no (b a o : Nat) (T F : Value) (l : ByteArray) (m : Mach) (w : World) (hr : Rdr w b T F l m a o) (hl : l.size ≤ 200) (ha : a < l.size) (hn : m.takes.length < 256) (hm : m.follow.length = m.takes.length) (hs : sees l (a + 1) 94 = false) :
    Calls Tryz.prog 140 #[.pointer (some ⟨b, 0, none⟩)] w (PP b T F l o w (classF l a m)) := by
  have hC : ∀ r, itemsF l (l.size + 1) (a + 1) 0 = r → classF l a m = match r with | .bad pl => .bad pl 2 | .ok a1 t => .ok (a1 + 1) (placeM m (t)) (placeP m) := fun r h => by unfold classF; rw [hs]; simp only [Bool.false_eq_true, if_false]; rw [h]; cases r <;> rfl
  have HC := Lib.hid hC
  have HR := Lib.hid (hr.alloc (.cells zero9 144))
  have HM := Lib.hid ((Moves.refl b T F w).alloc (.cells zero9 144))
  have B0 := Lib.hid (Blk.new w 144 zero9)
  have HS := Lib.hid (fun W (hR : Rdr W b T F l m (a + 1) o) => sees_is b (a + 1) l ⟨#[94]⟩ [94] sg_not W hl ha (rd_cells hR).2.2.1 (rd_cells hR).2.2.2.1)
  rw [sees_one, hs] at HS
  have HE := Lib.hid (fun (a1 : Nat) (h1 : a1 ≤ l.size) W (hR : Rdr W b T F l m a1 o) => sees_is b a1 l ⟨#[93]⟩ [93] sg_end W hl h1 (rd_cells hR).2.2.1 (rd_cells hR).2.2.2.1)
  have HFT : Hid (∀ j, w.heap.size ≤ j → ¬ Foot b T F j) := fun j hj hf => by have := (hr.lt_foot hf).1; omega
  have HNL := Lib.hid hn
  have HML := Lib.hid hm
  clear hC hr hn hm hs
  go_enter Tryz.func140, Tryz.ntmps140
  go_upto_region 1 with fail
  generalize hW : w.alloc (.cells zero9 144) = W at *
  clear hW
  have q4 := (rd_cells HR.out).2.2.2.1
  have qf := HR.out.blk.frozen 12
  go_upto_region 2 with fail
  have HR1 := Lib.hid (HR.out.set_at (a + 1) (.int .i64 ((a : Int) + 1)) (by rfl))
  have HM1 := Lib.hid (HM.out.set_foot (foot_self b T F) 12 (.int .i64 ((a : Int) + 1)))
  have B1 := Lib.hid (B0.out.other (k := b) (fun e => HFT.out _ (Nat.le_refl _) (.inl e)) 12 (.int .i64 ((a : Int) + 1)))
  generalize hW : W.setCell ⟨b, 12, none⟩ (.int .i64 ((a : Int) + 1)) = W1 at *
  clear hW HR HM B0 q4 qf
  go_wp2_with fail
  refine (HS.out _ HR1.out).mono ?_
  rintro e w2 ⟨rfl, n2, rfl⟩
  have HR2 := Lib.hid (HR1.out.drewN n2)
  have HM2 := Lib.hid (HM1.out.drewN n2)
  have B2 := Lib.hid (B1.out.drewN n2)
  generalize hW : W1.drewN n2 = W2 at *
  clear hW HR1 HM1 B1 HS
  go_upto_region 5 with fail
  have HR3 := HR2
  have HM3 := HM2
  have B3 := B2
  clear HR2 HM2 B2
  have HFa : Hid (∀ j, W2.heap.size ≤ j → ¬ Foot b T F j) := fun j hj hf => by have := (HR3.out.lt_foot hf).1; omega
  have HRa := Lib.hid (HR3.out.alloc (.cells #[.int .u64 0, .int .u64 0, .int .u64 0, .int .u64 0] 136))
  have HMa := Lib.hid ((Moves.refl b T F W2).alloc (.cells #[.int .u64 0, .int .u64 0, .int .u64 0, .int .u64 0] 136))
  have HG : Hid (Blk (W2.alloc (.cells #[.int .u64 0, .int .u64 0, .int .u64 0, .int .u64 0] 136)) W2.heap.size 136 (setC 0)) := by
    show Blk _ _ _ _
    unfold setC
    rw [wv_zero, wv_zero, wv_zero, wv_zero]
    exact Blk.new _ 136 _
  have hgs : w.heap.size < W2.heap.size := B3.out.lt
  go_wp2_with fail
  generalize hW : W2.alloc (.cells #[.int .u64 0, .int .u64 0, .int .u64 0, .int .u64 0] 136) = W4 at *
  obtain ⟨g, hg⟩ : ∃ g, g = W2.heap.size := ⟨_, rfl⟩
  have hgl : W2.heap.size ≤ g := by omega
  rw [← hg] at HG ⊢
  clear hW hg HR3
  go_loopw [6, 7] (fun s6 s7 wr => ∃ (f : Bool) (k a1 t : Nat), s6 = .bool f ∧ l.size < k + a1 ∧ a1 ≤ l.size ∧ t < 2 ^ 256 ∧ Hid (Rdr wr b T F l m a1 o) ∧ Hid (Moves b T F W2 T F wr) ∧ Hid (Blk wr g 136 (setC t)) ∧
    Hid (itemsF l (l.size + 1) (a + 1) 0 = if f = true then itemsF l k a1 t else if sees l a1 93 = true then .ok a1 t else itemsF l k a1 t)) (fun s6 s7 wr => l.size - atOf wr b)
  case atStart => exact ⟨true, l.size + 1, a + 1, 0, rfl, by omega, by omega, by decide, HRa, HMa, HG, (if_pos rfl).symm⟩
  case round =>
    obtain ⟨f, k, a1, t, rfl, hk1, ha1, ht, HRr, HMr, Gr, HQ⟩ := hrel
    have HMEAS : Hid (atOf wr b = a1) := HRr.out.at_of
    cases f with
    | true =>
      have HI := Lib.hid (item_any b a1 o g t T F l m W2 wr HRr.out hl ha1 HMr.out hgl (HFa.out g hgl) Gr.out)
      obtain ⟨k', rfl⟩ : ∃ k', k = k' + 1 := ⟨k - 1, by omega⟩
      cases hi : itemF l a1 t with
      | bad pl =>
        rw [hi] at HI
        have HF : Hid (itemsF l (l.size + 1) (a + 1) 0 = .bad pl) := by
          show itemsF _ _ _ _ = _
          rw [HQ.out, if_pos rfl]
          conv => lhs; unfold itemsF
          rw [hi]
        have HX := Lib.hid (HC.out _ HF.out)
        clear hi HQ HC HF
        go_wp2_with fail
        refine (HI.out).mono ?_
        rintro e w5 ⟨hm5, err, rfl, f5, rfl, hf5⟩
        have HM5 := Lib.hid (HM3.out.trans hm5)
        have B5 := Lib.hid (B3.out.moves hm5 (HFT.out _ (Nat.le_refl _)))
        have F5 := Lib.hid (hf5.set9_other (j := w.heap.size) (blk_ne hf5 B5.out (by decide)) (.bool false) (.int .u64 0) (.int .u64 0) (.int .u64 0) (.int .u64 0) (.int .u64 0) (.int .u64 0) (.int .u64 0) (.int .u64 0))
        clear hm5 hf5
        obtain ⟨r0, r1, r2, r3, r4, r5, r6, r7, r8⟩ := cells9 B5.out
        obtain ⟨g0, g1, g2, g3, g4, g5, g6, g7, g8⟩ := frozen9 B5.out
        go_wp2
        exact bodyPost_ret (v := .tuple #[.agg zero9, .iface 128 (.pointer (some ⟨f5, 0, none⟩))]) (by simp [results, Tryz.results140, go_sem, r0, r1, r2, r3, r4, r5, r6, r7, r8]) rfl (pp_bad HX.out (HM5.out.set9 (Nat.le_refl _) _ _ _ _ _ _ _ _ _) pc0_eq F5.out)
      | ok a3 t3 =>
        rw [hi] at HI
        have hi' := itemF_ok ht hi
        have HF : Hid (itemsF l (l.size + 1) (a + 1) 0 = if false = true then itemsF l k' a3 t3 else if sees l a3 93 = true then .ok a3 t3 else itemsF l k' a3 t3) := by
          show itemsF _ _ _ _ = _
          rw [HQ.out, if_pos rfl]
          conv => lhs; unfold itemsF
          rw [hi, if_neg (by simp)]
        clear hi HQ
        go_wp2_with fail
        refine (HI.out).mono ?_
        rintro e w5 ⟨hm5, rfl, hR5, hG5⟩
        have HM5 := Lib.hid hm5
        have HR5 := Lib.hid hR5
        have G5 := Lib.hid hG5
        have HA5 : Hid (atOf w5 b = a3) := HR5.out.at_of
        clear hm5 hR5 hG5
        go_wp2
        go_roundw
        case rel => exact ⟨false, k', a3, t3, rfl, by omega, hi'.2.1, hi'.2.2, HR5, HM5, G5, HF⟩
        case measure =>
          rw [HA5.out, HMEAS.out]
          omega
    | false =>
      have HEr := Lib.hid (HE.out a1 ha1 wr HRr.out)
      rw [sees_one] at HEr
      cases hse : sees l a1 93 with
      | false =>
        rw [hse] at HEr
        have hlt1 : Hid (sees l a1 93 = false) := hse
        have HQ2 : Hid (itemsF l (l.size + 1) (a + 1) 0 = itemsF l k a1 t) := by show itemsF _ _ _ _ = _; rw [HQ.out, if_neg (by simp), if_neg (by rw [hlt1.out]; simp)]
        clear hse HQ hlt1
        have HQ := HQ2
        clear HQ2
        go_wp2_with fail
        refine (HEr.out).mono ?_
        rintro e w4 ⟨rfl, n4, rfl⟩
        have HRs := Lib.hid (HRr.out.drewN n4)
        have HMs := Lib.hid (HMr.out.drewN n4)
        have Gs := Lib.hid (Gr.out.drewN n4)
        generalize hW : wr.drewN n4 = Ws at *
        clear hW
        have HI := Lib.hid (item_any b a1 o g t T F l m W2 Ws HRs.out hl ha1 HMs.out hgl (HFa.out g hgl) Gs.out)
        obtain ⟨k', rfl⟩ : ∃ k', k = k' + 1 := ⟨k - 1, by omega⟩
        cases hi : itemF l a1 t with
        | bad pl =>
          rw [hi] at HI
          have HF : Hid (itemsF l (l.size + 1) (a + 1) 0 = .bad pl) := by
            show itemsF _ _ _ _ = _
            rw [HQ.out]
            conv => lhs; unfold itemsF
            rw [hi]
          have HX := Lib.hid (HC.out _ HF.out)
          clear hi HQ HC HF
          go_wp2_with fail
          refine (HI.out).mono ?_
          rintro e w5 ⟨hm5, err, rfl, f5, rfl, hf5⟩
          have HM5 := Lib.hid (HM3.out.trans hm5)
          have B5 := Lib.hid (B3.out.moves hm5 (HFT.out _ (Nat.le_refl _)))
          have F5 := Lib.hid (hf5.set9_other (j := w.heap.size) (blk_ne hf5 B5.out (by decide)) (.bool false) (.int .u64 0) (.int .u64 0) (.int .u64 0) (.int .u64 0) (.int .u64 0) (.int .u64 0) (.int .u64 0) (.int .u64 0))
          clear hm5 hf5
          obtain ⟨r0, r1, r2, r3, r4, r5, r6, r7, r8⟩ := cells9 B5.out
          obtain ⟨g0, g1, g2, g3, g4, g5, g6, g7, g8⟩ := frozen9 B5.out
          go_wp2
          exact bodyPost_ret (v := .tuple #[.agg zero9, .iface 128 (.pointer (some ⟨f5, 0, none⟩))]) (by simp [results, Tryz.results140, go_sem, r0, r1, r2, r3, r4, r5, r6, r7, r8]) rfl (pp_bad HX.out (HM5.out.set9 (Nat.le_refl _) _ _ _ _ _ _ _ _ _) pc0_eq F5.out)
        | ok a3 t3 =>
          rw [hi] at HI
          have hi' := itemF_ok ht hi
          have HF : Hid (itemsF l (l.size + 1) (a + 1) 0 = if false = true then itemsF l k' a3 t3 else if sees l a3 93 = true then .ok a3 t3 else itemsF l k' a3 t3) := by
            show itemsF _ _ _ _ = _
            rw [HQ.out]
            conv => lhs; unfold itemsF
            rw [hi, if_neg (by simp)]
          clear hi HQ
          go_wp2_with fail
          refine (HI.out).mono ?_
          rintro e w5 ⟨hm5, rfl, hR5, hG5⟩
          have HM5 := Lib.hid hm5
          have HR5 := Lib.hid hR5
          have G5 := Lib.hid hG5
          have HA5 : Hid (atOf w5 b = a3) := HR5.out.at_of
          clear hm5 hR5 hG5
          go_wp2
          go_roundw
          case rel => exact ⟨false, k', a3, t3, rfl, by omega, hi'.2.1, hi'.2.2, HR5, HM5, G5, HF⟩
          case measure =>
            rw [HA5.out, HMEAS.out]
            omega
      | true =>
        rw [hse] at HEr
        have HQ2 : Hid (itemsF l (l.size + 1) (a + 1) 0 = .ok a1 t) := by show itemsF _ _ _ _ = _; rw [HQ.out, if_neg (by simp), if_pos hse]
        have hlt1 := sees_lt hse
        clear hse HQ
        have HQ := HQ2
        clear HQ2
        go_wp2_with fail
        refine (HEr.out).mono ?_
        rintro e w4 ⟨rfl, n4, rfl⟩
        have HRs := Lib.hid (HRr.out.drewN n4)
        have HMs := Lib.hid (HMr.out.drewN n4)
        have Gs := Lib.hid (Gr.out.drewN n4)
        generalize hW : wr.drewN n4 = Ws at *
        clear hW HEr
        have HF : Hid (itemsF l (l.size + 1) (a + 1) 0 = .ok a1 t) := HQ.out
        have HX := Lib.hid (HC.out _ HF.out)
        clear HQ HC HF
        have q4 := (rd_cells HRs.out).2.2.2.1
        have qf := HRs.out.blk.frozen 12
        go_upto_region 13 with fail
        have HR6 := Lib.hid (HRs.out.set_at (a1 + 1) (.int .i64 ((a1 : Int) + 1)) (by rfl))
        have HM6 := Lib.hid (HMs.out.set_foot (foot_self b T F) 12 (.int .i64 ((a1 : Int) + 1)))
        have G6 := Lib.hid (Gs.out.other (k := b) (fun e => HFa.out g hgl (.inl e)) 12 (.int .i64 ((a1 : Int) + 1)))
        generalize hW : Ws.setCell ⟨b, 12, none⟩ (.int .i64 ((a1 : Int) + 1)) = W6 at *
        clear hW HRs HMs Gs q4 qf HRr HMr Gr
        have t0 := G6.out.cell 0
        have t1 := G6.out.cell 1
        have t2 := G6.out.cell 2
        have t3 := G6.out.cell 3
        simp only [List.getElem?_toArray, List.getElem?_cons_zero, List.getElem?_cons_succ] at t0 t1 t2 t3
        go_upto_region 15 with fail
        have HR8 := HR6
        have HM8 := HM6
        have G8 := G6
        clear t0 t1 t2 t3 HR6 HM6 G6
        have t0 := G8.out.cell 0
        have t1 := G8.out.cell 1
        have t2 := G8.out.cell 2
        have t3 := G8.out.cell 3
        simp only [List.getElem?_toArray, List.getElem?_cons_zero, List.getElem?_cons_succ] at t0 t1 t2 t3
        have HRd : Hid (Rdr W6.drew b T F l m (a1 + 1) o) := HR8.out.below (below_drew _)
        have HMd := Lib.hid (HM8.out.drew)
        have t0' : W6.drew.cell? ⟨g, 0, none⟩ = some (wv t 0) := t0
        have t1' : W6.drew.cell? ⟨g, 1, none⟩ = some (wv t 1) := t1
        have t2' : W6.drew.cell? ⟨g, 2, none⟩ = some (wv t 2) := t2
        have t3' : W6.drew.cell? ⟨g, 3, none⟩ = some (wv t 3) := t3
        go_still_tail 4, (by kernel_rfl)
        change wpList _ _ _ _ _ W6.drew
        generalize hW : W6.drew = W9 at *
        have HP := Lib.hid (place_any b (a1 + 1) o t T F l m W9 HRd.out HNL.out HML.out)
        clear hW HR8 HM8 t0 t1 t2 t3
        go_wp2_with fail
        refine (HP.out).mono ?_
        rintro e wa ⟨T2, F2, hma, rfl, hra⟩
        have HMa := Lib.hid (HMd.out.trans hma)
        have HRx := Lib.hid hra
        have BA := Lib.hid (B3.out.moves HMa.out (HFT.out _ (Nat.le_refl _)))
        clear hma hra t0' t1' t2' t3'
        obtain ⟨r0, r1, r2, r3, r4, r5, r6, r7, r8⟩ := cells9 BA.out
        obtain ⟨g0, g1, g2, g3, g4, g5, g6, g7, g8⟩ := frozen9 BA.out
        go_wp2
        exact bodyPost_ret (v := .tuple #[pcV (placeP m), .nilIface]) (by simp [results, Tryz.results140, go_sem, r0, r1, r2, r3, r4, r5, r6, r7, r8, placeP]) rfl (pp_ok HX.out ((HM3.out.trans HMa.out).set9 (Nat.le_refl _) _ _ _ _ _ _ _ _ _) rfl (HRx.out.set9 (HRx.out.off BA.out (by decide) (by decide)) _ _ _ _ _ _ _ _ _))
set_option maxRecDepth 100000 in
set_option maxHeartbeats 8000000 in
theorem class_yes (b a o : Nat) (T F : Value) (l : ByteArray) (m : Mach) (w : World) (hr : Rdr w b T F l m a o) (hl : l.size ≤ 200) (ha : a < l.size) (hn : m.takes.length < 256) (hm : m.follow.length = m.takes.length) (hs : sees l (a + 1) 94 = true) :
    Calls Tryz.prog 140 #[.pointer (some ⟨b, 0, none⟩)] w (PP b T F l o w (classF l a m)) := by
  have hC : ∀ r, itemsF l (l.size + 1) (a + 2) 0 = r → classF l a m = match r with | .bad pl => .bad pl 2 | .ok a1 t => .ok (a1 + 1) (placeM m (notS t)) (placeP m) := fun r h => by unfold classF; rw [hs]; simp only [if_true]; rw [h]; cases r <;> rfl
  have HC := Lib.hid hC
  have HR := Lib.hid (hr.alloc (.cells zero9 144))
  have HM := Lib.hid ((Moves.refl b T F w).alloc (.cells zero9 144))
  have B0 := Lib.hid (Blk.new w 144 zero9)
  have HS := Lib.hid (fun W (hR : Rdr W b T F l m (a + 1) o) => sees_is b (a + 1) l ⟨#[94]⟩ [94] sg_not W hl ha (rd_cells hR).2.2.1 (rd_cells hR).2.2.2.1)
  rw [sees_one, hs] at HS
  have HE := Lib.hid (fun (a1 : Nat) (h1 : a1 ≤ l.size) W (hR : Rdr W b T F l m a1 o) => sees_is b a1 l ⟨#[93]⟩ [93] sg_end W hl h1 (rd_cells hR).2.2.1 (rd_cells hR).2.2.2.1)
  have HFT : Hid (∀ j, w.heap.size ≤ j → ¬ Foot b T F j) := fun j hj hf => by have := (hr.lt_foot hf).1; omega
  have hlt := sees_lt hs
  have HNL := Lib.hid hn
  have HML := Lib.hid hm
  clear hC hr hn hm hs
  go_enter Tryz.func140, Tryz.ntmps140
  go_upto_region 1 with fail
  generalize hW : w.alloc (.cells zero9 144) = W at *
  clear hW
  have q4 := (rd_cells HR.out).2.2.2.1
  have qf := HR.out.blk.frozen 12
  go_upto_region 2 with fail
  have HR1 := Lib.hid (HR.out.set_at (a + 1) (.int .i64 ((a : Int) + 1)) (by rfl))
  have HM1 := Lib.hid (HM.out.set_foot (foot_self b T F) 12 (.int .i64 ((a : Int) + 1)))
  have B1 := Lib.hid (B0.out.other (k := b) (fun e => HFT.out _ (Nat.le_refl _) (.inl e)) 12 (.int .i64 ((a : Int) + 1)))
  generalize hW : W.setCell ⟨b, 12, none⟩ (.int .i64 ((a : Int) + 1)) = W1 at *
  clear hW HR HM B0 q4 qf
  go_wp2_with fail
  refine (HS.out _ HR1.out).mono ?_
  rintro e w2 ⟨rfl, n2, rfl⟩
  have HR2 := Lib.hid (HR1.out.drewN n2)
  have HM2 := Lib.hid (HM1.out.drewN n2)
  have B2 := Lib.hid (B1.out.drewN n2)
  generalize hW : W1.drewN n2 = W2 at *
  clear hW HR1 HM1 B1 HS
  have q4 := (rd_cells HR2.out).2.2.2.1
  have qf := HR2.out.blk.frozen 12
  go_upto_region 5 with fail
  have HR3 := Lib.hid (HR2.out.set_at (a + 2) (.int .i64 ((a : Int) + 1 + 1)) (by rw [show (a : Int) + 1 + 1 = ((a + 2 : Nat) : Int) by omega]))
  have HM3 := Lib.hid (HM2.out.set_foot (foot_self b T F) 12 (.int .i64 ((a : Int) + 1 + 1)))
  have B3 := Lib.hid (B2.out.other (k := b) (fun e => HFT.out _ (Nat.le_refl _) (.inl e)) 12 (.int .i64 ((a : Int) + 1 + 1)))
  generalize hW : W2.setCell ⟨b, 12, none⟩ (.int .i64 ((a : Int) + 1 + 1)) = W3 at *
  clear hW HR2 HM2 B2 q4 qf
  have HFa : Hid (∀ j, W3.heap.size ≤ j → ¬ Foot b T F j) := fun j hj hf => by have := (HR3.out.lt_foot hf).1; omega
  have HRa := Lib.hid (HR3.out.alloc (.cells #[.int .u64 0, .int .u64 0, .int .u64 0, .int .u64 0] 136))
  have HMa := Lib.hid ((Moves.refl b T F W3).alloc (.cells #[.int .u64 0, .int .u64 0, .int .u64 0, .int .u64 0] 136))
  have HG : Hid (Blk (W3.alloc (.cells #[.int .u64 0, .int .u64 0, .int .u64 0, .int .u64 0] 136)) W3.heap.size 136 (setC 0)) := by
    show Blk _ _ _ _
    unfold setC
    rw [wv_zero, wv_zero, wv_zero, wv_zero]
    exact Blk.new _ 136 _
  have hgs : w.heap.size < W3.heap.size := B3.out.lt
  go_wp2_with fail
  generalize hW : W3.alloc (.cells #[.int .u64 0, .int .u64 0, .int .u64 0, .int .u64 0] 136) = W4 at *
  obtain ⟨g, hg⟩ : ∃ g, g = W3.heap.size := ⟨_, rfl⟩
  have hgl : W3.heap.size ≤ g := by omega
  rw [← hg] at HG ⊢
  clear hW hg HR3
  go_loopw [6, 7] (fun s6 s7 wr => ∃ (f : Bool) (k a1 t : Nat), s6 = .bool f ∧ l.size < k + a1 ∧ a1 ≤ l.size ∧ t < 2 ^ 256 ∧ Hid (Rdr wr b T F l m a1 o) ∧ Hid (Moves b T F W3 T F wr) ∧ Hid (Blk wr g 136 (setC t)) ∧
    Hid (itemsF l (l.size + 1) (a + 2) 0 = if f = true then itemsF l k a1 t else if sees l a1 93 = true then .ok a1 t else itemsF l k a1 t)) (fun s6 s7 wr => l.size - atOf wr b)
  case atStart => exact ⟨true, l.size + 1, a + 2, 0, rfl, by omega, by omega, by decide, HRa, HMa, HG, (if_pos rfl).symm⟩
  case round =>
    obtain ⟨f, k, a1, t, rfl, hk1, ha1, ht, HRr, HMr, Gr, HQ⟩ := hrel
    have HMEAS : Hid (atOf wr b = a1) := HRr.out.at_of
    cases f with
    | true =>
      have HI := Lib.hid (item_any b a1 o g t T F l m W3 wr HRr.out hl ha1 HMr.out hgl (HFa.out g hgl) Gr.out)
      obtain ⟨k', rfl⟩ : ∃ k', k = k' + 1 := ⟨k - 1, by omega⟩
      cases hi : itemF l a1 t with
      | bad pl =>
        rw [hi] at HI
        have HF : Hid (itemsF l (l.size + 1) (a + 2) 0 = .bad pl) := by
          show itemsF _ _ _ _ = _
          rw [HQ.out, if_pos rfl]
          conv => lhs; unfold itemsF
          rw [hi]
        have HX := Lib.hid (HC.out _ HF.out)
        clear hi HQ HC HF
        go_wp2_with fail
        refine (HI.out).mono ?_
        rintro e w5 ⟨hm5, err, rfl, f5, rfl, hf5⟩
        have HM5 := Lib.hid (HM3.out.trans hm5)
        have B5 := Lib.hid (B3.out.moves hm5 (HFT.out _ (Nat.le_refl _)))
        have F5 := Lib.hid (hf5.set9_other (j := w.heap.size) (blk_ne hf5 B5.out (by decide)) (.bool false) (.int .u64 0) (.int .u64 0) (.int .u64 0) (.int .u64 0) (.int .u64 0) (.int .u64 0) (.int .u64 0) (.int .u64 0))
        clear hm5 hf5
        obtain ⟨r0, r1, r2, r3, r4, r5, r6, r7, r8⟩ := cells9 B5.out
        obtain ⟨g0, g1, g2, g3, g4, g5, g6, g7, g8⟩ := frozen9 B5.out
        go_wp2
        exact bodyPost_ret (v := .tuple #[.agg zero9, .iface 128 (.pointer (some ⟨f5, 0, none⟩))]) (by simp [results, Tryz.results140, go_sem, r0, r1, r2, r3, r4, r5, r6, r7, r8]) rfl (pp_bad HX.out (HM5.out.set9 (Nat.le_refl _) _ _ _ _ _ _ _ _ _) pc0_eq F5.out)
      | ok a3 t3 =>
        rw [hi] at HI
        have hi' := itemF_ok ht hi
        have HF : Hid (itemsF l (l.size + 1) (a + 2) 0 = if false = true then itemsF l k' a3 t3 else if sees l a3 93 = true then .ok a3 t3 else itemsF l k' a3 t3) := by
          show itemsF _ _ _ _ = _
          rw [HQ.out, if_pos rfl]
          conv => lhs; unfold itemsF
          rw [hi, if_neg (by simp)]
        clear hi HQ
        go_wp2_with fail
        refine (HI.out).mono ?_
        rintro e w5 ⟨hm5, rfl, hR5, hG5⟩
        have HM5 := Lib.hid hm5
        have HR5 := Lib.hid hR5
        have G5 := Lib.hid hG5
        have HA5 : Hid (atOf w5 b = a3) := HR5.out.at_of
        clear hm5 hR5 hG5
        go_wp2
        go_roundw
        case rel => exact ⟨false, k', a3, t3, rfl, by omega, hi'.2.1, hi'.2.2, HR5, HM5, G5, HF⟩
        case measure =>
          rw [HA5.out, HMEAS.out]
          omega
    | false =>
      have HEr := Lib.hid (HE.out a1 ha1 wr HRr.out)
      rw [sees_one] at HEr
      cases hse : sees l a1 93 with
      | false =>
        rw [hse] at HEr
        have hlt1 : Hid (sees l a1 93 = false) := hse
        have HQ2 : Hid (itemsF l (l.size + 1) (a + 2) 0 = itemsF l k a1 t) := by show itemsF _ _ _ _ = _; rw [HQ.out, if_neg (by simp), if_neg (by rw [hlt1.out]; simp)]
        clear hse HQ hlt1
        have HQ := HQ2
        clear HQ2
        go_wp2_with fail
        refine (HEr.out).mono ?_
        rintro e w4 ⟨rfl, n4, rfl⟩
        have HRs := Lib.hid (HRr.out.drewN n4)
        have HMs := Lib.hid (HMr.out.drewN n4)
        have Gs := Lib.hid (Gr.out.drewN n4)
        generalize hW : wr.drewN n4 = Ws at *
        clear hW
        have HI := Lib.hid (item_any b a1 o g t T F l m W3 Ws HRs.out hl ha1 HMs.out hgl (HFa.out g hgl) Gs.out)
        obtain ⟨k', rfl⟩ : ∃ k', k = k' + 1 := ⟨k - 1, by omega⟩
        cases hi : itemF l a1 t with
        | bad pl =>
          rw [hi] at HI
          have HF : Hid (itemsF l (l.size + 1) (a + 2) 0 = .bad pl) := by
            show itemsF _ _ _ _ = _
            rw [HQ.out]
            conv => lhs; unfold itemsF
            rw [hi]
          have HX := Lib.hid (HC.out _ HF.out)
          clear hi HQ HC HF
          go_wp2_with fail
          refine (HI.out).mono ?_
          rintro e w5 ⟨hm5, err, rfl, f5, rfl, hf5⟩
          have HM5 := Lib.hid (HM3.out.trans hm5)
          have B5 := Lib.hid (B3.out.moves hm5 (HFT.out _ (Nat.le_refl _)))
          have F5 := Lib.hid (hf5.set9_other (j := w.heap.size) (blk_ne hf5 B5.out (by decide)) (.bool false) (.int .u64 0) (.int .u64 0) (.int .u64 0) (.int .u64 0) (.int .u64 0) (.int .u64 0) (.int .u64 0) (.int .u64 0))
          clear hm5 hf5
          obtain ⟨r0, r1, r2, r3, r4, r5, r6, r7, r8⟩ := cells9 B5.out
          obtain ⟨g0, g1, g2, g3, g4, g5, g6, g7, g8⟩ := frozen9 B5.out
          go_wp2
          exact bodyPost_ret (v := .tuple #[.agg zero9, .iface 128 (.pointer (some ⟨f5, 0, none⟩))]) (by simp [results, Tryz.results140, go_sem, r0, r1, r2, r3, r4, r5, r6, r7, r8]) rfl (pp_bad HX.out (HM5.out.set9 (Nat.le_refl _) _ _ _ _ _ _ _ _ _) pc0_eq F5.out)
        | ok a3 t3 =>
          rw [hi] at HI
          have hi' := itemF_ok ht hi
          have HF : Hid (itemsF l (l.size + 1) (a + 2) 0 = if false = true then itemsF l k' a3 t3 else if sees l a3 93 = true then .ok a3 t3 else itemsF l k' a3 t3) := by
            show itemsF _ _ _ _ = _
            rw [HQ.out]
            conv => lhs; unfold itemsF
            rw [hi, if_neg (by simp)]
          clear hi HQ
          go_wp2_with fail
          refine (HI.out).mono ?_
          rintro e w5 ⟨hm5, rfl, hR5, hG5⟩
          have HM5 := Lib.hid hm5
          have HR5 := Lib.hid hR5
          have G5 := Lib.hid hG5
          have HA5 : Hid (atOf w5 b = a3) := HR5.out.at_of
          clear hm5 hR5 hG5
          go_wp2
          go_roundw
          case rel => exact ⟨false, k', a3, t3, rfl, by omega, hi'.2.1, hi'.2.2, HR5, HM5, G5, HF⟩
          case measure =>
            rw [HA5.out, HMEAS.out]
            omega
      | true =>
        rw [hse] at HEr
        have HQ2 : Hid (itemsF l (l.size + 1) (a + 2) 0 = .ok a1 t) := by show itemsF _ _ _ _ = _; rw [HQ.out, if_neg (by simp), if_pos hse]
        have hlt1 := sees_lt hse
        clear hse HQ
        have HQ := HQ2
        clear HQ2
        go_wp2_with fail
        refine (HEr.out).mono ?_
        rintro e w4 ⟨rfl, n4, rfl⟩
        have HRs := Lib.hid (HRr.out.drewN n4)
        have HMs := Lib.hid (HMr.out.drewN n4)
        have Gs := Lib.hid (Gr.out.drewN n4)
        generalize hW : wr.drewN n4 = Ws at *
        clear hW HEr
        have HF : Hid (itemsF l (l.size + 1) (a + 2) 0 = .ok a1 t) := HQ.out
        have HX := Lib.hid (HC.out _ HF.out)
        clear HQ HC HF
        have q4 := (rd_cells HRs.out).2.2.2.1
        have qf := HRs.out.blk.frozen 12
        go_upto_region 13 with fail
        have HR6 := Lib.hid (HRs.out.set_at (a1 + 1) (.int .i64 ((a1 : Int) + 1)) (by rfl))
        have HM6 := Lib.hid (HMs.out.set_foot (foot_self b T F) 12 (.int .i64 ((a1 : Int) + 1)))
        have G6 := Lib.hid (Gs.out.other (k := b) (fun e => HFa.out g hgl (.inl e)) 12 (.int .i64 ((a1 : Int) + 1)))
        generalize hW : Ws.setCell ⟨b, 12, none⟩ (.int .i64 ((a1 : Int) + 1)) = W6 at *
        clear hW HRs HMs Gs q4 qf HRr HMr Gr
        have t0 := G6.out.cell 0
        have t1 := G6.out.cell 1
        have t2 := G6.out.cell 2
        have t3 := G6.out.cell 3
        simp only [List.getElem?_toArray, List.getElem?_cons_zero, List.getElem?_cons_succ] at t0 t1 t2 t3
        have HN1 := Lib.hid (not_any t ht W6)
        go_wp2_with fail
        refine (HN1.out).mono ?_
        rintro e w7 ⟨rfl, hb7⟩
        have HR7 := Lib.hid (HR6.out.below hb7)
        have HM7 := Lib.hid (HM6.out.below hb7)
        have G7 := Lib.hid (G6.out.below hb7)
        clear hb7 HR6 HM6 G6 t0 t1 t2 t3 HN1
        have t0 := G7.out.cell 0
        have t1 := G7.out.cell 1
        have t2 := G7.out.cell 2
        have t3 := G7.out.cell 3
        simp only [List.getElem?_toArray, List.getElem?_cons_zero, List.getElem?_cons_succ] at t0 t1 t2 t3
        have p0 := G7.out.frozen 0
        have p1 := G7.out.frozen 1
        have p2 := G7.out.frozen 2
        have p3 := G7.out.frozen 3
        go_upto_region 15 with fail
        have HR8 := Lib.hid ((((HR7.out.other (HFa.out g hgl) 0 (wv (notS t) 0)).other (HFa.out g hgl) 1 (wv (notS t) 1)).other (HFa.out g hgl) 2 (wv (notS t) 2)).other (HFa.out g hgl) 3 (wv (notS t) 3))
        have HM8 := Lib.hid ((((HM7.out.set_new (g := g) hgl 0 (wv (notS t) 0)).set_new (g := g) hgl 1 (wv (notS t) 1)).set_new (g := g) hgl 2 (wv (notS t) 2)).set_new (g := g) hgl 3 (wv (notS t) 3))
        have G8 := Lib.hid (G7.out.set4c (u := notS t))
        generalize hW : (((w7.setCell ⟨g, 0, none⟩ (wv (notS t) 0)).setCell ⟨g, 1, none⟩ (wv (notS t) 1)).setCell ⟨g, 2, none⟩ (wv (notS t) 2)).setCell ⟨g, 3, none⟩ (wv (notS t) 3) = W8 at *
        clear hW HR7 HM7 G7 t0 t1 t2 t3 p0 p1 p2 p3
        have t0 := G8.out.cell 0
        have t1 := G8.out.cell 1
        have t2 := G8.out.cell 2
        have t3 := G8.out.cell 3
        simp only [List.getElem?_toArray, List.getElem?_cons_zero, List.getElem?_cons_succ] at t0 t1 t2 t3
        have HRd : Hid (Rdr W8.drew b T F l m (a1 + 1) o) := HR8.out.below (below_drew _)
        have HMd := Lib.hid (HM8.out.drew)
        have t0' : W8.drew.cell? ⟨g, 0, none⟩ = some (wv (notS t) 0) := t0
        have t1' : W8.drew.cell? ⟨g, 1, none⟩ = some (wv (notS t) 1) := t1
        have t2' : W8.drew.cell? ⟨g, 2, none⟩ = some (wv (notS t) 2) := t2
        have t3' : W8.drew.cell? ⟨g, 3, none⟩ = some (wv (notS t) 3) := t3
        go_still_tail 4, (by kernel_rfl)
        change wpList _ _ _ _ _ W8.drew
        generalize hW : W8.drew = W9 at *
        have HP := Lib.hid (place_any b (a1 + 1) o (notS t) T F l m W9 HRd.out HNL.out HML.out)
        clear hW HR8 HM8 t0 t1 t2 t3
        go_wp2_with fail
        refine (HP.out).mono ?_
        rintro e wa ⟨T2, F2, hma, rfl, hra⟩
        have HMa := Lib.hid (HMd.out.trans hma)
        have HRx := Lib.hid hra
        have BA := Lib.hid (B3.out.moves HMa.out (HFT.out _ (Nat.le_refl _)))
        clear hma hra t0' t1' t2' t3'
        obtain ⟨r0, r1, r2, r3, r4, r5, r6, r7, r8⟩ := cells9 BA.out
        obtain ⟨g0, g1, g2, g3, g4, g5, g6, g7, g8⟩ := frozen9 BA.out
        go_wp2
        exact bodyPost_ret (v := .tuple #[pcV (placeP m), .nilIface]) (by simp [results, Tryz.results140, go_sem, r0, r1, r2, r3, r4, r5, r6, r7, r8, placeP]) rfl (pp_ok HX.out ((HM3.out.trans HMa.out).set9 (Nat.le_refl _) _ _ _ _ _ _ _ _ _) rfl (HRx.out.set9 (HRx.out.off BA.out (by decide) (by decide)) _ _ _ _ _ _ _ _ _))
theorem class_any (b a o : Nat) (T F : Value) (l : ByteArray) (m : Mach) (w : World) (hr : Rdr w b T F l m a o) (hl : l.size ≤ 200) (ha : a < l.size) (hn : m.takes.length < 256) (hm : m.follow.length = m.takes.length) :
    Calls Tryz.prog 140 #[.pointer (some ⟨b, 0, none⟩)] w (PP b T F l o w (classF l a m)) := by
  cases hs : sees l (a + 1) 94 with
  | false => exact class_no b a o T F l m w hr hl ha hn hm hs
  | true => exact class_yes b a o T F l m w hr hl ha hn hm hs
end Go.Proofs.YtmodehfedhgcbaaGreatDoor.Rg

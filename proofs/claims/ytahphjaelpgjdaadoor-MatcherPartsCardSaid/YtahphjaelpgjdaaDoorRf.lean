/- The document's reader: a whole pattern. No condition. -/
import Derived.Test.YtahphjaelpgjdaaDoorRe
namespace Go.Proofs.YtahphjaelpgjdaaDoor
open Go.RowKit Rx
set_option linter.unusedVariables false

theorem ra_any (b : Nat) (l : ByteArray) (hl : l.size ≤ 200) : ∀ d o, o + d = 32 → RA b l o d
  | 0, o, h => fun m a w hm hp ha => refalt_any b a o 0 l m w (fun d' e => by omega) h hm hp hl ha
  | d + 1, o, h => fun m a w hm hp ha => refalt_any b a o (d + 1) l m w (fun d' e => by
      obtain rfl : d = d' := by omega
      exact ra_any b l hl d (o + 1) (by omega)) h hm hp hl ha
def PsPost (l : ByteArray) (w : World) (r : Res) (e : Ending) (w' : World) : Prop :=
  Below w.heap.size w w' ∧ ∃ v, Nd v ∧ match r with
  | .bad pl c => e = .returned (.tuple #[v, .int .i64 pl, .int .i64 c]) ∧ (c = 2 ∨ c = 12)
  | .ok a m p => e = .returned (.tuple #[v, .int .i64 a, .int .i64 0])
theorem pspost_bad {l : ByteArray} {w w' : World} {r : Res} {pl c : Nat} {v : Value} {u : Value} (hr : r = .bad pl c) (hb : Below w.heap.size w w') (hv : Nd v) (hu : u = .tuple #[v, .int .i64 pl, .int .i64 c]) (hc : c = 2 ∨ c = 12) : PsPost l w r (.returned u) w' := by
  subst hr; subst hu; exact ⟨hb, v, hv, rfl, hc⟩
theorem pspost_ok {l : ByteArray} {w w' : World} {r : Res} {a : Nat} {m : Mach} {p : Pc} {v : Value} {u : Value} (hr : r = .ok a m p) (hb : Below w.heap.size w w') (hv : Nd v) (hu : u = .tuple #[v, .int .i64 a, .int .i64 0]) : PsPost l w r (.returned u) w' := by
  subst hr; subst hu; exact ⟨hb, v, hv, rfl⟩
theorem kept3 {w : World} {a : Addr} {v : Value} {g : Nat} {v0 v1 v2 : Value} (h : w.cell? a = some v) (hn : a.block ≠ g) : (put3 w g v0 v1 v2).cell? a = some v := by
  have e : ∀ x, (⟨g, x, none⟩ : Addr) ≠ a := fun x he => hn (by rw [← he])
  unfold put3
  rw [World.cell?_setCell_other _ _ _ _ (e 2), World.cell?_setCell_other _ _ _ _ (e 1), World.cell?_setCell_other _ _ _ _ (e 0)]
  exact h
theorem gr_to_below {w w1 w2 : World} {b : Nat} (hb : w.heap.size ≤ b) (h1 : Below w.heap.size w w1) (h : w1.grownBy w2 (some b)) : Below w.heap.size w w2 :=
  ⟨h.os.trans h1.os, h.tape.trans h1.tape, h.output.trans h1.output, Nat.le_trans h1.size h.size, fun j hj => (h.block j (Nat.lt_of_lt_of_le hj h1.size) (fun e => by injection e; omega)).trans (h1.block j hj)⟩
set_option maxRecDepth 100000 in
set_option maxHeartbeats 4000000 in
theorem parse_long (l : ByteArray) (w : World) (hl : 200 < l.size) :
    Calls Tryd.prog 8 #[.string l] w (PsPost l w (readF l)) := by
  have HX : Hid (readF l = .bad 0 2) := if_pos hl
  have hd : decide ((200 : Int) < (l.size : Int)) = true := by simp; omega
  have B0 := Lib.hid (Blk.new w 30 zero3)
  have HB := Lib.hid ((Below.refl w.heap.size w).alloc (Nat.le_refl _) (.cells zero3 30))
  go_enter Tryd.func8, Tryd.ntmps8
  go_upto_region 1 with fail
  generalize w.alloc (.cells zero3 30) = W at *
  obtain ⟨r0, r1, r2⟩ := cells3 B0.out
  obtain ⟨z0, z1, z2⟩ := frozen3 B0.out
  go_wp2
  exact bodyPost_ret (v := .tuple #[ndV 0 none 0 0 none 0 0, .int .i64 0, .int .i64 2]) (by simp [results, Tryd.results8, go_sem, r0, r1, r2]) rfl (pspost_bad HX.out (below3 HB.out (Nat.le_refl _) _ _ _) (nd_mk _ _ _ _ _ _ _) rfl (.inl rfl))
set_option maxRecDepth 100000 in
set_option maxHeartbeats 8000000 in
theorem parse_short (l : ByteArray) (w : World) (hl : l.size ≤ 200) :
    Calls Tryd.prog 8 #[.string l] w (PsPost l w (readF l)) := by
  have HX : Hid (∀ r, altF l (grpF l 32) 0 ⟨[], []⟩ = r → readF l = match r with | .bad pl c => .bad pl c | .ok a m p => if a = l.size then .ok a m p else .bad a 2) := fun r h => by
    subst h
    unfold readF
    rw [if_neg (by omega)]
    cases altF l (grpF l 32) 0 ⟨[], []⟩ <;> rfl
  have hd : decide ((200 : Int) < (l.size : Int)) = false := by simp; omega
  have B0 := Lib.hid ((Blk.new w 30 zero3).alloc (.cells (prC l 0 0 0) 68))
  have HB := Lib.hid (((Below.refl w.heap.size w).alloc (Nat.le_refl _) (.cells zero3 30)).alloc (by simp) (.cells (prC l 0 0 0) 68))
  have HP : Hid (Par ((w.alloc (.cells zero3 30)).alloc (.cells (prC l 0 0 0) 68)) (w.heap.size + 1) l 0 0 0) := by
    have := Blk.new (w.alloc (.cells zero3 30)) 68 (prC l 0 0 0)
    rw [World.size_alloc] at this
    exact this
  have HR := Lib.hid (ra_any (w.heap.size + 1) l hl 32 0 rfl ⟨[], []⟩ 0 _ good_nil HP.out (Nat.zero_le _))
  have HFI := Lib.hid (alt_fine (grp_fine l 32) (Nat.zero_le l.size) good_nil)
  go_enter Tryd.func8, Tryd.ntmps8
  go_wp2_with fail
  generalize (w.alloc (.cells _ 30)).alloc (.cells _ 68) = W at *
  refine (HR.out).mono ?_
  rintro e W1 hrn
  obtain ⟨nk, nA, nn, nc, nB, nn', nc', rfl⟩ := hrn.shape
  obtain ⟨hv1, hg1, hres⟩ := hrn
  have HB1 := Lib.hid (gr_to_below (show w.heap.size ≤ w.heap.size + 1 by omega) HB.out hg1)
  have B1 := Lib.hid (B0.out.grown hg1 (by intro e; injection e; omega))
  have hw1 : w.heap.size + 1 < W1.heap.size := Nat.lt_of_lt_of_le HP.out.lt hg1.size
  have HB2 := Lib.hid (HB1.out.alloc HB1.out.size (.cells #[.int .u8 nk, .slice nA nn nc, .slice nB nn' nc'] 30))
  have B2 := Lib.hid (B1.out.alloc (.cells #[.int .u8 nk, .slice nA nn nc, .slice nB nn' nc'] 30))
  have N2 := Lib.hid (Blk.new W1 30 #[.int .u8 nk, .slice nA nn nc, .slice nB nn' nc'])
  have HPA : Hid (∀ a c, Par W1 (w.heap.size + 1) l a 0 c → Par (W1.alloc (.cells #[.int .u8 nk, .slice nA nn nc, .slice nB nn' nc'] 30)) (w.heap.size + 1) l a 0 c) := fun a c h => Par.alloc h _
  go_upto_region 5 with fail
  generalize hW : W1.alloc (.cells #[.int .u8 nk, .slice nA nn nc, .slice nB nn' nc'] 30) = W2 at *
  generalize hj : W1.heap.size = j6 at *
  clear hW hj HR HB B0 HP hg1 hv1 HB1 B1
  have hj6 : j6 ≠ w.heap.size := by omega
  have hjb : j6 ≠ w.heap.size + 1 := by omega
  cases hr : altF l (grpF l 32) 0 ⟨[], []⟩ with
  | bad pl c =>
    rw [hr] at hres
    have HP2 := Lib.hid (HPA.out pl c hres.1)
    have hc := hres.2
    have HX1 : Hid (readF l = .bad pl c) := HX.out _ hr
    clear hr hres HX HFI HPA
    obtain ⟨c0, c1, c2, c3⟩ := HP2.out.cells
    have hc0 : ((c : Int) == 0) = false := by simp; omega
    have hc0' : (c : Int) ≠ 0 := by omega
    go_upto_region 7 with fail
    obtain ⟨n0, n1, n2⟩ := cells3 N2.out
    obtain ⟨r0, r1, r2⟩ := cells3 B2.out
    obtain ⟨z0, z1, z2⟩ := frozen3 B2.out
    go_region_held3 (fun w' => w'.cell? ⟨j6, 0, none⟩ = some (.int .u8 nk) ∧ w'.cell? ⟨j6, 1, none⟩ = some (.slice nA nn nc) ∧ w'.cell? ⟨j6, 2, none⟩ = some (.slice nB nn' nc') ∧ w'.cell? ⟨w.heap.size + 1, 1, none⟩ = some (.int .i64 pl) ∧ w'.cell? ⟨w.heap.size + 1, 3, none⟩ = some (.int .i64 c))
      (first | exact ⟨n0, n1, n2, c1, c3⟩ | exact ⟨kept3 n0 hj6, kept3 n1 hj6, kept3 n2 hj6, kept3 c1 (by simp), kept3 c3 (by simp)⟩) (fail)
    all_goals
      have B4 := Lib.hid (B2.out.set3 (.int .u8 nk) (.slice nA nn nc) (.slice nB nn' nc'))
      have HB4 := Lib.hid (below3 HB2.out (Nat.le_refl _) (.int .u8 nk) (.slice nA nn nc) (.slice nB nn' nc'))
      unfold put3 at B4 HB4
      clear n0 n1 n2 c0 c1 c2 c3 r0 r1 r2 z0 z1 z2
      generalize World.setCell _ ⟨w.heap.size, 2, none⟩ _ = W4 at *
      obtain ⟨r0, r1, r2⟩ := cells3 B4.out
      go_wp2
      exact bodyPost_ret (v := .tuple #[ndV nk nA nn nc nB nn' nc', .int .i64 pl, .int .i64 c]) (by simp [results, Tryd.results8, go_sem, r0, r1, r2]) rfl (pspost_bad HX1.out (by first | exact HB4.out | exact HB4.out.drew) (nd_mk _ _ _ _ _ _ _) rfl hc)
  | ok a m p =>
    rw [hr] at hres
    have HP2 := Lib.hid (HPA.out a 0 hres)
    have ha1 : a ≤ l.size := (HFI.out a m p hr).2.1
    have HX1 : Hid (readF l = if a = l.size then .ok a m p else .bad a 2) := HX.out _ hr
    clear hr hres HX HFI HPA
    obtain ⟨c0, c1, c2, c3⟩ := HP2.out.cells
    by_cases ha : a = l.size
    · have HX2 := Lib.hid (HX1.out.trans (if_pos ha))
      clear HX1 ha1
      subst ha
      have hlt : decide ((l.size : Int) < (l.size : Int)) = false := by simp
      go_upto_region 7 with fail
      obtain ⟨n0, n1, n2⟩ := cells3 N2.out
      obtain ⟨r0, r1, r2⟩ := cells3 B2.out
      obtain ⟨z0, z1, z2⟩ := frozen3 B2.out
      go_region_held3 (fun w' => w'.cell? ⟨j6, 0, none⟩ = some (.int .u8 nk) ∧ w'.cell? ⟨j6, 1, none⟩ = some (.slice nA nn nc) ∧ w'.cell? ⟨j6, 2, none⟩ = some (.slice nB nn' nc') ∧ w'.cell? ⟨w.heap.size + 1, 1, none⟩ = some (.int .i64 l.size) ∧ w'.cell? ⟨w.heap.size + 1, 3, none⟩ = some (.int .i64 ((0 : Nat) : Int)))
        (first | exact ⟨n0, n1, n2, c1, c3⟩ | exact ⟨kept3 n0 hj6, kept3 n1 hj6, kept3 n2 hj6, kept3 c1 (by simp), kept3 c3 (by simp)⟩) (fail)
      all_goals
        have B4 := Lib.hid (B2.out.set3 (.int .u8 nk) (.slice nA nn nc) (.slice nB nn' nc'))
        have HB4 := Lib.hid (below3 HB2.out (Nat.le_refl _) (.int .u8 nk) (.slice nA nn nc) (.slice nB nn' nc'))
        unfold put3 at B4 HB4
        clear n0 n1 n2 c0 c1 c2 c3 r0 r1 r2 z0 z1 z2
        generalize World.setCell _ ⟨w.heap.size, 2, none⟩ _ = W4 at *
        obtain ⟨r0, r1, r2⟩ := cells3 B4.out
        go_wp2
        exact bodyPost_ret (v := .tuple #[ndV nk nA nn nc nB nn' nc', .int .i64 l.size, .int .i64 ((0 : Nat) : Int)]) (by simp [results, Tryd.results8, go_sem, r0, r1, r2]) rfl (pspost_ok HX2.out (by first | exact HB4.out | exact HB4.out.drew) (nd_mk _ _ _ _ _ _ _) rfl)
    · have hlt : decide ((a : Int) < (l.size : Int)) = true := by simp; omega
      have HX2 := Lib.hid (HX1.out.trans (if_neg ha))
      clear HX1
      have f3 := Blk.frozen HP2.out 3
      go_upto_region 7 with fail
      have HP3 := Lib.hid (HP2.out.wr_ 2 (.int .i64 2) rfl)
      have B3 := Lib.hid (B2.out.other (k := w.heap.size + 1) (by omega) 3 (.int .i64 2))
      have N3 := Lib.hid (N2.out.other (k := w.heap.size + 1) hjb 3 (.int .i64 2))
      have HB3 := Lib.hid (HB2.out.setCell (p := ⟨w.heap.size + 1, 3, none⟩) (by simp) (.int .i64 2))
      generalize W2.setCell ⟨w.heap.size + 1, 3, none⟩ (.int .i64 2) = W3 at *
      clear HP2 B2 N2 HB2 c0 c1 c2 c3 f3
      obtain ⟨c0, c1, c2, c3⟩ := HP3.out.cells
      obtain ⟨n0, n1, n2⟩ := cells3 N3.out
      obtain ⟨r0, r1, r2⟩ := cells3 B3.out
      obtain ⟨z0, z1, z2⟩ := frozen3 B3.out
      go_region_held3 (fun w' => w'.cell? ⟨j6, 0, none⟩ = some (.int .u8 nk) ∧ w'.cell? ⟨j6, 1, none⟩ = some (.slice nA nn nc) ∧ w'.cell? ⟨j6, 2, none⟩ = some (.slice nB nn' nc') ∧ w'.cell? ⟨w.heap.size + 1, 1, none⟩ = some (.int .i64 a) ∧ w'.cell? ⟨w.heap.size + 1, 3, none⟩ = some (.int .i64 ((2 : Nat) : Int)))
        (first | exact ⟨n0, n1, n2, c1, c3⟩ | exact ⟨kept3 n0 hj6, kept3 n1 hj6, kept3 n2 hj6, kept3 c1 (by simp), kept3 c3 (by simp)⟩) (fail)
      all_goals
        have B4 := Lib.hid (B3.out.set3 (.int .u8 nk) (.slice nA nn nc) (.slice nB nn' nc'))
        have HB4 := Lib.hid (below3 HB3.out (Nat.le_refl _) (.int .u8 nk) (.slice nA nn nc) (.slice nB nn' nc'))
        unfold put3 at B4 HB4
        clear n0 n1 n2 c0 c1 c2 c3 r0 r1 r2 z0 z1 z2
        generalize World.setCell _ ⟨w.heap.size, 2, none⟩ _ = W4 at *
        obtain ⟨r0, r1, r2⟩ := cells3 B4.out
        go_wp2
        exact bodyPost_ret (v := .tuple #[ndV nk nA nn nc nB nn' nc', .int .i64 a, .int .i64 2]) (by simp [results, Tryd.results8, go_sem, r0, r1, r2]) rfl (pspost_bad HX2.out (by first | exact HB4.out | exact HB4.out.drew) (nd_mk _ _ _ _ _ _ _) rfl (.inl rfl))
theorem parse_any (l : ByteArray) (w : World) : Calls Tryd.prog 8 #[.string l] w (PsPost l w (readF l)) := by
  by_cases h : 200 < l.size
  · exact parse_long l w h
  · exact parse_short l w (by omega)
end Go.Proofs.YtahphjaelpgjdaaDoor

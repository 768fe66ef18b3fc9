import Derived.Test.YtiabnacgfoaihaaDoorN3
import Derived.Test.YtiabnacgfoaihaaDoorV1
import Derived.StillTailTactics
import Derived.IntWalk
namespace Go.Proofs.YtiabnacgfoaihaaDoor
open Go.RowKit Lb
set_option linter.unusedVariables false

/-! series in memory -/
def Pts (w : World) (A : Option Addr) (l : List Pt) : Prop :=
  0 < l.length → ∃ b off, A = some ⟨b, off, none⟩ ∧ b < w.heap.size ∧ ∀ i, i < l.length → w.cell? ⟨b, off + i * 2, none⟩ = some (.int .i64 (l.getD i p0).1) ∧ w.cell? ⟨b, off + i * 2 + 1, none⟩ = some (.int .u64 (l.getD i p0).2) ∧ Bits (l.getD i p0).2
theorem Pts.below {w w' : World} {A : Option Addr} {l : List Pt} (h : Pts w A l) (hb : Below w.heap.size w w') : Pts w' A l := by
  intro hn
  obtain ⟨b, off, rfl, hlt, hc⟩ := h hn
  exact ⟨b, off, rfl, by have := hb.size; omega, fun i hi => ⟨(hb.cell (p := ⟨b, off + i * 2, none⟩) hlt).trans (hc i hi).1, (hb.cell (p := ⟨b, off + i * 2 + 1, none⟩) hlt).trans (hc i hi).2.1, (hc i hi).2.2⟩⟩

abbrev Ser := List Lab × List Pt
def s0 : Ser := ([], [])
abbrev VV := Value × Value
def v0 : VV := (.nilIface, .nilIface)
/-- a slice of two cells each -/
def Raw (w : World) (A : Option Addr) (r : List VV) : Prop :=
  0 < r.length → ∃ b off, A = some ⟨b, off, none⟩ ∧ b < w.heap.size ∧ ∀ i, i < r.length → w.cell? ⟨b, off + i * 2, none⟩ = some (r.getD i v0).1 ∧ w.cell? ⟨b, off + i * 2 + 1, none⟩ = some (r.getD i v0).2
theorem Raw.below {w w' : World} {A : Option Addr} {r : List VV} (h : Raw w A r) (hb : Below w.heap.size w w') : Raw w' A r := by
  intro hn
  obtain ⟨b, off, rfl, hlt, hc⟩ := h hn
  exact ⟨b, off, rfl, by have := hb.size; omega, fun i hi => ⟨(hb.cell (p := ⟨b, off + i * 2, none⟩) hlt).trans (hc i hi).1, (hb.cell (p := ⟨b, off + i * 2 + 1, none⟩) hlt).trans (hc i hi).2⟩⟩
/-- two cells read as a series -/
def SerV (w : World) (x : VV) (s : Ser) : Prop :=
  ∃ LA lc PA pc, x = (.slice LA s.1.length lc, .slice PA s.2.length pc) ∧ Lbs w LA s.1 ∧ (LA = none → lc = 0) ∧ Pts w PA s.2 ∧ (PA = none → pc = 0) ∧ s.2.length ≤ pc ∧ pc ≤ 9223372036854775807
theorem SerV.below {w w' : World} {x : VV} {s : Ser} (h : SerV w x s) (hb : Below w.heap.size w w') : SerV w' x s := by
  obtain ⟨LA, lc, PA, pc, h1, h2, h3, h4, h5⟩ := h
  exact ⟨LA, lc, PA, pc, h1, h2.below hb, h3, h4.below hb, h5⟩
def SerVs (w : World) (r : List VV) (S : List Ser) : Prop := r.length = S.length ∧ ∀ i, i < S.length → SerV w (r.getD i v0) (S.getD i s0)
theorem SerVs.below {w w' : World} {r : List VV} {S : List Ser} (h : SerVs w r S) (hb : Below w.heap.size w w') : SerVs w' r S := ⟨h.1, fun i hi => (h.2 i hi).below hb⟩
def Srs (w : World) (A : Option Addr) (S : List Ser) : Prop := ∃ r, Raw w A r ∧ SerVs w r S
theorem Srs.below {w w' : World} {A : Option Addr} {S : List Ser} (h : Srs w A S) (hb : Below w.heap.size w w') : Srs w' A S := by
  obtain ⟨r, h1, h2⟩ := h
  exact ⟨r, h1.below hb, h2.below hb⟩
/-- one of them -/
theorem Srs.at_ {w : World} {A : Option Addr} {S : List Ser} (h : Srs w A S) {i : Nat} (hi : i < S.length) : ∃ b off LA lc PA pc, A = some ⟨b, off, none⟩ ∧ b < w.heap.size ∧
    w.cell? ⟨b, off + i * 2, none⟩ = some (.slice LA (S.getD i s0).1.length lc) ∧ w.cell? ⟨b, off + i * 2 + 1, none⟩ = some (.slice PA (S.getD i s0).2.length pc) ∧
    Lbs w LA (S.getD i s0).1 ∧ (LA = none → lc = 0) ∧ Pts w PA (S.getD i s0).2 ∧ (PA = none → pc = 0) ∧ (S.getD i s0).2.length ≤ pc ∧ pc ≤ 9223372036854775807 := by
  obtain ⟨r, h1, hl, h2⟩ := h
  obtain ⟨b, off, rfl, hlt, hc⟩ := h1 (by omega)
  obtain ⟨LA, lc, PA, pc, e, h3⟩ := h2 i hi
  have := hc i (by omega)
  rw [e] at this
  exact ⟨b, off, LA, lc, PA, pc, rfl, hlt, this.1, this.2, h3⟩
theorem Srs.addr {w : World} {A : Option Addr} {S : List Ser} (h : Srs w A S) (hn : 0 < S.length) : ∃ b off, A = some ⟨b, off, none⟩ ∧ b < w.heap.size := by
  obtain ⟨b, off, _, _, _, _, h1, h2, _⟩ := h.at_ hn
  exact ⟨b, off, h1, h2⟩

/-! a list of points is right -/
def ptAt (l : List Pt) (i : Nat) : Prop := tmB (l.getD i p0).1 = true ∧ (normI (l.getD i p0).2 == (l.getD i p0).2) = true ∧ (0 < i → (l.getD (i - 1) p0).1 < (l.getD i p0).1)
def PtsTo (l : List Pt) (k : Nat) : Prop := ∀ i, i < k → ptAt l i
instance (l : List Pt) (i : Nat) : Decidable (ptAt l i) := by unfold ptAt; infer_instance
instance (l : List Pt) (k : Nat) : Decidable (PtsTo l k) := inferInstanceAs (Decidable (∀ i, i < k → ptAt l i))
def ptsB (l : List Pt) : Bool := decide (0 < l.length ∧ PtsTo l l.length)
theorem pts_zero (l : List Pt) : PtsTo l 0 := fun _ h => absurd h (Nat.not_lt_zero _)
theorem pts_succ {l : List Pt} {k : Nat} (h : PtsTo l k) (h1 : ptAt l k) : PtsTo l (k + 1) := by
  intro i hi
  rcases Nat.lt_succ_iff_lt_or_eq.1 hi with h2 | rfl
  · exact h i h2
  · exact h1
theorem pts_bad {l : List Pt} {k : Nat} (hk : k < l.length) (h : ¬ ptAt l k) : ptsB l = false := by
  unfold ptsB; rw [decide_eq_false_iff_not]; rintro ⟨_, h2⟩; exact h (h2 k hk)
theorem pts_all {l : List Pt} (h : PtsTo l l.length) : ptsB l = decide (0 < l.length) := by
  unfold ptsB; rw [decide_eq_decide]; exact ⟨fun h => h.1, fun h1 => ⟨h1, h⟩⟩
theorem pts_iff (l : List Pt) : ptsB l = true ↔ 0 < l.length ∧ PtsTo l l.length := by unfold ptsB; rw [decide_eq_true_eq]

theorem time_q (t : Int) (r : Bool) (h : tmB t = r) (w : World) : Calls Tryd.prog 23 #[.int .i64 t] w fun e w' => e = .returned (.bool r) ∧ w' = w := by
  subst h; exact (time_any t w).mono fun e w' ⟨h1, h2⟩ => ⟨h1, h2.symm⟩
theorem norm_q (v : Int) (hv : Bits v) (r : Int) (h : normI v = r) (w : World) : Calls Tryd.prog 24 #[.int .u64 v] w fun e w' => e = .returned (.int .u64 r) ∧ w' = w := by
  subst h; exact (norm_any v hv w).mono fun e w' ⟨h1, h2⟩ => ⟨h1, h2.symm⟩

set_option maxRecDepth 100000 in
set_option maxHeartbeats 4000000 in
theorem points_any (A : Option Addr) (cap : Nat) (l : List Pt) (w : World) (hP : Pts w A l) (hl : l.length ≤ 65536) :
    Calls Tryd.prog 34 #[.slice A l.length cap] w fun e w' => e = .returned (.bool (ptsB l)) ∧ Below w.heap.size w w' := by
  generalize hr : ptsB l = r
  have HR := Lib.hid hr
  have HP := Lib.hid hP
  clear hr hP
  generalize hn : l.length = n at *
  have HN := Lib.hid hn
  clear hn
  go_enter Tryd.func34, Tryd.ntmps34
  go_wp2
  go_loopw [7] (fun i wr => ∃ k : Nat, k ≤ n ∧ i = .int .i64 k ∧ Hid (PtsTo l k) ∧ Hid (Below w.heap.size w wr)) (fun i _ => n - (intOf i).toNat)
  case atStart => exact ⟨0, Nat.zero_le _, rfl, pts_zero l, Below.refl _ _⟩
  case round =>
    obtain ⟨k, hk, rfl, HC, HB⟩ := hrel
    by_cases hlt : k < n
    · have hkl : k < l.length := by rw [HN.out]; exact hlt
      obtain ⟨b0, off, rfl, hb0, hc⟩ := HP.out (by omega)
      have hx : wr.cell? ⟨b0, off + k * 2, none⟩ = some (.int .i64 (l.getD k p0).1) := (HB.out.cell (p := ⟨b0, off + k * 2, none⟩) hb0).trans (hc k hkl).1
      have hy : wr.cell? ⟨b0, off + k * 2 + 1, none⟩ = some (.int .u64 (l.getD k p0).2) := (HB.out.cell (p := ⟨b0, off + k * 2 + 1, none⟩) hb0).trans (hc k hkl).2.1
      have hbits := (hc k hkl).2.2
      have HBAD := Lib.hid (@pts_bad l k hkl)
      have HGO := Lib.hid (@pts_succ l k HC.out)
      have hat : ptAt l k = (tmB (l.getD k p0).1 = true ∧ (normI (l.getD k p0).2 == (l.getD k p0).2) = true ∧ (0 < k → (l.getD (k - 1) p0).1 < (l.getD k p0).1)) := rfl
      rw [hat] at HBAD HGO
      have hz : 0 < k → wr.cell? ⟨b0, off + (k - 1) * 2, none⟩ = some (.int .i64 (l.getD (k - 1) p0).1) := fun _ => (HB.out.cell (p := ⟨b0, off + (k - 1) * 2, none⟩) hb0).trans (hc (k - 1) (by omega)).1
      have hsz := HB.out.size
      have hbr : b0 < wr.heap.size := by omega
      clear hc hat
      generalize (l.getD k p0).1 = x at *
      generalize (l.getD k p0).2 = y at *
      generalize (l.getD (k - 1) p0).1 = z at *
      generalize hny : normI y = ny at *
      have HY := Lib.hid (fun W => norm_q y hbits ny hny W)
      have HX := Lib.hid (fun r h W => time_q x r h W)
      clear hbits hny
      cases h1 : tmB x with
      | false =>
        have hf : r = false := by rw [← HR.out]; exact HBAD.out (by rw [h1]; rintro ⟨h, _⟩; simp at h)
        subst hf
        have H1 := Lib.hid (HX.out _ h1)
        clear h1 hz
        go_wp2_with fail
        go_quiet ((go_at_call 23; exact Calls.quiet_of_same (H1.out _)))
        go_wp2
        go_ret
        exact ⟨rfl, bel_drawn (HB.out.alloc hsz _) _⟩
      | true =>
        have H1 := Lib.hid (HX.out _ h1)
        cases h2 : (ny == y) with
        | false =>
          have hf : r = false := by rw [← HR.out]; exact HBAD.out (by rw [h2]; rintro ⟨_, h, _⟩; simp at h)
          subst hf
          have h2' : (ny != y) = true := by simp [bne, h2]
          clear h1 hz h2
          go_wp2_with fail
          go_quiet (first | (go_at_call 23; exact Calls.quiet_of_same (H1.out _)) | (go_at_call 24; exact Calls.quiet_of_same (HY.out _)))
          go_wp2
          go_ret
          exact ⟨rfl, bel_drawn (HB.out.alloc hsz _) _⟩
        | true =>
          have h2' : (ny != y) = false := by simp [bne, h2]
          by_cases hk0 : k = 0
          · have HS : Hid (PtsTo l (k + 1)) := HGO.out ⟨h1, h2, fun h => absurd h (by omega)⟩
            have dk : decide (0 < k) = false := by simp; omega
            clear h1 hz h2 hk0
            go_wp2_with fail
            go_quiet (first | (go_at_call 23; exact Calls.quiet_of_same (H1.out _)) | (go_at_call 24; exact Calls.quiet_of_same (HY.out _)))
            go_wp2
            go_quiet (fail)
            go_wp2
            go_roundw
            case rel => exact ⟨k + 1, by omega, by go_num, HS, bel_drawn (HB.out.alloc hsz _) _⟩
            case measure => simp [intOf]; omega
          · have dk : decide (0 < k) = true := by simp; omega
            have dk' : (0 : Int) < (k : Int) := by omega
            have hz' := hz (by omega)
            have hk1 : (1 : Int) ≤ (k : Int) := by omega
            have hk2 : (k : Int) - 1 < (n : Int) := by omega
            have hk3 : (0 : Int) ≤ (k : Int) - 1 := by omega
            have hk4 : ((k : Int) - 1).toNat = k - 1 := by omega
            have hk5 : IntKind.i64.wrap ((k : Int) - 1) = (k : Int) - 1 := IntWalk.i64_in _ (by omega)
            clear hz
            by_cases h3 : z < x
            · have HS : Hid (PtsTo l (k + 1)) := HGO.out ⟨h1, h2, fun _ => h3⟩
              have d3 : decide (x ≤ z) = false := by simp; omega
              clear h1 h2
              go_wp2_with fail
              go_quiet (first | (go_at_call 23; exact Calls.quiet_of_same (H1.out _)) | (go_at_call 24; exact Calls.quiet_of_same (HY.out _)))
              go_wp2
              go_quiet (fail)
              go_wp2
              go_roundw
              case rel => exact ⟨k + 1, by omega, by go_num, HS, bel_drawn (HB.out.alloc hsz _) _⟩
              case measure => simp [intOf]; omega
            · have hf : r = false := by rw [← HR.out]; exact HBAD.out (by rintro ⟨_, _, h⟩; exact absurd (h (by omega)) h3)
              subst hf
              have d3 : decide (x ≤ z) = true := by simp; omega
              clear h1 h2
              go_wp2_with fail
              go_quiet (first | (go_at_call 23; exact Calls.quiet_of_same (H1.out _)) | (go_at_call 24; exact Calls.quiet_of_same (HY.out _)))
              go_wp2
              go_quiet (fail)
              go_wp2
              go_ret
              exact ⟨rfl, bel_drawn (bel_drawn (HB.out.alloc hsz _) _) _⟩
    · have hf : r = decide (0 < n) := by
        rw [← HR.out, pts_all (by rw [HN.out, show n = k by omega]; exact HC.out), HN.out]
      subst hf
      have d : decide (k < n) = false := by simpa using hlt
      go_wp2
      go_ret
      exact ⟨by simp, HB.out⟩
end Go.Proofs.YtiabnacgfoaihaaDoor

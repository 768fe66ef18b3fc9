import Derived.Test.YtmnhoafhoaklcaaL3
import Derived.Maps.AppendAt
import Derived.Laws.AppendOwnNone
import Derived.Laws.OwnMore
namespace Go.Proofs.Ytmnhoafhoaklcaa
open Go.RowKit Pk
set_option linter.unusedVariables false

theorem flat_one (l : List Pt) : ∀ u ∈ flat l, u.oneCell' = true := by
  induction l with
  | nil => intro u hu; simp [flat] at hu
  | cons p l ih =>
    intro u hu
    simp only [flat, List.mem_cons] at hu
    rcases hu with rfl | rfl | hu
    · rfl
    · rfl
    · exact ih u hu

theorem Pts.cells {w : World} {ad : Addr} {l : List Pt} (h : Pts w (some ad) l) : ∀ j u, (flat l)[j]? = some u → w.cell? (ad.add j) = some u := by
  intro j u hu
  have hj : j < (flat l).length := by
    rcases Nat.lt_or_ge j (flat l).length with h1 | h1
    · exact h1
    · rw [List.getElem?_eq_none h1] at hu; cases hu
  rw [flat_length] at hj
  obtain ⟨b, off, e, _, hc⟩ := h (by omega)
  injection e with e
  subst e
  rw [add_none]
  have f := flat_at l (j / 2) (by omega)
  have c := hc (j / 2) (by omega)
  by_cases hp : j % 2 = 0
  · have ej : j / 2 * 2 = j := by omega
    rw [ej] at f c
    rw [← hu, f.1]; exact c.1
  · have ej : j / 2 * 2 + 1 = j := by omega
    have eo : off + j / 2 * 2 + 1 = off + j := by omega
    rw [ej] at f
    rw [eo] at c
    rw [← hu, f.2]; exact c.2

theorem grown_of_below {a w : World} (h : Below a.heap.size a w) : a.grownBy w none := ⟨h.os, h.tape, h.output, h.size, fun i hi _ => h.block i hi⟩

theorem own_below {w w' : World} {base : Nat} {e : TypeId} {size : Nat} {v : Value} {n : Nat} {xs : List Value} (h : w.ownsRow base e size v n xs) (hb : Below w.heap.size w w') : w'.ownsRow base e size v n xs :=
  h.kept (grown_of_below hb) (by
    cases hv : v.ownBlock with
    | none => exact .inl rfl
    | some g => exact .inr (by simp))

theorem wpList_append_pts {w : World} {ops : Array Oper} {rest : List Oper} {o : Oper} {a : Act} {Q : Exit → Act → World → Prop} (hgd : o.guard = none) (s x : Operand)
    (ho : o.op = .call { callee := .builtin .append, args := #[s, x], argTypes := #[22, 22] })
    (base : Nat) (v : Value) (n : Nat) (xs : List Value) (hs : a.eval s = v) (hown : w.ownsRow base 31 2 v n xs)
    (A : Option Addr) (m c : Nat) (l : List Pt) (hm : l.length = m) (hx : a.eval x = .slice A m c) (hl : Own w A c l) (hsz : n + m ≤ 65536) (hbase : base ≤ w.heap.size)
    (h : ∀ v' w', w'.ownsRow base 31 2 v' (n + m) (xs ++ flat l) → w.grownBy w' v.ownBlock → (v'.ownBlock = v.ownBlock ∨ v'.ownBlock = some w.heap.size) → wpList Try.prog ops Q rest (a.put o.dst v') w') : wpList Try.prog ops Q (o :: rest) a w := by
  obtain ⟨i0, hi0, hz0, hz1, hz2⟩ := info_parts pt_info
  subst hm
  cases A with
  | none =>
    have hc := hl.2 rfl
    have h0 : l = [] := by
      cases l with
      | nil => rfl
      | cons p l => obtain ⟨_, _, e, _⟩ := hl.1 (by simp); cases e
    subst h0
    subst hc
    refine wpList_append_own_none hgd s x 22 ho base 31 i0 2 Try.underlying22 hi0 v n xs hs hown hx ?_
    exact h v w (by simpa [flat] using hown) (World.grownBy.refl w _) (.inl rfl)
  | some ad =>
    refine wpList_append_own_at w hgd s x 22 ho base 31 i0 _ 2 16 Try.underlying22 hi0 hz0 hz1 hz2 rfl (by decide) v n xs hs hown ad l.length c (flat l) hx (flat_length l) hl.1.cells (flat_one l) (by unfold maxLen; omega) (by omega) hbase ?_
    intro v' w' h1 h2 _ h4
    exact h v' w' h1 h2 h4

set_option maxHeartbeats 3000000 in
theorem meets_tail (A : Option Addr) (cap n : Nat) (t a b : Int) (w : World) (x1 x2 : List Pt) (r1 : Int) (r2 : Bool)
    (hn : ¬ (400 : Int) < (n : Int)) (ha : ¬ a < 1) (hb : ¬ b < 1) (ha2 : ¬ 1152921504606846976 < a) (hb2 : ¬ 1152921504606846976 < b) (ht : ¬ t < -1152921504606846976) (ht2 : t ≤ 2305843009213693952)
    (hlen : (x1 ++ x2).length ≤ 400)
    (H0 : Hid (∀ w1, Below w.heap.size w w1 → Calls Try.prog 12 #[.slice A n cap, .int .i64 t, .int .i64 a] w1 fun e w' => e = .returned (.bool true) ∧ ∃ n, w' = w1.drewN n))
    (H1 : Hid (∀ w1, Below w.heap.size w w1 → Calls Try.prog 10 #[.slice A n cap, .int .i64 t, .int .i64 (a + b)] w1 fun e w' => ∃ A' c, e = .returned (.slice A' (x1 ++ x2).length c) ∧ Own w' A' c (x1 ++ x2) ∧ Below w1.heap.size w1 w'))
    (H2 : Hid (∀ w1, Below w.heap.size w w1 → Calls Try.prog 10 #[.slice A n cap, .int .i64 (t - a), .int .i64 b] w1 fun e w' => ∃ A' c, e = .returned (.slice A' x1.length c) ∧ Own w' A' c x1 ∧ Below w1.heap.size w1 w'))
    (H3 : Hid (∀ w1, Below w.heap.size w w1 → Calls Try.prog 10 #[.slice A n cap, .int .i64 t, .int .i64 a] w1 fun e w' => ∃ A' c, e = .returned (.slice A' x2.length c) ∧ Own w' A' c x2 ∧ Below w1.heap.size w1 w'))
    (H4 : Hid (∀ w1, Below w.heap.size w w1 → Calls Try.prog 7 #[.slice A n cap, .int .i64 t, .int .i64 (a + b)] w1 fun e w' => e = .returned (.tuple #[.int .u64 r1, .bool r2]) ∧ Below w1.heap.size w1 w'))
    (HO : Hid (r2 = true → 0 < (x1 ++ x2).length ∧ ((x1 ++ x2).getD ((x1 ++ x2).length - 1) d0).2 = r1)) :
    Calls Try.prog 4 #[.slice A n cap, .int .i64 t, .int .i64 a, .int .i64 b] w fun e w' => e = .returned (.bool true) ∧ Below w.heap.size w w' := by
  have H5 := Lib.hid (fun w1 A1 c1 A2 c2 p1 p2 => points_same A1 A2 c1 c2 (x1 ++ x2) w1 p1 p2 (by omega))
  generalize hx1 : x1.length = n1 at *
  generalize hx2 : x2.length = n2 at *
  generalize hx : (x1 ++ x2).length = n12 at *
  have h12 : n12 = n1 + n2 := by rw [← hx, ← hx1, ← hx2]; simp
  have h12' : n1 + n2 ≤ 400 := by omega
  have HX1 := Lib.hid hx1
  have HX2 := Lib.hid hx2
  have HX := Lib.hid hx
  have H12 := Lib.hid h12
  clear hx1 hx2 hx h12
  have dn : decide ((400 : Int) < (n : Int)) = false := by simpa using hn
  have da : decide (a < 1) = false := by simpa using ha
  have db : decide (b < 1) = false := by simpa using hb
  have da2 : decide (1152921504606846976 < a) = false := by simpa using ha2
  have db2 : decide (1152921504606846976 < b) = false := by simpa using hb2
  have dt : decide (t < -1152921504606846976) = false := by simpa using ht
  go_enter Try.func4, Try.ntmps4
  go_wp2_with fail
  refine (awake_any _).mono ?_
  rintro e w1 ⟨rfl, hb1⟩
  go_wp2_with fail
  refine (H0.out _ hb1).mono ?_
  rintro e w2 ⟨rfl, q2, rfl⟩
  have hb2' := bel_drawn hb1 q2
  go_wp2_with fail
  refine (H1.out _ hb2').mono ?_
  rintro e w3 ⟨A1, c1, rfl, o1, hb3⟩
  have hb3' := hb2'.trans (hb3.mono hb2'.size)
  have O1 := Lib.hid o1
  clear o1 hb3
  go_wp2_with fail
  refine (H2.out _ (hb3'.alloc hb3'.size _)).mono ?_
  rintro e w4 ⟨A2, c2, rfl, o2, hb4⟩
  have own4 : w4.ownsRow w3.heap.size 31 2 (.slice (some ⟨w3.heap.size, 0, none⟩) 0 0) 0 [] := own_below (World.ownsRow_lit w3 #[] 0 (Nat.le_refl _) (by unfold maxLen; omega) rfl) hb4
  have k4 : Below w3.heap.size w3 w4 := ((Below.refl _ _).alloc (Nat.le_refl _) _).trans (hb4.mono (by simp))
  have O2 := Lib.hid o2
  have OW4 := Lib.hid own4
  have K4 := Lib.hid k4
  clear o2 own4 k4 hb4
  go_wp2_with (at_builtin; refine wpList_append_pts rfl (.tmp 51) (.tmp 57) rfl w3.heap.size (.slice (some ⟨w3.heap.size, 0, none⟩) 0 0) 0 [] rfl OW4.out A2 n1 c2 x1 HX1.out rfl O2.out (by omega) K4.out.size ?_; intro v5 w5 own5 gr5 at5)
  have k5 : Below w3.heap.size w3 w5 := K4.out.grown gr5 K4.out.size (fun g hg => (OW4.out.lt g hg).1)
  have K5 := Lib.hid k5
  have OW5 := Lib.hid own5
  clear k5 own5 gr5 at5
  refine (H3.out _ (hb3'.trans (K5.out.mono hb3'.size))).mono ?_
  rintro e w6 ⟨A3, c3, rfl, o3, hb6⟩
  have OW6 := Lib.hid (own_below OW5.out hb6)
  have K6 := Lib.hid (K5.out.trans (hb6.mono K5.out.size))
  have O3 := Lib.hid o3
  clear o3 hb6
  go_wp2_with (at_builtin; refine wpList_append_pts rfl (.tmp 58) (.tmp 62) rfl w3.heap.size v5 (0 + n1) ([] ++ flat x1) rfl OW6.out A3 n2 c3 x2 HX2.out rfl O3.out (by omega) K6.out.size ?_; intro v7 w7 own7 gr7 at7)
  have k7 : Below w3.heap.size w3 w7 := K6.out.grown gr7 K6.out.size (fun g hg => (OW6.out.lt g hg).1)
  have K7 := Lib.hid k7
  have own7' : w7.ownsRow w3.heap.size 31 2 v7 (x1 ++ x2).length (flat (x1 ++ x2)) := by
    rw [flat_append, List.length_append, HX1.out, HX2.out]
    simpa using own7
  obtain ⟨A4, c4, hv4, o4⟩ := own_pts own7'
  rw [HX.out] at hv4
  subst hv4
  have O4 := Lib.hid o4
  clear k7 own7 own7' gr7 at7 o4
  have hb7 := hb3'.trans (K7.out.mono hb3'.size)
  have O1' := Lib.hid (O1.out.below (K7.out))
  go_wp2_with fail
  refine (H4.out _ hb7).mono ?_
  rintro e w8 ⟨rfl, hb8⟩
  have O1'' := Lib.hid (O1'.out.below hb8)
  have O4' := Lib.hid (O4.out.below hb8)
  have hb8' := hb7.trans (hb8.mono hb7.size)
  go_wp2_with fail
  refine (H5.out _ A1 c1 A4 c4 O1''.out.1 O4'.out.1).mono ?_
  rintro e w9 ⟨rfl, q9, rfl⟩
  cases r2 with
  | false =>
    go_wp2
    go_ret
    exact ⟨rfl, bel_drawn hb8' _⟩
  | true =>
    obtain ⟨h0, hl⟩ := HO.out rfl
    have hpos : 0 < n12 := h0
    obtain ⟨b1, off1, rfl, _, g1⟩ := O1''.out.1 (by rw [HX.out]; exact h0)
    have hv := (g1 (n12 - 1) (by rw [HX.out]; omega)).2
    have HV := Lib.hid hv
    clear hv g1
    have hv2 : w8.cell? ⟨b1, off1 + (n12 - 1) * 2 + 1, none⟩ = some (.int .u64 r1) := by rw [HV.out, hl]
    have dp : decide (0 < n12) = true := by simpa using hpos
    have q1 : (r1 == r1) = true := by simp
    clear hl
    go_wp2
    go_ret
    exact ⟨rfl, bel_drawn hb8' _⟩
end Go.Proofs.Ytmnhoafhoaklcaa

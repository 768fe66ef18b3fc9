import Derived.Test.YthgcjolpcccolaaDoorP12
import Derived.Test.YthgcjolpcccolaaDoorH4
namespace Go.Proofs.YthgcjolpcccolaaDoor
open Go.RowKit Lb
set_option linter.unusedVariables false

theorem right_iff (l : List Lab) : rightB l = true ↔ l.length ≤ 16 ∧ (∀ x ∈ l, okB x = true) ∧ (∀ x ∈ l, full x = true) ∧ l.Pairwise slN := by
  unfold rightB
  rw [decide_eq_true_eq]
  constructor
  · rintro ⟨h16, h⟩
    have at_ : ∀ i (hi : i < l.length), l.getD i e0 = l[i] := fun i hi => by simp [hi]
    refine ⟨h16, fun x hx => ?_, fun x hx => ?_, ?_⟩
    · obtain ⟨i, hi, rfl⟩ := List.getElem_of_mem hx
      have := (h i hi).1
      rw [at_ i hi] at this; exact this
    · obtain ⟨i, hi, rfl⟩ := List.getElem_of_mem hx
      have := (h i hi).2.1
      rw [at_ i hi] at this; exact this
    · rw [List.pairwise_iff_getElem]
      have key : ∀ d i (hi : i < l.length) (hj : i + d + 1 < l.length), slN l[i] l[i + d + 1] := by
        intro d
        induction d with
        | zero =>
          intro i hi hj
          have := (h (i + 1) hj).2.2 (by omega)
          rw [at_ (i + 1) hj, show i + 1 - 1 = i by omega, at_ i hi] at this
          exact this
        | succ d ih =>
          intro i hi hj
          have h1 := ih i hi (by omega)
          have := (h (i + d + 1 + 1) (by omega)).2.2 (by omega)
          rw [at_ (i + d + 1 + 1) (by omega), show i + d + 1 + 1 - 1 = i + d + 1 by omega, at_ (i + d + 1) (by omega)] at this
          exact slN_trans h1 this
      intro i j hi hj hij
      have := key (j - i - 1) i hi (by omega)
      simpa [show i + (j - i - 1) + 1 = j by omega] using this
  · rintro ⟨h16, h1, h2, h3⟩
    refine ⟨h16, fun i hi => ?_⟩
    have e : l.getD i e0 = l[i] := by simp [hi]
    refine ⟨by rw [e]; exact h1 _ (List.getElem_mem hi), by rw [e]; exact h2 _ (List.getElem_mem hi), fun h0 => ?_⟩
    have e' : l.getD (i - 1) e0 = l[i - 1] := by simp [show i - 1 < l.length by omega]
    rw [e, e']
    exact (List.pairwise_iff_getElem.1 h3) (i - 1) i (by omega) hi (by omega)
theorem right_filter {l : List Lab} (P : Lab → Bool) (h : rightB l = true) : rightB (l.filter P) = true := by
  obtain ⟨h16, h1, h2, h3⟩ := (right_iff l).1 h
  refine (right_iff _).2 ⟨Nat.le_trans (List.length_filter_le _ _) h16, fun x hx => h1 x (List.mem_filter.1 hx).1, fun x hx => h2 x (List.mem_filter.1 hx).1, h3.filter _⟩
theorem in_out_length (ns : List ByteArray) (l : List Lab) : (l.filter (isIn ns)).length + (l.filter (isOut ns)).length = l.length := by
  induction l with
  | nil => rfl
  | cons x l ih =>
    have e : isOut ns x = !isIn ns x := rfl
    cases h : isIn ns x with
    | true => simp only [List.filter_cons, h, e, if_true, Bool.not_true]; simp; omega
    | false => simp only [List.filter_cons, h, e, Bool.not_false, if_true]; simp; omega

set_option maxRecDepth 100000 in
set_option maxHeartbeats 8000000 in
theorem parts_no (A B N : Option Addr) (ca cb cn na nb nn nk nd : Nat) (ns : List ByteArray) (ok od : List Lab) (g : ByteArray → ByteArray) (z : Int) (w : World) (h3 : 3 ≤ w.heap.size) (hnn : nn ≤ 40) (hna : na ≤ 40) (hsum : nk + nd = na)
    (HN : Hid (ns.length = nn)) (HS : Hid (Sts w N ns)) 
    (HW : Hid (Calls Tryd.prog 7 #[] w fun e w' => e = .returned (.bool true) ∧ Below w.heap.size w w'))
    (S1 : Hid (∀ W, Below w.heap.size w W → Calls Tryd.prog 8 #[.slice A na ca] W fun e w' => e = .returned (.bool true) ∧ W = w'))
    (S2 : Hid (∀ W, Below w.heap.size w W → Calls Tryd.prog 8 #[.slice B nb cb] W fun e w' => e = .returned (.bool true) ∧ W = w'))
    (G1 : Hid (∀ W s, Below w.heap.size w W → Calls Tryd.prog 17 #[.slice A na ca, .string s] W fun e w' => e = .returned (.string (g s)) ∧ Below W.heap.size W w'))
    (G2 : Hid (∀ W s, Below w.heap.size w W → Calls Tryd.prog 18 #[.slice A na ca, .string s] W fun e w' => e = .returned (.string (g s)) ∧ W = w'))
    (K1 : Hid (∀ W, Below w.heap.size w W → Calls Tryd.prog 19 #[.slice A na ca, .slice N nn cn] W fun e w' => ∃ A' c, e = .returned (.slice A' nk c) ∧ Lbs w' A' ok ∧ Below W.heap.size W w'))
    (D1 : Hid (∀ W, Below w.heap.size w W → Calls Tryd.prog 20 #[.slice A na ca, .slice N nn cn] W fun e w' => ∃ A' c, e = .returned (.slice A' nd c) ∧ Lbs w' A' od ∧ Below W.heap.size W w'))
    (C0 : Hid (∀ W, Below w.heap.size w W → Calls Tryd.prog 21 #[.slice A na ca, .slice B nb cb] W fun e w' => e = .returned (.int .i64 z) ∧ Below W.heap.size W w'))
    (C1 : Hid (∀ W, Below w.heap.size w W → Calls Tryd.prog 15 #[.slice A na ca, .slice B nb cb] W fun e w' => e = .returned (.int .i64 z) ∧ Below W.heap.size W w'))
    (P1 : Hid (∀ W, Below w.heap.size w W → Calls Tryd.prog 22 #[.slice A na ca, .slice N nn cn, .bool true] W fun e w' => ∃ A' c, e = .returned (.slice A' nk c) ∧ Lbs w' A' ok ∧ Below W.heap.size W w'))
    (P2 : Hid (∀ W, Below w.heap.size w W → Calls Tryd.prog 22 #[.slice A na ca, .slice N nn cn, .bool false] W fun e w' => ∃ A' c, e = .returned (.slice A' nd c) ∧ Lbs w' A' od ∧ Below W.heap.size W w'))
    (C2 : Hid (∀ W X cx Y cy, Lbs W X ok → Lbs W Y ok → Calls Tryd.prog 15 #[.slice X nk cx, .slice Y nk cy] W fun e w' => e = .returned (.int .i64 0) ∧ Below W.heap.size W w'))
    (C3 : Hid (∀ W X cx Y cy, Lbs W X od → Lbs W Y od → Calls Tryd.prog 15 #[.slice X nd cx, .slice Y nd cy] W fun e w' => e = .returned (.int .i64 0) ∧ Below W.heap.size W w'))
    (R1 : Hid (∀ W, Below w.heap.size w W → Calls Tryd.prog 12 #[.slice A na ca] W fun e w' => e = .returned (.bool false) ∧ Below W.heap.size W w')) :
    Calls Tryd.prog 4 #[.slice A na ca, .slice B nb cb, .slice N nn cn] w fun e w' => e = .returned (.bool true) ∧ Below w.heap.size w w' := by
  have dnn : decide (40 < nn) = false := by simp; omega
  have ez : (z != z) = false := by simp
  have es : ((nk : Int) + (nd : Int) != (na : Int)) = false := by simp; omega
  have esn : (nk + nd != na) = false := by simp; omega
  go_enter Tryd.func4, Tryd.ntmps4
  go_wp2_with fail
  refine (HW.out).mono ?_
  rintro e w1 ⟨rfl, k1⟩
  have KW1 := Lib.hid k1
  have NS1 := Lib.hid (HS.out.below k1)
  clear k1
  go_wp2_with fail
  refine (S1.out _ KW1.out).mono ?_
  rintro e w' ⟨rfl, rfl⟩
  go_wp2_with fail
  refine (S2.out _ KW1.out).mono ?_
  rintro e w' ⟨rfl, rfl⟩
  go_wp2
  go_loopw [7] (fun i wr => ∃ k : Nat, k ≤ nn ∧ i = .int .i64 k ∧ Hid (Below w1.heap.size w1 wr)) (fun i _ => nn - (intOf i).toNat)
  case atStart => exact ⟨0, Nat.zero_le _, rfl, Below.refl _ _⟩
  case round =>
    obtain ⟨k, hk, rfl, HB⟩ := hrel
    have hsz := HB.out.size
    have KWR := Lib.hid (KW1.out.trans (HB.out.mono KW1.out.size))
    by_cases hlt : k < nn
    · have hkl : k < ns.length := by rw [HN.out]; exact hlt
      have d : decide (k < nn) = true := by simpa using hlt
      obtain ⟨b0, off, rfl, hb0, hc⟩ := NS1.out (by omega)
      have hx : wr.cell? ⟨b0, off + k, none⟩ = some (.string (ns.getD k ByteArray.empty)) := (HB.out.cell (p := ⟨b0, off + k, none⟩) hb0).trans (hc k hkl)
      have hbr : b0 < wr.heap.size := by omega
      clear hc
      generalize ns.getD k ByteArray.empty = x at *
      by_cases h4 : 400 < x.size
      · have h4' : (400 : Int) < (x.size : Int) := by omega
        go_wp2
        go_ret
        exact ⟨rfl, KWR.out⟩
      · have d4 : decide (400 < x.size) = false := by simpa using h4
        have GG1 := Lib.hid (fun W (hW : Below wr.heap.size wr W) => G1.out W x (KWR.out.trans (hW.mono KWR.out.size)))
        have GG2 := Lib.hid (fun W (hW : Below wr.heap.size wr W) => G2.out W x (KWR.out.trans (hW.mono KWR.out.size)))
        generalize g x = y at *
        have hyy : (y.toList != y.toList) = false := by simp
        go_wp2_with fail
        go_region_held3 (fun W => W.cell? ⟨b0, off + k, none⟩ = some (.string x) ∧ Below wr.heap.size wr W) (first | (exact ⟨hx, (Below.refl _ _).drew⟩) | (exact ⟨(hb4.cell (p := ⟨b0, off + k, none⟩) (Nat.lt_of_lt_of_le hbr hS0.2.size)).trans hS0.1, hS0.2.trans (hb4.mono hS0.2.size)⟩) | assumption | go_keep) (first | (go_at_call 17; have hS0 := ‹World.cell? _ ⟨b0, off + k, none⟩ = some (.string x) ∧ Below wr.heap.size wr _›; refine (GG1.out _ hS0.2).mono ?_; rintro e w' ⟨rfl, hb4⟩) | (go_at_call 18; have hS0 := ‹World.cell? _ ⟨b0, off + k, none⟩ = some (.string x) ∧ Below wr.heap.size wr _›; refine (GG2.out _ hS0.2).mono ?_; rintro e w' ⟨rfl, rfl⟩))
        all_goals (
          have hSE := ‹World.cell? _ ⟨b0, off + k, none⟩ = some (.string x) ∧ Below wr.heap.size wr _›
          have HBE := Lib.hid (HB.out.trans (hSE.2.mono HB.out.size))
          clear hSE
          go_wp2
          go_roundw
          case rel => exact ⟨k + 1, by omega, by go_num, HBE⟩
          case measure => simp [intOf]; omega)
    · have d : decide (k < nn) = false := by simpa using hlt
      go_wp2_with fail
      refine (K1.out _ KWR.out).mono ?_
      rintro e w2 ⟨X, cx, rfl, ox, k2⟩
      have KW2 := Lib.hid (KWR.out.trans (k2.mono KWR.out.size))
      have OX2 := Lib.hid ox
      clear k2 ox
      go_wp2_with fail
      refine (D1.out _ KW2.out).mono ?_
      rintro e w3 ⟨Y, cy, rfl, oy, k3⟩
      have KW3 := Lib.hid (KW2.out.trans (k3.mono KW2.out.size))
      have OX3 := Lib.hid (OX2.out.below k3)
      have OY3 := Lib.hid oy
      clear k3 oy
      go_wp2_with fail
      refine (C0.out _ KW3.out).mono ?_
      rintro e w4 ⟨rfl, k4⟩
      have KW4 := Lib.hid (KW3.out.trans (k4.mono KW3.out.size))
      have OX4 := Lib.hid (OX3.out.below k4)
      have OY4 := Lib.hid (OY3.out.below k4)
      clear k4
      go_wp2_with fail
      refine (C1.out _ KW4.out).mono ?_
      rintro e w5 ⟨rfl, k5⟩
      have KW5 := Lib.hid (KW4.out.trans (k5.mono KW4.out.size))
      have OX5 := Lib.hid (OX4.out.below k5)
      have OY5 := Lib.hid (OY4.out.below k5)
      clear k5
      go_wp2_with fail
      refine (P1.out _ KW5.out).mono ?_
      rintro e w6 ⟨U, cU, rfl, oU, k6⟩
      have KW6 := Lib.hid (KW5.out.trans (k6.mono KW5.out.size))
      have OX6 := Lib.hid (OX5.out.below k6)
      have OY6 := Lib.hid (OY5.out.below k6)
      have OU6 := Lib.hid oU
      clear k6 oU
      go_wp2_with fail
      refine (C2.out _ X cx U cU OX6.out OU6.out).mono ?_
      rintro e w7 ⟨rfl, k7⟩
      have KW7 := Lib.hid (KW6.out.trans (k7.mono KW6.out.size))
      have OX7 := Lib.hid (OX6.out.below k7)
      have OY7 := Lib.hid (OY6.out.below k7)
      clear k7
      go_wp2_with fail
      refine (P2.out _ KW7.out).mono ?_
      rintro e w8 ⟨V, cV, rfl, oV, k8⟩
      have KW8 := Lib.hid (KW7.out.trans (k8.mono KW7.out.size))
      have OX8 := Lib.hid (OX7.out.below k8)
      have OY8 := Lib.hid (OY7.out.below k8)
      have OV8 := Lib.hid oV
      clear k8 oV
      go_wp2_with fail
      refine (C3.out _ Y cy V cV OY8.out OV8.out).mono ?_
      rintro e w9 ⟨rfl, k9⟩
      have KW9 := Lib.hid (KW8.out.trans (k9.mono KW8.out.size))
      have OX9 := Lib.hid (OX8.out.below k9)
      have OY9 := Lib.hid (OY8.out.below k9)
      clear k9
      go_wp2_with fail
      refine (R1.out _ KW9.out).mono ?_
      rintro e w10 ⟨rfl, k10⟩
      have KW10 := Lib.hid (KW9.out.trans (k10.mono KW9.out.size))
      have OX10 := Lib.hid (OX9.out.below k10)
      have OY10 := Lib.hid (OY9.out.below k10)
      clear k10
      go_wp2
      go_ret
      exact ⟨rfl, KW10.out⟩

set_option maxRecDepth 100000 in
set_option maxHeartbeats 8000000 in
theorem parts_yes (A B N : Option Addr) (ca cb cn na nb nn nk nd : Nat) (ns : List ByteArray) (ok od : List Lab) (g : ByteArray → ByteArray) (z : Int) (w : World) (h3 : 3 ≤ w.heap.size) (hnn : nn ≤ 40) (hna : na ≤ 40) (hsum : nk + nd = na)
    (HN : Hid (ns.length = nn)) (HS : Hid (Sts w N ns)) 
    (HW : Hid (Calls Tryd.prog 7 #[] w fun e w' => e = .returned (.bool true) ∧ Below w.heap.size w w'))
    (S1 : Hid (∀ W, Below w.heap.size w W → Calls Tryd.prog 8 #[.slice A na ca] W fun e w' => e = .returned (.bool true) ∧ W = w'))
    (S2 : Hid (∀ W, Below w.heap.size w W → Calls Tryd.prog 8 #[.slice B nb cb] W fun e w' => e = .returned (.bool true) ∧ W = w'))
    (G1 : Hid (∀ W s, Below w.heap.size w W → Calls Tryd.prog 17 #[.slice A na ca, .string s] W fun e w' => e = .returned (.string (g s)) ∧ Below W.heap.size W w'))
    (G2 : Hid (∀ W s, Below w.heap.size w W → Calls Tryd.prog 18 #[.slice A na ca, .string s] W fun e w' => e = .returned (.string (g s)) ∧ W = w'))
    (K1 : Hid (∀ W, Below w.heap.size w W → Calls Tryd.prog 19 #[.slice A na ca, .slice N nn cn] W fun e w' => ∃ A' c, e = .returned (.slice A' nk c) ∧ Lbs w' A' ok ∧ Below W.heap.size W w'))
    (D1 : Hid (∀ W, Below w.heap.size w W → Calls Tryd.prog 20 #[.slice A na ca, .slice N nn cn] W fun e w' => ∃ A' c, e = .returned (.slice A' nd c) ∧ Lbs w' A' od ∧ Below W.heap.size W w'))
    (C0 : Hid (∀ W, Below w.heap.size w W → Calls Tryd.prog 21 #[.slice A na ca, .slice B nb cb] W fun e w' => e = .returned (.int .i64 z) ∧ Below W.heap.size W w'))
    (C1 : Hid (∀ W, Below w.heap.size w W → Calls Tryd.prog 15 #[.slice A na ca, .slice B nb cb] W fun e w' => e = .returned (.int .i64 z) ∧ Below W.heap.size W w'))
    (P1 : Hid (∀ W, Below w.heap.size w W → Calls Tryd.prog 22 #[.slice A na ca, .slice N nn cn, .bool true] W fun e w' => ∃ A' c, e = .returned (.slice A' nk c) ∧ Lbs w' A' ok ∧ Below W.heap.size W w'))
    (P2 : Hid (∀ W, Below w.heap.size w W → Calls Tryd.prog 22 #[.slice A na ca, .slice N nn cn, .bool false] W fun e w' => ∃ A' c, e = .returned (.slice A' nd c) ∧ Lbs w' A' od ∧ Below W.heap.size W w'))
    (C2 : Hid (∀ W X cx Y cy, Lbs W X ok → Lbs W Y ok → Calls Tryd.prog 15 #[.slice X nk cx, .slice Y nk cy] W fun e w' => e = .returned (.int .i64 0) ∧ Below W.heap.size W w'))
    (C3 : Hid (∀ W X cx Y cy, Lbs W X od → Lbs W Y od → Calls Tryd.prog 15 #[.slice X nd cx, .slice Y nd cy] W fun e w' => e = .returned (.int .i64 0) ∧ Below W.heap.size W w'))
    (R1 : Hid (∀ W, Below w.heap.size w W → Calls Tryd.prog 12 #[.slice A na ca] W fun e w' => e = .returned (.bool true) ∧ Below W.heap.size W w'))
    (R2 : Hid (∀ W X cx, Below w.heap.size w W → Lbs W X ok → Calls Tryd.prog 11 #[.slice X nk cx] W fun e w' => e = .returned (.bool true) ∧ Below W.heap.size W w'))
    (R3 : Hid (∀ W X cx, Below w.heap.size w W → Lbs W X od → Calls Tryd.prog 11 #[.slice X nd cx] W fun e w' => e = .returned (.bool true) ∧ Below W.heap.size W w')) :
    Calls Tryd.prog 4 #[.slice A na ca, .slice B nb cb, .slice N nn cn] w fun e w' => e = .returned (.bool true) ∧ Below w.heap.size w w' := by
  have dnn : decide (40 < nn) = false := by simp; omega
  have ez : (z != z) = false := by simp
  have es : ((nk : Int) + (nd : Int) != (na : Int)) = false := by simp; omega
  have esn : (nk + nd != na) = false := by simp; omega
  go_enter Tryd.func4, Tryd.ntmps4
  go_wp2_with fail
  refine (HW.out).mono ?_
  rintro e w1 ⟨rfl, k1⟩
  have KW1 := Lib.hid k1
  have NS1 := Lib.hid (HS.out.below k1)
  clear k1
  go_wp2_with fail
  refine (S1.out _ KW1.out).mono ?_
  rintro e w' ⟨rfl, rfl⟩
  go_wp2_with fail
  refine (S2.out _ KW1.out).mono ?_
  rintro e w' ⟨rfl, rfl⟩
  go_wp2
  go_loopw [7] (fun i wr => ∃ k : Nat, k ≤ nn ∧ i = .int .i64 k ∧ Hid (Below w1.heap.size w1 wr)) (fun i _ => nn - (intOf i).toNat)
  case atStart => exact ⟨0, Nat.zero_le _, rfl, Below.refl _ _⟩
  case round =>
    obtain ⟨k, hk, rfl, HB⟩ := hrel
    have hsz := HB.out.size
    have KWR := Lib.hid (KW1.out.trans (HB.out.mono KW1.out.size))
    by_cases hlt : k < nn
    · have hkl : k < ns.length := by rw [HN.out]; exact hlt
      have d : decide (k < nn) = true := by simpa using hlt
      obtain ⟨b0, off, rfl, hb0, hc⟩ := NS1.out (by omega)
      have hx : wr.cell? ⟨b0, off + k, none⟩ = some (.string (ns.getD k ByteArray.empty)) := (HB.out.cell (p := ⟨b0, off + k, none⟩) hb0).trans (hc k hkl)
      have hbr : b0 < wr.heap.size := by omega
      clear hc
      generalize ns.getD k ByteArray.empty = x at *
      by_cases h4 : 400 < x.size
      · have h4' : (400 : Int) < (x.size : Int) := by omega
        go_wp2
        go_ret
        exact ⟨rfl, KWR.out⟩
      · have d4 : decide (400 < x.size) = false := by simpa using h4
        have GG1 := Lib.hid (fun W (hW : Below wr.heap.size wr W) => G1.out W x (KWR.out.trans (hW.mono KWR.out.size)))
        have GG2 := Lib.hid (fun W (hW : Below wr.heap.size wr W) => G2.out W x (KWR.out.trans (hW.mono KWR.out.size)))
        generalize g x = y at *
        have hyy : (y.toList != y.toList) = false := by simp
        go_wp2_with fail
        go_region_held3 (fun W => W.cell? ⟨b0, off + k, none⟩ = some (.string x) ∧ Below wr.heap.size wr W) (first | (exact ⟨hx, (Below.refl _ _).drew⟩) | (exact ⟨(hb4.cell (p := ⟨b0, off + k, none⟩) (Nat.lt_of_lt_of_le hbr hS0.2.size)).trans hS0.1, hS0.2.trans (hb4.mono hS0.2.size)⟩) | assumption | go_keep) (first | (go_at_call 17; have hS0 := ‹World.cell? _ ⟨b0, off + k, none⟩ = some (.string x) ∧ Below wr.heap.size wr _›; refine (GG1.out _ hS0.2).mono ?_; rintro e w' ⟨rfl, hb4⟩) | (go_at_call 18; have hS0 := ‹World.cell? _ ⟨b0, off + k, none⟩ = some (.string x) ∧ Below wr.heap.size wr _›; refine (GG2.out _ hS0.2).mono ?_; rintro e w' ⟨rfl, rfl⟩))
        all_goals (
          have hSE := ‹World.cell? _ ⟨b0, off + k, none⟩ = some (.string x) ∧ Below wr.heap.size wr _›
          have HBE := Lib.hid (HB.out.trans (hSE.2.mono HB.out.size))
          clear hSE
          go_wp2
          go_roundw
          case rel => exact ⟨k + 1, by omega, by go_num, HBE⟩
          case measure => simp [intOf]; omega)
    · have d : decide (k < nn) = false := by simpa using hlt
      go_wp2_with fail
      refine (K1.out _ KWR.out).mono ?_
      rintro e w2 ⟨X, cx, rfl, ox, k2⟩
      have KW2 := Lib.hid (KWR.out.trans (k2.mono KWR.out.size))
      have OX2 := Lib.hid ox
      clear k2 ox
      go_wp2_with fail
      refine (D1.out _ KW2.out).mono ?_
      rintro e w3 ⟨Y, cy, rfl, oy, k3⟩
      have KW3 := Lib.hid (KW2.out.trans (k3.mono KW2.out.size))
      have OX3 := Lib.hid (OX2.out.below k3)
      have OY3 := Lib.hid oy
      clear k3 oy
      go_wp2_with fail
      refine (C0.out _ KW3.out).mono ?_
      rintro e w4 ⟨rfl, k4⟩
      have KW4 := Lib.hid (KW3.out.trans (k4.mono KW3.out.size))
      have OX4 := Lib.hid (OX3.out.below k4)
      have OY4 := Lib.hid (OY3.out.below k4)
      clear k4
      go_wp2_with fail
      refine (C1.out _ KW4.out).mono ?_
      rintro e w5 ⟨rfl, k5⟩
      have KW5 := Lib.hid (KW4.out.trans (k5.mono KW4.out.size))
      have OX5 := Lib.hid (OX4.out.below k5)
      have OY5 := Lib.hid (OY4.out.below k5)
      clear k5
      go_wp2_with fail
      refine (P1.out _ KW5.out).mono ?_
      rintro e w6 ⟨U, cU, rfl, oU, k6⟩
      have KW6 := Lib.hid (KW5.out.trans (k6.mono KW5.out.size))
      have OX6 := Lib.hid (OX5.out.below k6)
      have OY6 := Lib.hid (OY5.out.below k6)
      have OU6 := Lib.hid oU
      clear k6 oU
      go_wp2_with fail
      refine (C2.out _ X cx U cU OX6.out OU6.out).mono ?_
      rintro e w7 ⟨rfl, k7⟩
      have KW7 := Lib.hid (KW6.out.trans (k7.mono KW6.out.size))
      have OX7 := Lib.hid (OX6.out.below k7)
      have OY7 := Lib.hid (OY6.out.below k7)
      clear k7
      go_wp2_with fail
      refine (P2.out _ KW7.out).mono ?_
      rintro e w8 ⟨V, cV, rfl, oV, k8⟩
      have KW8 := Lib.hid (KW7.out.trans (k8.mono KW7.out.size))
      have OX8 := Lib.hid (OX7.out.below k8)
      have OY8 := Lib.hid (OY7.out.below k8)
      have OV8 := Lib.hid oV
      clear k8 oV
      go_wp2_with fail
      refine (C3.out _ Y cy V cV OY8.out OV8.out).mono ?_
      rintro e w9 ⟨rfl, k9⟩
      have KW9 := Lib.hid (KW8.out.trans (k9.mono KW8.out.size))
      have OX9 := Lib.hid (OX8.out.below k9)
      have OY9 := Lib.hid (OY8.out.below k9)
      clear k9
      go_wp2_with fail
      refine (R1.out _ KW9.out).mono ?_
      rintro e w10 ⟨rfl, k10⟩
      have KW10 := Lib.hid (KW9.out.trans (k10.mono KW9.out.size))
      have OX10 := Lib.hid (OX9.out.below k10)
      have OY10 := Lib.hid (OY9.out.below k10)
      clear k10
      go_wp2_with fail
      refine (R2.out _ X cx KW10.out OX10.out).mono ?_
      rintro e w11 ⟨rfl, k11⟩
      have KW11 := Lib.hid (KW10.out.trans (k11.mono KW10.out.size))
      have OX11 := Lib.hid (OX10.out.below k11)
      have OY11 := Lib.hid (OY10.out.below k11)
      clear k11
      go_wp2_with fail
      refine (R3.out _ Y cy KW11.out OY11.out).mono ?_
      rintro e w12 ⟨rfl, k12⟩
      have KW12 := Lib.hid (KW11.out.trans (k12.mono KW11.out.size))
      clear k12
      go_wp2
      go_ret
      exact ⟨rfl, KW12.out⟩

theorem refcmp_below (A B : Option Addr) (ca cb : Nat) (a b : List Lab) (w : World) (hA : Lbs w A a) (hB : Lbs w B b) (ha : a.length ≤ 65536) (hb : b.length ≤ 65536) :
    Calls Tryd.prog 15 #[.slice A a.length ca, .slice B b.length cb] w fun e w' => e = .returned (.int .i64 (cmpL a b)) ∧ Below w.heap.size w w' :=
  (refcmp_any A B ca cb a b w hA hB ha hb).mono fun e w' ⟨h1, q, h2⟩ => ⟨h1, by subst h2; exact bel_drawn (Below.refl _ _) q⟩
theorem refcmp_zero (A B : Option Addr) (ca cb : Nat) (a : List Lab) (w : World) (hA : Lbs w A a) (hB : Lbs w B a) (ha : a.length ≤ 65536) :
    Calls Tryd.prog 15 #[.slice A a.length ca, .slice B a.length cb] w fun e w' => e = .returned (.int .i64 0) ∧ Below w.heap.size w w' :=
  (refcmp_same A B ca cb a w hA hB ha).mono fun e w' ⟨h1, q, h2⟩ => ⟨h1, by subst h2; exact bel_drawn (Below.refl _ _) q⟩

set_option maxRecDepth 100000 in
set_option maxHeartbeats 1000000 in
theorem parts_walk (A B N : Option Addr) (ca cb cn : Nat) (a b : List Lab) (ns : List ByteArray) (w : World) (hA : Lbs w A a) (hB : Lbs w B b) (hN : Sts w N ns) (ha : a.length ≤ 9223372036854775807) (hb : b.length ≤ 9223372036854775807) (hn : ns.length ≤ 9223372036854775807) (hL : Laid w) :
    Calls Tryd.prog 4 #[.slice A a.length ca, .slice B b.length cb, .slice N ns.length cn] w fun e w' => e = .returned (.bool true) ∧ Below w.heap.size w w' := by
  have HW := Lib.hid (awake_any w hL)
  have h3 : 3 ≤ w.heap.size := hL.1.size
  cases h1 : shortB a with
  | false =>
    have S1 := Lib.hid (fun W (hW : Below w.heap.size w W) => short_is A ca a false h1 W (hA.below hW) ha)
    clear hA hB hN hL h1
    generalize a.length = na at *
    generalize b.length = nb at *
    generalize ns.length = nn at *
    go_enter Tryd.func4, Tryd.ntmps4
    go_wp2_with fail
    refine (HW.out).mono ?_
    rintro e w1 ⟨rfl, k1⟩
    go_wp2_with fail
    refine (S1.out _ k1).mono ?_
    rintro e w' ⟨rfl, rfl⟩
    go_wp2
    go_ret
    exact ⟨rfl, k1⟩
  | true =>
    have S1 := Lib.hid (fun W (hW : Below w.heap.size w W) => short_is A ca a true h1 W (hA.below hW) ha)
    cases h2 : shortB b with
    | false =>
      have S2 := Lib.hid (fun W (hW : Below w.heap.size w W) => short_is B cb b false h2 W (hB.below hW) hb)
      clear hA hB hN hL h1 h2
      generalize a.length = na at *
      generalize b.length = nb at *
      generalize ns.length = nn at *
      go_enter Tryd.func4, Tryd.ntmps4
      go_wp2_with fail
      refine (HW.out).mono ?_
      rintro e w1 ⟨rfl, k1⟩
      go_wp2_with fail
      refine (S1.out _ k1).mono ?_
      rintro e w' ⟨rfl, rfl⟩
      go_wp2_with fail
      refine (S2.out _ k1).mono ?_
      rintro e w' ⟨rfl, rfl⟩
      go_wp2
      go_ret
      exact ⟨rfl, k1⟩
    | true =>
      have S2 := Lib.hid (fun W (hW : Below w.heap.size w W) => short_is B cb b true h2 W (hB.below hW) hb)
      by_cases h4 : 40 < ns.length
      · clear hA hB hN hL h1 h2
        generalize a.length = na at *
        generalize b.length = nb at *
        generalize ns.length = nn at *
        have h4' : (40 : Int) < (nn : Int) := by omega
        go_enter Tryd.func4, Tryd.ntmps4
        go_wp2_with fail
        refine (HW.out).mono ?_
        rintro e w1 ⟨rfl, k1⟩
        go_wp2_with fail
        refine (S1.out _ k1).mono ?_
        rintro e w' ⟨rfl, rfl⟩
        go_wp2_with fail
        refine (S2.out _ k1).mono ?_
        rintro e w' ⟨rfl, rfl⟩
        go_wp2
        go_ret
        exact ⟨rfl, k1⟩
      · have la := short_len h1
        have lb := short_len h2
        have hnm := short_names h1
        have lki := List.length_filter_le (isIn ns) a
        have lko := List.length_filter_le (isOut ns) a
        have G1 := Lib.hid (fun W s (hW : Below w.heap.size w W) => get_any A ca a s W (hA.below hW) (by omega))
        have G2 := Lib.hid (fun W s (hW : Below w.heap.size w W) => refget_any A ca a s W (hA.below hW) (by omega))
        have K1 := Lib.hid (fun W (hW : Below w.heap.size w W) => (keep_any A N ca cn a ns W (hA.below hW) (hN.below hW) (by omega) (by omega)).mono fun e w' ⟨A', c, q1, q2, q3⟩ => (⟨A', c, q1, q2.1, q3⟩ : ∃ A' c, e = Ending.returned (.slice A' (a.filter (isIn ns)).length c) ∧ Lbs w' A' (a.filter (isIn ns)) ∧ Below W.heap.size W w'))
        have D1 := Lib.hid (fun W (hW : Below w.heap.size w W) => (drop_any A N ca cn a ns W (hA.below hW) (hN.below hW) (by omega) (by omega)).mono fun e w' ⟨A', c, q1, q2, q3⟩ => (⟨A', c, q1, q2.1, q3⟩ : ∃ A' c, e = Ending.returned (.slice A' (a.filter (isOut ns)).length c) ∧ Lbs w' A' (a.filter (isOut ns)) ∧ Below W.heap.size W w'))
        have P1 := Lib.hid (fun W (hW : Below w.heap.size w W) => (part_any A N ca cn a ns true W (hA.below hW) (hN.below hW) (by omega) (by omega)).mono fun e w' ⟨A', c, q1, q2, q3⟩ => (by rw [isAs_true] at q1 q2; exact ⟨A', c, q1, q2.1, q3⟩ : ∃ A' c, e = Ending.returned (.slice A' (a.filter (isIn ns)).length c) ∧ Lbs w' A' (a.filter (isIn ns)) ∧ Below W.heap.size W w'))
        have P2 := Lib.hid (fun W (hW : Below w.heap.size w W) => (part_any A N ca cn a ns false W (hA.below hW) (hN.below hW) (by omega) (by omega)).mono fun e w' ⟨A', c, q1, q2, q3⟩ => (by rw [isAs_false] at q1 q2; exact ⟨A', c, q1, q2.1, q3⟩ : ∃ A' c, e = Ending.returned (.slice A' (a.filter (isOut ns)).length c) ∧ Lbs w' A' (a.filter (isOut ns)) ∧ Below W.heap.size W w'))
        have C0 := Lib.hid (fun W (hW : Below w.heap.size w W) => cmp_any A B ca cb a b W (hA.below hW) (hB.below hW) (by omega) (by omega))
        have C1 := Lib.hid (fun W (hW : Below w.heap.size w W) => refcmp_below A B ca cb a b W (hA.below hW) (hB.below hW) (by omega) (by omega))
        have C2 := Lib.hid (fun W X cx Y cy (hX : Lbs W X (a.filter (isIn ns))) (hY : Lbs W Y (a.filter (isIn ns))) => refcmp_zero X Y cx cy _ W hX hY (by omega))
        have C3 := Lib.hid (fun W X cx Y cy (hX : Lbs W X (a.filter (isOut ns))) (hY : Lbs W Y (a.filter (isOut ns))) => refcmp_zero X Y cx cy _ W hX hY (by omega))
        have R1 := Lib.hid (fun W (hW : Below w.heap.size w W) => refright_any A ca a W (hA.below hW) hnm (by omega))
        cases hra : rightB a with
        | false =>
          rw [hra] at R1
          exact parts_no A B N ca cb cn a.length b.length ns.length _ _ ns _ _ (getF a) (cmpL a b) w h3 (by omega) la (in_out_length ns a) (Lib.hid rfl) (Lib.hid hN) HW S1 S2 G1 G2 K1 D1 C0 C1 P1 P2 C2 C3 R1
        | true =>
          rw [hra] at R1
          refine parts_yes A B N ca cb cn a.length b.length ns.length _ _ ns _ _ (getF a) (cmpL a b) w h3 (by omega) la (in_out_length ns a) (Lib.hid rfl) (Lib.hid hN) HW S1 S2 G1 G2 K1 D1 C0 C1 P1 P2 C2 C3 R1 (Lib.hid fun W X cx hW hX => ?_) (Lib.hid fun W X cx hW hX => ?_)
          · have := right_any X cx _ W hX (hL.1.below h3 hW) (by omega)
            rw [right_filter _ hra] at this
            exact this
          · have := right_any X cx _ W hX (hL.1.below h3 hW) (by omega)
            rw [right_filter _ hra] at this
            exact this
end Go.Proofs.YthgcjolpcccolaaDoor

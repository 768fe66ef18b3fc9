import Derived.Test.YthgcjolpcccolaaDoorH3
import Derived.Deep.RegionHeld3
namespace Go.Proofs.YthgcjolpcccolaaDoor
open Go.RowKit Lb
set_option linter.unusedVariables false

theorem str_info : (Tryd.prog.info? 9).map (fun i => (i.zero, i.size, i.bytes)) = some (some (.string ⟨#[]⟩), 1, 16) := by kernel_rfl
def strs (ns : List ByteArray) : List Value := ns.map Value.string
theorem strs_append (a b : List ByteArray) : strs (a ++ b) = strs a ++ strs b := List.map_append
theorem own_sts {w : World} {base n : Nat} {v : Value} {ns : List ByteArray} (hn : ns.length = n) (h : w.ownsRow base 9 1 v n (strs ns)) : ∃ A c, v = .slice A n c ∧ Sts w A ns := by
  subst hn
  rcases h.2 with ⟨hv, hn⟩ | ⟨g, cap, cur, hv, _⟩
  · exact ⟨none, 0, by rw [hv, hn], fun h0 => by omega⟩
  · subst hv
    refine ⟨_, cap, rfl, fun h0 => ⟨g, 0, rfl, (h.lt g rfl).2, fun i hi => ?_⟩⟩
    have c := h.cells (g := g) rfl
    have e1 : (⟨g, 0, none⟩ : Addr).add i = ⟨g, 0 + i, none⟩ := by unfold Addr.add; split <;> simp_all
    rw [← e1]
    exact c _ _ (by simp [strs, hi])
theorem names_next (o : List Lab) (k : Nat) (h : k < o.length) : (o.take (k + 1)).map (·.1) = (o.take k).map (·.1) ++ [(o.getD k e0).1] := by
  have e : o.getD k e0 = o[k] := by simp [h]
  rw [List.take_succ_eq_append_getElem h, List.map_append, e]
  rfl

set_option maxRecDepth 100000 in
set_option maxHeartbeats 4000000 in
theorem again_tail (A : Option Addr) (ca n : Nat) (o : List Lab) (no : Nat) (w : World) (h3 : 3 ≤ w.heap.size)
    (HNO : Hid (o.length = no)) (hno : no ≤ 16)
    (HGET : Hid (∀ i, i < o.length → getF o (o.getD i e0).1 = (o.getD i e0).2)) (HFULL : Hid (∀ i, i < o.length → (o.getD i e0).2.toList.isEmpty = false))
    (HW : Hid (Calls Tryd.prog 7 #[] w fun e w' => e = .returned (.bool true) ∧ Below w.heap.size w w'))
    (S1 : Hid (∀ W, Below w.heap.size w W → Calls Tryd.prog 8 #[.slice A n ca] W fun e w' => e = .returned (.bool true) ∧ W = w'))
    (M1 : Hid (∀ W, Below w.heap.size w W → Calls Tryd.prog 9 #[.slice A n ca] W fun e w' => ∃ A' c, e = .returned (.tuple #[.slice A' no c, .nilIface]) ∧ OwnL w' A' c o ∧ Below W.heap.size W w'))
    (M2 : Hid (∀ W B cb, Below w.heap.size w W → Lbs W B o → Calls Tryd.prog 9 #[.slice B no cb] W fun e w' => ∃ A' c, e = .returned (.tuple #[.slice A' no c, .nilIface]) ∧ OwnL w' A' c o ∧ Below W.heap.size W w'))
    (G1 : Hid (∀ W B cb s, Lbs W B o → Calls Tryd.prog 17 #[.slice B no cb, .string s] W fun e w' => e = .returned (.string (getF o s)) ∧ Below W.heap.size W w'))
    (C1 : Hid (∀ W B cb C cc, Lbs W B o → Lbs W C o → Calls Tryd.prog 21 #[.slice B no cb, .slice C no cc] W fun e w' => e = .returned (.int .i64 0) ∧ Below W.heap.size W w'))
    (K1 : Hid (∀ W B cb N cn, Lbs W B o → Sts W N (o.map (·.1)) → Calls Tryd.prog 19 #[.slice B no cb, .slice N no cn] W fun e w' => ∃ A' c, e = .returned (.slice A' no c) ∧ OwnL w' A' c o ∧ Below W.heap.size W w'))
    (K2 : Hid (∀ W B cb, Lbs W B o → Calls Tryd.prog 19 #[.slice B no cb, .slice none 0 0] W fun e w' => ∃ A' c, e = .returned (.slice A' 0 c) ∧ Below W.heap.size W w'))
    (D1 : Hid (∀ W B cb N cn, Lbs W B o → Sts W N (o.map (·.1)) → Calls Tryd.prog 20 #[.slice B no cb, .slice N no cn] W fun e w' => ∃ A' c, e = .returned (.slice A' 0 c) ∧ Below W.heap.size W w')) :
    Calls Tryd.prog 6 #[.slice A n ca] w fun e w' => e = .returned (.bool true) ∧ Below w.heap.size w w' := by
  obtain ⟨i1, hi1, hy0, hy1, hy2⟩ := info_parts str_info
  go_enter Tryd.func6, Tryd.ntmps6
  go_wp2_with fail
  refine (HW.out).mono ?_
  rintro e w1 ⟨rfl, k1⟩
  have KW1 := Lib.hid k1
  clear k1
  go_wp2_with fail
  refine (S1.out _ KW1.out).mono ?_
  rintro e w' ⟨rfl, rfl⟩
  go_wp2_with fail
  refine (M1.out _ KW1.out).mono ?_
  rintro e w2 ⟨B, cb, rfl, ob, k2⟩
  have KW2 := Lib.hid (KW1.out.trans (k2.mono KW1.out.size))
  have OB := Lib.hid ob.1
  clear k2 ob
  go_wp2_with fail
  go_loopw [5, 6] (fun v i wr => ∃ k : Nat, k ≤ no ∧ i = .int .i64 k ∧ Hid (wr.ownsRow w2.heap.size 9 1 v k (strs ((o.take k).map (·.1)))) ∧ Hid (Below w2.heap.size w2 wr)) (fun _ i _ => no - (intOf i).toNat)
  case atStart => exact ⟨0, Nat.zero_le _, rfl, World.ownsRow_nil _ _ _ _, Below.refl _ _⟩
  case round =>
    obtain ⟨k, hk, rfl, HO, HB⟩ := hrel
    have hsz := HB.out.size
    by_cases hlt : k < no
    · have hkl : k < o.length := by rw [HNO.out]; exact hlt
      obtain ⟨b0, off, rfl, hb0, hc⟩ := OB.out (by omega)
      have hx : wr.cell? ⟨b0, off + k * 2, none⟩ = some (.string (o.getD k e0).1) := (HB.out.cell (p := ⟨b0, off + k * 2, none⟩) hb0).trans (hc k hkl).1
      have hy : wr.cell? ⟨b0, off + k * 2 + 1, none⟩ = some (.string (o.getD k e0).2) := (HB.out.cell (p := ⟨b0, off + k * 2 + 1, none⟩) hb0).trans (hc k hkl).2
      have hbr : b0 < wr.heap.size := by omega
      have HNX := Lib.hid (names_next o k hkl)
      have hget := HGET.out k hkl
      have hfull := HFULL.out k hkl
      have G2 := Lib.hid (fun W (hW : Below w2.heap.size w2 W) => by have := G1.out W (some ⟨b0, off, none⟩) cb (o.getD k e0).1 (OB.out.below hW); rw [hget] at this; exact this : ∀ W, Below w2.heap.size w2 W → Calls Tryd.prog 17 #[.slice (some ⟨b0, off, none⟩) no cb, .string (o.getD k e0).1] W fun e w' => e = .returned (.string (o.getD k e0).2) ∧ Below W.heap.size W w')
      clear hc hget
      generalize (o.getD k e0).1 = x at *
      generalize (o.getD k e0).2 = y at *
      have hno1 : (k : Int) < (no : Int) := by omega
      go_wp2_with (at_builtin; refine wpList_append_own _ rfl _ _ 35 rfl w2.heap.size 9 i1 _ 1 16 Tryd.underlying35 hi1 hy0 hy1 hy2 rfl (by decide) _ _ _ rfl (HO.out.alloc _) _ 1 1 [.string x] rfl rfl ?c1 ?c2 ?c3 ?c4 ?c5 ?_)
      case c2 => rfl
      case c3 => unfold maxLen; omega
      case c4 => omega
      case c5 => omega
      intro v' w3 hown3 hgr3 _
      have HO3 := Lib.hid hown3
      have HB3 : Hid (Below w2.heap.size w2 w3) := (HB.out.alloc hsz _).grown hgr3 (by simp; omega) (fun g hg => (HO.out.lt g hg).1)
      clear hown3 hgr3
      have r1 : w3.cell? ⟨b0, off + k * 2, none⟩ = some (.string x) := by
        rw [HB3.out.cell (p := ⟨b0, off + k * 2, none⟩) hb0, ← HB.out.cell (p := ⟨b0, off + k * 2, none⟩) hb0]; exact hx
      have r2 : w3.cell? ⟨b0, off + k * 2 + 1, none⟩ = some (.string y) := by
        rw [HB3.out.cell (p := ⟨b0, off + k * 2 + 1, none⟩) hb0, ← HB.out.cell (p := ⟨b0, off + k * 2 + 1, none⟩) hb0]; exact hy
      clear hx hy
      have hyy : (y.toList != y.toList) = false := by simp
      go_wp2_with fail
      have hbr3 : b0 < w3.heap.size := by have := HB3.out.size; omega
      go_region_held3 (fun W => W.cell? ⟨b0, off + k * 2, none⟩ = some (.string x) ∧ W.cell? ⟨b0, off + k * 2 + 1, none⟩ = some (.string y)) (first | go_keep | (exact ⟨(hb4.cell (p := ⟨b0, off + k * 2, none⟩) hbr3).trans r1, (hb4.cell (p := ⟨b0, off + k * 2 + 1, none⟩) hbr3).trans r2⟩)) (first | (go_at_call 17; refine (G2.out _ HB3.out.drew).mono ?_; rintro e w' ⟨rfl, hb4⟩))
      have hb4' : Below w3.heap.size w3 w' := ⟨hb4.os, hb4.tape, hb4.output, hb4.size, hb4.block⟩
      have HO4 := Lib.hid (own_below HO3.out hb4')
      have HB4 := Lib.hid (HB3.out.trans (hb4'.mono HB3.out.size))
      clear hb4 hb4'
      go_wp2
      go_roundw
      case rel => exact ⟨k + 1, by omega, by go_num, by rw [HNX.out, strs_append, List.map_take]; exact HO4, HB4⟩
      case measure => simp [intOf]; omega
    · obtain rfl : k = no := by omega
      obtain ⟨N, cn, hv, ns⟩ := own_sts (ns := o.map (·.1)) (n := k) (by rw [List.length_map]; exact HNO.out) (by have := HO.out; rw [List.take_of_length_le (by rw [HNO.out]; omega)] at this; exact this)
      subst hv
      have NS := Lib.hid ns
      have KWR := Lib.hid (KW2.out.trans (HB.out.mono KW2.out.size))
      have OBR := Lib.hid (OB.out.below HB.out)
      clear ns HO hlt
      go_wp2_with fail
      refine (M2.out _ _ cb KWR.out OBR.out).mono ?_
      rintro e w3 ⟨C, cc, rfl, oc, k3⟩
      have KW3 := Lib.hid (KWR.out.trans (k3.mono KWR.out.size))
      have OC := Lib.hid oc.1
      have OB3 := Lib.hid (OBR.out.below k3)
      have NS3 := Lib.hid (NS.out.below k3)
      clear k3 oc
      go_wp2_with fail
      refine (C1.out _ C cc B cb OC.out OB3.out).mono ?_
      rintro e w4 ⟨rfl, k4⟩
      have KW4 := Lib.hid (KW3.out.trans (k4.mono KW3.out.size))
      have OB4 := Lib.hid (OB3.out.below k4)
      have NS4 := Lib.hid (NS3.out.below k4)
      clear k4
      go_wp2_with fail
      refine (K1.out _ B cb N cn OB4.out NS4.out).mono ?_
      rintro e w5 ⟨E, ce, rfl, oe, k5⟩
      have KW5 := Lib.hid (KW4.out.trans (k5.mono KW4.out.size))
      have OB5 := Lib.hid (OB4.out.below k5)
      have NS5 := Lib.hid (NS4.out.below k5)
      have OE := Lib.hid oe.1
      clear k5 oe
      go_wp2_with fail
      refine (C1.out _ E ce B cb OE.out OB5.out).mono ?_
      rintro e w6 ⟨rfl, k6⟩
      have KW6 := Lib.hid (KW5.out.trans (k6.mono KW5.out.size))
      have OB6 := Lib.hid (OB5.out.below k6)
      have NS6 := Lib.hid (NS5.out.below k6)
      clear k6
      go_wp2_with fail
      refine (K2.out _ B cb OB6.out).mono ?_
      rintro e w7 ⟨F, cf, rfl, k7⟩
      have KW7 := Lib.hid (KW6.out.trans (k7.mono KW6.out.size))
      have OB7 := Lib.hid (OB6.out.below k7)
      have NS7 := Lib.hid (NS6.out.below k7)
      clear k7
      go_wp2_with fail
      refine (D1.out _ B cb N cn OB7.out NS7.out).mono ?_
      rintro e w8 ⟨G, cg, rfl, k8⟩
      have KW8 := Lib.hid (KW7.out.trans (k8.mono KW7.out.size))
      clear k8
      go_wp2
      go_ret
      exact ⟨rfl, KW8.out⟩
end Go.Proofs.YthgcjolpcccolaaDoor

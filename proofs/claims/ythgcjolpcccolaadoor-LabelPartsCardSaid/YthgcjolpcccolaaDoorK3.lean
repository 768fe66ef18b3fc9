import Derived.Test.YthgcjolpcccolaaDoorK2
namespace Go.Proofs.YthgcjolpcccolaaDoor
open Go.RowKit Lb
set_option linter.unusedVariables false

theorem short_is (A : Option Addr) (cap : Nat) (l : List Lab) (r : Bool) (h : shortB l = r) (w : World) (hL : Lbs w A l) (hl : l.length ≤ 9223372036854775807) :
    Calls Tryd.prog 8 #[.slice A l.length cap] w fun e w' => e = .returned (.bool r) ∧ w = w' := by
  subst h; exact short_any A cap l w hL hl
theorem short_len {l : List Lab} (h : shortB l = true) : l.length ≤ 40 := by
  simp only [shortB, Bool.and_eq_true, decide_eq_true_eq] at h; exact h.2
theorem back_next (l : List Lab) (k : Nat) (h : k < l.length) : (l.drop k).reverse = (l.drop (k + 1)).reverse ++ [((l.getD k e0).1, (l.getD k e0).2)] := by
  have e : l.getD k e0 = l[k] := by simp [h]
  rw [List.drop_eq_getElem_cons h, List.reverse_cons, e]
theorem own_lbs {w : World} {base n : Nat} {v : Value} {l : List Lab} (hn : l.length = n) (h : w.ownsRow base 41 2 v n (flatL l)) : ∃ A c, v = .slice A n c ∧ OwnL w A c l := by
  subst hn
  rcases h.2 with ⟨hv, hn⟩ | ⟨g, cap, cur, hv, _⟩
  · exact ⟨none, 0, by rw [hv, hn], fun h0 => by omega, fun _ => rfl⟩
  · subst hv
    refine ⟨_, cap, rfl, fun h0 => ⟨g, 0, rfl, (h.lt g rfl).2, fun i hi => ?_⟩, fun h => by cases h⟩
    have c := h.cells (g := g) rfl
    have f := flatL_at l i hi
    have e1 : (⟨g, 0, none⟩ : Addr).add (i * 2) = ⟨g, 0 + i * 2, none⟩ := by unfold Addr.add; split <;> simp_all
    have e2 : (⟨g, 0, none⟩ : Addr).add (i * 2 + 1) = ⟨g, 0 + i * 2 + 1, none⟩ := by unfold Addr.add; simp
    rw [← e1, ← e2]
    exact ⟨c _ _ f.1, c _ _ f.2⟩

set_option maxRecDepth 100000 in
set_option maxHeartbeats 4000000 in
theorem order_tail (A B C : Option Addr) (ca cb cc na nb nc : Nat) (a b c : List Lab) (w : World) (x y z x' : Int)
    (HNA : Hid (a.length = na)) (ha : na ≤ 40)
    (hx : -1 ≤ x ∧ x ≤ 1) (hx' : -1 ≤ x' ∧ x' ≤ 1) (hanti : x = - x') (hge : 0 ≤ x → 0 ≤ y → 0 ≤ z) (hle : x ≤ 0 → y ≤ 0 → z ≤ 0)
    (HA : Hid (Lbs w A a)) (HL : Hid (Laid w))
    (S1 : Hid (∀ W, Below w.heap.size w W → Calls Tryd.prog 8 #[.slice A na ca] W fun e w' => e = .returned (.bool true) ∧ W = w'))
    (S2 : Hid (∀ W, Below w.heap.size w W → Calls Tryd.prog 8 #[.slice B nb cb] W fun e w' => e = .returned (.bool true) ∧ W = w'))
    (S3 : Hid (∀ W, Below w.heap.size w W → Calls Tryd.prog 8 #[.slice C nc cc] W fun e w' => e = .returned (.bool true) ∧ W = w'))
    (C1 : Hid (∀ W, Below w.heap.size w W → Calls Tryd.prog 21 #[.slice A na ca, .slice B nb cb] W fun e w' => e = .returned (.int .i64 x) ∧ Below W.heap.size W w'))
    (C2 : Hid (∀ W, Below w.heap.size w W → Calls Tryd.prog 21 #[.slice B nb cb, .slice C nc cc] W fun e w' => e = .returned (.int .i64 y) ∧ Below W.heap.size W w'))
    (C3 : Hid (∀ W, Below w.heap.size w W → Calls Tryd.prog 21 #[.slice A na ca, .slice C nc cc] W fun e w' => e = .returned (.int .i64 z) ∧ Below W.heap.size W w'))
    (C4 : Hid (∀ W, Below w.heap.size w W → Calls Tryd.prog 21 #[.slice B nb cb, .slice A na ca] W fun e w' => e = .returned (.int .i64 x') ∧ Below W.heap.size W w')) :
    Calls Tryd.prog 5 #[.slice A na ca, .slice B nb cb, .slice C nc cc] w fun e w' => e = .returned (.bool true) ∧ Below w.heap.size w w' := by
  obtain ⟨i1, hi1, hy0, hy1, hy2⟩ := info_parts lab_info
  have h3 : 3 ≤ w.heap.size := HL.out.1.size
  have HW := Lib.hid (awake_any w HL.out)
  have HANTI := Lib.hid hanti
  have HGE := Lib.hid hge
  have HLE := Lib.hid hle
  clear hanti hge hle
  go_enter Tryd.func5, Tryd.ntmps5
  go_wp2_with fail
  refine (HW.out).mono ?_
  rintro e w1 ⟨rfl, k1⟩
  have K1 := Lib.hid k1
  clear k1
  go_wp2_with fail
  refine (S1.out _ K1.out).mono ?_
  rintro e w' ⟨rfl, rfl⟩
  go_wp2_with fail
  refine (S2.out _ K1.out).mono ?_
  rintro e w' ⟨rfl, rfl⟩
  go_wp2_with fail
  refine (S3.out _ K1.out).mono ?_
  rintro e w' ⟨rfl, rfl⟩
  go_wp2_with fail
  go_loopw [7, 8] (fun v i wr => ∃ k : Nat, k ≤ na ∧ i = .int .i64 ((k : Int) - 1) ∧ Hid (wr.ownsRow w1.heap.size 41 2 v (na - k) (flatL (a.drop k).reverse)) ∧ Hid (Below w1.heap.size w1 wr)) (fun _ i _ => (intOf i + 1).toNat)
  case atStart => exact ⟨na, Nat.le_refl _, rfl, by rw [← HNA.out, List.drop_length, Nat.sub_self]; exact World.ownsRow_nil _ _ _ _, Below.refl _ _⟩
  case round =>
    obtain ⟨k, hk, hi, HO, HB⟩ := hrel
    have hsz := HB.out.size
    by_cases hlt : 0 < k
    · obtain ⟨j, rfl⟩ : ∃ j, k = j + 1 := ⟨k - 1, by omega⟩
      have hi2 : u8 = .int .i64 (j : Int) := by rw [hi]; congr 1; omega
      subst hi2
      clear hi
      have hjl : j < a.length := by rw [HNA.out]; omega
      obtain ⟨b0, off, rfl, hb0, hc⟩ := HA.out (by omega)
      have KB : Hid (Below w.heap.size w wr) := K1.out.trans (HB.out.mono K1.out.size)
      have hx1 : wr.cell? ⟨b0, off + j * 2, none⟩ = some (.string (a.getD j e0).1) := (KB.out.cell (p := ⟨b0, off + j * 2, none⟩) hb0).trans (hc j hjl).1
      have hx2 : wr.cell? ⟨b0, off + j * 2 + 1, none⟩ = some (.string (a.getD j e0).2) := (KB.out.cell (p := ⟨b0, off + j * 2 + 1, none⟩) hb0).trans (hc j hjl).2
      have HNX := Lib.hid (back_next a j hjl)
      have hjn : (j : Int) < (na : Int) := by omega
      clear hc
      generalize (a.getD j e0).1 = p at *
      generalize (a.getD j e0).2 = q at *
      go_wp2_with (at_builtin; refine wpList_append_own _ rfl _ _ 22 rfl w1.heap.size 41 i1 _ 2 32 Tryd.underlying22 hi1 hy0 hy1 hy2 rfl (by decide) _ _ _ rfl (HO.out.alloc _) _ 1 1 [.string p, .string q] rfl rfl ?c1 ?c2 ?c3 ?c4 ?c5 ?_)
      case c1 => exact pair_atL _ p q _ (by simp) _
      case c2 => intro u hu; simp at hu; rcases hu with rfl | rfl <;> rfl
      case c3 => unfold maxLen; omega
      case c4 => omega
      case c5 => simp; omega
      intro v' w3 hown3 hgr3 _
      have HO3 := Lib.hid hown3
      have HG3 := Lib.hid hgr3
      clear hown3 hgr3
      go_wp2
      go_roundw
      case rel =>
        refine ⟨j, by omega, rfl, ?_, ?_⟩
        · rw [HNX.out, flatL_append, show na - j = na - (j + 1) + 1 by omega]; exact HO3.out
        · exact (HB.out.alloc hsz _).grown HG3.out (by simp; omega) (fun g hg => (HO.out.lt g hg).1)
      case measure => simp [intOf]
    · obtain rfl : k = 0 := by omega
      have hi2 : u8 = .int .i64 (-1) := by rw [hi]; rfl
      subst hi2
      clear hi
      obtain ⟨A9, c9, hv9, o9⟩ := own_lbs (l := a.reverse) (n := na) (by rw [List.length_reverse]; exact HNA.out) (by have := HO.out; rw [List.drop_zero, Nat.sub_zero] at this; exact this)
      subst hv9
      have O9 := Lib.hid o9
      have KB : Hid (Below w.heap.size w wr) := K1.out.trans (HB.out.mono K1.out.size)
      clear o9 HO
      cases hm : makeF a with
      | none =>
        have hm2 : makeF a.reverse = none := by rw [makeF_perm (List.reverse_perm a)]; exact hm
        have MA := Lib.hid (fun W (hW : Below w.heap.size w W) => by have := make_no hm A ca W (HA.out.below hW) (HL.out.below h3 hW).1 (by rw [HNA.out]; omega); rw [HNA.out] at this; exact this : ∀ W, Below w.heap.size w W → Calls Tryd.prog 9 #[.slice A na ca] W fun e w' => e = .returned (.tuple #[.slice none 0 0, .iface 44 (.int .i64 1)]) ∧ Below W.heap.size W w')
        have MB := Lib.hid (fun W (hW : Below wr.heap.size wr W) => by have := make_no hm2 A9 c9 W (O9.out.1.below hW) (HL.out.below h3 (KB.out.trans (hW.mono KB.out.size))).1 (by rw [List.length_reverse, HNA.out]; omega); rw [List.length_reverse, HNA.out] at this; exact this : ∀ W, Below wr.heap.size wr W → Calls Tryd.prog 9 #[.slice A9 na c9] W fun e w' => e = .returned (.tuple #[.slice none 0 0, .iface 44 (.int .i64 1)]) ∧ Below W.heap.size W w')
        have CO := Lib.hid (fun W (hW : Below w.heap.size w W) => code_is 1 (by decide) W (HL.out.below h3 hW).2)
        have RC := Lib.hid (fun W => refcmp_same none none 0 0 [] W (fun h => by simp at h) (fun h => by simp at h) (by decide))
        clear hm hm2
        go_wp2_with fail
        refine (MA.out _ KB.out).mono ?_
        rintro e w3 ⟨rfl, k3⟩
        have K3 := Lib.hid k3
        have KW3 := Lib.hid (KB.out.trans (k3.mono KB.out.size))
        clear k3
        go_wp2_with fail
        refine (MB.out _ K3.out).mono ?_
        rintro e w4 ⟨rfl, k4⟩
        have KW4 := Lib.hid (KW3.out.trans (k4.mono KW3.out.size))
        clear k4
        go_wp2_with fail
        refine (CO.out _ KW4.out).mono ?_
        rintro e w5 ⟨rfl, k5⟩
        have KW5 := Lib.hid (KW4.out.trans (k5.mono KW4.out.size))
        clear k5
        go_wp2_with fail
        refine (CO.out _ KW5.out).mono ?_
        rintro e w6 ⟨rfl, k6⟩
        have KW6 := Lib.hid (KW5.out.trans (k6.mono KW5.out.size))
        clear k6
        go_wp2_with fail
        refine (RC.out _).mono ?_
        rintro e w7 ⟨rfl, q7, rfl⟩
        have KW7 := Lib.hid (bel_drawn KW6.out q7)
        go_wp2_with fail
        refine (C1.out _ KW7.out).mono ?_
        rintro e w8 ⟨rfl, k8⟩
        have KW8 := Lib.hid (KW7.out.trans (k8.mono KW7.out.size))
        clear k8
        go_wp2_with fail
        refine (C2.out _ KW8.out).mono ?_
        rintro e w9 ⟨rfl, k9⟩
        have KW9 := Lib.hid (KW8.out.trans (k9.mono KW8.out.size))
        clear k9
        go_wp2_with fail
        refine (C3.out _ KW9.out).mono ?_
        rintro e w10 ⟨rfl, k10⟩
        have KW10 := Lib.hid (KW9.out.trans (k10.mono KW9.out.size))
        clear k10
        go_wp2_with fail
        refine (C4.out _ KW10.out).mono ?_
        rintro e w11 ⟨rfl, k11⟩
        have KW11 := Lib.hid (KW10.out.trans (k11.mono KW10.out.size))
        clear k11
        have hq : (x == -x') = true := by rw [← HANTI.out]; simp
        by_cases x0 : x < 0
        · by_cases y0 : 0 < y
          · go_wp2
            go_ret
            exact ⟨rfl, KW11.out⟩
          · have z0 : z ≤ 0 := HLE.out (by omega) (by omega)
            go_wp2
            go_ret
            exact ⟨rfl, KW11.out⟩
        · by_cases x1 : 0 < x
          · by_cases y0 : y < 0
            · go_wp2
              go_ret
              exact ⟨rfl, KW11.out⟩
            · have z0 : 0 ≤ z := HGE.out (by omega) (by omega)
              go_wp2
              go_ret
              exact ⟨rfl, KW11.out⟩
          · by_cases y0 : y < 0
            · have z0 : z ≤ 0 := HLE.out (by omega) (by omega)
              go_wp2
              go_ret
              exact ⟨rfl, KW11.out⟩
            · have z0 : 0 ≤ z := HGE.out (by omega) (by omega)
              by_cases y1 : 0 < y
              · go_wp2
                go_ret
                exact ⟨rfl, KW11.out⟩
              · have z1 : z ≤ 0 := HLE.out (by omega) (by omega)
                go_wp2
                go_ret
                exact ⟨rfl, KW11.out⟩
      | some o =>
        have hm2 : makeF a.reverse = some o := by rw [makeF_perm (List.reverse_perm a)]; exact hm
        have hol : o.length ≤ 16 := by
          have h := hm
          unfold makeF at h
          split at h
          · rename_i hh
            injection h with h
            rw [← h]; exact hh.2.2
          · cases h
        have MA := Lib.hid (fun W (hW : Below w.heap.size w W) => by have := make_yes hm A ca W (HA.out.below hW) (HL.out.below h3 hW).1 (by rw [HNA.out]; omega); rw [HNA.out] at this; exact this : ∀ W, Below w.heap.size w W → Calls Tryd.prog 9 #[.slice A na ca] W fun e w' => ∃ A' c, e = .returned (.tuple #[.slice A' o.length c, .nilIface]) ∧ OwnL w' A' c o ∧ Below W.heap.size W w')
        have MB := Lib.hid (fun W (hW : Below wr.heap.size wr W) => by have := make_yes hm2 A9 c9 W (O9.out.1.below hW) (HL.out.below h3 (KB.out.trans (hW.mono KB.out.size))).1 (by rw [List.length_reverse, HNA.out]; omega); rw [List.length_reverse, HNA.out] at this; exact this : ∀ W, Below wr.heap.size wr W → Calls Tryd.prog 9 #[.slice A9 na c9] W fun e w' => ∃ A' c, e = .returned (.tuple #[.slice A' o.length c, .nilIface]) ∧ OwnL w' A' c o ∧ Below W.heap.size W w')
        have RC := Lib.hid (fun W X Y cx cy (hX : Lbs W X o) (hY : Lbs W Y o) => refcmp_same X Y cx cy o W hX hY (by omega))
        clear hm hm2
        generalize o.length = no at *
        go_wp2_with fail
        refine (MA.out _ KB.out).mono ?_
        rintro e w3 ⟨A3, c3, rfl, o3, k3⟩
        have K3 := Lib.hid k3
        have O3 := Lib.hid o3.1
        have KW3 := Lib.hid (KB.out.trans (k3.mono KB.out.size))
        clear k3 o3
        go_wp2_with fail
        refine (MB.out _ K3.out).mono ?_
        rintro e w4 ⟨A4, c4, rfl, o4, k4⟩
        have O3' := Lib.hid (O3.out.below k4)
        have O4 := Lib.hid o4.1
        have KW4 := Lib.hid (KW3.out.trans (k4.mono KW3.out.size))
        clear k4 o4
        go_wp2_with fail
        refine (code_nil _).mono ?_
        rintro e w5 ⟨rfl, rfl⟩
        go_wp2_with fail
        refine (code_nil _).mono ?_
        rintro e w6 ⟨rfl, rfl⟩
        go_wp2_with fail
        refine (RC.out _ _ _ _ _ O3'.out O4.out).mono ?_
        rintro e w7 ⟨rfl, q7, rfl⟩
        have KW7 := Lib.hid (bel_drawn KW4.out q7)
        go_wp2_with fail
        refine (C1.out _ KW7.out).mono ?_
        rintro e w8 ⟨rfl, k8⟩
        have KW8 := Lib.hid (KW7.out.trans (k8.mono KW7.out.size))
        clear k8
        go_wp2_with fail
        refine (C2.out _ KW8.out).mono ?_
        rintro e w9 ⟨rfl, k9⟩
        have KW9 := Lib.hid (KW8.out.trans (k9.mono KW8.out.size))
        clear k9
        go_wp2_with fail
        refine (C3.out _ KW9.out).mono ?_
        rintro e w10 ⟨rfl, k10⟩
        have KW10 := Lib.hid (KW9.out.trans (k10.mono KW9.out.size))
        clear k10
        go_wp2_with fail
        refine (C4.out _ KW10.out).mono ?_
        rintro e w11 ⟨rfl, k11⟩
        have KW11 := Lib.hid (KW10.out.trans (k11.mono KW10.out.size))
        clear k11
        have hq : (x == -x') = true := by rw [← HANTI.out]; simp
        by_cases x0 : x < 0
        · by_cases y0 : 0 < y
          · go_wp2
            go_ret
            exact ⟨rfl, KW11.out⟩
          · have z0 : z ≤ 0 := HLE.out (by omega) (by omega)
            go_wp2
            go_ret
            exact ⟨rfl, KW11.out⟩
        · by_cases x1 : 0 < x
          · by_cases y0 : y < 0
            · go_wp2
              go_ret
              exact ⟨rfl, KW11.out⟩
            · have z0 : 0 ≤ z := HGE.out (by omega) (by omega)
              go_wp2
              go_ret
              exact ⟨rfl, KW11.out⟩
          · by_cases y0 : y < 0
            · have z0 : z ≤ 0 := HLE.out (by omega) (by omega)
              go_wp2
              go_ret
              exact ⟨rfl, KW11.out⟩
            · have z0 : 0 ≤ z := HGE.out (by omega) (by omega)
              by_cases y1 : 0 < y
              · go_wp2
                go_ret
                exact ⟨rfl, KW11.out⟩
              · have z1 : z ≤ 0 := HLE.out (by omega) (by omega)
                go_wp2
                go_ret
                exact ⟨rfl, KW11.out⟩
end Go.Proofs.YthgcjolpcccolaaDoor

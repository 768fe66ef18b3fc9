import Derived.Test.YtmpodmfbieiadaaDoorR3
namespace Go.Proofs.YtmpodmfbieiadaaDoor
open Go.RowKit Sp Go.Shelf
set_option linter.unusedVariables false

theorem find_from : ∀ k, k < 7 → ∀ fr, fr < 8 → findF (nameAt k) fr = if fr ≤ k then k else 7 := by decide
theorem findGo_hit (nm : List UInt8) : ∀ f k, k + f = 7 → findGo nm f k < 7 → nameAt (findGo nm f k) = nm
  | 0, _, _, h => by unfold findGo at h; omega
  | f + 1, k, hk, h => by
    unfold findGo at h ⊢
    by_cases e : nameAt k = nm
    · rw [if_pos e] at h ⊢; exact e
    · rw [if_neg e] at h ⊢; exact findGo_hit nm f (k + 1) (by omega) h
theorem findGo_miss (nm : List UInt8) : ∀ f k, k + f = 7 → findGo nm f k = 7 → NoneTo nm k 7
  | 0, k, hk, _ => fun i h1 h2 => by omega
  | f + 1, k, hk, h => by
    unfold findGo at h
    by_cases e : nameAt k = nm
    · rw [if_pos e] at h; omega
    · rw [if_neg e] at h
      have := findGo_miss nm f (k + 1) (by omega) h
      intro i h1 h2
      by_cases e' : i = k
      · subst e'; exact e
      · exact this i (by omega) h2
theorem find_two (nm : List UInt8) (fr : Nat) (hfr : fr ≤ 7) : findF nm fr = if findF nm 0 < 7 ∧ fr ≤ findF nm 0 then findF nm 0 else 7 := by
  by_cases h : findF nm 0 < 7
  · have hn := findGo_hit nm _ _ (by omega) h
    have := find_from (findF nm 0) h fr (by omega)
    rw [show nameAt (findF nm 0) = nm from hn] at this
    rw [this]
    by_cases h2 : fr ≤ findF nm 0
    · rw [if_pos h2, if_pos ⟨h, h2⟩]
    · rw [if_neg h2, if_neg (fun e => h2 e.2)]
  · have hle := (findF_le nm 0 (by omega)).1
    have hn := findGo_miss nm _ _ (by omega) (show findF nm 0 = 7 by omega)
    rw [if_neg (fun e => h e.1)]
    exact findGo_none _ _ (by omega) fun i h1 h2 => hn i (by omega) h2

/-- what the document's Parse hands back -/
def refVal : Option Nat → Value
  | some v => .tuple #[.int .i64 (v : Nat), .bool true]
  | none => .tuple #[.int .i64 0, .bool false]

theorem part_bad {s : ByteArray} {p : Nat} (h : (rest (s.data.toList.drop p)).length = (s.data.toList.drop p).length ∨ findF (lets (rest (s.data.toList.drop p))) 0 = 7) (w : World) (hs : s.size ≤ 200) (hp : p ≤ s.size) :
    Calls Tryd.prog 15 #[.string s, .int .i64 p] w fun e w' => e = .returned (.tuple #[.int .i64 0, .int .i64 0, .int .i64 0, .bool false]) ∧ Below w.heap.size w w' := by
  have := part_any s p w hs hp
  unfold partVal at this
  rwa [if_pos h] at this
theorem part_good {s : ByteArray} {p : Nat} (h : ¬ ((rest (s.data.toList.drop p)).length = (s.data.toList.drop p).length ∨ findF (lets (rest (s.data.toList.drop p))) 0 = 7)) (w : World) (hs : s.size ≤ 200) (hp : p ≤ s.size) :
    Calls Tryd.prog 15 #[.string s, .int .i64 p] w fun e w' => e = .returned (.tuple #[.int .i64 (numN (s.data.toList.drop p) : Nat), .int .i64 (findF (lets (rest (s.data.toList.drop p))) 0 : Nat), .int .i64 (s.size - (tail (rest (s.data.toList.drop p))).length : Nat), .bool true]) ∧ Below w.heap.size w w' := by
  have := part_any s p w hs hp
  unfold partVal at this
  rwa [if_neg h] at this
theorem tail_suffix (l : List UInt8) : ∃ k, k ≤ l.length ∧ tail (rest l) = l.drop k := by
  have h1 : ∀ l : List UInt8, ∃ k, k ≤ l.length ∧ rest l = l.drop k := fun l => by
    unfold rest
    induction l with
    | nil => exact ⟨0, by simp, rfl⟩
    | cons b l ih =>
      rw [List.dropWhile_cons]
      split
      · obtain ⟨k, h1, h2⟩ := ih; exact ⟨k + 1, by simp; omega, by rw [h2]; rfl⟩
      · exact ⟨0, by simp, rfl⟩
  obtain ⟨k, hk, e⟩ := h1 l
  have h2 := tail_drop (rest l)
  rw [e, List.drop_drop] at h2
  have hl : (lets (l.drop k)).length ≤ (l.drop k).length := lets_len _
  rw [List.length_drop] at hl
  exact ⟨k + (lets (l.drop k)).length, by omega, by rw [e]; exact h2.symm⟩

set_option maxRecDepth 100000 in
set_option maxHeartbeats 4000000 in
theorem refparse_loop (s : ByteArray) (o : Option Nat) (w : World) (h0 : s.size ≠ 0) (h200 : s.size ≤ 200) (ho : parseP s.data.toList 0 0 = o) :
    Calls Tryd.prog 8 #[.string s] w fun e w' => e = .returned (refVal o) ∧ Below w.heap.size w w' := by
  have HO := Lib.hid ho
  clear ho
  have e1 : ((s.size : Int) == 0) = false := beq_eq_false_iff_ne.2 (by omega)
  have d1 : decide ((200 : Int) < (s.size : Int)) = false := by simp; omega
  go_enter Tryd.func8, Tryd.ntmps8
  go_wp2
  go_loopg [4, 5, 6] s.size (fun g b c a wx => ∃ (p sum fr : Nat), p ≤ s.size ∧ s.size - p ≤ g ∧ fr ≤ 7 ∧ sum ≤ 35184372088832 ∧ a = .int .i64 p ∧ b = .int .i64 sum ∧ c = .int .i64 ((fr : Int) - 1) ∧ Hid (parseP (s.data.toList.drop p) fr sum = o) ∧ Hid (Below w.heap.size w wx))
  case atStart => exact ⟨0, 0, 0, by omega, by omega, by omega, by omega, rfl, rfl, rfl, HO.out, Below.refl _ _⟩
  case round =>
    clear e1 d1 h0 HO
    obtain ⟨p, sum, fr, hp, hpg, hfr, hsum, rfl, rfl, rfl, HO, HB⟩ := hrel
    by_cases hz : p = s.size
    · have hn : s.data.toList.drop p = [] := List.drop_eq_nil_of_le (by rw [← Lib.size_eq]; omega)
      have hv : o = some sum := by rw [← HO.out, hn, parse_nil]
      have d : decide (p < s.size) = false := by simp; omega
      subst hv
      clear HO hn
      subst hz
      go_wp2
      go_ret2
      exact ⟨rfl, HB.out⟩
    · have hlt : p < s.size := by omega
      have hlt' : (p : Int) < (s.size : Int) := by omega
      have hlen : (s.data.toList.drop p).length = s.size - p := by rw [List.length_drop, ← Lib.size_eq]
      have hne : s.data.toList.drop p ≠ [] := fun h => by rw [h] at hlen; simp at hlen; omega
      have HBAD := Lib.hid (@parse_bad (s.data.toList.drop p) fr sum hne)
      have HMUCH := Lib.hid (@parse_much (s.data.toList.drop p) fr sum hne)
      have HNX := Lib.hid (@parse_next (s.data.toList.drop p) fr sum hne)
      have hft := find_two (lets (rest (s.data.toList.drop p))) fr hfr
      have hf0 := (findF_le (lets (rest (s.data.toList.drop p))) 0 (by omega)).1
      by_cases hb : (rest (s.data.toList.drop p)).length = (s.data.toList.drop p).length ∨ findF (lets (rest (s.data.toList.drop p))) 0 = 7
      · have hv : o = none := by
          rw [← HO.out]
          refine HBAD.out ?_
          rcases hb with h | h
          · exact .inl h
          · refine .inr (.inl ?_)
            rw [hft, if_neg (by omega)]
        subst hv
        have HP := Lib.hid (fun W => part_bad hb W h200 hp)
        clear hb hft hne HBAD HMUCH HNX hlen hf0 HO
        go_wp2_with fail
        refine (HP.out _).mono ?_
        rintro e w1 ⟨rfl, b1⟩
        have k1 := HB.out.trans (b1.mono HB.out.size)
        go_wp2
        go_ret2
        exact ⟨rfl, k1⟩
      · have HP := Lib.hid (fun W => part_good hb W h200 hp)
        have hk7 : findF (lets (rest (s.data.toList.drop p))) 0 < 7 := by
          have : findF (lets (rest (s.data.toList.drop p))) 0 ≠ 7 := fun h => hb (.inr h)
          omega
        have hlr : (rest (s.data.toList.drop p)).length ≠ (s.data.toList.drop p).length := fun h => hb (.inl h)
        obtain ⟨j, hj1, hj2⟩ := tail_suffix (s.data.toList.drop p)
        have hj3 : (tail (rest (s.data.toList.drop p))).length = s.size - p - j := by rw [hj2, List.length_drop, hlen]
        have hj0 : 0 < j := by
          have h1 := tail_len (rest (s.data.toList.drop p))
          have h2 := rest_len (s.data.toList.drop p)
          rw [hlen] at hlr h2 hj1
          omega
        rw [hlen] at hj1
        rw [hj3, show s.size - (s.size - p - j) = p + j by omega] at HP
        rw [hj2, List.drop_drop] at HNX
        have HZ := Lib.hid (sizes_pos _ hk7)
        have hzl := sizes_le _ hk7
        have hz0 := sizes_pos _ hk7
        have hnn := numN_le (s.data.toList.drop p)
        by_cases hfr2 : findF (lets (rest (s.data.toList.drop p))) 0 < fr
        · rw [if_neg (by omega)] at hft
          have hv : o = none := by rw [← HO.out]; exact HBAD.out (.inr (.inl hft))
          subst hv
          clear hft hne HBAD HMUCH HNX hlen HO hb hj2 hj3 hlr
          generalize findF (lets (rest (s.data.toList.drop p))) 0 = k at *
          generalize numN (s.data.toList.drop p) = n at *
          have hle : (k : Int) ≤ (fr : Int) - 1 := by omega
          go_wp2_with fail
          refine (HP.out _).mono ?_
          rintro e w1 ⟨rfl, b1⟩
          have k1 := HB.out.trans (b1.mono HB.out.size)
          go_wp2
          go_ret2
          exact ⟨rfl, k1⟩
        · rw [if_pos ⟨hk7, by omega⟩] at hft
          rw [hft] at HBAD HMUCH HNX
          have HLA := Lib.hid (fun W b (h : LongAt W b) => h _ hk7)
          clear hft hne hlen hb hj2 hj3
          generalize findF (lets (rest (s.data.toList.drop p))) 0 = k at *
          generalize numN (s.data.toList.drop p) = n at *
          generalize sizeAt k = z at *
          have hle : ¬ (k : Int) ≤ (fr : Int) - 1 := by omega
          obtain ⟨g, rfl⟩ : ∃ g, gk = g + 1 := ⟨gk - 1, by omega⟩
          have HLG := Lib.hid long_any
          have hdiv : ((35184372088832 / z : Nat) : Int) = (35184372088832 : Int) / (z : Int) := by simp
          go_wp2_with fail
          refine (HP.out _).mono ?_
          rintro e w1 ⟨rfl, b1⟩
          have k1 := HB.out.trans (b1.mono HB.out.size)
          clear b1
          by_cases hn0 : n = 0
          · subst hn0
            have HV := Lib.hid ((HNX.out (by rintro (h | h | h); exact hlr h; omega; exact absurd h (Nat.not_lt_zero _)) (by rw [Nat.zero_mul, Nat.add_zero]; exact Nat.not_lt.2 hsum)).symm.trans HO.out)
            rw [Nat.zero_mul, Nat.add_zero] at HV
            clear hdiv HBAD HMUCH HNX
            go_wp2_with fail
            refine wp_loop_rounds 1 ?_
            rw [rounds_succ]
            go_wp2
            go_roundg g
            case measure => omega
            case rel => exact ⟨p + j, sum, k + 1, by omega, by omega, by omega, hsum, by go_num, rfl, by go_num, HV, k1⟩
          · have hn1 : (0 : Int) < (n : Int) := by omega
            by_cases c3 : 35184372088832 / z < n
            · have hv : o = none := by rw [← HO.out]; exact HBAD.out (.inr (.inr c3))
              subst hv
              have x3 : (35184372088832 : Int) / (z : Int) < (n : Int) := by rw [← hdiv]; omega
              clear hdiv c3 HBAD HMUCH HNX HO
              go_wp2_with fail
              refine wp_loop_rounds 1 ?_
              rw [rounds_succ]
              go_wp2_with fail
              refine (HLG.out _).mono ?_
              rintro e w2 ⟨rfl, l2, b2, s2⟩
              have c2 := HLA.out _ _ l2
              have k2 := k1.trans (b2.mono k1.size)
              clear l2 b2
              go_wp2
              go_ret2
              exact ⟨rfl, k2⟩
            · have x3 : ¬ (35184372088832 : Int) / (z : Int) < (n : Int) := by rw [← hdiv]; omega
              have hmul : n * z ≤ 35184372088832 := Nat.le_trans (Nat.mul_le_mul_right z (Nat.le_of_not_lt c3)) (Nat.div_mul_le_self _ _)
              have hmi : ((n * z : Nat) : Int) = (n : Int) * (z : Int) := by simp
              have hmul' : (n : Int) * (z : Int) ≤ 35184372088832 := by rw [← hmi]; omega
              have hmul0 : 0 ≤ (n : Int) * (z : Int) := by rw [← hmi]; omega
              clear hdiv
              by_cases c4 : 35184372088832 < sum + n * z
              · have hv : o = none := by rw [← HO.out]; exact HMUCH.out (by rintro (h | h | h); exact hlr h; omega; exact c3 h) c4
                subst hv
                have x4 : (35184372088832 : Int) < (sum : Int) + (n : Int) * (z : Int) := by rw [← hmi]; omega
                clear hmi c4 c3 HBAD HMUCH HNX HO
                go_wp2_with fail
                refine wp_loop_rounds 2 ?_
                rw [rounds_succ]
                go_wp2_with fail
                refine (HLG.out _).mono ?_
                rintro e w2 ⟨rfl, l2, b2, s2⟩
                have c2 := HLA.out _ _ l2
                have k2 := k1.trans (b2.mono k1.size)
                clear l2 b2
                go_wp2_with fail
                refine (HLG.out _).mono ?_
                rintro e w3 ⟨rfl, l3, b3, s3⟩
                have c3 := HLA.out _ _ l3
                have k3 := k2.trans (b3.mono k2.size)
                clear l3 b3 c2
                go_wp2_with fail
                rw [rounds_succ]
                go_wp2
                go_ret2
                exact ⟨rfl, k3⟩
              · have x4 : ¬ (35184372088832 : Int) < (sum : Int) + (n : Int) * (z : Int) := by rw [← hmi]; omega
                have HV := Lib.hid ((HNX.out (by rintro (h | h | h); exact hlr h; omega; exact c3 h) c4).symm.trans HO.out)
                have HMI := Lib.hid hmi
                have hsn : sum + n * z ≤ 35184372088832 := by omega
                clear hmi c4 c3 HBAD HMUCH HNX HO
                go_wp2_with fail
                refine wp_loop_rounds 2 ?_
                rw [rounds_succ]
                go_wp2_with fail
                refine (HLG.out _).mono ?_
                rintro e w2 ⟨rfl, l2, b2, s2⟩
                have c2 := HLA.out _ _ l2
                have k2 := k1.trans (b2.mono k1.size)
                clear l2 b2
                go_wp2_with fail
                refine (HLG.out _).mono ?_
                rintro e w3 ⟨rfl, l3, b3, s3⟩
                have c3 := HLA.out _ _ l3
                have k3 := k2.trans (b3.mono k2.size)
                clear l3 b3 c2
                go_wp2_with fail
                rw [rounds_succ]
                go_wp2
                go_roundg g
                case measure => omega
                case rel => exact ⟨p + j, sum + n * z, k + 1, by omega, by omega, by omega, hsn, by go_num, by rw [show ((sum + n * z : Nat) : Int) = (sum : Int) + (n : Int) * (z : Int) by rw [← HMI.out]; simp], by go_num, HV, k3⟩

set_option maxHeartbeats 1000000 in
theorem refparse_any (s : ByteArray) (o : Option Nat) (w : World) (ho : spanF s.data.toList = o) :
    Calls Tryd.prog 8 #[.string s] w fun e w' => e = .returned (refVal o) ∧ Below w.heap.size w w' := by
  have hlen := Lib.size_eq s
  by_cases h0 : s.size = 0
  · have hv : o = none := by rw [← ho]; unfold spanF; rw [if_pos (by omega)]
    subst hv
    have e1 : ((s.size : Int) == 0) = true := by simp [h0]
    clear ho hlen h0
    go_enter Tryd.func8, Tryd.ntmps8
    go_wp2
    go_ret2
    exact ⟨rfl, Below.refl _ _⟩
  · by_cases h2 : 200 < s.size
    · have hv : o = none := by rw [← ho]; unfold spanF; rw [if_pos (by omega)]
      subst hv
      have e1 : ((s.size : Int) == 0) = false := beq_eq_false_iff_ne.2 (by omega)
      have d1 : decide ((200 : Int) < (s.size : Int)) = true := by simp; omega
      clear ho hlen h0
      go_enter Tryd.func8, Tryd.ntmps8
      go_wp2
      go_ret2
      exact ⟨rfl, Below.refl _ _⟩
    · refine refparse_loop s o w h0 (by omega) ?_
      rw [← ho]; unfold spanF; rw [if_neg (by omega)]

set_option maxRecDepth 100000 in
set_option maxHeartbeats 4000000 in
theorem parses_walk (s : ByteArray) (w : World) (hs : s.size ≤ 9223372036854775807) (hL : Laid w) :
    Calls Tryd.prog 3 #[.string s] w fun e w' => e = .returned (.bool true) ∧ Below w.heap.size w w' := by
  have HW := Lib.hid (awake_any w hL)
  by_cases h4 : 400 < s.size
  · have d : (400 : Int) < (s.size : Int) := by omega
    clear hL
    go_enter Tryd.func3, Tryd.ntmps3
    go_wp2_with fail
    refine (HW.out).mono ?_
    rintro e w1 ⟨rfl, k1⟩
    go_wp2
    go_ret
    exact ⟨rfl, k1⟩
  · have d : ¬ (400 : Int) < (s.size : Int) := by omega
    cases ho : spanF s.data.toList with
    | none =>
      have H1 := Lib.hid (fun W (hW : Below w.heap.size w W) => parse_no ho W (hL.below hW))
      have H2 : Hid (∀ W, Calls Tryd.prog 8 #[.string s] W fun e w' => e = .returned (.tuple #[.int .i64 0, .bool false]) ∧ Below W.heap.size W w') := fun W => refparse_any s none W ho
      have H3 := Lib.hid (fun W (hW : Below w.heap.size w W) => code_is 13 (by decide) W (hL.below hW).2.2)
      clear hL ho
      go_enter Tryd.func3, Tryd.ntmps3
      go_wp2_with fail
      refine (HW.out).mono ?_
      rintro e w1 ⟨rfl, k1⟩
      go_wp2_with fail
      refine (H1.out w1 k1).mono ?_
      rintro e w2 ⟨rfl, hb2⟩
      have k2 := k1.trans (hb2.mono k1.size)
      clear hb2
      go_wp2_with fail
      refine (H2.out w2).mono ?_
      rintro e w3 ⟨rfl, hb3⟩
      have k3 := k2.trans (hb3.mono k2.size)
      clear hb3
      go_wp2_with fail
      refine (H3.out w3 k3).mono ?_
      rintro e w4 ⟨rfl, hb4⟩
      have k4 := k3.trans (hb4.mono k3.size)
      clear hb4
      go_wp2
      go_ret
      exact ⟨rfl, k4⟩
    | some v =>
      have H1 := Lib.hid (fun W (hW : Below w.heap.size w W) => parse_yes ho W (hL.below hW))
      have H2 : Hid (∀ W, Calls Tryd.prog 8 #[.string s] W fun e w' => e = .returned (.tuple #[.int .i64 (v : Nat), .bool true]) ∧ Below W.heap.size W w') := fun W => refparse_any s (some v) W ho
      clear hL ho
      go_enter Tryd.func3, Tryd.ntmps3
      go_wp2_with fail
      refine (HW.out).mono ?_
      rintro e w1 ⟨rfl, k1⟩
      go_wp2_with fail
      refine (H1.out w1 k1).mono ?_
      rintro e w2 ⟨rfl, hb2⟩
      have k2 := k1.trans (hb2.mono k1.size)
      clear hb2
      go_wp2_with fail
      refine (H2.out w2).mono ?_
      rintro e w3 ⟨rfl, hb3⟩
      have k3 := k2.trans (hb3.mono k2.size)
      clear hb3
      go_wp2
      go_ret
      exact ⟨rfl, k3⟩
end Go.Proofs.YtmpodmfbieiadaaDoor

import Derived.Test.YtmpodmfbieiadaaDoorW6
namespace Go.Proofs.YtmpodmfbieiadaaDoor
open Go.RowKit Sp Go.Shelf
set_option linter.unusedVariables false

theorem Units.below {w w' : World} {B : Nat} (h : Units w) (hB : 0 < B) (hb : Below B w w') : Units w' := fun k hk =>
  ⟨(hb.cell (p := ⟨0, k * 2, none⟩) hB).trans (h k hk).1, (hb.cell (p := ⟨0, k * 2 + 1, none⟩) hB).trans (h k hk).2⟩
theorem Units.size {w : World} (h : Units w) : 0 < w.heap.size := World.block_lt_of_cell? _ _ (h 0 (by decide)).1

theorem sizes_le : ∀ k, k < 7 → sizeAt k ≤ 31536000000 := by decide
/-- what Parse hands back -/
def parseVal : Option Nat → Value
  | some v => .tuple #[.int .i64 (v : Nat), .nilIface]
  | none => .tuple #[.int .i64 0, .iface 38 (.int .i64 13)]

theorem tail_drop (l : List UInt8) : l.drop (lets l).length = tail l := by
  unfold lets tail
  induction l with
  | nil => rfl
  | cons b l ih =>
    rw [List.takeWhile_cons, List.dropWhile_cons]
    split
    · simpa using ih
    · rfl
theorem findF_le (nm : List UInt8) (a : Nat) (ha : a ≤ 7) : findF nm a ≤ 7 ∧ a ≤ findF nm a := ⟨findGo_le nm _ _ (by omega), findGo_ge nm _ _ (by omega)⟩
theorem size_list (l : List UInt8) : (⟨l.toArray⟩ : ByteArray).size = l.length := by rw [Lib.size_eq]
theorem lets_len (l : List UInt8) : (lets l).length ≤ l.length := (List.takeWhile_sublist _).length_le

theorem foldN_le : ∀ (l : List UInt8) (n : Nat), n ≤ 35184372088833 → l.foldl stepN n ≤ 35184372088833
  | [], _, h => h
  | b :: l, n, _ => foldN_le l _ (stepN_le n b)
theorem numN_le (l : List UInt8) : numN l ≤ 35184372088833 := foldN_le _ 0 (by omega)

set_option maxRecDepth 100000 in
set_option maxHeartbeats 4000000 in
theorem parse_loop (s : ByteArray) (o : Option Nat) (w : World) (hU : Units w) (h0 : s.size ≠ 0) (h200 : s.size ≤ 200) (ho : parseP s.data.toList 0 0 = o) :
    Calls Tryd.prog 7 #[.string s] w fun e w' => e = .returned (parseVal o) ∧ Below w.heap.size w w' := by
  have hB := hU.size
  have HU := Lib.hid hU
  have HO := Lib.hid ho
  clear hU ho
  have e1 : s.toList.isEmpty = false := by
    rw [Lib.toList_data]
    have := Lib.size_eq s
    cases h : s.data.toList with
    | nil => rw [h] at this; exact absurd this h0
    | cons _ _ => rfl
  have d1 : decide ((200 : Int) < (s.size : Int)) = false := by simp; omega
  go_enter Tryd.func7, Tryd.ntmps7
  go_wp2
  go_loopg [0, 4, 5] s.size (fun g a b c wx => ∃ (t : ByteArray) (sum fr : Nat), t.size ≤ g ∧ t.size ≤ 200 ∧ fr ≤ 7 ∧ sum ≤ 35184372088832 ∧ a = .string t ∧ b = .int .i64 sum ∧ c = .int .i64 fr ∧ Hid (parseP t.data.toList fr sum = o) ∧ Hid (Below w.heap.size w wx))
  case atStart => exact ⟨s, 0, 0, by omega, h200, by omega, by omega, rfl, rfl, rfl, HO.out, Below.refl _ _⟩
  case round =>
    clear e1 d1 h0 h200 HO
    obtain ⟨t, sum, fr, htg, ht, hfr, hsum, rfl, rfl, rfl, HO, HB⟩ := hrel
    by_cases hz : t.size = 0
    · have hn : t.data.toList = [] := List.length_eq_zero_iff.1 (by rw [← Lib.size_eq]; exact hz)
      have hv : o = some sum := by rw [← HO.out, hn, parse_nil]
      have e2 : t.toList.isEmpty = true := by rw [Lib.toList_data, hn]; rfl
      subst hv
      clear HO hn hz
      go_wp2
      go_ret2
      exact ⟨rfl, HB.out⟩
    · have hne : t.data.toList ≠ [] := fun h => hz (by rw [Lib.size_eq, h]; rfl)
      have e2 : t.toList.isEmpty = false := by rw [Lib.toList_data]; simpa using hne
      have HNE := Lib.hid hne
      clear hne
      go_wp2_with fail
      refine (number_any _ _ (by omega)).mono ?_
      rintro e w1 ⟨rfl, q1, rfl⟩
      have HB1 := Lib.hid (bel_drawn HB.out q1)
      generalize wr.drewN q1 = w1 at *
      generalize hl : t.data.toList = l at *
      have HL := Lib.hid hl
      have hrl := rest_len l
      have hll := lets_len (rest l)
      have hlen : t.size = l.length := by rw [Lib.size_eq, hl]
      have hrs := size_list (rest l)
      have hls := size_list (lets (rest l))
      obtain ⟨hf1, hf2⟩ := findF_le (lets (rest l)) fr hfr
      have HNX := Lib.hid (@parse_next l fr sum HNE.out)
      have HBAD := Lib.hid (@parse_bad l fr sum HNE.out)
      have HMUCH := Lib.hid (@parse_much l fr sum HNE.out)
      have HLT : Hid (∀ W, Calls Tryd.prog 13 #[.string ⟨(rest l).toArray⟩] W fun e w' => e = .returned (.string ⟨(lets (rest l)).toArray⟩) ∧ Below W.heap.size W w') := fun W => letters_any ⟨(rest l).toArray⟩ W (by rw [size_list]; omega)
      have HFI : Hid (∀ W, Units W → Calls Tryd.prog 14 #[.string ⟨(lets (rest l)).toArray⟩, .int .i64 fr] W fun e w' => e = .returned (.int .i64 (findF (lets (rest l)) fr : Nat)) ∧ W = w') := fun W hW => find_any ⟨(lets (rest l)).toArray⟩ fr W hW hfr
      have HTL : Hid ((⟨(rest l).toArray⟩ : ByteArray).extract (lets (rest l)).length (rest l).length = ⟨(tail (rest l)).toArray⟩) := str_ext (by rw [Lib.extract_data, tail_drop, List.take_of_length_le (by have := congrArg List.length (tail_drop (rest l)); simp at this ⊢; omega)])
      have hnn := numN_le l
      rw [← hrs, ← hls] at HTL
      rw [← hrs, ← hls] at hll
      rw [← hrs, ← hlen] at hrl HNX HBAD HMUCH
      have htl := size_list (tail (rest l))
      have htl2 := tail_len (rest l)
      rw [← htl, ← hrs] at htl2
      have HZ := Lib.hid (sizes_pos (findF (lets (rest l)) fr))
      have HZL := Lib.hid (sizes_le (findF (lets (rest l)) fr))
      have HTD : Hid ((⟨(tail (rest l)).toArray⟩ : ByteArray).data.toList = tail (rest l)) := (rfl : (⟨(tail (rest l)).toArray⟩ : ByteArray).data.toList = tail (rest l))
      clear hl hlen hrs hls htl
      generalize (⟨(tail (rest l)).toArray⟩ : ByteArray) = TL at *
      generalize tail (rest l) = tl at *
      generalize hR : (⟨(rest l).toArray⟩ : ByteArray) = R at *
      generalize hNM : (⟨(lets (rest l)).toArray⟩ : ByteArray) = NM at *
      generalize findF (lets (rest l)) fr = at' at *
      generalize numN l = n at *
      clear hR hNM
      go_wp2_with fail
      refine (HLT.out _).mono ?_
      rintro e w2 ⟨rfl, hb2⟩
      have HB2 := Lib.hid (HB1.out.trans (hb2.mono HB1.out.size))
      clear hb2
      go_wp2_with fail
      refine (HFI.out _ (HU.out.below hB HB2.out)).mono ?_
      rintro e w3 ⟨rfl, rfl⟩
      by_cases c1 : R.size = t.size
      · have hv : o = none := by rw [← HO.out]; exact HBAD.out (.inl c1)
        subst hv
        have x1 : ((R.size : Int) == (t.size : Int)) = true := by simp [c1]
        clear c1
        go_wp2
        go_ret2
        exact ⟨rfl, HB2.out⟩
      have x1 : ((R.size : Int) == (t.size : Int)) = false := beq_eq_false_iff_ne.2 (by omega)
      by_cases c2 : at' = 7
      · have hv : o = none := by rw [← HO.out]; exact HBAD.out (.inr (.inl c2))
        subst hv
        have x2 : ((at' : Int) == 7) = true := by simp [c2]
        clear c2
        go_wp2
        go_ret2
        exact ⟨rfl, HB2.out⟩
      have x2 : ((at' : Int) == 7) = false := by simp; omega
      have c2' : at' < 7 := by omega
      have hcell := ((HU.out.below hB HB2.out) at' c2').2
      have hz0 := HZ.out c2'
      have hzl := HZL.out c2'
      clear HZ HZL
      generalize sizeAt at' = z at *
      have hdiv : ((35184372088832 / z : Nat) : Int) = (35184372088832 : Int) / (z : Int) := by simp
      by_cases c3 : 35184372088832 / z < n
      · have hv : o = none := by rw [← HO.out]; exact HBAD.out (.inr (.inr c3))
        subst hv
        have x3 : (35184372088832 : Int) / (z : Int) < (n : Int) := by rw [← hdiv]; omega
        clear hdiv c3
        go_wp2
        go_ret2
        exact ⟨rfl, HB2.out⟩
      have x3 : ¬ (35184372088832 : Int) / (z : Int) < (n : Int) := by rw [← hdiv]; omega
      have hmul : n * z ≤ 35184372088832 := Nat.le_trans (Nat.mul_le_mul_right z (Nat.le_of_not_lt c3)) (Nat.div_mul_le_self _ _)
      have hmi : ((n * z : Nat) : Int) = (n : Int) * (z : Int) := by simp
      have hmul' : (n : Int) * (z : Int) ≤ 35184372088832 := by rw [← hmi]; omega
      have hmul0 : 0 ≤ (n : Int) * (z : Int) := by rw [← hmi]; omega
      clear hdiv
      by_cases c4 : 35184372088832 < sum + n * z
      · have hv : o = none := by rw [← HO.out]; exact HMUCH.out (by rintro (h | h | h); exact c1 h; exact c2 h; exact c3 h) c4
        subst hv
        have x4 : (35184372088832 : Int) < (sum : Int) + (n : Int) * (z : Int) := by rw [← hmi]; omega
        clear hmi c4 c3
        go_wp2
        go_ret2
        exact ⟨rfl, HB2.out⟩
      have x4 : ¬ (35184372088832 : Int) < (sum : Int) + (n : Int) * (z : Int) := by rw [← hmi]; omega
      have HV := Lib.hid ((HNX.out (by rintro (h | h | h); exact c1 h; exact c2 h; exact c3 h) c4).symm.trans HO.out)
      have HMI := Lib.hid hmi
      obtain ⟨g, rfl⟩ : ∃ g, gk = g + 1 := ⟨gk - 1, by omega⟩
      clear hmi c4 c3
      go_wp2
      go_roundg g
      case measure => omega
      case rel =>
        refine ⟨TL, sum + n * z, at' + 1, by omega, by omega, by omega, by omega, ?_, ?_, by go_num, by rw [HTD.out]; exact HV.out, HB2.out⟩
        · rw [HTL.out]
        · rw [show ((sum + n * z : Nat) : Int) = (sum : Int) + (n : Int) * (z : Int) by rw [← HMI.out]; simp]

set_option maxHeartbeats 1000000 in
theorem parse_any (s : ByteArray) (o : Option Nat) (w : World) (hU : Units w) (ho : spanF s.data.toList = o) :
    Calls Tryd.prog 7 #[.string s] w fun e w' => e = .returned (parseVal o) ∧ Below w.heap.size w w' := by
  have hlen := Lib.size_eq s
  by_cases h0 : s.size = 0
  · have hn : s.data.toList = [] := List.length_eq_zero_iff.1 (by omega)
    have hv : o = none := by rw [← ho]; unfold spanF; rw [if_pos (by omega)]
    subst hv
    have e1 : s.toList.isEmpty = true := by rw [Lib.toList_data, hn]; rfl
    clear ho hlen hn h0 hU
    go_enter Tryd.func7, Tryd.ntmps7
    go_wp2
    go_ret2
    exact ⟨rfl, Below.refl _ _⟩
  · by_cases h2 : 200 < s.size
    · have hv : o = none := by rw [← ho]; unfold spanF; rw [if_pos (by omega)]
      subst hv
      have e1 : s.toList.isEmpty = false := by
        rw [Lib.toList_data]
        cases h : s.data.toList with
        | nil => rw [h] at hlen; exact absurd hlen h0
        | cons _ _ => rfl
      have d1 : decide ((200 : Int) < (s.size : Int)) = true := by simp; omega
      clear ho hlen h0 hU
      go_enter Tryd.func7, Tryd.ntmps7
      go_wp2
      go_ret2
      exact ⟨rfl, Below.refl _ _⟩
    · refine parse_loop s o w hU h0 (by omega) ?_
      rw [← ho]; unfold spanF; rw [if_neg (by omega)]
end Go.Proofs.YtmpodmfbieiadaaDoor

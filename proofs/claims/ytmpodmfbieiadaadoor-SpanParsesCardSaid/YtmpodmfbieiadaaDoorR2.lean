import Derived.Test.YtmpodmfbieiadaaDoorR1
namespace Go.Proofs.YtmpodmfbieiadaaDoor
open Go.RowKit Sp Go.Shelf
set_option linter.unusedVariables false

theorem textTo_ne (v : Nat) (h0 : v ≠ 0) (hv : v ≤ 35184372088832) : textTo v 7 ≠ [] := by
  have := textF_ne v hv
  unfold textF at this
  rwa [if_neg h0] at this
theorem left_zero : ∀ f k, leftGo f k 0 = 0
  | 0, _ => rfl
  | f + 1, k => by rw [leftGo, Nat.zero_mod]; exact left_zero f (k + 1)
theorem text_zero : textTo 0 7 = [] := by decide

set_option maxRecDepth 100000 in
set_option maxHeartbeats 4000000 in
theorem reftext_yes (v : Nat) (w : World) (hv : v ≤ 35184372088832) :
    Calls Tryd.prog 11 #[.int .i64 v] w fun e w' => e = .returned (.tuple #[.string ⟨(textF v).toArray⟩, .bool true]) ∧ Below w.heap.size w w' := by
  have d2 : decide ((v : Int) < 0) = false := by simp
  have d3 : decide ((35184372088832 : Int) < (v : Int)) = false := by simp; omega
  go_enter Tryd.func11, Tryd.ntmps11
  go_wp2
  clear d2 d3
  go_loopg [4, 5, 6] 7 (fun g b a c wx => ∃ k : Nat, k + g = 7 ∧ a = .int .i64 (leftTo v k : Nat) ∧ b = .string ⟨(textTo v k).toArray⟩ ∧ c = .int .i64 k ∧ Hid (Below w.heap.size w wx))
  case atStart => exact ⟨0, by omega, rfl, rfl, rfl, Below.refl _ _⟩
  case round =>
    obtain ⟨k, hkg, rfl, rfl, rfl, HB⟩ := hrel
    by_cases hk : k < 7
    · obtain ⟨g, rfl⟩ : ∃ g, gk = g + 1 := ⟨gk - 1, by omega⟩
      have hz := sizes_pos k hk
      have hzl := sizes_le k hk
      have hll := leftTo_le v k
      have HTS := Lib.hid (textTo_succ v k)
      have HLS := Lib.hid (leftTo_succ v k)
      have hnl := names_len k hk
      have htl : (textTo v k).length ≤ 112 := Nat.le_trans (textTo_len v hv k (by omega)) (by omega)
      have HLA := Lib.hid (fun W b (h : LongAt W b) => h k hk)
      have HUA := Lib.hid (fun W b (h : UnitAt W b) => h k hk)
      generalize leftTo v k = L at *
      generalize nameAt k = nm at *
      generalize sizeAt k = z at *
      generalize textTo v k = tx at *
      have hq : (L : Int) / (z : Int) = ((L / z : Nat) : Int) := by simp
      have hql : L / z ≤ L := Nat.div_le_self _ _
      have hrl : L % z ≤ L := Nat.mod_le _ _
      have hm := Nat.div_add_mod L z
      rw [Nat.mul_comm] at hm
      have hmi : (((L / z) * z : Nat) : Int) = ((L / z : Nat) : Int) * (z : Int) := by simp
      have hsub : (L : Int) - ((L / z : Nat) : Int) * (z : Int) = ((L % z : Nat) : Int) := by rw [← hmi]; omega
      have hp0 : 0 ≤ ((L / z : Nat) : Int) * (z : Int) := by rw [← hmi]; omega
      have hp1 : ((L / z : Nat) : Int) * (z : Int) ≤ 35184372088832 := by rw [← hmi]; omega
      clear hm hmi
      rw [← HLS.out] at hsub hrl
      generalize L / z = q at *
      have HLG := Lib.hid long_any
      go_wp2_with fail
      refine (HLG.out _).mono ?_
      rintro e w1 ⟨rfl, l1, b1, s1⟩
      have c1 := HLA.out _ _ l1
      have k1 := HB.out.trans (b1.mono HB.out.size)
      clear l1 b1
      go_wp2_with fail
      refine (HLG.out _).mono ?_
      rintro e w2 ⟨rfl, l2, b2, s2⟩
      have c2 := HLA.out _ _ l2
      have k2 := k1.trans (b2.mono k1.size)
      clear l2 b2 c1
      by_cases hq0 : 0 < q
      · rw [if_pos hq0] at HTS
        have HTX : Hid ((⟨(textTo v (k + 1)).toArray⟩ : ByteArray) = ⟨((tx ++ Lib.decDigits q) ++ nm).toArray⟩) := congrArg (fun l : List UInt8 => (⟨l.toArray⟩ : ByteArray)) (HTS.out.trans (List.append_assoc _ _ _).symm)
        have h3 := dec_short q (by omega)
        have a1 := fun W => add_str tx (Lib.decDigits q) (by omega) W
        have a2 := fun W => add_str (tx ++ Lib.decDigits q) nm (by rw [List.length_append]; omega) W
        have HDG := Lib.hid (fun W => digits_any q (by omega) W)
        generalize (⟨((tx ++ Lib.decDigits q) ++ nm).toArray⟩ : ByteArray) = E2 at *
        generalize (⟨(tx ++ Lib.decDigits q).toArray⟩ : ByteArray) = E1 at *
        generalize (⟨(Lib.decDigits q).toArray⟩ : ByteArray) = E0 at *
        go_wp2_with fail
        refine (HDG.out _).mono ?_
        rintro e w3 ⟨rfl, rfl⟩
        go_wp2_with fail
        refine (unitsl_any _).mono ?_
        rintro e w4 ⟨rfl, l4, b4, s4⟩
        have c4 := HUA.out _ _ l4
        have k4 := k2.trans (b4.mono k2.size)
        clear l4 b4 c2
        go_wp2
        go_roundg g
        case measure => omega
        case rel => exact ⟨k + 1, by omega, rfl, by rw [HTX.out], by go_num, k4⟩
      · rw [if_neg hq0, List.append_nil] at HTS
        have HTX : Hid ((⟨(textTo v (k + 1)).toArray⟩ : ByteArray) = ⟨tx.toArray⟩) := congrArg (fun l : List UInt8 => (⟨l.toArray⟩ : ByteArray)) HTS.out
        obtain rfl : q = 0 := by omega
        have HLQ : Hid ((L : Int) = (leftTo v (k + 1) : Nat)) := by
          have := hsub
          rw [Int.natCast_zero, Int.zero_mul, Int.sub_zero] at this
          exact this
        go_wp2
        go_roundg g
        case measure => omega
        case rel => exact ⟨k + 1, by omega, by rw [HLQ.out], by rw [HTX.out], by go_num, k2⟩
    · obtain rfl : k = 7 := by omega
      by_cases h0 : v = 0
      · subst h0
        have e : (⟨(textTo 0 7).toArray⟩ : ByteArray) = ⟨#[]⟩ := by rw [text_zero]
        rw [e]
        clear e
        go_wp2
        go_ret2
        exact ⟨rfl, HB.out⟩
      · have HE : Hid ((⟨(textF v).toArray⟩ : ByteArray) = ⟨(textTo v 7).toArray⟩) := by
          show (⟨(textF v).toArray⟩ : ByteArray) = _
          unfold textF; rw [if_neg h0]; rfl
        have he : (⟨(textTo v 7).toArray⟩ : ByteArray).toList.isEmpty = false := by
          rw [Lib.toList_data]
          have := textTo_ne v h0 hv
          simpa using this
        generalize (⟨(textTo v 7).toArray⟩ : ByteArray) = E at *
        go_wp2
        go_ret2
        exact ⟨by rw [HE.out]; rfl, HB.out⟩
theorem reftext_no (v : Int) (w : World) (hv : v < 0 ∨ 35184372088832 < v) :
    Calls Tryd.prog 11 #[.int .i64 v] w fun e w' => e = .returned (.tuple #[.string ⟨#[]⟩, .bool false]) ∧ Below w.heap.size w w' := by
  by_cases h : v < 0
  · have d1 : decide (v < 0) = true := by simpa using h
    go_enter Tryd.func11, Tryd.ntmps11
    go_wp2
    go_ret2
    exact ⟨rfl, Below.refl _ _⟩
  · have d1 : decide (v < 0) = false := by simpa using h
    have h2 : 35184372088832 < v := by omega
    have d2 : decide (35184372088832 < v) = true := by simpa using h2
    go_enter Tryd.func11, Tryd.ntmps11
    go_wp2
    go_ret2
    exact ⟨rfl, Below.refl _ _⟩

set_option maxRecDepth 100000 in
set_option maxHeartbeats 4000000 in
theorem texts_walk (v : Int) (w : World) (hL : Laid w) :
    Calls Tryd.prog 4 #[.int .i64 v] w fun e w' => e = .returned (.bool true) ∧ Below w.heap.size w w' := by
  have HW := Lib.hid (awake_any w hL)
  by_cases h : v < 0 ∨ 35184372088832 < v
  · have H1 := Lib.hid (fun W => text_no v W h)
    have H2 := Lib.hid (fun W => reftext_no v W h)
    have H3 := Lib.hid (fun W (hW : Below w.heap.size w W) => code_is 13 (by decide) W (hL.below hW).2.2)
    clear hL h
    go_enter Tryd.func4, Tryd.ntmps4
    go_wp2_with fail
    refine (HW.out).mono ?_
    rintro e w1 ⟨rfl, k1⟩
    go_wp2_with fail
    refine (H1.out w1).mono ?_
    rintro e w2 ⟨rfl, hb2⟩
    have k2 := k1.trans (hb2.mono k1.size)
    clear hb2
    go_wp2_with fail
    refine (H2.out w2).mono ?_
    rintro e w3 ⟨rfl, hb3⟩
    have k3 := k2.trans (hb3.mono k2.size)
    clear hb3
    go_wp2_with fail
    refine (H3.out w3 k3).mono ?_
    rintro e w4 ⟨rfl, hb4⟩
    have k4 := k3.trans (hb4.mono k3.size)
    clear hb4
    go_wp2
    go_ret
    exact ⟨rfl, k4⟩
  · obtain ⟨n, rfl⟩ : ∃ n : Nat, v = (n : Int) := ⟨v.toNat, by omega⟩
    have hn : n ≤ 35184372088832 := by omega
    have H1 := Lib.hid (fun W (hW : Below w.heap.size w W) => text_yes n W (hL.below hW).1 (hL.below hW).2.1 hn)
    have H2 := Lib.hid (fun W => reftext_yes n W hn)
    have H3 := Lib.hid (fun W (hW : Below w.heap.size w W) => parse_int (textF n) n _ rfl (span_text n hn) W (hL.below hW))
    clear hL h
    generalize (⟨(textF n).toArray⟩ : ByteArray) = E at *
    go_enter Tryd.func4, Tryd.ntmps4
    go_wp2_with fail
    refine (HW.out).mono ?_
    rintro e w1 ⟨rfl, k1⟩
    go_wp2_with fail
    refine (H1.out w1 k1).mono ?_
    rintro e w2 ⟨rfl, hb2⟩
    have k2 := k1.trans (hb2.mono k1.size)
    clear hb2
    go_wp2_with fail
    refine (H2.out w2).mono ?_
    rintro e w3 ⟨rfl, hb3⟩
    have k3 := k2.trans (hb3.mono k2.size)
    clear hb3
    go_wp2_with fail
    refine (H3.out w3 k3).mono ?_
    rintro e w4 ⟨rfl, hb4⟩
    have k4 := k3.trans (hb4.mono k3.size)
    clear hb4
    go_wp2
    go_ret
    exact ⟨rfl, k4⟩
end Go.Proofs.YtmpodmfbieiadaaDoor

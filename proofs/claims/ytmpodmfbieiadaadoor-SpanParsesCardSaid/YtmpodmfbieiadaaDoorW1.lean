import Derived.Test.YtmpodmfbieiadaaDoorE3
import Derived.Test.YtmpodmfbieiadaaDoorS1
import Derived.Lib.IndexBytes
namespace Go.Proofs.YtmpodmfbieiadaaDoor
open Go.RowKit Sp
set_option linter.unusedVariables false

/-! plain facts on a text's digits -/
def numTo (l : List UInt8) (k : Nat) : Nat := (l.take k).foldl stepN 0
def AllD (l : List UInt8) (k : Nat) : Prop := ∀ i (hi : i < l.length), i < k → isD l[i] = true
theorem numTo_zero (l : List UInt8) : numTo l 0 = 0 := rfl
theorem allD_zero (l : List UInt8) : AllD l 0 := fun _ _ h => absurd h (Nat.not_lt_zero _)
theorem stepN_le (n : Nat) (b : UInt8) : stepN n b ≤ 35184372088833 := by unfold stepN; omega
theorem numTo_succ (l : List UInt8) (k : Nat) (h : k < l.length) : numTo l (k + 1) = stepN (numTo l k) l[k] := by
  unfold numTo
  rw [List.take_succ_eq_append_getElem h, List.foldl_append]
  rfl
theorem numTo_le (l : List UInt8) (k : Nat) : numTo l k ≤ 35184372088833 := by
  induction k with
  | zero => simp [numTo]
  | succ k ih =>
    by_cases h : k < l.length
    · rw [numTo_succ l k h]; exact stepN_le _ _
    · unfold numTo at *
      rw [List.take_of_length_le (by omega)] at *
      exact ih
theorem allD_succ {l : List UInt8} {k : Nat} (h : AllD l k) (hk : k < l.length) (hd : isD l[k] = true) : AllD l (k + 1) := by
  intro i hi hik
  by_cases e : i = k
  · subst e; exact hd
  · exact h i hi (by omega)
theorem isD_iff (b : UInt8) : isD b = true ↔ 48 ≤ b.toNat ∧ b.toNat ≤ 57 := by simp [isD]
theorem num_end {l : List UInt8} {k : Nat} (hk : k ≤ l.length) (h : AllD l k) (h' : ∀ (hi : k < l.length), isD l[k] = false) : numTo l k = numN l ∧ l.drop k = rest l := by
  obtain ⟨h1, h2⟩ := takeWhile_cut hk h h'
  unfold numTo numN digs rest
  rw [h1, h2]
  exact ⟨rfl, rfl⟩
theorem data_at (s : ByteArray) (k : Nat) (h : k < s.size) (h' : k < s.data.toList.length) : s.data.toList[k] = s[k] := by
  have := Lib.data_getElem? s k h
  rw [List.getElem?_eq_getElem h'] at this
  exact Option.some.inj this
theorem str_ext {a : ByteArray} {l : List UInt8} (h : a.data.toList = l) : a = ⟨l.toArray⟩ := by
  subst h; rfl

theorem step_int (n : Nat) (b : UInt8) (h : (48 : Int) ≤ (b.toNat : Int)) : (if (35184372088833 : Int) < 10 * (n : Int) + ((b.toNat : Int) - 48) then (35184372088833 : Int) else 10 * (n : Int) + ((b.toNat : Int) - 48)) = ((stepN n b : Nat) : Int) := by
  unfold stepN
  split <;> omega
set_option maxHeartbeats 1000000 in
theorem number_any (s : ByteArray) (w : World) (hs : s.size ≤ 65536) :
    Calls Tryd.prog 12 #[.string s] w fun e w' => e = .returned (.tuple #[.int .i64 (numN s.data.toList), .string ⟨(rest s.data.toList).toArray⟩]) ∧ ∃ q, w' = w.drewN q := by
  have hlen := Lib.size_eq s
  have HLEN := Lib.hid hlen
  clear hlen
  go_enter Tryd.func12, Tryd.ntmps12
  go_wp2
  go_step3
  go_wp2
  go_step3
  go_wp2
  go_loop [4, 5] (fun n i => ∃ k : Nat, k ≤ s.size ∧ i = .int .i64 k ∧ n = .int .i64 (numTo s.data.toList k) ∧ Hid (AllD s.data.toList k)) (fun _ i => s.size - (intOf i).toNat)
  case atStart => exact ⟨0, Nat.zero_le _, rfl, by rw [numTo_zero]; rfl, allD_zero _⟩
  case round =>
    obtain ⟨k, hk, rfl, rfl, HA⟩ := hrel
    have hle := numTo_le s.data.toList k
    by_cases hlt : k < s.size
    · have hkl : k < s.data.toList.length := by rw [← HLEN.out]; exact hlt
      have hx := data_at s k hlt hkl
      have HSU := Lib.hid (numTo_succ s.data.toList k hkl)
      have HAS := Lib.hid (@allD_succ s.data.toList k HA.out hkl)
      have HEND := Lib.hid (@num_end s.data.toList k (by omega) HA.out)
      have HDR := Lib.hid (fun (h : numTo s.data.toList k = numN s.data.toList ∧ s.data.toList.drop k = rest s.data.toList) => str_ext ((Lib.extract_to_end s k).trans h.2))
      rw [hx] at HSU HAS
      have HX := Lib.hid hx
      clear hx
      cases hd : isD s[k] with
      | true =>
        have hd' := (isD_iff _).1 hd
        have b1 : (48 : Int) ≤ (s[k].toNat : Int) := by omega
        have b2 : (s[k].toNat : Int) ≤ 57 := by omega
        have d1 : decide ((s[k].toNat : Int) < 48) = false := by simp; omega
        have d2 : decide ((57 : Int) < (s[k].toNat : Int)) = false := by simp; omega
        have HS : Hid (AllD s.data.toList (k + 1)) := HAS.out hd
        clear hd hd'
        generalize numTo s.data.toList k = n at *
        go_wp2
        go_round
        case rel => exact ⟨k + 1, by omega, by go_num, by rw [HSU.out]; exact congrArg _ (step_int n s[k] b1), HS⟩
        case measure => simp [intOf]; omega
      | false =>
        have HE := Lib.hid (HEND.out (fun _ => by rw [HX.out]; exact hd))
        have hd' : ¬ (48 ≤ s[k].toNat ∧ s[k].toNat ≤ 57) := fun h => by rw [(isD_iff _).2 h] at hd; cases hd
        have HEX := Lib.hid (HDR.out HE.out)
        have HE1 := Lib.hid HE.out.1
        have hb := s[k].toNat_lt
        clear hd hle
        generalize numTo s.data.toList k = n at *
        by_cases h1 : s[k].toNat < 48
        · have d1 : decide ((s[k].toNat : Int) < 48) = true := by simp; omega
          have d1' : (s[k].toNat : Int) < 48 := by omega
          clear hd'
          go_wp2
          go_quiet (fail)
          go_wp2
          try rw [Exit.noGoto_ret]
          go_ret2
          exact ⟨by rw [HE1.out, HEX.out]; rfl, _, rfl⟩
        · have d1 : decide ((s[k].toNat : Int) < 48) = false := by simp; omega
          have d2 : decide ((57 : Int) < (s[k].toNat : Int)) = true := by simp; omega
          have d2' : (57 : Int) < (s[k].toNat : Int) := by omega
          clear hd'
          go_wp2
          go_quiet (fail)
          go_wp2
          try rw [Exit.noGoto_ret]
          go_ret2
          exact ⟨by rw [HE1.out, HEX.out]; rfl, _, rfl⟩
    · have hke : k = s.size := by omega
      have HE := Lib.hid (@num_end s.data.toList k (by rw [← HLEN.out]; omega) HA.out (fun h => by rw [← HLEN.out] at h; omega))
      have HEX := Lib.hid (str_ext ((Lib.extract_to_end s k).trans HE.out.2))
      have HE1 := Lib.hid HE.out.1
      have d : decide (k < s.size) = false := by simpa using hlt
      clear hke hle
      generalize numTo s.data.toList k = n at *
      go_wp2
      go_quiet (fail)
      go_wp2
      try rw [Exit.noGoto_ret]
      go_ret2
      exact ⟨by rw [HE1.out, HEX.out]; rfl, _, rfl⟩
end Go.Proofs.YtmpodmfbieiadaaDoor

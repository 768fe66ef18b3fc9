import Derived.Test.YtaggmakaceafgaaGreatDoorD2
import Derived.Test.YtaggmakaceafgaaGreatDoorB9
namespace Go.Proofs.YtaggmakaceafgaaGreatDoor
open Go.RowKit Ieee
set_option linter.unusedVariables false

/-! value.Parse, as a function of whether a text is a number's -/
def Alk (b : UInt8) : Prop := (48 ≤ b.toNat ∧ b.toNat ≤ 57) ∨ b.toNat = 46 ∨ b.toNat = 43 ∨ b.toNat = 45 ∨ b.toNat = 101 ∨ b.toNat = 69
theorem take_mem {g : List UInt8} {s : ByteArray} {k : Nat} (h : takeB g s k = true) : ∃ hk : k < s.size, s[k] ∈ g := by
  unfold takeB at h
  split at h
  · rename_i hk
    refine ⟨hk, ?_⟩
    rw [← Lib.contains_iff_indexByte] at h
    simpa using h
  · cases h
theorem digs_all (s : ByteArray) : ∀ (f k i : Nat), s.size - k ≤ f → k ≤ i → i < k + digs s k → takeB [48, 49, 50, 51, 52, 53, 54, 55, 56, 57] s i = true
  | f, k, i, hf, h1, h2 => by
    cases ht : takeB [48, 49, 50, 51, 52, 53, 54, 55, 56, 57] s k with
    | false => rw [digs_no ht] at h2; omega
    | true =>
      by_cases e : i = k
      · subst e; exact ht
      · rw [digs_yes ht] at h2
        have hl := take_lt ht
        match f with
        | 0 => omega
        | f + 1 => exact digs_all s f (k + 1) i (by omega) (by omega) (by omega)
def AlTo (s : ByteArray) (n : Nat) : Prop := ∀ i (h : i < s.size), i < n → Alk s[i]
theorem alto_take {s : ByteArray} {k : Nat} {g : List UInt8} (h : AlTo s k) (hg : ∀ b ∈ g, Alk b) : AlTo s (nxt (takeB g s k) k) := by
  intro i hi hk
  cases ht : takeB g s k with
  | false => rw [ht] at hk; exact h i hi hk
  | true =>
    rw [ht] at hk
    have hk : i < k + 1 := hk
    by_cases e : i = k
    · subst e
      obtain ⟨_, hm⟩ := take_mem ht
      exact hg _ hm
    · exact h i hi (by omega)
theorem al_tens : ∀ b ∈ ([48, 49, 50, 51, 52, 53, 54, 55, 56, 57] : List UInt8), Alk b := by
  intro b hb
  have : ∀ b ∈ ([48, 49, 50, 51, 52, 53, 54, 55, 56, 57] : List UInt8), 48 ≤ b.toNat ∧ b.toNat ≤ 57 := by decide
  exact .inl (this b hb)
theorem alto_digs {s : ByteArray} {k : Nat} (h : AlTo s k) : AlTo s (k + digs s k) := by
  intro i hi hk
  by_cases e : i < k
  · exact h i hi e
  · obtain ⟨_, hm⟩ := take_mem (digs_all s _ k i (Nat.le_refl _) (by omega) hk)
    exact al_tens _ hm
theorem alto_size {s : ByteArray} {n : Nat} (h : AlTo s n) (hn : n = s.size) : Al s := by
  subst hn; exact fun i hi => h i hi hi
theorem endB_al {s : ByteArray} {c : Nat} (h : AlTo s c) (he : endB s c = true) : Al s := by
  unfold endB at he
  split at he
  · exact alto_size h (Int.ofNat.inj (beq_iff_eq.1 he))
  · rename_i ht
    split at he
    · cases he
    · have h1 : AlTo s (c + 1) := by
        have := alto_take (g := [101, 69]) h (by intro b hb; simp at hb; rcases hb with rfl | rfl <;> (unfold Alk; decide))
        rw [ht] at this; exact this
      have h2 := alto_take (g := [43, 45]) h1 (by intro b hb; simp at hb; rcases hb with rfl | rfl <;> (unfold Alk; decide))
      exact alto_size (alto_digs h2) (by
        have he := beq_iff_eq.1 he
        exact Int.ofNat.inj he)
theorem decB_al {s : ByteArray} (h : decB s = true) : Al s := by
  have h0 : AlTo s 0 := fun i _ hi => absurd hi (Nat.not_lt_zero _)
  have h1 := alto_digs (alto_take (g := [45]) h0 (by intro b hb; simp at hb; subst hb; unfold Alk; decide))
  unfold decB at h
  split at h
  · split at h
    · cases h
    · exact endB_al h1 h
  · rename_i ht
    split at h
    · cases h
    · have h2 := alto_take (g := [46]) h1 (by intro b hb; simp at hb; subst hb; unfold Alk; decide)
      rw [ht] at h2
      exact endB_al (alto_digs h2) h
/-- is a text a number's? -/
def numT (s : ByteArray) : Bool := decide (s.size ≤ 200) && decB s
theorem bits64_at (b : Nat) (w : World) : (callFunc 58 #[.float .f64 b]).run Tryz.prog w = .ok (.value (.int .u64 (b : Int))) w := by kernel_rfl
/-- no text of these is one of the four words -/
structure NoWord (s : ByteArray) : Prop where
  a : (s.toList == [78, 97, 78]) = false
  b : (s.toList == [73, 110, 102]) = false
  c : (s.toList == [43, 73, 110, 102]) = false
  d : (s.toList == [45, 73, 110, 102]) = false
section
variable {Q qo qc P off c F fo fc : Nat}
def numEr : Bool → Value
  | true => .nilIface
  | false => .iface 38 (.int .i64 13)
def ValP (s : ByteArray) (w : World) (e : Ending) (w' : World) : Prop :=
  (∃ v : Int, e = .returned (.tuple #[.int .u64 v, numEr (numT s)])) ∧ Below w.heap.size w w'
set_option maxRecDepth 100000 in
set_option maxHeartbeats 1000000 in
theorem value_any (s : ByteArray) (w : World) (hT : Tabs Q qo qc P off c F fo fc w) (hw : NoWord s) (hs : s.size ≤ 65536) :
    Calls Tryz.prog 39 #[.string s] w (ValP s w) := by
  obtain ⟨n1, n2, n3, n4⟩ := hw
  have hb := fun b w => bits64_at b w
  by_cases h200 : s.size ≤ 200
  · have d : decide ((200 : Int) < (s.size : Int)) = false := decide_eq_false (by omega)
    have HD := Lib.hid (dec_any s (by omega))
    have h400 : s.size ≤ 400 := by omega
    cases hd : decB s with
    | true =>
      have HA := Lib.hid (decB_al hd)
      have HT := Lib.hid hT
      have HN : Hid (numEr (numT s) = .nilIface) := by show _ = _; unfold numT; rw [hd, decide_eq_true h200]; rfl
      rw [hd] at HD
      clear hd hT h200
      go_enter Tryz.func39, Tryz.ntmps39
      go_wp2_with fail
      refine (HD.out _).mono ?_
      rintro e w1 ⟨rfl, hb1⟩
      have HB1 := Lib.hid hb1
      have HF := Lib.hid (float_any s w1 (HT.out.below hb1) h400 HA.out)
      clear hb1
      go_wp2_with fail
      refine (HF.out).mono ?_
      rintro e w2 ⟨⟨b, er, rfl⟩, hb2⟩
      have HB2 := Lib.hid (HB1.out.trans (hb2.mono HB1.out.size))
      clear hb2
      go_wp2_with fail
      go_ret2
      exact ⟨⟨(b : Int), by rw [HN.out]; rfl⟩, HB2.out⟩
    | false =>
      have HN : Hid (numEr (numT s) = .iface 38 (.int .i64 13)) := by show _ = _; unfold numT; rw [hd, Bool.and_false]; rfl
      rw [hd] at HD
      clear hd hT h200
      go_enter Tryz.func39, Tryz.ntmps39
      go_wp2_with fail
      refine (HD.out _).mono ?_
      rintro e w1 ⟨rfl, hb1⟩
      have HB1 := Lib.hid hb1
      clear hb1
      go_wp2_with fail
      go_ret2
      exact ⟨⟨0, by rw [HN.out]; rfl⟩, HB1.out⟩
  · have d : decide ((200 : Int) < (s.size : Int)) = true := decide_eq_true (by omega)
    have HN : Hid (numEr (numT s) = .iface 38 (.int .i64 13)) := by show _ = _; unfold numT; rw [decide_eq_false h200]; rfl
    clear hT h200
    go_enter Tryz.func39, Tryz.ntmps39
    go_wp2_with fail
    go_ret2
    exact ⟨⟨0, by rw [HN.out]; rfl⟩, Below.refl _ _⟩
end
end Go.Proofs.YtaggmakaceafgaaGreatDoor

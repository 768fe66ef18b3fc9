import Derived.Test.YtiabnacgfoaihaaDoorS9
import Derived.Test.YtiabnacgfoaihaaDoorP6
namespace Go.Proofs.YtiabnacgfoaihaaDoor
open Go.RowKit Lb
set_option linter.unusedVariables false

/-! looks at a store -/
theorem many_next {S : List Ser} {k : Nat} (h : k < S.length) : many (S.take (k + 1)) = many (S.take k) + (S.getD k s0).2.length := by
  rw [List.take_succ_eq_append_getElem h, getD_at h]
  unfold many
  rw [List.map_append, List.sum_append]
  simp only [List.map_cons, List.map_nil, List.sum_cons, List.sum_nil, Nat.add_zero]
theorem many_le (S : List Ser) (k : Nat) : many (S.take k) ≤ many S := by
  have e : many (S.take k ++ S.drop k) = many (S.take k) + many (S.drop k) := by unfold many; rw [List.map_append, List.sum_append]
  rw [List.take_append_drop] at e
  omega
set_option maxHeartbeats 1000000 in
theorem many_any (A : Option Addr) (c : Nat) (S : List Ser) (w : World) (hS : Srs w A S) (hl : S.length ≤ 65536) (hm : many S ≤ 4294967296) :
    Calls Tryd.prog 18 #[.slice A S.length c] w fun e w' => e = .returned (.int .i64 (many S : Nat)) ∧ Below w.heap.size w w' := by
  obtain ⟨z, hz⟩ : ∃ z, many S = z := ⟨_, rfl⟩
  have HZ := Lib.hid hz
  rw [hz] at hm ⊢
  have HS := Lib.hid hS
  have HML := Lib.hid (many_le S)
  have HMN := Lib.hid (fun k (h : k < S.length) => many_next h)
  clear hz hS
  generalize hn : S.length = n at *
  have HN := Lib.hid hn
  clear hn
  go_enter Tryd.func18, Tryd.ntmps18
  go_wp2
  go_loopw [3, 8] (fun s3 i wr => ∃ k m : Nat, k ≤ n ∧ i = .int .i64 k ∧ s3 = .int .i64 m ∧ m ≤ z ∧ Hid (many (S.take k) = m) ∧ Hid (Below w.heap.size w wr)) (fun _ i _ => n - (intOf i).toNat)
  case atStart => exact ⟨0, 0, Nat.zero_le _, rfl, rfl, Nat.zero_le _, by exact rfl, Below.refl _ _⟩
  case round =>
    obtain ⟨k, m, hk, rfl, rfl, hmz, HM, HB⟩ := hrel
    by_cases hlt : k < n
    · have hkl : k < S.length := by rw [HN.out]; exact hlt
      obtain ⟨b, off, LA, lc, PA, pc, rfl, hlb, hx1, hy1, _⟩ := (HS.out.below HB.out).at_ hkl
      have HM2 := Lib.hid (HMN.out k (by exact hlt) : many (S.take (k + 1)) = many (S.take k) + (S.getD k s0).2.length)
      rw [HM.out] at HM2
      have hle := HML.out (k + 1)
      rw [HM2.out, HZ.out] at hle
      have hsz := HB.out.size
      have hbr : b < wr.heap.size := hlb
      generalize (S.getD k s0).1.length = n1 at *
      generalize (S.getD k s0).2.length = n2 at *
      go_wp2
      go_roundw
      case rel => exact ⟨k + 1, m + n2, by omega, by go_num, by go_num, by omega, HM2, HB.out.alloc hsz _⟩
      case measure => simp [intOf]; omega
    · have hkn : k = n := by omega
      subst hkn
      have hf : m = z := by rw [← HM.out, ← HZ.out, ← HN.out, List.take_length]
      subst hf
      go_wp2
      go_ret
      exact ⟨rfl, HB.out⟩

def SomeB (Q : Prop) (w : World) (e : Ending) (w' : World) : Prop := ∃ r : Bool, e = .returned (.bool r) ∧ (r = true → Q) ∧ w = w'
set_option maxHeartbeats 1000000 in
theorem tame_any (A : Option Addr) (c : Nat) (l : List Lab) (w : World) (hL : Lbs w A l) (hl : l.length ≤ 9223372036854775807) :
    Calls Tryd.prog 21 #[.slice A l.length c] w (SomeB (shortB l = true) w) := by
  have HL := Lib.hid hL
  have H := Lib.hid (short_any A c l w hL hl)
  clear hL
  obtain ⟨r, hr⟩ : ∃ r, shortB l = r := ⟨_, rfl⟩
  rw [hr] at H ⊢
  clear hr
  generalize hn : l.length = n at *
  have HN := Lib.hid hn
  clear hn
  go_enter Tryd.func21, Tryd.ntmps21
  go_wp2
  go_loop [3] (fun i => ∃ k : Nat, k ≤ n ∧ i = .int .i64 k) (fun i => n - (intOf i).toNat)
  case atStart => exact ⟨0, Nat.zero_le _, rfl⟩
  case round =>
    obtain ⟨k, hk, rfl⟩ := hrel
    by_cases hlt : k < n
    · have hkl : k < l.length := by rw [HN.out]; exact hlt
      obtain ⟨b0, off, rfl, hb0, hc⟩ := HL.out (by omega)
      have hy := (hc k hkl).2
      clear hc
      generalize (l.getD k e0).2 = y at *
      by_cases h1 : 60 < y.size
      · have h1' : (60 : Int) < (y.size : Int) := by omega
        go_wp2
        go_ret
        exact ⟨false, rfl, (fun h => by cases h), rfl⟩
      · have d1 : decide (60 < y.size) = false := by simpa using h1
        go_wp2
        go_round
        case rel => exact ⟨k + 1, by omega, by go_num⟩
        case measure => simp [intOf]; omega
    · go_wp2_with fail
      refine (H.out).mono ?_
      rintro e w1 ⟨rfl, rfl⟩
      go_wp2
      go_ret
      exact ⟨r, rfl, fun h => h, rfl⟩

/-- a store that isn't too much for a look -/
def Low (S : List Ser) : Prop := S.length + many S ≤ 400 ∧ ∀ i, i < S.length → shortB (S.getD i s0).1 = true
set_option maxHeartbeats 1000000 in
theorem sshort_any (A : Option Addr) (c : Nat) (S : List Ser) (w : World) (hS : Srs w A S) (hl : S.length ≤ 9223372036854775807) (hb : ∀ i, i < S.length → (S.getD i s0).1.length ≤ 9223372036854775807 ∧ (S.getD i s0).2.length ≤ 140737488355328) :
    Calls Tryd.prog 7 #[.slice A S.length c] w (SomeB (Low S) w) := by
  have HS := Lib.hid hS
  have HBd := Lib.hid hb
  have HMN := Lib.hid (fun k (h : k < S.length) => many_next h)
  have HQ : Hid (∀ N : Nat, N = S.length + many (S.take S.length) → (∀ i, i < S.length → shortB (S.getD i s0).1 = true) → N ≤ 400 → Low S) := by
    intro N h1 h2 h3
    rw [List.take_length] at h1
    exact ⟨by omega, h2⟩
  generalize Low S = Q at *
  clear hS hb
  generalize hn : S.length = n at *
  have HN := Lib.hid hn
  clear hn
  go_enter Tryd.func7, Tryd.ntmps7
  go_wp2
  go_loop [3, 4] (fun s3 i => ∃ k N : Nat, k ≤ n ∧ i = .int .i64 k ∧ s3 = .int .i64 N ∧ N ≤ 9223372036854775807 ∧ Hid (N = n + many (S.take k)) ∧ Hid (∀ i, i < k → shortB (S.getD i s0).1 = true)) (fun _ i => n - (intOf i).toNat)
  case atStart => exact ⟨0, n, Nat.zero_le _, rfl, rfl, hl, by exact rfl, fun i hi => absurd hi (Nat.not_lt_zero _)⟩
  case round =>
    obtain ⟨k, N, hk, rfl, rfl, hNm, HN2, HSh⟩ := hrel
    by_cases hlt : k < n
    · by_cases hN4 : N ≤ 400
      · have hkl : k < S.length := by rw [HN.out]; exact hlt
        obtain ⟨b, off, LA, lc, PA, pc, rfl, hlb, hx1, hy1, hL1, _⟩ := HS.out.at_ hkl
        have hbd := HBd.out k hlt
        have H := Lib.hid (tame_any LA lc (S.getD k s0).1 w hL1 hbd.1)
        have hq := hbd.2
        have HM2 : Hid (N + (S.getD k s0).2.length = n + many (S.take (k + 1))) := by
          have := HMN.out k hlt
          have h2 := HN2.out
          show N + (S.getD k s0).2.length = n + many (S.take (k + 1))
          omega
        have d4 : decide (N ≤ 400) = true := by simpa using hN4
        have d6 : decide ((N : Int) ≤ 400) = true := by simp; omega
        have d5 : decide (k < n) = true := by simpa using hlt
        clear hL1 hbd
        obtain ⟨q, hqq⟩ : ∃ q, shortB (S.getD k s0).1 = q := ⟨_, rfl⟩
        have HQ2 := Lib.hid hqq
        rw [hqq] at H
        clear hqq
        generalize (S.getD k s0).1.length = n1 at *
        generalize (S.getD k s0).2.length = n2 at *
        go_wp2_with fail
        refine (H.out).mono ?_
        rintro e w1 ⟨r, rfl, hr, rfl⟩
        have HR := Lib.hid hr
        clear hr
        cases r with
        | false =>
          go_wp2
          go_ret
          exact ⟨false, rfl, (fun h => by cases h), rfl⟩
        | true =>
          have HS2 : Hid (∀ i, i < k + 1 → shortB (S.getD i s0).1 = true) := by
            intro i hi
            rcases Nat.lt_succ_iff_lt_or_eq.1 hi with h2 | rfl
            · exact HSh.out i h2
            · rw [HQ2.out]; exact HR.out rfl
          go_wp2
          go_round
          case rel => exact ⟨k + 1, N + n2, by omega, by go_num, by go_num, by omega, HM2, HS2⟩
          case measure => simp [intOf]; omega
      · have d4 : decide (N ≤ 400) = false := by simpa using hN4
        have d6 : decide ((N : Int) ≤ 400) = false := by simp; omega
        have d5 : decide (k < n) = true := by simpa using hlt
        go_wp2
        go_ret
        exact ⟨false, rfl, (fun h => by cases h), rfl⟩
    · have hkn : k = n := by omega
      subst hkn
      have HE : Hid (N ≤ 400 → Q) := HQ.out N HN2.out HSh.out
      by_cases hN4 : N ≤ 400
      · have d4 : decide (N ≤ 400) = true := by simpa using hN4
        have d6 : decide ((N : Int) ≤ 400) = true := by simp; omega
        go_wp2
        go_ret
        exact ⟨true, rfl, fun _ => HE.out hN4, rfl⟩
      · have d4 : decide (N ≤ 400) = false := by simpa using hN4
        have d6 : decide ((N : Int) ≤ 400) = false := by simp; omega
        go_wp2
        go_ret
        exact ⟨false, rfl, (fun h => by cases h), rfl⟩

/-! the same points, the same series -/
set_option maxHeartbeats 1000000 in
theorem points_same (A B : Option Addr) (ca cb : Nat) (l : List Pt) (w : World) (ha : Pts w A l) (hb : Pts w B l) (hl : l.length ≤ 65536) :
    Calls Tryd.prog 32 #[.slice A l.length ca, .slice B l.length cb] w fun e w' => e = .returned (.bool true) ∧ ∃ n, w' = w.drewN n := by
  have HA := Lib.hid ha
  have HB := Lib.hid hb
  clear ha hb
  generalize hn : l.length = n at *
  have HL := Lib.hid hn
  clear hn
  have q : ((n : Int) != (n : Int)) = false := by simp
  go_enter Tryd.func32, Tryd.ntmps32
  go_wp2
  go_loopw [5] (fun i wr => ∃ k m : Nat, k ≤ n ∧ i = .int .i64 k ∧ wr = w.drewN m) (fun i _ => n - (intOf i).toNat)
  case atStart => exact ⟨0, 0, Nat.zero_le _, rfl, rfl⟩
  case round =>
    obtain ⟨k, m, hk, rfl, rfl⟩ := hrel
    by_cases hlt : k < n
    · have hkl : k < l.length := by rw [HL.out]; exact hlt
      obtain ⟨b0, off, rfl, hb0, hc⟩ := HA.out (by omega)
      obtain ⟨b1, off1, rfl, hb1, hc'⟩ := HB.out (by omega)
      have h1 := (hc k hkl).1
      have h2 := (hc k hkl).2.1
      have h3 := (hc' k hkl).1
      have h4 := (hc' k hkl).2.1
      clear hc hc'
      generalize (l.getD k p0).1 = x at *
      generalize (l.getD k p0).2 = y at *
      go_wp2
      go_quiet (fail)
      go_wp2
      go_roundw
      case rel => exact ⟨k + 1, _, by omega, by go_num, rfl⟩
      case measure => simp [intOf]; omega
    · go_wp2
      go_ret
      exact ⟨rfl, _, rfl⟩
theorem refcmp_q (A B : Option Addr) (ca cb : Nat) (a : List Lab) (w : World) (hA : Lbs w A a) (hB : Lbs w B a) (ha : a.length ≤ 65536) :
    Calls Tryd.prog 20 #[.slice A a.length ca, .slice B a.length cb] w fun e w' => e = .returned (.int .i64 0) ∧ ∃ q, w' = w.drewN q :=
  refcmp_same A B ca cb a w hA hB ha
/-- a call that draws, behind draws -/
theorem quiet_on {f : FuncId} {args : Array Value} {w : World} {a n : Nat} {v : Value} (h : ∀ j, Calls Tryd.prog f args (w.drewN j) fun e w' => e = .returned v ∧ ∃ q, w' = (w.drewN j).drewN q) :
    Calls Tryd.prog f args (w.drewN (a + n)) fun e w' => e = .returned v ∧ ∃ q, w' = w.drewN (a + q) := by
  refine (h (a + n)).mono ?_
  rintro e w' ⟨he, q, rfl⟩
  exact ⟨he, n + q, by rw [World.drewN_drewN]; congr 1; omega⟩
set_option maxRecDepth 100000 in
set_option maxHeartbeats 2000000 in
theorem same_any (A B : Option Addr) (ca cb : Nat) (S : List Ser) (w : World) (ha : Srs w A S) (hb : Srs w B S) (hF : Few S) :
    Calls Tryd.prog 15 #[.slice A S.length ca, .slice B S.length cb] w fun e w' => e = .returned (.bool true) ∧ ∃ n, w' = w.drewN n := by
  have HA := Lib.hid ha
  have HB := Lib.hid hb
  have HF := Lib.hid hF.2
  have hl := hF.1
  clear ha hb hF
  generalize hn : S.length = n at *
  have HL := Lib.hid hn
  clear hn
  have q : ((n : Int) != (n : Int)) = false := by simp
  go_enter Tryd.func15, Tryd.ntmps15
  go_wp2
  go_loopw [5] (fun i wr => ∃ k m : Nat, k ≤ n ∧ i = .int .i64 k ∧ wr = w.drewN m) (fun i _ => n - (intOf i).toNat)
  case atStart => exact ⟨0, 0, Nat.zero_le _, rfl, rfl⟩
  case round =>
    obtain ⟨k, m, hk, rfl, rfl⟩ := hrel
    by_cases hlt : k < n
    · have hkl : k < S.length := by rw [HL.out]; exact hlt
      obtain ⟨b0, off, LA, lc, PA, pc, rfl, hb0, h1, h2, hLA, _, hPA, _⟩ := HA.out.at_ hkl
      obtain ⟨b1, off1, LB, lc1, PB, pc1, rfl, hb1, h3, h4, hLB, _, hPB, _⟩ := HB.out.at_ hkl
      have H1 := Lib.hid (fun j => refcmp_q LA LB lc lc1 (S.getD k s0).1 (w.drewN j) hLA hLB (HF.out k hlt).1)
      have H2 := Lib.hid (fun j => points_same PA PB pc pc1 (S.getD k s0).2 (w.drewN j) hPA hPB (HF.out k hlt).2)
      clear hLA hLB hPA hPB
      generalize (S.getD k s0).1.length = n1 at *
      generalize (S.getD k s0).2.length = n2 at *
      go_wp2_with fail
      go_quiet (first | (go_at_call 20; exact quiet_on H1.out) | (go_at_call 32; exact quiet_on H2.out))
      go_wp2
      go_roundw
      case rel => exact ⟨k + 1, _, by omega, by go_num, rfl⟩
      case measure => simp [intOf]; omega
    · go_wp2
      go_ret
      exact ⟨rfl, _, rfl⟩
end Go.Proofs.YtiabnacgfoaihaaDoor

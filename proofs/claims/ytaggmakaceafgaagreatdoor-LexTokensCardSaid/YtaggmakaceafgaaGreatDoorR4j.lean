/- Lemmas. No condition. -/
import Derived.Test.YtaggmakaceafgaaGreatDoorRa
import Derived.Test.YtaggmakaceafgaaGreatDoorT4
namespace Go.Proofs.YtaggmakaceafgaaGreatDoor
open Go.RowKit Lx
set_option linter.unusedVariables false

/-! the document's numbers in a query -/
section
variable {Q qo qc P off c F fo fc : Nat}
def RefValP (s : ByteArray) (w : World) (e : Ending) (w' : World) : Prop :=
  (∃ v : Int, e = .returned (.tuple #[.int .u64 v, .bool (numT s)])) ∧ Below w.heap.size w w'
theorem refbits_any (b : Nat) (w : World) : Calls Tryz.prog 49 #[.float .f64 b] w fun e w' => e = .returned (.int .u64 (b : Int)) ∧ w = w' := by
  have hb := fun b w => bits64_at b w
  go_enter Tryz.func49, Tryz.ntmps49
  go_wp2_with fail
  go_ret
  exact ⟨rfl, rfl⟩
set_option maxRecDepth 100000 in
theorem refvalue_any (s : ByteArray) (w : World) (hT : Tabs Q qo qc P off c F fo fc w) (hw : NoWord s) (hs : s.size ≤ 65536) :
    Calls Tryz.prog 26 #[.string s] w (RefValP s w) := by
  obtain ⟨n1, n2, n3, n4⟩ := hw
  have HBI := Lib.hid refbits_any
  by_cases h200 : s.size ≤ 200
  · have d : decide ((200 : Int) < (s.size : Int)) = false := decide_eq_false (by omega)
    have HD := Lib.hid (plain04_any s w hs)
    have h400 : s.size ≤ 400 := by omega
    cases hd : decB s with
    | true =>
      have HA := Lib.hid (decB_al hd)
      have HF := Lib.hid (float_any s w hT h400 HA.out)
      have HN : Hid (numT s = true) := by show _ = _; unfold numT; rw [hd, decide_eq_true h200]; rfl
      rw [hd] at HD
      clear hd hT h200
      go_enter Tryz.func26, Tryz.ntmps26
      go_wp2_with fail
      refine (HD.out).mono ?_
      rintro e w1 ⟨rfl, rfl⟩
      go_wp2_with fail
      refine (HF.out).mono ?_
      rintro e w2 ⟨⟨b, er, rfl⟩, hb2⟩
      have HB2 := Lib.hid hb2
      clear hb2
      go_wp2_with fail
      refine (HBI.out _ _).mono ?_
      rintro e w3 ⟨rfl, rfl⟩
      go_wp2_with fail
      go_ret2
      exact ⟨⟨(b : Int), by rw [HN.out]; rfl⟩, HB2.out⟩
    | false =>
      have HN : Hid (numT s = false) := by show _ = _; unfold numT; rw [hd, Bool.and_false]
      rw [hd] at HD
      clear hd hT h200
      go_enter Tryz.func26, Tryz.ntmps26
      go_wp2_with fail
      refine (HD.out).mono ?_
      rintro e w1 ⟨rfl, rfl⟩
      go_wp2_with fail
      go_ret2
      exact ⟨⟨0, by rw [HN.out]; rfl⟩, Below.refl _ _⟩
  · have d : decide ((200 : Int) < (s.size : Int)) = true := decide_eq_true (by omega)
    have HN : Hid (numT s = false) := by show _ = _; unfold numT; rw [decide_eq_false h200]; rfl
    clear hT h200
    go_enter Tryz.func26, Tryz.ntmps26
    go_wp2_with fail
    go_ret2
    exact ⟨⟨0, by rw [HN.out]; rfl⟩, Below.refl _ _⟩
end
theorem kindN_l {c : UInt8} (h : Lx.isL c = true) : kindN c = 97 := by unfold kindN; rw [if_pos h]
theorem isD_notL {c : UInt8} (h : Lx.isD c = true) : Lx.isL c = false := by
  have : ∀ n : Nat, n < 256 → Lx.isD (UInt8.ofNat n) = true → Lx.isL (UInt8.ofNat n) = false := by decide +kernel
  have h2 := this c.toNat c.toNat_lt
  rw [UInt8.ofNat_toNat] at h2
  exact h2 h
theorem kindN_d {c : UInt8} (h : Lx.isD c = true) : kindN c = 48 := by unfold kindN; rw [if_neg (by rw [isD_notL h]; decide), if_pos h]
theorem kindN_o {c : UInt8} (h1 : Lx.isL c = false) (h2 : Lx.isD c = false) : (kindN c == 97) = false ∧ (kindN c == 48) = false := by
  have : ∀ n : Nat, n < 256 → Lx.isL (UInt8.ofNat n) = false → Lx.isD (UInt8.ofNat n) = false → (kindN (UInt8.ofNat n) == 97) = false ∧ (kindN (UInt8.ofNat n) == 48) = false := by decide +kernel
  have h := this c.toNat c.toNat_lt
  rw [UInt8.ofNat_toNat] at h
  exact h h1 h2
theorem kindN_x {c : UInt8} (h1 : c ≠ 46 ∧ c ≠ 43 ∧ c ≠ 45) : (kindN c == 46) = false ∧ (kindN c == 43) = false ∧ (kindN c == 45) = false := by
  have : ∀ n : Nat, n < 256 → (UInt8.ofNat n ≠ 46 ∧ UInt8.ofNat n ≠ 43 ∧ UInt8.ofNat n ≠ 45) → (kindN (UInt8.ofNat n) == 46) = false ∧ (kindN (UInt8.ofNat n) == 43) = false ∧ (kindN (UInt8.ofNat n) == 45) = false := by decide +kernel
  have h := this c.toNat c.toNat_lt
  rw [UInt8.ofNat_toNat] at h
  exact h h1
theorem plain_snoc (l : List UInt8) (c : UInt8) : plainB (l ++ [c]) = (plainB l && (Lx.isD c || c == 46)) := by
  unfold plainB; rw [List.all_append]; simp
/-- where an e stands last, behind digits and points -/
def eB (s : ByteArray) (p j : Nat) : Bool :=
  if h : p < j ∧ j - 1 < s.size then (s[j - 1]'h.2 == 101 || s[j - 1]'h.2 == 69) && plainB ((s.data.toList.drop p).take (j - 1 - p)) else false
theorem take_next (s : ByteArray) (p j : Nat) (hp : p ≤ j) (hj : j < s.size) : (s.data.toList.drop p).take (j + 1 - p) = (s.data.toList.drop p).take (j - p) ++ [s[j]] := by
  have h1 : j - p < (s.data.toList.drop p).length := by rw [List.length_drop, ← Lib.size_eq]; omega
  rw [show j + 1 - p = j - p + 1 by omega, List.take_succ_eq_append_getElem h1]
  obtain ⟨h2, hx⟩ := Sp.drop_at s p j hp hj
  rw [hx]
theorem eB_next (s : ByteArray) (p j : Nat) (hp : p ≤ j) (hj : j < s.size) : eB s p (j + 1) = ((s[j] == 101 || s[j] == 69) && plainB ((s.data.toList.drop p).take (j - p))) := by
  unfold eB
  rw [dif_pos ⟨by omega, by simpa using hj⟩]
  simp
theorem eB_plain (s : ByteArray) (p j : Nat) (hp : p ≤ j) (hj : j ≤ s.size) (h : eB s p j = true) : plainB ((s.data.toList.drop p).take (j - p)) = false := by
  unfold eB at h
  split at h
  · rename_i hh
    have h1 := take_next s p (j - 1) (by omega) hh.2
    rw [show j - 1 + 1 - p = j - p by omega] at h1
    rw [h1, plain_snoc]
    have : (Lx.isD s[j - 1] || s[j - 1] == 46) = false := by
      have h2 : s[j - 1] = 101 ∨ s[j - 1] = 69 := by
        simp only [Bool.and_eq_true, Bool.or_eq_true, beq_iff_eq] at h
        exact h.1
      rcases h2 with h2 | h2 <;> rw [h2] <;> decide
    rw [this, Bool.and_false]
  · cases h
/-- one more byte -/
theorem num_step (s : ByteArray) (p j : Nat) (hp : p ≤ j) (hj : j < s.size) (hc : numC (eB s p j) s[j] = true) :
    numP (plainB ((s.data.toList.drop p).take (j - p))) s[j] = plainB ((s.data.toList.drop p).take (j + 1 - p)) ∧ numB' (plainB ((s.data.toList.drop p).take (j - p))) s[j] = eB s p (j + 1) := by
  rw [take_next s p j hp hj, plain_snoc, eB_next s p j hp hj]
  unfold numC at hc
  unfold numP numB'
  by_cases h : s[j] = 43 ∨ s[j] = 45
  · rw [if_pos h] at hc
    have hpl := eB_plain s p j hp (by omega) hc
    rw [if_pos h, if_pos h, hpl]
    simp
  · rw [if_neg h, if_neg h]
    exact ⟨rfl, Bool.and_comm _ _⟩
def NRel (s : ByteArray) (p r j : Nat) : Prop := numE (plainB ((s.data.toList.drop p).take (j - p))) (eB s p j) (s.data.toList.drop j) + j = p + r
theorem nrel_go {s : ByteArray} {p r j : Nat} (h : NRel s p r j) (hp : p ≤ j) (hj : j < s.size) (hc : numC (eB s p j) s[j] = true) : NRel s p r (j + 1) := by
  unfold NRel at h ⊢
  obtain ⟨a, b⟩ := num_step s p j hp hj hc
  rw [drop_byte s j hj, numE_cons, if_pos hc, a, b] at h
  omega
theorem nrel_stop {s : ByteArray} {p r j : Nat} (h : NRel s p r j) (hj : j < s.size) (hc : numC (eB s p j) s[j] = false) : j = p + r := by
  unfold NRel at h
  rw [drop_byte s j hj, numE_cons, if_neg (by rw [hc]; decide)] at h
  omega
theorem nrel_end {s : ByteArray} {p r j : Nat} (h : NRel s p r j) (hj : s.size ≤ j) : j = p + r := by
  unfold NRel at h
  rw [drop_none s j hj, numE] at h
  omega
theorem sl9b (s : ByteArray) (p q : Nat) (h1 : p ≤ q) (h2 : q ≤ s.size) (w : World) : (Instr.slice 9 (.string s) (some (.int .i64 (p : Int))) (some (.int .i64 (q : Int))) none).run Tryz.prog w = .ok (.string (s.extract p q)) w := by
  have := run_slice_string (P := Tryz.prog) w 9 s .i64 .i64 (p : Int) (q : Int) Tryz.underlying9 (by omega) (by omega) (by omega)
  simpa using this
set_option maxRecDepth 100000 in
set_option maxHeartbeats 2000000 in
theorem refnumber_any (s : ByteArray) (p : Nat) (w : World) (hp : p ≤ s.size) (hs : s.size ≤ 65536) :
    Calls Tryz.prog 25 #[.string s, .int .i64 (p : Int)] w fun e w' => e = .returned (.int .i64 ((p + numE true false (s.data.toList.drop p) : Nat) : Int)) ∧ w = w' := by
  have HK := Lib.hid kind_any
  generalize hr : numE true false (s.data.toList.drop p) = r
  have HR0 : Hid (NRel s p r p) := by
    show _ = _
    rw [Nat.sub_self, show eB s p p = false by unfold eB; rw [dif_neg (by omega)], List.take_zero, show plainB [] = true from rfl, hr]
    omega
  clear hr
  go_enter Tryz.func25, Tryz.ntmps25
  go_wp2_with fail
  go_loopg [5] s.size (fun g s5 wx => ∃ j : Nat, p ≤ j ∧ j ≤ s.size ∧ s.size ≤ g + j ∧ s5 = .int .i64 (j : Int) ∧ Hid (NRel s p r j) ∧ w = wx)
  case atStart => exact ⟨p, Nat.le_refl _, hp, by omega, rfl, HR0, rfl⟩
  case round =>
    obtain ⟨j, hpj, hj, hg, rfl, HJ, rfl⟩ := hrel
    by_cases hlt : j < s.size
    · have d : (j : Int) < (s.size : Int) := by omega
      have HKJ := Lib.hid (HK.out s[j])
      have HGO := Lib.hid (nrel_go HJ.out hpj hlt)
      have HST := Lib.hid (nrel_stop HJ.out hlt)
      obtain ⟨g, hgk⟩ : ∃ g, gk = g + 1 := ⟨gk - 1, by omega⟩
      by_cases h1 : Lx.isL s[j] = true ∨ Lx.isD s[j] = true ∨ s[j] = 46
      · have hnc : numC (eB s p j) s[j] = true := by
          have hns : ¬ (s[j] = 43 ∨ s[j] = 45) := by
            rintro (h | h) <;> rw [h] at h1 <;> revert h1 <;> decide
          unfold numC
          rw [if_neg hns]
          rcases h1 with h | h | h
          · rw [h]; rfl
          · rw [h]; simp
          · rw [h]; rfl
        have HX : Hid (NRel s p r (j + 1)) := HGO.out hnc
        have hk : (kindN s[j] == 97) = true ∨ (kindN s[j] == 97) = false ∧ (kindN s[j] == 48) = true ∨ (kindN s[j] == 97) = false ∧ (kindN s[j] == 48) = false ∧ (kindN s[j] == 46) = true := by
          rcases h1 with h | h | h
          · left; rw [kindN_l h]; rfl
          · right; left; rw [kindN_d h]; exact ⟨rfl, rfl⟩
          · right; right; rw [h]; decide
        clear h1 hnc HGO HST HJ
        generalize kindN s[j] = kk at *
        rcases hk with h | ⟨h, h'⟩ | ⟨h, h', h''⟩
        all_goals
          go_wp2_with fail
          refine (HKJ.out _).mono ?_
          rintro e w1 ⟨rfl, rfl⟩
          subst hgk
          go_wp2_with fail
          go_roundg g
          case measure => omega
          case rel => exact ⟨j + 1, by omega, by omega, by omega, by go_num, HX, rfl⟩
      · have hl : Lx.isL s[j] = false := by cases h : Lx.isL s[j] with | true => exact absurd (.inl h) h1 | false => rfl
        have hdd : Lx.isD s[j] = false := by cases h : Lx.isD s[j] with | true => exact absurd (.inr (.inl h)) h1 | false => rfl
        have h46 : s[j] ≠ 46 := fun h => h1 (.inr (.inr h))
        obtain ⟨k97, k48⟩ := kindN_o hl hdd
        by_cases h2 : s[j] = 43 ∨ s[j] = 45
        · have k46 : (kindN s[j] == 46) = false := by rcases h2 with h | h <;> rw [h] <;> decide
          have ks : (kindN s[j] == 43) = true ∨ (kindN s[j] == 43) = false ∧ (kindN s[j] == 45) = true := by
            rcases h2 with h | h <;> rw [h] <;> decide
          have hnc : numC (eB s p j) s[j] = eB s p j := by unfold numC; rw [if_pos h2]
          by_cases hpj2 : p < j
          · have dpj : (p : Int) < (j : Int) := by omega
            have hj1 : j - 1 < s.size := by omega
            obtain ⟨j', hj'⟩ : ∃ j', j = j' + 1 := ⟨j - 1, by omega⟩
            have heb : eB s p j = ((s[j - 1] == 101 || s[j - 1] == 69) && plainB ((s.data.toList.drop p).take (j - 1 - p))) := by
              unfold eB; rw [dif_pos ⟨hpj2, hj1⟩]
            have HPL := Lib.hid (fun W => plain_any (s.extract p (j - 1)) W (by rw [ByteArray.size_extract]; omega))
            have hpld : (s.extract p (j - 1)).data.toList = (s.data.toList.drop p).take (j - 1 - p) := by rw [Lib.extract_data]
            rw [hpld] at HPL
            have sl := fun wx => sl9b s p (j - 1) (by omega) (by omega) wx
            rw [← hnc] at heb
            have hee : ∀ x : UInt8, (x == 101) = ((x.toNat : Int) == 101) := fun x => byte_eq x 101 (by omega)
            have hee2 : ∀ x : UInt8, (x == 69) = ((x.toNat : Int) == 69) := fun x => byte_eq x 69 (by omega)
            rw [hee, hee2] at heb
            generalize numC (eB s p j) s[j] = nc at *
            generalize plainB ((s.data.toList.drop p).take (j - 1 - p)) = pb at *
            have HEB := Lib.hid heb
            subst hj'
            simp only [Nat.add_sub_cancel] at hj1 HEB sl HPL
            generalize kindN s[j' + 1] = kk at *
            clear heb hee hee2 hnc hpld h1 h2 hl hdd h46 HJ
            rcases ks with ks | ⟨ks, ks'⟩
            · cases e101 : ((s[j'].toNat : Int) == 101) with
              | true =>
                have hnc : nc = pb := by rw [HEB.out, e101]; simp only [Bool.true_or, Bool.true_and]
                subst hnc
                cases nc with
                | true =>
                  have HX : Hid (NRel s p r (j' + 1 + 1)) := HGO.out rfl
                  clear HGO HST HEB
                  go_wp2_with fail
                  refine (HKJ.out _).mono ?_
                  rintro e w1 ⟨rfl, rfl⟩
                  go_wp2_with fail
                  refine (HPL.out _).mono ?_
                  rintro e w1 ⟨rfl, rfl⟩
                  subst hgk
                  go_wp2_with fail
                  go_roundg g
                  case measure => omega
                  case rel => exact ⟨j' + 1 + 1, by omega, by omega, by omega, by go_num, HX, rfl⟩
                | false =>
                  have HX := Lib.hid (HST.out rfl)
                  clear HGO HST HEB
                  go_wp2_with fail
                  refine (HKJ.out _).mono ?_
                  rintro e w1 ⟨rfl, rfl⟩
                  go_wp2_with fail
                  refine (HPL.out _).mono ?_
                  rintro e w1 ⟨rfl, rfl⟩
                  go_wp2_with fail
                  go_ret
                  exact ⟨ret_nat HX.out, rfl⟩
              | false =>
                cases e69 : ((s[j'].toNat : Int) == 69) with
                | true =>
                  have hnc : nc = pb := by rw [HEB.out, e101, e69]; simp only [Bool.false_or, Bool.true_and]
                  subst hnc
                  cases nc with
                  | true =>
                    have HX : Hid (NRel s p r (j' + 1 + 1)) := HGO.out rfl
                    clear HGO HST HEB
                    go_wp2_with fail
                    refine (HKJ.out _).mono ?_
                    rintro e w1 ⟨rfl, rfl⟩
                    go_wp2_with fail
                    refine (HPL.out _).mono ?_
                    rintro e w1 ⟨rfl, rfl⟩
                    subst hgk
                    go_wp2_with fail
                    go_roundg g
                    case measure => omega
                    case rel => exact ⟨j' + 1 + 1, by omega, by omega, by omega, by go_num, HX, rfl⟩
                  | false =>
                    have HX := Lib.hid (HST.out rfl)
                    clear HGO HST HEB
                    go_wp2_with fail
                    refine (HKJ.out _).mono ?_
                    rintro e w1 ⟨rfl, rfl⟩
                    go_wp2_with fail
                    refine (HPL.out _).mono ?_
                    rintro e w1 ⟨rfl, rfl⟩
                    go_wp2_with fail
                    go_ret
                    exact ⟨ret_nat HX.out, rfl⟩
                | false =>
                  have hnc : nc = false := by rw [HEB.out, e101, e69]; rfl
                  subst hnc
                  have HX := Lib.hid (HST.out rfl)
                  clear HGO HST HEB
                  go_wp2_with fail
                  refine (HKJ.out _).mono ?_
                  rintro e w1 ⟨rfl, rfl⟩
                  go_wp2_with fail
                  go_ret
                  exact ⟨ret_nat HX.out, rfl⟩
            · cases e101 : ((s[j'].toNat : Int) == 101) with
              | true =>
                have hnc : nc = pb := by rw [HEB.out, e101]; simp only [Bool.true_or, Bool.true_and]
                subst hnc
                cases nc with
                | true =>
                  have HX : Hid (NRel s p r (j' + 1 + 1)) := HGO.out rfl
                  clear HGO HST HEB
                  go_wp2_with fail
                  refine (HKJ.out _).mono ?_
                  rintro e w1 ⟨rfl, rfl⟩
                  go_wp2_with fail
                  refine (HPL.out _).mono ?_
                  rintro e w1 ⟨rfl, rfl⟩
                  subst hgk
                  go_wp2_with fail
                  go_roundg g
                  case measure => omega
                  case rel => exact ⟨j' + 1 + 1, by omega, by omega, by omega, by go_num, HX, rfl⟩
                | false =>
                  have HX := Lib.hid (HST.out rfl)
                  clear HGO HST HEB
                  go_wp2_with fail
                  refine (HKJ.out _).mono ?_
                  rintro e w1 ⟨rfl, rfl⟩
                  go_wp2_with fail
                  refine (HPL.out _).mono ?_
                  rintro e w1 ⟨rfl, rfl⟩
                  go_wp2_with fail
                  go_ret
                  exact ⟨ret_nat HX.out, rfl⟩
              | false =>
                cases e69 : ((s[j'].toNat : Int) == 69) with
                | true =>
                  have hnc : nc = pb := by rw [HEB.out, e101, e69]; simp only [Bool.false_or, Bool.true_and]
                  subst hnc
                  cases nc with
                  | true =>
                    have HX : Hid (NRel s p r (j' + 1 + 1)) := HGO.out rfl
                    clear HGO HST HEB
                    go_wp2_with fail
                    refine (HKJ.out _).mono ?_
                    rintro e w1 ⟨rfl, rfl⟩
                    go_wp2_with fail
                    refine (HPL.out _).mono ?_
                    rintro e w1 ⟨rfl, rfl⟩
                    subst hgk
                    go_wp2_with fail
                    go_roundg g
                    case measure => omega
                    case rel => exact ⟨j' + 1 + 1, by omega, by omega, by omega, by go_num, HX, rfl⟩
                  | false =>
                    have HX := Lib.hid (HST.out rfl)
                    clear HGO HST HEB
                    go_wp2_with fail
                    refine (HKJ.out _).mono ?_
                    rintro e w1 ⟨rfl, rfl⟩
                    go_wp2_with fail
                    refine (HPL.out _).mono ?_
                    rintro e w1 ⟨rfl, rfl⟩
                    go_wp2_with fail
                    go_ret
                    exact ⟨ret_nat HX.out, rfl⟩
                | false =>
                  have hnc : nc = false := by rw [HEB.out, e101, e69]; rfl
                  subst hnc
                  have HX := Lib.hid (HST.out rfl)
                  clear HGO HST HEB
                  go_wp2_with fail
                  refine (HKJ.out _).mono ?_
                  rintro e w1 ⟨rfl, rfl⟩
                  go_wp2_with fail
                  go_ret
                  exact ⟨ret_nat HX.out, rfl⟩
          · have dpj : ¬ (p : Int) < (j : Int) := by omega
            have heb : eB s p j = false := by unfold eB; rw [dif_neg (by omega)]
            rw [heb] at hnc
            have hnc2 : numC (eB s p j) s[j] = false := by rw [heb]; exact hnc
            have HX := Lib.hid (HST.out hnc2)
            generalize kindN s[j] = kk at *
            clear hnc hnc2 heb h1 h2 hl hdd h46 HJ HGO HST
            rcases ks with ks | ⟨ks, ks'⟩
            all_goals
              go_wp2_with fail
              refine (HKJ.out _).mono ?_
              rintro e w1 ⟨rfl, rfl⟩
              go_wp2_with fail
              go_ret
              exact ⟨ret_nat HX.out, rfl⟩
        · have hx3 := kindN_x (c := s[j]) ⟨h46, fun h => h2 (.inl h), fun h => h2 (.inr h)⟩
          obtain ⟨k46, k43, k45⟩ := hx3
          have hnc : numC (eB s p j) s[j] = false := by
            unfold numC
            rw [if_neg h2, hl, hdd]
            simp [h46]
          have HX := Lib.hid (HST.out hnc)
          generalize kindN s[j] = kk at *
          clear hnc h1 h2 hl hdd h46 HJ HGO HST
          go_wp2_with fail
          refine (HKJ.out _).mono ?_
          rintro e w1 ⟨rfl, rfl⟩
          go_wp2_with fail
          go_ret
          exact ⟨ret_nat HX.out, rfl⟩
    · have d : ¬ (j : Int) < (s.size : Int) := by omega
      have HX := Lib.hid (nrel_end HJ.out (by omega))
      clear HJ
      go_wp2_with fail
      go_ret
      exact ⟨ret_nat HX.out, rfl⟩
end Go.Proofs.YtaggmakaceafgaaGreatDoor

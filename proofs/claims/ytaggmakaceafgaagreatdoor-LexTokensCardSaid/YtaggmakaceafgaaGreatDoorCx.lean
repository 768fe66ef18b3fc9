/- Lemmas. No condition. -/
import Derived.Test.YtaggmakaceafgaaGreatDoorC8
import Derived.Deep.Slices
import Derived.ChangeSame
import Derived.Maps.AppendAt
import Derived.Laws.AppendOwnNone
import Derived.Laws.OwnMore
namespace Go.Proofs.YtaggmakaceafgaaGreatDoor
open Go.RowKit Lx
set_option linter.unusedVariables false

/-! the token at a place -/
theorem head_first {c : UInt8} {r : List UInt8} (h : numHead (c :: r) = true) : Lx.isD c = true ∨ c = 46 := by
  cases h1 : Lx.isD c with
  | true => exact .inl rfl
  | false =>
    right
    by_cases h2 : c = 46
    · exact h2
    · rw [numHead_n h1 h2] at h; cases h
theorem sign_none {c : UInt8} {r : List UInt8} (h1 : sgn1 c = false) (h2 : c ≠ 61 ∧ c ≠ 33 ∧ c ≠ 62 ∧ c ≠ 60) : signN (c :: r) = 0 := by
  obtain ⟨a, b, d, e⟩ := h2
  cases r with
  | nil => rw [signN_one, h1]; rfl
  | cons x r => rw [signN_two, h1, if_neg (by unfold dbl; simp [a, b, d, e])]; rfl
theorem digit_no (c : UInt8) (h : Lx.isD c = true ∨ c = 46) : sgn1 c = false ∧ (c ≠ 61 ∧ c ≠ 33 ∧ c ≠ 62 ∧ c ≠ 60) ∧ c ≠ 34 := by
  rcases h with h | rfl
  · have : ∀ n : Nat, n < 256 → Lx.isD (UInt8.ofNat n) = true → sgn1 (UInt8.ofNat n) = false ∧ (UInt8.ofNat n ≠ 61 ∧ UInt8.ofNat n ≠ 33 ∧ UInt8.ofNat n ≠ 62 ∧ UInt8.ofNat n ≠ 60) ∧ UInt8.ofNat n ≠ 34 := by decide +kernel
    have h2 := this c.toNat c.toNat_lt
    rw [UInt8.ofNat_toNat] at h2
    exact h2 h
  · decide
theorem tok_word {l : List UInt8} {x : Nat × List UInt8 × Nat} (h : wordF l = some x) : tokF numB spanB l = some x := by
  match l, h with
  | c :: r, h =>
    rw [wordF_cons] at h
    split at h
    · rename_i hl; rw [tokF, if_pos hl]; exact h
    · cases h
theorem tok_numb {l : List UInt8} {x : Nat × List UInt8 × Nat} (h0 : wordF l = none) (h : numberF l = some x) : tokF numB spanB l = some x := by
  match l, h0, h with
  | c :: r, h0, h =>
    rw [wordF_cons] at h0
    split at h0
    · cases h0
    · rename_i hl
      unfold numberF at h
      split at h
      · rename_i hn; rw [tokF, if_neg hl, if_pos hn]; exact h
      · cases h
theorem tok_quot {l : List UInt8} {x : Nat × List UInt8 × Nat} (h0 : wordF l = none) (h1 : numberF l = none) (h : quotedF l = some x) : tokF numB spanB l = some x := by
  match l, h0, h1, h with
  | c :: r, h0, h1, h =>
    rw [wordF_cons] at h0
    split at h0
    · cases h0
    · rename_i hl
      rw [quotedF_cons] at h
      split at h
      · rename_i hc
        have hn : ¬ numHead (c :: r) = true := fun hh => (digit_no c (head_first hh)).2.2 hc
        rw [tokF, if_neg hl, if_neg hn, if_pos hc]; exact h
      · cases h
theorem tok_sign {l : List UInt8} (h0 : wordF l = none) (h1 : numberF l = none) (h2 : quotedF l = none) : tokF numB spanB l = signF l := by
  match l, h0, h1, h2 with
  | [], _, _, _ => rfl
  | c :: r, h0, h1, h2 =>
    rw [wordF_cons] at h0
    split at h0
    · cases h0
    · rename_i hl
      by_cases hn : numHead (c :: r) = true
      · obtain ⟨a, b, d⟩ := digit_no c (head_first hn)
        have hs : signF (c :: r) = none := by unfold signF; rw [sign_none a b]; rfl
        rw [tokF, if_neg hl, if_pos hn, hs]
        unfold numberF at h1
        rw [if_pos hn] at h1
        exact h1
      · by_cases hc : c = 34
        · rw [quotedF_cons, if_pos hc] at h2
          have hs : signF (c :: r) = none := by unfold signF; subst hc; rw [sign_none (by decide) (by decide)]; rfl
          rw [tokF, if_neg hl, if_neg hn, if_pos hc, hs]
          exact h2
        · rw [tokF, if_neg hl, if_neg hn, if_neg hc]; rfl
/-- what is laid -/
structure LexT (Q qo qc P off c F fo fc : Nat) (w : World) : Prop where
  tabs : Tabs Q qo qc P off c F fo fc w
  units : Sp.Units w
  utf : T8 w
theorem LexT.below {Q qo qc P off c F fo fc : Nat} {w w' : World} (h : LexT Q qo qc P off c F fo fc w) (hb : Below w.heap.size w w') : LexT Q qo qc P off c F fo fc w' :=
  ⟨h.tabs.below hb, h.units.below h.units.size hb, h.utf.below h.utf.size hb⟩
theorem kind_none_eq (p : Nat) (w : World) : KindP p none w = fun e w' => e = .returned (.tuple #[Z0, .int .i64 (p : Int)]) ∧ Below w.heap.size w w' := rfl
theorem kind_some_eq (p k n : Nat) (t : List UInt8) (w : World) : KindP p (some (k, t, n)) w = fun e w' => e = .returned (.tuple #[tokV k p ⟨t.toArray⟩, .int .i64 ((p + n : Nat) : Int)]) ∧ Below w.heap.size w w' := rfl
set_option maxRecDepth 100000 in
set_option maxHeartbeats 2000000 in
theorem next_any {Q qo qc P off c F fo fc : Nat} (s : ByteArray) (p : Nat) (w : World) (hT : LexT Q qo qc P off c F fo fc w) (hp : p < s.size) (hs : s.size ≤ 65536) :
    Calls Tryz.prog 13 #[.string s, .int .i64 (p : Int)] w (KindP p (tokF numB spanB (s.data.toList.drop p)) w) := by
  obtain ⟨o, ho⟩ : ∃ o, tokF numB spanB (s.data.toList.drop p) = o := ⟨_, rfl⟩
  rw [ho]
  have HO := Lib.hid ho
  obtain ⟨l, hl⟩ : ∃ l, s.data.toList.drop p = l := ⟨_, rfl⟩
  have HW1 := Lib.hid (fun W => word_any s p W hp hs)
  have HW2 := Lib.hid (fun W (h : LexT Q qo qc P off c F fo fc W) => number_any s p W h.tabs h.units hp hs)
  have HW3 := Lib.hid (fun W (h : LexT Q qo qc P off c F fo fc W) => quoted_any s p W h.utf hp hs)
  have HW4 := Lib.hid (fun W => sign_any s p W hp hs)
  rw [hl] at HO HW1 HW2 HW3 HW4
  obtain ⟨w2, hw2⟩ : ∃ w2, (w.alloc (.cells #[.int .i64 0, .int .i64 0, .string ⟨#[]⟩] 35)).alloc (.cells #[.func (.func 21) #[] #[], .func (.func 22) #[] #[], .func (.func 23) #[] #[], .func (.func 24) #[] #[]] 53) = w2 := ⟨_, rfl⟩
  have hb0 : Below w.heap.size w w2 := by rw [← hw2]; exact ((Below.refl _ _).alloc (Nat.le_refl _) _).alloc (by simp) _
  have HB0 := Lib.hid hb0
  have HL0 : Hid (Blk w2 w.heap.size 35 #[.int .i64 0, .int .i64 0, .string ⟨#[]⟩]) := by show Blk _ _ _ _; rw [← hw2]; exact (Blk.new w 35 _).alloc _
  have HF0 : Hid (Blk w2 (w.heap.size + 1) 53 #[.func (.func 21) #[] #[], .func (.func 22) #[] #[], .func (.func 23) #[] #[], .func (.func 24) #[] #[]]) := by
    show Blk _ _ _ _
    rw [← hw2]
    have := Blk.new (w.alloc (.cells #[.int .i64 0, .int .i64 0, .string ⟨#[]⟩] 35)) 53 #[.func (.func 21) #[] #[], .func (.func 22) #[] #[], .func (.func 23) #[] #[], .func (.func 24) #[] #[]]
    simpa using this
  have HT0 := Lib.hid (hT.below hb0)
  clear hT ho hl hb0
  go_enter Tryz.func13, Tryz.ntmps13
  go_wp2_with fail
  clear hw2
  refine wp_loop_rounds 5 ?_
  rw [rounds_succ]
  have f0i := HF0.out.cell 0
  simp at f0i
  go_wp2_with fail
  obtain ⟨r0, hr0⟩ : ∃ r, wordF l = r := ⟨_, rfl⟩
  have HR0 := Lib.hid hr0
  rw [hr0] at HW1
  clear hr0
  cases r0 with
  | some x =>
    obtain ⟨k, t, n⟩ := x
    have htk := tok_word HR0.out
    have hn1 := (tok_len numB spanB htk).1
    have hoo : o = some (k, t, n) := by rw [← HO.out]; exact htk
    subst hoo
    have hgt : (p : Int) < ((p + n : Nat) : Int) := by omega
    have HG := Lib.hid hgt
    obtain ⟨q, hq⟩ : ∃ q, p + n = q := ⟨_, rfl⟩
    obtain ⟨tt, htt⟩ : ∃ tt : ByteArray, (⟨t.toArray⟩ : ByteArray) = tt := ⟨_, rfl⟩
    have HQ := Lib.hid hq
    have HTT := Lib.hid htt
    rw [hq] at hgt
    clear htk hn1 HG
    refine (HW1.out _).mono ?_
    rintro e w9 hk
    rw [kind_some_eq, hq, htt] at hk
    obtain ⟨rfl, hb9⟩ := hk
    clear hq htt
    have HB9 := Lib.hid (HB0.out.trans (hb9.mono HB0.out.size))
    have HL9 := Lib.hid (HL0.out.below hb9)
    clear hb9
    have c0 : ∀ o, (w9.alloc o).cell? ⟨w.heap.size, 0, none⟩ = some (.int .i64 0) := fun o => by have := (HL9.out.alloc o).cell 0; simpa using this
    have c1 : ∀ o, (w9.alloc o).cell? ⟨w.heap.size, 1, none⟩ = some (.int .i64 0) := fun o => by have := (HL9.out.alloc o).cell 1; simpa using this
    have c2 : ∀ o, (w9.alloc o).cell? ⟨w.heap.size, 2, none⟩ = some (.string ⟨#[]⟩) := fun o => by have := (HL9.out.alloc o).cell 2; simpa using this
    have f0 : ∀ o, (w9.alloc o).frozen? ⟨w.heap.size, 0, none⟩ = false := fun o => (HL9.out.alloc o).frozen 0
    have f1 : ∀ o, (w9.alloc o).frozen? ⟨w.heap.size, 1, none⟩ = false := fun o => (HL9.out.alloc o).frozen 1
    have f2 : ∀ o, (w9.alloc o).frozen? ⟨w.heap.size, 2, none⟩ = false := fun o => (HL9.out.alloc o).frozen 2
    have HBF : Hid (∀ o, Blk ((((w9.alloc o).setCell ⟨w.heap.size, 0, none⟩ (.int .i64 (k : Int))).setCell ⟨w.heap.size, 1, none⟩ (.int .i64 (p : Int))).setCell ⟨w.heap.size, 2, none⟩ (.string tt)) w.heap.size 35 #[.int .i64 (k : Int), .int .i64 (p : Int), .string tt]) := fun o => (((HL9.out.alloc o).set_ 0 (.int .i64 (k : Int))).set_ 1 (.int .i64 (p : Int))).set_ 2 (.string tt)
    have hsz := HB9.out.size
    go_wp2_with fail
    refine bodyPost_ret (res_tok (by kernel_rfl) rfl rfl (HBF.out _)) rfl (kind_some HQ.out HTT.out ?_)
    have := HB9.out
    go_grown
  | none =>
    have hng : ¬ (p : Int) < (p : Int) := by omega
    refine (HW1.out _).mono ?_
    rintro e v0 hk
    rw [kind_none_eq] at hk
    obtain ⟨rfl, hb9⟩ := hk
    have hbx := (HB0.out.trans (hb9.mono HB0.out.size))
    have hlx := (HL0.out.below hb9)
    have hfx := (HF0.out.below hb9)
    have htx := (HT0.out.below hb9)
    have hsz := hbx.size
    have HB1 : Hid (Below w.heap.size w (v0.alloc (.cells #[.int .i64 0, .int .i64 0, .string ⟨#[]⟩] 35))) := hbx.alloc (by omega) _
    have HL1 := Lib.hid (hlx.alloc (.cells #[.int .i64 0, .int .i64 0, .string ⟨#[]⟩] 35))
    have HF1 := Lib.hid (hfx.alloc (.cells #[.int .i64 0, .int .i64 0, .string ⟨#[]⟩] 35))
    have HT1 : Hid (LexT Q qo qc P off c F fo fc (v0.alloc (.cells #[.int .i64 0, .int .i64 0, .string ⟨#[]⟩] 35))) := htx.below ((Below.refl _ _).alloc (Nat.le_refl _) _)
    clear hb9 hbx hlx hfx htx hsz
    have f1i := HF1.out.cell 1
    simp only [List.getElem?_toArray, List.getElem?_cons_zero, List.getElem?_cons_succ] at f1i
    go_wp2_with fail
    rw [rounds_succ]
    go_wp2_with fail
    clear f1i hng
    obtain ⟨r1, hr1⟩ : ∃ r, numberF l = r := ⟨_, rfl⟩
    have HR1 := Lib.hid hr1
    rw [hr1] at HW2
    clear hr1
    cases r1 with
    | some x =>
      obtain ⟨k, t, n⟩ := x
      have htk := tok_numb HR0.out HR1.out
      have hn1 := (tok_len numB spanB htk).1
      have hoo : o = some (k, t, n) := by rw [← HO.out]; exact htk
      subst hoo
      have hgt : (p : Int) < ((p + n : Nat) : Int) := by omega
      have HG := Lib.hid hgt
      obtain ⟨q, hq⟩ : ∃ q, p + n = q := ⟨_, rfl⟩
      obtain ⟨tt, htt⟩ : ∃ tt : ByteArray, (⟨t.toArray⟩ : ByteArray) = tt := ⟨_, rfl⟩
      have HQ := Lib.hid hq
      have HTT := Lib.hid htt
      rw [hq] at hgt
      clear htk hn1 HG
      refine (HW2.out _ HT1.out).mono ?_
      rintro e w9 hk
      rw [kind_some_eq, hq, htt] at hk
      obtain ⟨rfl, hb9⟩ := hk
      clear hq htt
      have HB9 := Lib.hid (HB1.out.trans (hb9.mono HB1.out.size))
      have HL9 := Lib.hid (HL1.out.below hb9)
      clear hb9
      have c0 : ∀ o, (w9.alloc o).cell? ⟨w.heap.size, 0, none⟩ = some (.int .i64 0) := fun o => by have := (HL9.out.alloc o).cell 0; simpa using this
      have c1 : ∀ o, (w9.alloc o).cell? ⟨w.heap.size, 1, none⟩ = some (.int .i64 0) := fun o => by have := (HL9.out.alloc o).cell 1; simpa using this
      have c2 : ∀ o, (w9.alloc o).cell? ⟨w.heap.size, 2, none⟩ = some (.string ⟨#[]⟩) := fun o => by have := (HL9.out.alloc o).cell 2; simpa using this
      have f0 : ∀ o, (w9.alloc o).frozen? ⟨w.heap.size, 0, none⟩ = false := fun o => (HL9.out.alloc o).frozen 0
      have f1 : ∀ o, (w9.alloc o).frozen? ⟨w.heap.size, 1, none⟩ = false := fun o => (HL9.out.alloc o).frozen 1
      have f2 : ∀ o, (w9.alloc o).frozen? ⟨w.heap.size, 2, none⟩ = false := fun o => (HL9.out.alloc o).frozen 2
      have HBF : Hid (∀ o, Blk ((((w9.alloc o).setCell ⟨w.heap.size, 0, none⟩ (.int .i64 (k : Int))).setCell ⟨w.heap.size, 1, none⟩ (.int .i64 (p : Int))).setCell ⟨w.heap.size, 2, none⟩ (.string tt)) w.heap.size 35 #[.int .i64 (k : Int), .int .i64 (p : Int), .string tt]) := fun o => (((HL9.out.alloc o).set_ 0 (.int .i64 (k : Int))).set_ 1 (.int .i64 (p : Int))).set_ 2 (.string tt)
      have hsz := HB9.out.size
      go_wp2_with fail
      refine bodyPost_ret (res_tok (by kernel_rfl) rfl rfl (HBF.out _)) rfl (kind_some HQ.out HTT.out ?_)
      have := HB9.out
      go_grown
    | none =>
      have hng : ¬ (p : Int) < (p : Int) := by omega
      refine (HW2.out _ HT1.out).mono ?_
      rintro e v1 hk
      rw [kind_none_eq] at hk
      obtain ⟨rfl, hb9⟩ := hk
      have hbx := (HB1.out.trans (hb9.mono HB1.out.size))
      have hlx := (HL1.out.below hb9)
      have hfx := (HF1.out.below hb9)
      have htx := (HT1.out.below hb9)
      have hsz := hbx.size
      have HB2 : Hid (Below w.heap.size w (v1.alloc (.cells #[.int .i64 0, .int .i64 0, .string ⟨#[]⟩] 35))) := hbx.alloc (by omega) _
      have HL2 := Lib.hid (hlx.alloc (.cells #[.int .i64 0, .int .i64 0, .string ⟨#[]⟩] 35))
      have HF2 := Lib.hid (hfx.alloc (.cells #[.int .i64 0, .int .i64 0, .string ⟨#[]⟩] 35))
      have HT2 : Hid (LexT Q qo qc P off c F fo fc (v1.alloc (.cells #[.int .i64 0, .int .i64 0, .string ⟨#[]⟩] 35))) := htx.below ((Below.refl _ _).alloc (Nat.le_refl _) _)
      clear hb9 hbx hlx hfx htx hsz
      have f2i := HF2.out.cell 2
      simp only [List.getElem?_toArray, List.getElem?_cons_zero, List.getElem?_cons_succ] at f2i
      go_wp2_with fail
      rw [rounds_succ]
      go_wp2_with fail
      clear f2i hng
      obtain ⟨r2, hr2⟩ : ∃ r, quotedF l = r := ⟨_, rfl⟩
      have HR2 := Lib.hid hr2
      rw [hr2] at HW3
      clear hr2
      cases r2 with
      | some x =>
        obtain ⟨k, t, n⟩ := x
        have htk := tok_quot HR0.out HR1.out HR2.out
        have hn1 := (tok_len numB spanB htk).1
        have hoo : o = some (k, t, n) := by rw [← HO.out]; exact htk
        subst hoo
        have hgt : (p : Int) < ((p + n : Nat) : Int) := by omega
        have HG := Lib.hid hgt
        obtain ⟨q, hq⟩ : ∃ q, p + n = q := ⟨_, rfl⟩
        obtain ⟨tt, htt⟩ : ∃ tt : ByteArray, (⟨t.toArray⟩ : ByteArray) = tt := ⟨_, rfl⟩
        have HQ := Lib.hid hq
        have HTT := Lib.hid htt
        rw [hq] at hgt
        clear htk hn1 HG
        refine (HW3.out _ HT2.out).mono ?_
        rintro e w9 hk
        rw [kind_some_eq, hq, htt] at hk
        obtain ⟨rfl, hb9⟩ := hk
        clear hq htt
        have HB9 := Lib.hid (HB2.out.trans (hb9.mono HB2.out.size))
        have HL9 := Lib.hid (HL2.out.below hb9)
        clear hb9
        have c0 : ∀ o, (w9.alloc o).cell? ⟨w.heap.size, 0, none⟩ = some (.int .i64 0) := fun o => by have := (HL9.out.alloc o).cell 0; simpa using this
        have c1 : ∀ o, (w9.alloc o).cell? ⟨w.heap.size, 1, none⟩ = some (.int .i64 0) := fun o => by have := (HL9.out.alloc o).cell 1; simpa using this
        have c2 : ∀ o, (w9.alloc o).cell? ⟨w.heap.size, 2, none⟩ = some (.string ⟨#[]⟩) := fun o => by have := (HL9.out.alloc o).cell 2; simpa using this
        have f0 : ∀ o, (w9.alloc o).frozen? ⟨w.heap.size, 0, none⟩ = false := fun o => (HL9.out.alloc o).frozen 0
        have f1 : ∀ o, (w9.alloc o).frozen? ⟨w.heap.size, 1, none⟩ = false := fun o => (HL9.out.alloc o).frozen 1
        have f2 : ∀ o, (w9.alloc o).frozen? ⟨w.heap.size, 2, none⟩ = false := fun o => (HL9.out.alloc o).frozen 2
        have HBF : Hid (∀ o, Blk ((((w9.alloc o).setCell ⟨w.heap.size, 0, none⟩ (.int .i64 (k : Int))).setCell ⟨w.heap.size, 1, none⟩ (.int .i64 (p : Int))).setCell ⟨w.heap.size, 2, none⟩ (.string tt)) w.heap.size 35 #[.int .i64 (k : Int), .int .i64 (p : Int), .string tt]) := fun o => (((HL9.out.alloc o).set_ 0 (.int .i64 (k : Int))).set_ 1 (.int .i64 (p : Int))).set_ 2 (.string tt)
        have hsz := HB9.out.size
        go_wp2_with fail
        refine bodyPost_ret (res_tok (by kernel_rfl) rfl rfl (HBF.out _)) rfl (kind_some HQ.out HTT.out ?_)
        have := HB9.out
        go_grown
      | none =>
        have hng : ¬ (p : Int) < (p : Int) := by omega
        refine (HW3.out _ HT2.out).mono ?_
        rintro e v2 hk
        rw [kind_none_eq] at hk
        obtain ⟨rfl, hb9⟩ := hk
        have hbx := (HB2.out.trans (hb9.mono HB2.out.size))
        have hlx := (HL2.out.below hb9)
        have hfx := (HF2.out.below hb9)
        have htx := (HT2.out.below hb9)
        have hsz := hbx.size
        have HB3 : Hid (Below w.heap.size w (v2.alloc (.cells #[.int .i64 0, .int .i64 0, .string ⟨#[]⟩] 35))) := hbx.alloc (by omega) _
        have HL3 := Lib.hid (hlx.alloc (.cells #[.int .i64 0, .int .i64 0, .string ⟨#[]⟩] 35))
        have HF3 := Lib.hid (hfx.alloc (.cells #[.int .i64 0, .int .i64 0, .string ⟨#[]⟩] 35))
        have HT3 : Hid (LexT Q qo qc P off c F fo fc (v2.alloc (.cells #[.int .i64 0, .int .i64 0, .string ⟨#[]⟩] 35))) := htx.below ((Below.refl _ _).alloc (Nat.le_refl _) _)
        clear hb9 hbx hlx hfx htx hsz
        have f3i := HF3.out.cell 3
        simp only [List.getElem?_toArray, List.getElem?_cons_zero, List.getElem?_cons_succ] at f3i
        go_wp2_with fail
        rw [rounds_succ]
        go_wp2_with fail
        clear f3i hng
        obtain ⟨r3, hr3⟩ : ∃ r, signF l = r := ⟨_, rfl⟩
        have HR3 := Lib.hid hr3
        rw [hr3] at HW4
        clear hr3
        cases r3 with
        | some x =>
          obtain ⟨k, t, n⟩ := x
          have htk := (tok_sign HR0.out HR1.out HR2.out).trans HR3.out
          have hn1 := (tok_len numB spanB htk).1
          have hoo : o = some (k, t, n) := by rw [← HO.out]; exact htk
          subst hoo
          have hgt : (p : Int) < ((p + n : Nat) : Int) := by omega
          have HG := Lib.hid hgt
          obtain ⟨q, hq⟩ : ∃ q, p + n = q := ⟨_, rfl⟩
          obtain ⟨tt, htt⟩ : ∃ tt : ByteArray, (⟨t.toArray⟩ : ByteArray) = tt := ⟨_, rfl⟩
          have HQ := Lib.hid hq
          have HTT := Lib.hid htt
          rw [hq] at hgt
          clear htk hn1 HG
          refine (HW4.out _).mono ?_
          rintro e w9 hk
          rw [kind_some_eq, hq, htt] at hk
          obtain ⟨rfl, hb9⟩ := hk
          clear hq htt
          have HB9 := Lib.hid (HB3.out.trans (hb9.mono HB3.out.size))
          have HL9 := Lib.hid (HL3.out.below hb9)
          clear hb9
          have c0 : ∀ o, (w9.alloc o).cell? ⟨w.heap.size, 0, none⟩ = some (.int .i64 0) := fun o => by have := (HL9.out.alloc o).cell 0; simpa using this
          have c1 : ∀ o, (w9.alloc o).cell? ⟨w.heap.size, 1, none⟩ = some (.int .i64 0) := fun o => by have := (HL9.out.alloc o).cell 1; simpa using this
          have c2 : ∀ o, (w9.alloc o).cell? ⟨w.heap.size, 2, none⟩ = some (.string ⟨#[]⟩) := fun o => by have := (HL9.out.alloc o).cell 2; simpa using this
          have f0 : ∀ o, (w9.alloc o).frozen? ⟨w.heap.size, 0, none⟩ = false := fun o => (HL9.out.alloc o).frozen 0
          have f1 : ∀ o, (w9.alloc o).frozen? ⟨w.heap.size, 1, none⟩ = false := fun o => (HL9.out.alloc o).frozen 1
          have f2 : ∀ o, (w9.alloc o).frozen? ⟨w.heap.size, 2, none⟩ = false := fun o => (HL9.out.alloc o).frozen 2
          have HBF : Hid (∀ o, Blk ((((w9.alloc o).setCell ⟨w.heap.size, 0, none⟩ (.int .i64 (k : Int))).setCell ⟨w.heap.size, 1, none⟩ (.int .i64 (p : Int))).setCell ⟨w.heap.size, 2, none⟩ (.string tt)) w.heap.size 35 #[.int .i64 (k : Int), .int .i64 (p : Int), .string tt]) := fun o => (((HL9.out.alloc o).set_ 0 (.int .i64 (k : Int))).set_ 1 (.int .i64 (p : Int))).set_ 2 (.string tt)
          have hsz := HB9.out.size
          go_wp2_with fail
          refine bodyPost_ret (res_tok (by kernel_rfl) rfl rfl (HBF.out _)) rfl (kind_some HQ.out HTT.out ?_)
          have := HB9.out
          go_grown
        | none =>
          have hng : ¬ (p : Int) < (p : Int) := by omega
          refine (HW4.out _).mono ?_
          rintro e v3 hk
          rw [kind_none_eq] at hk
          obtain ⟨rfl, hb9⟩ := hk
          have hbx := (HB3.out.trans (hb9.mono HB3.out.size))
          have hlx := (HL3.out.below hb9)
          have hfx := (HF3.out.below hb9)
          have htx := (HT3.out.below hb9)
          have hsz := hbx.size
          have HB4 : Hid (Below w.heap.size w (v3.alloc (.cells #[.int .i64 0, .int .i64 0, .string ⟨#[]⟩] 35))) := hbx.alloc (by omega) _
          have HL4 := Lib.hid (hlx.alloc (.cells #[.int .i64 0, .int .i64 0, .string ⟨#[]⟩] 35))
          have HF4 := Lib.hid (hfx.alloc (.cells #[.int .i64 0, .int .i64 0, .string ⟨#[]⟩] 35))
          have HT4 : Hid (LexT Q qo qc P off c F fo fc (v3.alloc (.cells #[.int .i64 0, .int .i64 0, .string ⟨#[]⟩] 35))) := htx.below ((Below.refl _ _).alloc (Nat.le_refl _) _)
          clear hb9 hbx hlx hfx htx hsz
          have hoo : o = none := by rw [← HO.out, tok_sign HR0.out HR1.out HR2.out]; exact HR3.out
          subst hoo
          have c0 := HL4.out.cell 0
          have c1 := HL4.out.cell 1
          have c2 := HL4.out.cell 2
          have f0 := HL4.out.frozen 0
          have f1 := HL4.out.frozen 1
          have f2 := HL4.out.frozen 2
          simp only [List.getElem?_toArray, List.getElem?_cons_zero, List.getElem?_cons_succ] at c0 c1 c2
          have hbf := ((HL4.out.set_ 0 (.int .i64 0)).set_ 1 (.int .i64 0)).set_ 2 (.string ⟨#[]⟩)
          have HBF := Lib.hid hbf
          clear hbf
          go_wp2_with fail
          rw [rounds_succ]
          go_wp2_with fail
          refine bodyPost_ret (res_tok (by kernel_rfl) rfl rfl HBF.out) rfl (kind_none ?_)
          have := HB4.out
          go_grown
end Go.Proofs.YtaggmakaceafgaaGreatDoor

namespace Go.Proofs.YtaggmakaceafgaaGreatDoor
open Go.RowKit Lx
set_option linter.unusedVariables false

/-! tokens in memory -/
def flatT : List Tk → List Value
  | [] => []
  | q :: l => .int .i64 (q.1 : Int) :: .int .i64 (q.2.1 : Int) :: .string ⟨q.2.2.toArray⟩ :: flatT l
theorem flatT_append (a b : List Tk) : flatT (a ++ b) = flatT a ++ flatT b := by
  induction a with
  | nil => rfl
  | cons p a ih => simp [flatT, ih]
theorem flatT_length (l : List Tk) : (flatT l).length = l.length * 3 := by
  induction l with
  | nil => rfl
  | cons p a ih => simp [flatT, ih]; omega
theorem triple_at (W : World) (x0 x1 x2 : Value) (g : Nat) (h : g = W.heap.size) (t : TypeId) : ∀ j u, ([x0, x1, x2] : List Value)[j]? = some u → (W.alloc (.cells #[x0, x1, x2] t)).cell? ((⟨g, 0, none⟩ : Addr).add j) = some u := by
  subst h
  intro j u hu
  match j, hu with
  | 0, hu => simp at hu; subst hu; simp [Addr.add, World.cell?_alloc_at]
  | 1, hu => simp at hu; subst hu; simp [Addr.add, World.cell?_alloc_at]
  | 2, hu => simp at hu; subst hu; simp [Addr.add, World.cell?_alloc_at]
  | j + 3, hu => simp at hu
theorem own_below {w w' : World} {base : Nat} {e : TypeId} {size : Nat} {v : Value} {n : Nat} {xs : List Value} (h : w.ownsRow base e size v n xs) (hb : Below w.heap.size w w') : w'.ownsRow base e size v n xs :=
  h.kept (grown_of_below hb none) (by
    cases hv : v.ownBlock with
    | none => exact .inl rfl
    | some g => exact .inr (by simp))
theorem info_parts3 {i : Option TypeInfo} {z : Option Value} {s b : Nat} (h : i.map (fun i => (i.zero, i.size, i.bytes)) = some (z, s, b)) : ∃ i0, i = some i0 ∧ i0.zero = z ∧ i0.size = s ∧ i0.bytes = b := by
  cases i with
  | none => cases h
  | some i0 =>
    simp only [Option.map_some, Option.some.injEq, Prod.mk.injEq] at h
    exact ⟨i0, rfl, h.1, h.2.1, h.2.2⟩
theorem tok_info : (Tryz.prog.info? 35).map (fun i => (i.zero, i.size, i.bytes)) = some (some (.agg #[.int .i64 0, .int .i64 0, .string ⟨#[]⟩]), 3, 32) := by kernel_rfl
/-! Lex -/
def LexP (r : Except Nat (List Tk)) (w : World) (e : Ending) (w' : World) : Prop :=
  match r with
  | .ok ts => ∃ v, e = .returned (.tuple #[v, .nilIface]) ∧ w'.ownsRow w.heap.size 35 3 v ts.length (flatT ts) ∧ Below w.heap.size w w'
  | .error a => ∃ f, e = .returned (.tuple #[.slice none 0 0, .iface 43 (.pointer (some ⟨f, 0, none⟩))]) ∧ Blk w' f 45 #[.int .i64 (a : Int), .iface 38 (.int .i64 5)] ∧ w.heap.size ≤ f ∧ Below w.heap.size w w'
theorem lexP_ok {ts : List Tk} {w w' : World} {v : Value} (h1 : w'.ownsRow w.heap.size 35 3 v ts.length (flatT ts)) (h2 : Below w.heap.size w w') : LexP (.ok ts) w (.returned (.tuple #[v, .nilIface])) w' := ⟨v, rfl, h1, h2⟩
theorem lexP_error {a f : Nat} {w w' : World} (h1 : Blk w' f 45 #[.int .i64 (a : Int), .iface 38 (.int .i64 5)]) (h2 : w.heap.size ≤ f) (h3 : Below w.heap.size w w') : LexP (.error a) w (.returned (.tuple #[.slice none 0 0, .iface 43 (.pointer (some ⟨f, 0, none⟩))])) w' := ⟨f, rfl, h1, h2, h3⟩
theorem lex_long (s : ByteArray) (w : World) (hs : 4000 < s.size) : Calls Tryz.prog 7 #[.string s] w fun e w' => e = .returned (.tuple #[.slice none 0 0, .iface 38 (.int .i64 11)]) ∧ w = w' := by
  have d : (4000 : Int) < (s.size : Int) := by omega
  go_enter Tryz.func7, Tryz.ntmps7
  go_wp2_with fail
  go_ret2
  exact ⟨rfl, rfl⟩
def LRel (L : List UInt8) (r : Except Nat (List Tk)) (w : World) (p : Nat) (ts : List Tk) (v : Value) (wx : World) : Prop :=
  pre ts (lexS numB spanB (L.drop p) p) = r ∧ wx.ownsRow w.heap.size 35 3 v ts.length (flatT ts) ∧ Below w.heap.size w wx ∧ ts.length ≤ p
set_option maxRecDepth 100000 in
set_option maxHeartbeats 2000000 in
theorem lex_any {Q qo qc P off c F fo fc : Nat} (s : ByteArray) (w : World) (hT : LexT Q qo qc P off c F fo fc w) (hs : s.size ≤ 4000) :
    Calls Tryz.prog 7 #[.string s] w (LexP (lexS numB spanB s.data.toList 0) w) := by
  obtain ⟨i1, hi1, hy0, hy1, hy2⟩ := info_parts3 tok_info
  obtain ⟨r, hr⟩ : ∃ r, lexS numB spanB s.data.toList 0 = r := ⟨_, rfl⟩
  rw [hr]
  have HR0 : Hid (LRel s.data.toList r w 0 [] (.slice none 0 0) w) := ⟨by rw [pre_nil]; exact hr, World.ownsRow_nil _ _ _ _, Below.refl _ _, Nat.le_refl _⟩
  have HT := Lib.hid hT
  have HBK := Lib.hid (fun p W hp => blank_any s p W hp (by omega))
  have HNX := Lib.hid (fun p W hW hp => next_any (Q := Q) (qo := qo) (qc := qc) (P := P) (off := off) (c := c) (F := F) (fo := fo) (fc := fc) s p W hW hp (by omega))
  have d4 : ¬ (4000 : Int) < (s.size : Int) := by omega
  have hbl : ∀ p, p ≤ s.size → p + blankN false (s.data.toList.drop p) ≤ s.size := fun p hp => by
    have := blankN_le false (s.data.toList.drop p)
    rw [List.length_drop, ← Lib.size_eq] at this
    omega
  have HBL := Lib.hid hbl
  have HB0 := Lib.hid (HBK.out 0 w (Nat.zero_le _))
  clear hT hr hbl
  go_enter Tryz.func7, Tryz.ntmps7
  go_wp2_with fail
  refine (HB0.out).mono ?_
  rintro e w1 ⟨rfl, hb1⟩
  have HR1 : Hid (LRel s.data.toList r w 0 [] (.slice none 0 0) w1) := by
    obtain ⟨a, b, c, d⟩ := HR0.out
    exact ⟨a, World.ownsRow_nil _ _ _ _, hb1, d⟩
  clear hb1 HB0 HR0
  go_wp2_with fail
  go_loopg [5, 6] s.size (fun g s5 s6 wx => ∃ (p : Nat) (ts : List Tk), p ≤ s.size ∧ s.size ≤ g + p ∧ s6 = .int .i64 ((p + blankN false (s.data.toList.drop p) : Nat) : Int) ∧ Hid (LRel s.data.toList r w p ts s5 wx))
  case atStart => exact ⟨0, [], Nat.zero_le _, by omega, by simp, HR1⟩
  case round =>
    obtain ⟨p, ts, hp, hg, rfl, HR⟩ := hrel
    have hat := HBL.out p hp
    obtain ⟨b, hb⟩ : ∃ b, blankN false (s.data.toList.drop p) = b := ⟨_, rfl⟩
    rw [hb] at hat ⊢
    have HBB := Lib.hid hb
    obtain ⟨a, ha⟩ : ∃ a, p + b = a := ⟨_, rfl⟩
    rw [ha] at hat ⊢
    have HA := Lib.hid ha
    have hpa : p ≤ a := by omega
    have hdd : (s.data.toList.drop p).drop b = s.data.toList.drop a := by rw [List.drop_drop, ha]
    have HDD := Lib.hid hdd
    clear hb ha hdd
    obtain ⟨r1, r2, r3, r4⟩ := HR.out
    have HRR := Lib.hid r1
    have HO := Lib.hid r2
    have HB := Lib.hid r3
    have HTL := Lib.hid r4
    have HTX := Lib.hid (HT.out.below r3)
    have hsx := r3.size
    clear r1 r2 r3 r4 HR
    by_cases hlt : a < s.size
    · have d : (a : Int) < (s.size : Int) := by omega
      have hne : s.data.toList.drop a ≠ [] := by
        rw [drop_byte s a hlt]; simp
      have HNA := Lib.hid (HNX.out a _ HTX.out hlt)
      obtain ⟨o, ho⟩ : ∃ o, tokF numB spanB (s.data.toList.drop a) = o := ⟨_, rfl⟩
      rw [ho] at HNA
      cases o with
      | none =>
        have hrr : r = .error a := by
          rw [← HRR.out, lexS_bad numB spanB (by rw [HBB.out, HDD.out]; exact hne) p (by rw [HBB.out, HDD.out]; exact ho), HBB.out, HA.out]; rfl
        subst hrr
        have de : ((a : Int) == (a : Int)) = true := beq_self_eq_true _
        clear hne ho HRR
        go_wp2_with fail
        refine (HNA.out).mono ?_
        rintro e w2 hk
        rw [kind_none_eq] at hk
        obtain ⟨rfl, hb2⟩ := hk
        have HB2 := Lib.hid (HB.out.trans (hb2.mono hsx))
        clear hb2
        have hs2 := HB2.out.size
        have HF : Hid (∀ o x, Blk ((w2.alloc o).alloc (.cells #[.int .i64 (a : Int), x] 45)) (w2.heap.size + 1) 45 #[.int .i64 (a : Int), x]) := fun o x => by
          have := Blk.new (w2.alloc o) 45 #[.int .i64 (a : Int), x]
          simpa using this
        go_wp2_with fail
        go_ret2
        refine lexP_error (HF.out _ _) (by omega) ?_
        have := HB2.out
        go_grown
      | some x =>
        obtain ⟨k, t, n⟩ := x
        have hn := tok_len numB spanB ho
        have hn1 := hn.1
        have hn2 : a + n ≤ s.size := by
          have := hn.2
          rw [List.length_drop, ← Lib.size_eq] at this
          omega
        have hnext : pre (ts ++ [(k, a, t)]) (lexS numB spanB (s.data.toList.drop (a + n)) (a + n)) = r := by
          rw [← HRR.out, lexS_next numB spanB p (by rw [HBB.out, HDD.out]; exact ho), pre_pre, HBB.out, HDD.out, HA.out, List.drop_drop]
        have HNXT := Lib.hid hnext
        obtain ⟨q, hq⟩ : ∃ q, a + n = q := ⟨_, rfl⟩
        have hqa : ((q : Int) == (a : Int)) = false := beq_eq_false_iff_ne.2 (by omega)
        have HQ := Lib.hid hq
        have hqlt : a + 1 ≤ q := by omega
        rw [hq] at HNXT hn2
        have HBQ := Lib.hid (fun W => HBK.out q W hn2)
        obtain ⟨tt, htt⟩ : ∃ tt : ByteArray, (⟨t.toArray⟩ : ByteArray) = tt := ⟨_, rfl⟩
        have HTT := Lib.hid htt
        obtain ⟨g', hg'⟩ : ∃ g', gk = g' + 1 := ⟨gk - 1, by omega⟩
        clear hne ho HRR hn hnext
        go_wp2_with fail
        refine (HNA.out).mono ?_
        rintro e w2 hk
        rw [kind_some_eq, hq, htt] at hk
        obtain ⟨rfl, hb2⟩ := hk
        have HB2 := Lib.hid (HB.out.trans (hb2.mono hsx))
        have HO2 := Lib.hid (own_below HO.out hb2)
        clear hb2 hq htt
        have hs2 := HB2.out.size
        have hlen : ts.length ≤ 4000 := by have := HTL.out; omega
        go_wp2_with (at_builtin; refine wpList_append_own _ rfl _ _ 23 rfl w.heap.size 35 i1 _ 3 32 Tryz.underlying23 hi1 hy0 hy1 hy2 rfl (by decide) _ _ _ rfl ((HO2.out.alloc _).alloc _) _ 1 1 [.int .i64 (k : Int), .int .i64 (a : Int), .string tt] rfl rfl ?c1 ?c2 ?c3 ?c4 ?c5 ?_)
        case c1 => exact triple_at _ _ _ _ _ (by simp) _
        case c2 => intro u hu; simp at hu; rcases hu with rfl | rfl | rfl <;> rfl
        case c3 => unfold maxLen; omega
        case c4 => omega
        case c5 => simp; omega
        intro v' w3 hown3 hgr3 _
        have HO3 := Lib.hid hown3
        have HB3 : Hid (Below w.heap.size w w3) := ((HB2.out.alloc hs2 _).alloc (by simp; omega) _).grown hgr3 (by simp; omega) (fun g hg => (HO2.out.lt g hg).1)
        clear hown3 hgr3
        go_wp2_with fail
        refine (HBQ.out _).mono ?_
        rintro e w4 ⟨rfl, hb4⟩
        have HB4 := Lib.hid (HB3.out.trans (hb4.mono HB3.out.size))
        have HO4 := Lib.hid (own_below HO3.out hb4)
        clear hb4
        have HR4 : Hid (LRel s.data.toList r w q (ts ++ [(k, a, t)]) v' w4) := ⟨HNXT.out, by
          have := HO4.out
          rw [flatT_append, List.length_append]
          rw [← HTT.out] at this
          exact this, HB4.out, by have := HTL.out; have := HQ.out; simp; omega⟩
        subst hg'
        go_wp2_with fail
        go_roundg g'
        case measure => omega
        case rel => exact ⟨q, ts ++ [(k, a, t)], hn2, by omega, rfl, HR4⟩
    · have d : ¬ (a : Int) < (s.size : Int) := by omega
      have hrr : r = .ok ts := by
        rw [← HRR.out, lexS_end numB spanB (by rw [HBB.out, HDD.out]; exact drop_none s a (by omega))]
        simp [pre]
      subst hrr
      clear HRR
      go_wp2_with fail
      go_ret2
      exact lexP_ok HO.out HB.out
end Go.Proofs.YtaggmakaceafgaaGreatDoor

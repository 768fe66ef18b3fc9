import Derived.Test.YtaggmakaceafgaaGreatDoorC8
namespace Go.Proofs.YtaggmakaceafgaaGreatDoor
open Go.RowKit Lx
set_option linter.unusedVariables false

/-! the token at a place -/
theorem head_first {c : UInt8} {r : List UInt8} (h : numHead (c :: r) = true) : Lx.isD c = true ∨ c = 46 := by
  cases h1 : Lx.isD c with
  | true => exact .inl rfl
  | false =>
    right
    by_cases h2 : c = 46
    · exact h2
    · rw [numHead_n h1 h2] at h; cases h
theorem sign_none {c : UInt8} {r : List UInt8} (h1 : sgn1 c = false) (h2 : c ≠ 61 ∧ c ≠ 33 ∧ c ≠ 62 ∧ c ≠ 60) : signN (c :: r) = 0 := by
  obtain ⟨a, b, d, e⟩ := h2
  cases r with
  | nil => rw [signN_one, h1]; rfl
  | cons x r => rw [signN_two, h1, if_neg (by unfold dbl; simp [a, b, d, e])]; rfl
theorem digit_no (c : UInt8) (h : Lx.isD c = true ∨ c = 46) : sgn1 c = false ∧ (c ≠ 61 ∧ c ≠ 33 ∧ c ≠ 62 ∧ c ≠ 60) ∧ c ≠ 34 := by
  rcases h with h | rfl
  · have : ∀ n : Nat, n < 256 → Lx.isD (UInt8.ofNat n) = true → sgn1 (UInt8.ofNat n) = false ∧ (UInt8.ofNat n ≠ 61 ∧ UInt8.ofNat n ≠ 33 ∧ UInt8.ofNat n ≠ 62 ∧ UInt8.ofNat n ≠ 60) ∧ UInt8.ofNat n ≠ 34 := by decide +kernel
    have h2 := this c.toNat c.toNat_lt
    rw [UInt8.ofNat_toNat] at h2
    exact h2 h
  · decide
theorem tok_word {l : List UInt8} {x : Nat × List UInt8 × Nat} (h : wordF l = some x) : tokF numB spanB l = some x := by
  match l, h with
  | c :: r, h =>
    rw [wordF_cons] at h
    split at h
    · rename_i hl; rw [tokF, if_pos hl]; exact h
    · cases h
theorem tok_numb {l : List UInt8} {x : Nat × List UInt8 × Nat} (h0 : wordF l = none) (h : numberF l = some x) : tokF numB spanB l = some x := by
  match l, h0, h with
  | c :: r, h0, h =>
    rw [wordF_cons] at h0
    split at h0
    · cases h0
    · rename_i hl
      unfold numberF at h
      split at h
      · rename_i hn; rw [tokF, if_neg hl, if_pos hn]; exact h
      · cases h
theorem tok_quot {l : List UInt8} {x : Nat × List UInt8 × Nat} (h0 : wordF l = none) (h1 : numberF l = none) (h : quotedF l = some x) : tokF numB spanB l = some x := by
  match l, h0, h1, h with
  | c :: r, h0, h1, h =>
    rw [wordF_cons] at h0
    split at h0
    · cases h0
    · rename_i hl
      rw [quotedF_cons] at h
      split at h
      · rename_i hc
        have hn : ¬ numHead (c :: r) = true := fun hh => (digit_no c (head_first hh)).2.2 hc
        rw [tokF, if_neg hl, if_neg hn, if_pos hc]; exact h
      · cases h
theorem tok_sign {l : List UInt8} (h0 : wordF l = none) (h1 : numberF l = none) (h2 : quotedF l = none) : tokF numB spanB l = signF l := by
  match l, h0, h1, h2 with
  | [], _, _, _ => rfl
  | c :: r, h0, h1, h2 =>
    rw [wordF_cons] at h0
    split at h0
    · cases h0
    · rename_i hl
      by_cases hn : numHead (c :: r) = true
      · obtain ⟨a, b, d⟩ := digit_no c (head_first hn)
        have hs : signF (c :: r) = none := by unfold signF; rw [sign_none a b]; rfl
        rw [tokF, if_neg hl, if_pos hn, hs]
        unfold numberF at h1
        rw [if_pos hn] at h1
        exact h1
      · by_cases hc : c = 34
        · rw [quotedF_cons, if_pos hc] at h2
          have hs : signF (c :: r) = none := by unfold signF; subst hc; rw [sign_none (by decide) (by decide)]; rfl
          rw [tokF, if_neg hl, if_neg hn, if_pos hc, hs]
          exact h2
        · rw [tokF, if_neg hl, if_neg hn, if_neg hc]; rfl
/-- what is laid -/
structure LexT (Q qo qc P off c F fo fc : Nat) (w : World) : Prop where
  tabs : Tabs Q qo qc P off c F fo fc w
  units : Sp.Units w
  utf : T8 w
theorem LexT.below {Q qo qc P off c F fo fc : Nat} {w w' : World} (h : LexT Q qo qc P off c F fo fc w) (hb : Below w.heap.size w w') : LexT Q qo qc P off c F fo fc w' :=
  ⟨h.tabs.below hb, h.units.below h.units.size hb, h.utf.below h.utf.size hb⟩
theorem kind_none_eq (p : Nat) (w : World) : KindP p none w = fun e w' => e = .returned (.tuple #[Z0, .int .i64 (p : Int)]) ∧ Below w.heap.size w w' := rfl
theorem kind_some_eq (p k n : Nat) (t : List UInt8) (w : World) : KindP p (some (k, t, n)) w = fun e w' => e = .returned (.tuple #[tokV k p ⟨t.toArray⟩, .int .i64 ((p + n : Nat) : Int)]) ∧ Below w.heap.size w w' := rfl
set_option maxRecDepth 100000 in
set_option maxHeartbeats 2000000 in
theorem next_any {Q qo qc P off c F fo fc : Nat} (s : ByteArray) (p : Nat) (w : World) (hT : LexT Q qo qc P off c F fo fc w) (hp : p < s.size) (hs : s.size ≤ 65536) :
    Calls Tryz.prog 13 #[.string s, .int .i64 (p : Int)] w (KindP p (tokF numB spanB (s.data.toList.drop p)) w) := by
  obtain ⟨o, ho⟩ : ∃ o, tokF numB spanB (s.data.toList.drop p) = o := ⟨_, rfl⟩
  rw [ho]
  have HO := Lib.hid ho
  obtain ⟨l, hl⟩ : ∃ l, s.data.toList.drop p = l := ⟨_, rfl⟩
  have HW1 := Lib.hid (fun W => word_any s p W hp hs)
  have HW2 := Lib.hid (fun W (h : LexT Q qo qc P off c F fo fc W) => number_any s p W h.tabs h.units hp hs)
  have HW3 := Lib.hid (fun W (h : LexT Q qo qc P off c F fo fc W) => quoted_any s p W h.utf hp hs)
  have HW4 := Lib.hid (fun W => sign_any s p W hp hs)
  rw [hl] at HO HW1 HW2 HW3 HW4
  obtain ⟨w2, hw2⟩ : ∃ w2, (w.alloc (.cells #[.int .i64 0, .int .i64 0, .string ⟨#[]⟩] 35)).alloc (.cells #[.func (.func 21) #[] #[], .func (.func 22) #[] #[], .func (.func 23) #[] #[], .func (.func 24) #[] #[]] 53) = w2 := ⟨_, rfl⟩
  have hb0 : Below w.heap.size w w2 := by rw [← hw2]; exact ((Below.refl _ _).alloc (Nat.le_refl _) _).alloc (by simp) _
  have HB0 := Lib.hid hb0
  have HL0 : Hid (Blk w2 w.heap.size 35 #[.int .i64 0, .int .i64 0, .string ⟨#[]⟩]) := by show Blk _ _ _ _; rw [← hw2]; exact (Blk.new w 35 _).alloc _
  have HF0 : Hid (Blk w2 (w.heap.size + 1) 53 #[.func (.func 21) #[] #[], .func (.func 22) #[] #[], .func (.func 23) #[] #[], .func (.func 24) #[] #[]]) := by
    show Blk _ _ _ _
    rw [← hw2]
    have := Blk.new (w.alloc (.cells #[.int .i64 0, .int .i64 0, .string ⟨#[]⟩] 35)) 53 #[.func (.func 21) #[] #[], .func (.func 22) #[] #[], .func (.func 23) #[] #[], .func (.func 24) #[] #[]]
    simpa using this
  have HT0 := Lib.hid (hT.below hb0)
  clear hT ho hl hb0
  go_enter Tryz.func13, Tryz.ntmps13
  go_wp2_with fail
  clear hw2
  refine wp_loop_rounds 5 ?_
  rw [rounds_succ]
  have f0i := HF0.out.cell 0
  simp at f0i
  go_wp2_with fail
  obtain ⟨r0, hr0⟩ : ∃ r, wordF l = r := ⟨_, rfl⟩
  have HR0 := Lib.hid hr0
  rw [hr0] at HW1
  clear hr0
  cases r0 with
  | some x =>
    obtain ⟨k, t, n⟩ := x
    have htk := tok_word HR0.out
    have hn1 := (tok_len numB spanB htk).1
    have hoo : o = some (k, t, n) := by rw [← HO.out]; exact htk
    subst hoo
    have hgt : (p : Int) < ((p + n : Nat) : Int) := by omega
    have HG := Lib.hid hgt
    obtain ⟨q, hq⟩ : ∃ q, p + n = q := ⟨_, rfl⟩
    obtain ⟨tt, htt⟩ : ∃ tt : ByteArray, (⟨t.toArray⟩ : ByteArray) = tt := ⟨_, rfl⟩
    have HQ := Lib.hid hq
    have HTT := Lib.hid htt
    rw [hq] at hgt
    clear htk hn1 HG
    refine (HW1.out _).mono ?_
    rintro e w9 hk
    rw [kind_some_eq, hq, htt] at hk
    obtain ⟨rfl, hb9⟩ := hk
    clear hq htt
    have HB9 := Lib.hid (HB0.out.trans (hb9.mono HB0.out.size))
    have HL9 := Lib.hid (HL0.out.below hb9)
    clear hb9
    have c0 : ∀ o, (w9.alloc o).cell? ⟨w.heap.size, 0, none⟩ = some (.int .i64 0) := fun o => by have := (HL9.out.alloc o).cell 0; simpa using this
    have c1 : ∀ o, (w9.alloc o).cell? ⟨w.heap.size, 1, none⟩ = some (.int .i64 0) := fun o => by have := (HL9.out.alloc o).cell 1; simpa using this
    have c2 : ∀ o, (w9.alloc o).cell? ⟨w.heap.size, 2, none⟩ = some (.string ⟨#[]⟩) := fun o => by have := (HL9.out.alloc o).cell 2; simpa using this
    have f0 : ∀ o, (w9.alloc o).frozen? ⟨w.heap.size, 0, none⟩ = false := fun o => (HL9.out.alloc o).frozen 0
    have f1 : ∀ o, (w9.alloc o).frozen? ⟨w.heap.size, 1, none⟩ = false := fun o => (HL9.out.alloc o).frozen 1
    have f2 : ∀ o, (w9.alloc o).frozen? ⟨w.heap.size, 2, none⟩ = false := fun o => (HL9.out.alloc o).frozen 2
    have HBF : Hid (∀ o, Blk ((((w9.alloc o).setCell ⟨w.heap.size, 0, none⟩ (.int .i64 (k : Int))).setCell ⟨w.heap.size, 1, none⟩ (.int .i64 (p : Int))).setCell ⟨w.heap.size, 2, none⟩ (.string tt)) w.heap.size 35 #[.int .i64 (k : Int), .int .i64 (p : Int), .string tt]) := fun o => (((HL9.out.alloc o).set_ 0 (.int .i64 (k : Int))).set_ 1 (.int .i64 (p : Int))).set_ 2 (.string tt)
    have hsz := HB9.out.size
    go_wp2_with fail
    refine bodyPost_ret (res_tok (by kernel_rfl) rfl rfl (HBF.out _)) rfl (kind_some HQ.out HTT.out ?_)
    have := HB9.out
    go_grown
  | none =>
    have hng : ¬ (p : Int) < (p : Int) := by omega
    refine (HW1.out _).mono ?_
    rintro e v0 hk
    rw [kind_none_eq] at hk
    obtain ⟨rfl, hb9⟩ := hk
    have hbx := (HB0.out.trans (hb9.mono HB0.out.size))
    have hlx := (HL0.out.below hb9)
    have hfx := (HF0.out.below hb9)
    have htx := (HT0.out.below hb9)
    have hsz := hbx.size
    have HB1 : Hid (Below w.heap.size w (v0.alloc (.cells #[.int .i64 0, .int .i64 0, .string ⟨#[]⟩] 35))) := hbx.alloc (by omega) _
    have HL1 := Lib.hid (hlx.alloc (.cells #[.int .i64 0, .int .i64 0, .string ⟨#[]⟩] 35))
    have HF1 := Lib.hid (hfx.alloc (.cells #[.int .i64 0, .int .i64 0, .string ⟨#[]⟩] 35))
    have HT1 : Hid (LexT Q qo qc P off c F fo fc (v0.alloc (.cells #[.int .i64 0, .int .i64 0, .string ⟨#[]⟩] 35))) := htx.below ((Below.refl _ _).alloc (Nat.le_refl _) _)
    clear hb9 hbx hlx hfx htx hsz
    have f1i := HF1.out.cell 1
    simp only [List.getElem?_toArray, List.getElem?_cons_zero, List.getElem?_cons_succ] at f1i
    go_wp2_with fail
    rw [rounds_succ]
    go_wp2_with fail
    clear f1i hng
    obtain ⟨r1, hr1⟩ : ∃ r, numberF l = r := ⟨_, rfl⟩
    have HR1 := Lib.hid hr1
    rw [hr1] at HW2
    clear hr1
    cases r1 with
    | some x =>
      obtain ⟨k, t, n⟩ := x
      have htk := tok_numb HR0.out HR1.out
      have hn1 := (tok_len numB spanB htk).1
      have hoo : o = some (k, t, n) := by rw [← HO.out]; exact htk
      subst hoo
      have hgt : (p : Int) < ((p + n : Nat) : Int) := by omega
      have HG := Lib.hid hgt
      obtain ⟨q, hq⟩ : ∃ q, p + n = q := ⟨_, rfl⟩
      obtain ⟨tt, htt⟩ : ∃ tt : ByteArray, (⟨t.toArray⟩ : ByteArray) = tt := ⟨_, rfl⟩
      have HQ := Lib.hid hq
      have HTT := Lib.hid htt
      rw [hq] at hgt
      clear htk hn1 HG
      refine (HW2.out _ HT1.out).mono ?_
      rintro e w9 hk
      rw [kind_some_eq, hq, htt] at hk
      obtain ⟨rfl, hb9⟩ := hk
      clear hq htt
      have HB9 := Lib.hid (HB1.out.trans (hb9.mono HB1.out.size))
      have HL9 := Lib.hid (HL1.out.below hb9)
      clear hb9
      have c0 : ∀ o, (w9.alloc o).cell? ⟨w.heap.size, 0, none⟩ = some (.int .i64 0) := fun o => by have := (HL9.out.alloc o).cell 0; simpa using this
      have c1 : ∀ o, (w9.alloc o).cell? ⟨w.heap.size, 1, none⟩ = some (.int .i64 0) := fun o => by have := (HL9.out.alloc o).cell 1; simpa using this
      have c2 : ∀ o, (w9.alloc o).cell? ⟨w.heap.size, 2, none⟩ = some (.string ⟨#[]⟩) := fun o => by have := (HL9.out.alloc o).cell 2; simpa using this
      have f0 : ∀ o, (w9.alloc o).frozen? ⟨w.heap.size, 0, none⟩ = false := fun o => (HL9.out.alloc o).frozen 0
      have f1 : ∀ o, (w9.alloc o).frozen? ⟨w.heap.size, 1, none⟩ = false := fun o => (HL9.out.alloc o).frozen 1
      have f2 : ∀ o, (w9.alloc o).frozen? ⟨w.heap.size, 2, none⟩ = false := fun o => (HL9.out.alloc o).frozen 2
      have HBF : Hid (∀ o, Blk ((((w9.alloc o).setCell ⟨w.heap.size, 0, none⟩ (.int .i64 (k : Int))).setCell ⟨w.heap.size, 1, none⟩ (.int .i64 (p : Int))).setCell ⟨w.heap.size, 2, none⟩ (.string tt)) w.heap.size 35 #[.int .i64 (k : Int), .int .i64 (p : Int), .string tt]) := fun o => (((HL9.out.alloc o).set_ 0 (.int .i64 (k : Int))).set_ 1 (.int .i64 (p : Int))).set_ 2 (.string tt)
      have hsz := HB9.out.size
      go_wp2_with fail
      refine bodyPost_ret (res_tok (by kernel_rfl) rfl rfl (HBF.out _)) rfl (kind_some HQ.out HTT.out ?_)
      have := HB9.out
      go_grown
    | none =>
      have hng : ¬ (p : Int) < (p : Int) := by omega
      refine (HW2.out _ HT1.out).mono ?_
      rintro e v1 hk
      rw [kind_none_eq] at hk
      obtain ⟨rfl, hb9⟩ := hk
      have hbx := (HB1.out.trans (hb9.mono HB1.out.size))
      have hlx := (HL1.out.below hb9)
      have hfx := (HF1.out.below hb9)
      have htx := (HT1.out.below hb9)
      have hsz := hbx.size
      have HB2 : Hid (Below w.heap.size w (v1.alloc (.cells #[.int .i64 0, .int .i64 0, .string ⟨#[]⟩] 35))) := hbx.alloc (by omega) _
      have HL2 := Lib.hid (hlx.alloc (.cells #[.int .i64 0, .int .i64 0, .string ⟨#[]⟩] 35))
      have HF2 := Lib.hid (hfx.alloc (.cells #[.int .i64 0, .int .i64 0, .string ⟨#[]⟩] 35))
      have HT2 : Hid (LexT Q qo qc P off c F fo fc (v1.alloc (.cells #[.int .i64 0, .int .i64 0, .string ⟨#[]⟩] 35))) := htx.below ((Below.refl _ _).alloc (Nat.le_refl _) _)
      clear hb9 hbx hlx hfx htx hsz
      have f2i := HF2.out.cell 2
      simp only [List.getElem?_toArray, List.getElem?_cons_zero, List.getElem?_cons_succ] at f2i
      go_wp2_with fail
      rw [rounds_succ]
      go_wp2_with fail
      clear f2i hng
      obtain ⟨r2, hr2⟩ : ∃ r, quotedF l = r := ⟨_, rfl⟩
      have HR2 := Lib.hid hr2
      rw [hr2] at HW3
      clear hr2
      cases r2 with
      | some x =>
        obtain ⟨k, t, n⟩ := x
        have htk := tok_quot HR0.out HR1.out HR2.out
        have hn1 := (tok_len numB spanB htk).1
        have hoo : o = some (k, t, n) := by rw [← HO.out]; exact htk
        subst hoo
        have hgt : (p : Int) < ((p + n : Nat) : Int) := by omega
        have HG := Lib.hid hgt
        obtain ⟨q, hq⟩ : ∃ q, p + n = q := ⟨_, rfl⟩
        obtain ⟨tt, htt⟩ : ∃ tt : ByteArray, (⟨t.toArray⟩ : ByteArray) = tt := ⟨_, rfl⟩
        have HQ := Lib.hid hq
        have HTT := Lib.hid htt
        rw [hq] at hgt
        clear htk hn1 HG
        refine (HW3.out _ HT2.out).mono ?_
        rintro e w9 hk
        rw [kind_some_eq, hq, htt] at hk
        obtain ⟨rfl, hb9⟩ := hk
        clear hq htt
        have HB9 := Lib.hid (HB2.out.trans (hb9.mono HB2.out.size))
        have HL9 := Lib.hid (HL2.out.below hb9)
        clear hb9
        have c0 : ∀ o, (w9.alloc o).cell? ⟨w.heap.size, 0, none⟩ = some (.int .i64 0) := fun o => by have := (HL9.out.alloc o).cell 0; simpa using this
        have c1 : ∀ o, (w9.alloc o).cell? ⟨w.heap.size, 1, none⟩ = some (.int .i64 0) := fun o => by have := (HL9.out.alloc o).cell 1; simpa using this
        have c2 : ∀ o, (w9.alloc o).cell? ⟨w.heap.size, 2, none⟩ = some (.string ⟨#[]⟩) := fun o => by have := (HL9.out.alloc o).cell 2; simpa using this
        have f0 : ∀ o, (w9.alloc o).frozen? ⟨w.heap.size, 0, none⟩ = false := fun o => (HL9.out.alloc o).frozen 0
        have f1 : ∀ o, (w9.alloc o).frozen? ⟨w.heap.size, 1, none⟩ = false := fun o => (HL9.out.alloc o).frozen 1
        have f2 : ∀ o, (w9.alloc o).frozen? ⟨w.heap.size, 2, none⟩ = false := fun o => (HL9.out.alloc o).frozen 2
        have HBF : Hid (∀ o, Blk ((((w9.alloc o).setCell ⟨w.heap.size, 0, none⟩ (.int .i64 (k : Int))).setCell ⟨w.heap.size, 1, none⟩ (.int .i64 (p : Int))).setCell ⟨w.heap.size, 2, none⟩ (.string tt)) w.heap.size 35 #[.int .i64 (k : Int), .int .i64 (p : Int), .string tt]) := fun o => (((HL9.out.alloc o).set_ 0 (.int .i64 (k : Int))).set_ 1 (.int .i64 (p : Int))).set_ 2 (.string tt)
        have hsz := HB9.out.size
        go_wp2_with fail
        refine bodyPost_ret (res_tok (by kernel_rfl) rfl rfl (HBF.out _)) rfl (kind_some HQ.out HTT.out ?_)
        have := HB9.out
        go_grown
      | none =>
        have hng : ¬ (p : Int) < (p : Int) := by omega
        refine (HW3.out _ HT2.out).mono ?_
        rintro e v2 hk
        rw [kind_none_eq] at hk
        obtain ⟨rfl, hb9⟩ := hk
        have hbx := (HB2.out.trans (hb9.mono HB2.out.size))
        have hlx := (HL2.out.below hb9)
        have hfx := (HF2.out.below hb9)
        have htx := (HT2.out.below hb9)
        have hsz := hbx.size
        have HB3 : Hid (Below w.heap.size w (v2.alloc (.cells #[.int .i64 0, .int .i64 0, .string ⟨#[]⟩] 35))) := hbx.alloc (by omega) _
        have HL3 := Lib.hid (hlx.alloc (.cells #[.int .i64 0, .int .i64 0, .string ⟨#[]⟩] 35))
        have HF3 := Lib.hid (hfx.alloc (.cells #[.int .i64 0, .int .i64 0, .string ⟨#[]⟩] 35))
        have HT3 : Hid (LexT Q qo qc P off c F fo fc (v2.alloc (.cells #[.int .i64 0, .int .i64 0, .string ⟨#[]⟩] 35))) := htx.below ((Below.refl _ _).alloc (Nat.le_refl _) _)
        clear hb9 hbx hlx hfx htx hsz
        have f3i := HF3.out.cell 3
        simp only [List.getElem?_toArray, List.getElem?_cons_zero, List.getElem?_cons_succ] at f3i
        go_wp2_with fail
        rw [rounds_succ]
        go_wp2_with fail
        clear f3i hng
        obtain ⟨r3, hr3⟩ : ∃ r, signF l = r := ⟨_, rfl⟩
        have HR3 := Lib.hid hr3
        rw [hr3] at HW4
        clear hr3
        cases r3 with
        | some x =>
          obtain ⟨k, t, n⟩ := x
          have htk := (tok_sign HR0.out HR1.out HR2.out).trans HR3.out
          have hn1 := (tok_len numB spanB htk).1
          have hoo : o = some (k, t, n) := by rw [← HO.out]; exact htk
          subst hoo
          have hgt : (p : Int) < ((p + n : Nat) : Int) := by omega
          have HG := Lib.hid hgt
          obtain ⟨q, hq⟩ : ∃ q, p + n = q := ⟨_, rfl⟩
          obtain ⟨tt, htt⟩ : ∃ tt : ByteArray, (⟨t.toArray⟩ : ByteArray) = tt := ⟨_, rfl⟩
          have HQ := Lib.hid hq
          have HTT := Lib.hid htt
          rw [hq] at hgt
          clear htk hn1 HG
          refine (HW4.out _).mono ?_
          rintro e w9 hk
          rw [kind_some_eq, hq, htt] at hk
          obtain ⟨rfl, hb9⟩ := hk
          clear hq htt
          have HB9 := Lib.hid (HB3.out.trans (hb9.mono HB3.out.size))
          have HL9 := Lib.hid (HL3.out.below hb9)
          clear hb9
          have c0 : ∀ o, (w9.alloc o).cell? ⟨w.heap.size, 0, none⟩ = some (.int .i64 0) := fun o => by have := (HL9.out.alloc o).cell 0; simpa using this
          have c1 : ∀ o, (w9.alloc o).cell? ⟨w.heap.size, 1, none⟩ = some (.int .i64 0) := fun o => by have := (HL9.out.alloc o).cell 1; simpa using this
          have c2 : ∀ o, (w9.alloc o).cell? ⟨w.heap.size, 2, none⟩ = some (.string ⟨#[]⟩) := fun o => by have := (HL9.out.alloc o).cell 2; simpa using this
          have f0 : ∀ o, (w9.alloc o).frozen? ⟨w.heap.size, 0, none⟩ = false := fun o => (HL9.out.alloc o).frozen 0
          have f1 : ∀ o, (w9.alloc o).frozen? ⟨w.heap.size, 1, none⟩ = false := fun o => (HL9.out.alloc o).frozen 1
          have f2 : ∀ o, (w9.alloc o).frozen? ⟨w.heap.size, 2, none⟩ = false := fun o => (HL9.out.alloc o).frozen 2
          have HBF : Hid (∀ o, Blk ((((w9.alloc o).setCell ⟨w.heap.size, 0, none⟩ (.int .i64 (k : Int))).setCell ⟨w.heap.size, 1, none⟩ (.int .i64 (p : Int))).setCell ⟨w.heap.size, 2, none⟩ (.string tt)) w.heap.size 35 #[.int .i64 (k : Int), .int .i64 (p : Int), .string tt]) := fun o => (((HL9.out.alloc o).set_ 0 (.int .i64 (k : Int))).set_ 1 (.int .i64 (p : Int))).set_ 2 (.string tt)
          have hsz := HB9.out.size
          go_wp2_with fail
          refine bodyPost_ret (res_tok (by kernel_rfl) rfl rfl (HBF.out _)) rfl (kind_some HQ.out HTT.out ?_)
          have := HB9.out
          go_grown
        | none =>
          have hng : ¬ (p : Int) < (p : Int) := by omega
          refine (HW4.out _).mono ?_
          rintro e v3 hk
          rw [kind_none_eq] at hk
          obtain ⟨rfl, hb9⟩ := hk
          have hbx := (HB3.out.trans (hb9.mono HB3.out.size))
          have hlx := (HL3.out.below hb9)
          have hfx := (HF3.out.below hb9)
          have htx := (HT3.out.below hb9)
          have hsz := hbx.size
          have HB4 : Hid (Below w.heap.size w (v3.alloc (.cells #[.int .i64 0, .int .i64 0, .string ⟨#[]⟩] 35))) := hbx.alloc (by omega) _
          have HL4 := Lib.hid (hlx.alloc (.cells #[.int .i64 0, .int .i64 0, .string ⟨#[]⟩] 35))
          have HF4 := Lib.hid (hfx.alloc (.cells #[.int .i64 0, .int .i64 0, .string ⟨#[]⟩] 35))
          have HT4 : Hid (LexT Q qo qc P off c F fo fc (v3.alloc (.cells #[.int .i64 0, .int .i64 0, .string ⟨#[]⟩] 35))) := htx.below ((Below.refl _ _).alloc (Nat.le_refl _) _)
          clear hb9 hbx hlx hfx htx hsz
          have hoo : o = none := by rw [← HO.out, tok_sign HR0.out HR1.out HR2.out]; exact HR3.out
          subst hoo
          have c0 := HL4.out.cell 0
          have c1 := HL4.out.cell 1
          have c2 := HL4.out.cell 2
          have f0 := HL4.out.frozen 0
          have f1 := HL4.out.frozen 1
          have f2 := HL4.out.frozen 2
          simp only [List.getElem?_toArray, List.getElem?_cons_zero, List.getElem?_cons_succ] at c0 c1 c2
          have hbf := ((HL4.out.set_ 0 (.int .i64 0)).set_ 1 (.int .i64 0)).set_ 2 (.string ⟨#[]⟩)
          have HBF := Lib.hid hbf
          clear hbf
          go_wp2_with fail
          rw [rounds_succ]
          go_wp2_with fail
          refine bodyPost_ret (res_tok (by kernel_rfl) rfl rfl HBF.out) rfl (kind_none ?_)
          have := HB4.out
          go_grown
end Go.Proofs.YtaggmakaceafgaaGreatDoor

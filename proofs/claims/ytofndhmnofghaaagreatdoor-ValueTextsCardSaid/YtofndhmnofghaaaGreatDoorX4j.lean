/- The text of a finite float that is not nought is a decimal one, and short. No condition. -/
import Derived.Test.YtofndhmnofghaaaGreatDoorX3j
import Derived.Test.YtofndhmnofghaaaGreatDoorSrj
namespace Go.Proofs.YtofndhmnofghaaaGreatDoor.Sl
open Go.RowKit Ut
set_option linter.unusedVariables false
set_option linter.unusedSimpArgs false

theorem tkB_nil {g : List UInt8} {s : ByteArray} {k : Nat} (h : Lf s k = []) : takeB g s k = false := by
  refine take_out g s k ?_
  rcases Nat.lt_or_ge k s.size with hk | hk
  · rw [Lf_cons hk] at h; cases h
  · exact hk
theorem tkB_cons {g y : List UInt8} {s : ByteArray} {k : Nat} {c : UInt8} (h : Lf s k = c :: y) : takeB g s k = g.contains c ∧ Lf s (k + 1) = y := by
  rcases Nat.lt_or_ge k s.size with hk | hk
  · rw [Lf_cons hk] at h
    injection h with h1 h2
    rw [take_in g s k hk, h1]
    exact ⟨rfl, h2⟩
  · rw [Lf_nil hk] at h; cases h
theorem ten_dgt : ∀ n : Fin 256, ([48, 49, 50, 51, 52, 53, 54, 55, 56, 57] : List UInt8).contains (UInt8.ofNat n.val) = (decide (48 ≤ n.val) && decide (n.val ≤ 57)) := by decide +kernel
theorem ten_is (c : UInt8) : ([48, 49, 50, 51, 52, 53, 54, 55, 56, 57] : List UInt8).contains c = (decide (48 ≤ c.toNat) && decide (c.toNat ≤ 57)) := by
  have h := ten_dgt ⟨c.toNat, c.toNat_lt⟩
  rw [UInt8.ofNat_toNat] at h
  exact h
theorem Lf_app : ∀ (x : List UInt8) {y : List UInt8} {s : ByteArray} {k : Nat}, Lf s k = x ++ y → Lf s (k + x.length) = y
  | [], y, s, k, h => h
  | c :: x, y, s, k, h => by
    have := Lf_app x (tkB_cons (g := []) h).2
    rw [List.length_cons, show k + (x.length + 1) = k + 1 + x.length by omega]
    exact this
/-- what is left does not begin with a digit -/
def NoD (y : List UInt8) : Prop := y = [] ∨ ∃ c z, y = c :: z ∧ (c.toNat < 48 ∨ 57 < c.toNat)
theorem digs_app : ∀ (x : List UInt8) {y : List UInt8} {s : ByteArray} {k : Nat}, Dgt x → NoD y → Lf s k = x ++ y → digs s k = x.length
  | [], y, s, k, hd, hn, h => by
    refine digs_no ?_
    rcases hn with rfl | ⟨c, z, rfl, hc⟩
    · exact tkB_nil h
    · rw [(tkB_cons (g := [48, 49, 50, 51, 52, 53, 54, 55, 56, 57]) h).1, ten_is]
      rcases hc with hc | hc
      · rw [decide_eq_false (by omega)]; rfl
      · rw [decide_eq_false (show ¬ c.toNat ≤ 57 by omega), Bool.and_false]
  | c :: x, y, s, k, hd, hn, h => by
    have hc := hd c (List.mem_cons_self ..)
    obtain ⟨a, b⟩ := tkB_cons (g := [48, 49, 50, 51, 52, 53, 54, 55, 56, 57]) h
    rw [ten_is, decide_eq_true hc.1, decide_eq_true hc.2] at a
    rw [digs_yes a, digs_app x (fun c hc => hd c (List.mem_cons_of_mem _ hc)) hn b, List.length_cons, Nat.add_comm]
def fracL : Option (List UInt8) → List UInt8
  | none => []
  | some c => 46 :: c
def expoL : Option (UInt8 × List UInt8) → List UInt8
  | none => []
  | some (g, d) => 101 :: g :: d
structure ExpOk (g : UInt8) (d : List UInt8) : Prop where
  sg : g = 43 ∨ g = 45
  dg : Dgt d
  ne : d ≠ []
theorem endB_shape {s : ByteArray} {k : Nat} (e : Option (UInt8 × List UInt8)) (he : ∀ g d, e = some (g, d) → ExpOk g d) (h : Lf s k = expoL e) (hk : k + (expoL e).length = s.size) : endB s k = true := by
  cases e with
  | none =>
    have : (k : Int) = (s.size : Int) := by simp [expoL] at hk; omega
    rw [endB_no (tkB_nil h)]; simp [this]
  | some p =>
    obtain ⟨g, d⟩ := p
    obtain ⟨h1, h2, h3⟩ := he g d rfl
    obtain ⟨a1, a2⟩ := tkB_cons (g := [101, 69]) h
    obtain ⟨b1, b2⟩ := tkB_cons (g := [43, 45]) a2
    have hb : takeB [43, 45] s (k + 1) = true := by
      rw [b1]
      rcases h1 with rfl | rfl <;> decide
    have hdg : digs s (k + 1 + 1) = d.length := digs_app d h2 (.inl rfl) (by rw [List.append_nil]; exact b2)
    have hl : 0 < d.length := List.length_pos_iff.2 h3
    rw [endB_yes (d := k + 1 + 1) (m := d.length) (by rw [a1]; decide) (by rw [hb]; rfl) hdg, if_neg (by omega)]
    simp [expoL] at hk
    simp; omega
theorem expo_noD (e : Option (UInt8 × List UInt8)) : NoD (expoL e) := by
  cases e with
  | none => exact .inl rfl
  | some p => exact .inr ⟨101, _, rfl, .inr (by decide)⟩
theorem dec_shape (neg : Bool) (a : List UInt8) (c : Option (List UInt8)) (e : Option (UInt8 × List UInt8)) (s : ByteArray) (ha : Dgt a) (hc : ∀ x, c = some x → Dgt x) (h0 : a ≠ [])
    (he : ∀ g d, e = some (g, d) → ExpOk g d) (h : Lf s 0 = tSgn neg ++ (a ++ (fracL c ++ expoL e))) : decB s = true := by
  have hsz : s.size = (tSgn neg ++ (a ++ (fracL c ++ expoL e))).length := by
    rw [← h]; unfold Lf; simp
  have hl : 0 < a.length := List.length_pos_iff.2 h0
  have hA : nxt (takeB [45] s 0) 0 = (tSgn neg).length := by
    cases neg with
    | true => obtain ⟨x, _⟩ := tkB_cons (g := [45]) (c := 45) h; rw [x]; rfl
    | false =>
      cases a with
      | nil => exact absurd rfl h0
      | cons b a =>
        obtain ⟨x, _⟩ := tkB_cons (g := [45]) (c := b) h
        have hb := ha b (List.mem_cons_self ..)
        have : ([45] : List UInt8).contains b = false := by
          simp only [List.contains_cons, List.contains_nil, Bool.or_false, beq_eq_false_iff_ne]
          intro e; rw [e] at hb; exact absurd hb.1 (by decide)
        rw [x, this]; rfl
  have h1 := Lf_app (tSgn neg) h
  rw [Nat.zero_add] at h1
  have hfn : NoD (fracL c ++ expoL e) := by
    cases c with
    | none => exact expo_noD e
    | some x => exact .inr ⟨46, _, rfl, .inl (by decide)⟩
  have hN : digs s (tSgn neg).length = a.length := digs_app a ha hfn h1
  have h2 := Lf_app a h1
  simp only [List.length_append] at hsz
  rw [decB_end s _ _ hA hN]
  cases c with
  | none =>
    have hd : takeB [46] s ((tSgn neg).length + a.length) = false := by
      cases e with
      | none => exact tkB_nil h2
      | some p => rw [(tkB_cons (g := [46]) h2).1]; decide
    rw [if_neg (by rw [hd]; simp; exact h0), hd, if_neg (by decide)]
    exact endB_shape e he h2 (by simp [fracL] at hsz ⊢; omega)
  | some x =>
    obtain ⟨d1, d2⟩ := tkB_cons (g := [46]) h2
    have hd : takeB [46] s ((tSgn neg).length + a.length) = true := by rw [d1]; decide
    have hM : digs s ((tSgn neg).length + a.length + 1) = x.length := digs_app x (hc x rfl) (expo_noD e) d2
    have h3 := Lf_app x d2
    rw [hd, if_pos rfl, if_pos rfl, hM, if_neg (by omega)]
    exact endB_shape e he h3 (by simp [fracL] at hsz ⊢; omega)
theorem exp_shape (y : Int) (h1 : -1000 < y) (h2 : y < 1000) : ∃ g d, (101 : UInt8) :: tExp y = expoL (some (g, d)) ∧ ExpOk g d ∧ d.length ≤ 3 := by
  have key : ∀ k : Nat, k < 1000 → Dgt (tPow (k : Int)) ∧ tPow (k : Int) ≠ [] ∧ (tPow (k : Int)).length ≤ 3 := by
    intro k hk
    unfold tPow
    by_cases h1 : k < 10
    · rw [if_pos (by omega)]
      have a := b8_is k h1
      refine ⟨?_, by simp, by simp⟩
      intro c hc; simp only [List.mem_cons, List.not_mem_nil, or_false] at hc; rcases hc with rfl | rfl; exact ⟨by decide, by decide⟩; exact ⟨a.1, a.2.1⟩
    · rw [if_neg (by omega)]
      by_cases h2 : k < 100
      · rw [if_pos (by omega)]
        have a := b8_is (k / 10) (by omega)
        have b := b8_is (k % 10) (by omega)
        rw [show ((k / 10 : Nat) : Int) = (k : Int) / 10 by omega] at a
        rw [show ((k % 10 : Nat) : Int) = (k : Int) % 10 by omega] at b
        refine ⟨?_, by simp, by simp⟩
        intro c hc; simp only [List.mem_cons, List.not_mem_nil, or_false] at hc; rcases hc with rfl | rfl; exact ⟨a.1, a.2.1⟩; exact ⟨b.1, b.2.1⟩
      · rw [if_neg (by omega)]
        have a := b8_is (k / 100) (by omega)
        have b := b8_is (k / 10 % 10) (by omega)
        have d := b8_is (k % 10) (by omega)
        rw [show ((k / 100 : Nat) : Int) = (k : Int) / 100 by omega] at a
        rw [show ((k / 10 % 10 : Nat) : Int) = (k : Int) / 10 % 10 by omega] at b
        rw [show ((k % 10 : Nat) : Int) = (k : Int) % 10 by omega] at d
        refine ⟨?_, by simp, by simp⟩
        intro c hc; simp only [List.mem_cons, List.not_mem_nil, or_false] at hc; rcases hc with rfl | rfl | rfl; exact ⟨a.1, a.2.1⟩; exact ⟨b.1, b.2.1⟩; exact ⟨d.1, d.2.1⟩
  unfold tExp
  by_cases h : y < 0
  · rw [if_pos h]
    obtain ⟨k, hk⟩ : ∃ k : Nat, -y = (k : Int) := ⟨(-y).toNat, by omega⟩
    obtain ⟨a, b, c⟩ := key k (by omega)
    rw [hk]
    exact ⟨45, _, rfl, ⟨.inr rfl, a, b⟩, c⟩
  · rw [if_neg h]
    obtain ⟨k, hk⟩ : ∃ k : Nat, y = (k : Int) := ⟨y.toNat, by omega⟩
    obtain ⟨a, b, c⟩ := key k (by omega)
    rw [hk]
    exact ⟨43, _, rfl, ⟨.inl rfl, a, b⟩, c⟩
theorem sgn_len (neg : Bool) : (tSgn neg).length ≤ 1 := by cases neg <;> decide
theorem dec_g (neg : Bool) (ds : List UInt8) (dp : Int) (hs : Spell ds) (h18 : ds.length ≤ 18) (h1 : -380 ≤ dp) (h2 : dp ≤ 380) (s : ByteArray) (h : Lf s 0 = tG neg ds dp) : decB s = true ∧ (tG neg ds dp).length ≤ 100 := by
  have hg := sgn_len neg
  have dg := hs.dg
  have ne := hs.ne
  unfold tG at h ⊢
  by_cases hc : dp - 1 < -4 ∨ (-4 ≤ dp - 1 ∧ 6 ≤ dp - 1)
  · rw [if_pos hc] at h ⊢
    obtain ⟨c, l, rfl⟩ : ∃ c l, ds = c :: l := by
      cases ds with
      | nil => exact absurd rfl ne
      | cons c l => exact ⟨c, l, rfl⟩
    obtain ⟨g, d, e1, e2, e3⟩ := exp_shape (dp - 1) (by omega) (by omega)
    have hT : tE neg (c :: l) (dp - 1) = tSgn neg ++ ([c] ++ (fracL (if 1 < (c :: l).length then some l else none) ++ expoL (some (g, d)))) := by
      unfold tE
      rw [if_neg (by simp), ← e1]
      unfold tFrac
      by_cases hl : 1 < (c :: l).length
      · rw [if_pos hl, if_pos hl]; simp [fracL]
      · rw [if_neg hl, if_neg hl]; simp [fracL]
    rw [hT] at h ⊢
    refine ⟨dec_shape neg [c] _ (some (g, d)) s (fun x hx => dg x (by rw [List.mem_singleton] at hx; rw [hx]; exact List.mem_cons_self ..)) (fun x hx => ?_) (by simp) (fun g' d' hgd => ?_) h, ?_⟩
    · split at hx
      · injection hx with hx; subst hx; exact fun x hx => dg x (List.mem_cons_of_mem _ hx)
      · cases hx
    · injection hgd with hgd; injection hgd with a b; subst a; subst b; exact e2
    · have : (fracL (if 1 < (c :: l).length then some l else none)).length ≤ 19 := by
        split
        · simp [fracL] at h18 ⊢; omega
        · simp [fracL]
      simp [expoL]
      simp at this
      omega
  · rw [if_neg hc] at h ⊢
    unfold tF at h ⊢
    by_cases hp : 0 < dp
    · rw [if_pos hp] at h ⊢
      by_cases hk : dp.toNat < ds.length
      · rw [if_pos hk] at h ⊢
        have hT : tSgn neg ++ ds.take dp.toNat ++ [46] ++ ds.drop dp.toNat = tSgn neg ++ (ds.take dp.toNat ++ (fracL (some (ds.drop dp.toNat)) ++ expoL none)) := by simp [fracL, expoL]
        rw [hT] at h
        refine ⟨dec_shape neg _ (some (ds.drop dp.toNat)) none s (fun x hx => dg x (List.mem_of_mem_take hx)) (fun x hx => ?_) ?_ (fun g d hgd => by cases hgd) h, ?_⟩
        · injection hx with hx; subst hx; exact fun x hx => dg x (List.mem_of_mem_drop hx)
        · intro e
          have := congrArg List.length e
          rw [List.length_take, List.length_nil] at this
          omega
        · simp; omega
      · rw [if_neg hk] at h ⊢
        have hT : tSgn neg ++ ds ++ List.replicate (dp.toNat - ds.length) 48 = tSgn neg ++ ((ds ++ List.replicate (dp.toNat - ds.length) 48) ++ (fracL none ++ expoL none)) := by simp [fracL, expoL]
        rw [hT] at h
        refine ⟨dec_shape neg _ none none s (fun x hx => ?_) (fun x hx => by cases hx) ?_ (fun g d hgd => by cases hgd) h, ?_⟩
        · rcases List.mem_append.1 hx with hx | hx
          · exact dg x hx
          · rw [List.eq_of_mem_replicate hx]; exact ⟨by decide, by decide⟩
        · intro e; exact ne (List.append_eq_nil_iff.1 e).1
        · simp; omega
    · rw [if_neg hp] at h ⊢
      have hl : 0 < ds.length := List.length_pos_iff.2 ne
      rw [if_pos (by omega)] at h ⊢
      have hT : tSgn neg ++ [48] ++ [46] ++ List.replicate (-dp).toNat 48 ++ ds = tSgn neg ++ ([48] ++ (fracL (some (List.replicate (-dp).toNat 48 ++ ds)) ++ expoL none)) := by simp [fracL, expoL]
      rw [hT] at h
      refine ⟨dec_shape neg _ (some (List.replicate (-dp).toNat 48 ++ ds)) none s (fun x hx => ?_) (fun x hx => ?_) (by simp) (fun g d hgd => by cases hgd) h, ?_⟩
      · rw [List.mem_singleton] at hx; rw [hx]; exact ⟨by decide, by decide⟩
      · injection hx with hx; subst hx
        intro x hx
        rcases List.mem_append.1 hx with hx | hx
        · rw [List.eq_of_mem_replicate hx]; exact ⟨by decide, by decide⟩
        · exact dg x hx
      · simp; omega
theorem fin_dec {mant : Nat} {q : Int} (neg : Bool) (hf : Ut.IsF mant q) (h0 : 0 < mant) (hq : q ≤ 971) (s : ByteArray) (h : Lf s 0 = fmtFin neg mant (q + 52)) : decB s = true ∧ (fmtFin neg mant (q + 52)).length ≤ 100 := by
  obtain ⟨D, hD, hpos, hlt, e1, e2, hV⟩ := short_is (moved_of hf h0 hq)
  obtain ⟨hsp, h18, hT⟩ := Ut.spell_of hpos hlt (sfE (mant * 2 ^ (64 - Lib.bitLen mant)) (q - ((64 - Lib.bitLen mant : Nat) : Int))) (by omega)
  have hn := Lib.nDigits_pos D
  unfold fmtFin at h ⊢
  rw [show q + 52 - ((64 - Lib.bitLen mant : Nat) : Int) - 52 = q - ((64 - Lib.bitLen mant : Nat) : Int) by omega, hD, Int.toNat_natCast, gText_is, dgs_is, trim_is, show nD D = Lib.nDigits D from if_neg (by omega)] at h ⊢
  have hle : ((Ut.tDgs D (Lib.nDigits D)).take (Ut.tTrim D (Lib.nDigits D) (Lib.nDigits D))).length ≤ 18 := by
    have := Ut.tTrim_le D (Lib.nDigits D) (Lib.nDigits D)
    rw [List.length_take]; omega
  exact dec_g neg _ _ hsp hle (by omega) (by omega) s h
theorem fmt_dec (n : Nat) (hn : n < 18446744073709551616) (hfin : n % 9223372036854775808 < 9218868437227405312) (h0 : n % 9223372036854775808 ≠ 0) (s : ByteArray) (h : Lf s 0 = fmtF n) : decB s = true ∧ (fmtF n).length ≤ 100 := by
  unfold fmtF at h ⊢
  rw [if_neg (show ¬ n / 4503599627370496 % 2048 = 2047 by omega)] at h ⊢
  by_cases hb : n / 4503599627370496 % 2048 = 0
  · rw [if_pos hb, if_neg (show ¬ n % 4503599627370496 = 0 by omega)] at h ⊢
    have hf : Ut.IsF (n % 4503599627370496) (-1074) := ⟨by omega, by omega, .inr rfl⟩
    exact fin_dec _ hf (by omega) (by omega) s h
  · rw [if_neg hb] at h ⊢
    have hf : Ut.IsF (n % 4503599627370496 + 4503599627370496) (((n / 4503599627370496 % 2048 : Nat) : Int) - 1075) := ⟨by omega, by omega, .inl (by omega)⟩
    have e : ((n / 4503599627370496 % 2048 : Nat) : Int) - 1023 = ((n / 4503599627370496 % 2048 : Nat) : Int) - 1075 + 52 := by omega
    rw [e] at h ⊢
    exact fin_dec _ hf (by omega) (by omega) s h
end Go.Proofs.YtofndhmnofghaaaGreatDoor.Sl

import Derived.Test.YtaggmakaceafgaaGreatDoorM2
namespace Go.Proofs.YtaggmakaceafgaaGreatDoor.Lx
open Go

/-! two texts with a line feed between; blank ahead of each token -/
section
variable (numB spanB : List UInt8 → Bool)
def shiftT (d : Nat) (ts : List Tk) : List Tk := ts.map fun q => (q.1, q.2.1 + d, q.2.2)
/-- no token begins with blank -/
theorem tok_head {l : List UInt8} {k : Nat} {t : List UInt8} {n : Nat} (h : tokF numB spanB l = some (k, t, n)) : blankN false l = 0 := by
  match l, h with
  | [], _ => rfl
  | c :: r, h =>
    rw [blankN]
    by_cases hc : (rem1 false c || isB c) = true
    · exfalso
      have hc : c = 35 ∨ ((c = 32 ∨ c = 9) ∨ c = 10) ∨ c = 13 := by simpa [rem1, isB] using hc
      have h1 : isL c = false ∧ isD c = false ∧ c ≠ 46 ∧ c ≠ 34 ∧ sgn1 c = false ∧ c ≠ 61 ∧ c ≠ 33 ∧ c ≠ 62 ∧ c ≠ 60 := by
        rcases hc with rfl | ((rfl | rfl) | rfl) | rfl <;> decide
      obtain ⟨a1, a2, a3, a4, a5, a6, a7, a8, a9⟩ := h1
      have hn : numHead (c :: r) = false := by
        cases r with
        | nil => exact a2
        | cons d r => show (isD c || (c == 46 && isD d)) = false; rw [a2]; simp [a3]
      have hs : signN (c :: r) = 0 := by
        cases r with
        | nil => rw [signN, a5]; rfl
        | cons d r => rw [signN, a5, if_neg (by unfold dbl; simp [a6, a7, a8, a9])]; rfl
      rw [tokF, if_neg (by rw [a1]; decide), if_neg (by rw [hn]; decide), if_neg a4, if_pos hs] at h
      cases h
    · rw [if_neg hc]
theorem lexS_shift (f : Nat) : ∀ (l : List UInt8) (a d : Nat) (ts : List Tk), l.length ≤ f → lexS numB spanB l a = .ok ts → lexS numB spanB l (a + d) = .ok (shiftT d ts) := by
  induction f with
  | zero =>
    intro l a d ts hl h
    have : l = [] := List.length_eq_zero_iff.1 (by omega)
    subst this
    rw [lexS_end numB spanB rfl] at h
    cases h
    rw [lexS_end numB spanB rfl]; rfl
  | succ f ih =>
    intro l a d ts hl h
    cases ts with
    | nil =>
      obtain ⟨r, hr⟩ := lexS_nil numB spanB h
      have := blank_app [] hr
      rw [List.append_nil] at this
      rw [lexS_end numB spanB (List.drop_eq_nil_iff.2 (by rw [this]; simp))]; rfl
    | cons q ts =>
      obtain ⟨k, a2, t⟩ := q
      obtain ⟨g, x, y, rfl, hg, rfl, ht, hy⟩ := lexS_cons numB spanB h
      have hx := tok_len numB spanB ht
      rw [lexS_put numB spanB hg ht (tok_head numB spanB ht)]
      have := ih y _ d ts (by simp only [List.length_append] at hl hx; omega) hy
      rw [show a + d + g.length + x.length = a + g.length + x.length + d by omega, this]
      simp [pre, shiftT]; omega
theorem parts_go (b : List UInt8) : ∀ (xs : List Tk) (a : List UInt8) (p : Nat), lexS numB spanB a p = .ok xs → lexS numB spanB (a ++ 10 :: b) p = pre xs (lexS numB spanB b (p + a.length + 1))
  | [], a, p, h => by
    obtain ⟨r, hr⟩ := lexS_nil numB spanB h
    have h2 : stS false (a ++ [10]) = some false := by
      rw [st_app [10] hr]
      cases r <;> rfl
    have := lexS_blank numB spanB (l := b) h2 p
    rw [List.append_assoc] at this
    rw [show a ++ 10 :: b = a ++ ([10] ++ b) from rfl, this, pre_nil]
    simp [Nat.add_assoc]
  | (k, a2, t) :: xs, a, p, h => by
    obtain ⟨g, x, y, rfl, hg, rfl, ht, hy⟩ := lexS_cons numB spanB h
    have he : Ends y (y ++ 10 :: b) := ends_app rfl rfl
    have ht2 := tok_app numB spanB ht he
    have ih := parts_go b xs y _ hy
    rw [show g ++ (x ++ y) ++ 10 :: b = g ++ (x ++ (y ++ 10 :: b)) by simp, lexS_put numB spanB hg ht2 (tok_head numB spanB ht2), ih, pre_pre]
    rw [show p + (g ++ (x ++ y)).length + 1 = p + g.length + x.length + y.length + 1 by simp; omega]
    rfl
theorem parts_all {a b : List UInt8} {xs ys : List Tk} (h1 : lexS numB spanB a 0 = .ok xs) (h2 : lexS numB spanB b 0 = .ok ys) : lexS numB spanB (a ++ 10 :: b) 0 = .ok (xs ++ shiftT (a.length + 1) ys) := by
  have h3 := lexS_shift numB spanB b.length b 0 (a.length + 1) ys (Nat.le_refl _) h2
  rw [parts_go numB spanB b xs a 0 h1, show 0 + a.length + 1 = 0 + (a.length + 1) by omega, h3]
  rfl

/-! what is put in -/
def sep (i : Nat) : List UInt8 := if i % 4 = 0 then [32] else if i % 4 = 1 then [10] else if i % 4 = 2 then [9] else [32, 10, 35, 120, 10]
theorem sep_st (i : Nat) : stS false (sep i) = some false := by unfold sep; split; rfl; split; rfl; split <;> rfl
theorem sep_head (i : Nat) : ∃ c r, sep i = c :: r ∧ isB c = true := by
  unfold sep
  split
  · exact ⟨_, _, rfl, rfl⟩
  split
  · exact ⟨_, _, rfl, rfl⟩
  split <;> exact ⟨_, _, rfl, rfl⟩
theorem sep_len (i : Nat) : (sep i).length ≤ 5 := by
  unfold sep
  split
  · decide
  split
  · decide
  split <;> decide
def insF : List UInt8 → Nat → Nat → List Tk → List UInt8
  | l, _, _, [] => l ++ [10, 35]
  | l, p, i, (_, a, _) :: ts => l.take (a - p) ++ (sep i ++ insF (l.drop (a - p)) a (i + 1) ts)
/-- the same tokens, but for their places, which come no earlier -/
inductive Moves : List Tk → List Tk → Prop
  | nil : Moves [] []
  | cons {k a b : Nat} {t : List UInt8} {ts us : List Tk} : a ≤ b → Moves ts us → Moves ((k, a, t) :: ts) ((k, b, t) :: us)
theorem ins_app {x y : List UInt8} {p i : Nat} : ∀ {ts : List Tk}, (∀ k a t us, ts = (k, a, t) :: us → p + x.length ≤ a) → insF (x ++ y) p i ts = x ++ insF y (p + x.length) i ts
  | [], _ => by simp [insF]
  | (k, a, t) :: us, h => by
    have ha := h k a t us rfl
    have e1 : (x ++ y).take (a - p) = x ++ y.take (a - (p + x.length)) := by
      rw [List.take_append, List.take_of_length_le (by omega), Nat.sub_sub]
    have e2 : (x ++ y).drop (a - p) = y.drop (a - (p + x.length)) := by
      rw [List.drop_append, List.drop_eq_nil_iff.2 (by omega), Nat.sub_sub]; rfl
    rw [insF, insF, e1, e2]
    simp
theorem lexS_first {l : List UInt8} {p k a : Nat} {t : List UInt8} {us : List Tk} (h : lexS numB spanB l p = .ok ((k, a, t) :: us)) : p ≤ a := by
  obtain ⟨g, x, y, rfl, hg, rfl, ht, hy⟩ := lexS_cons numB spanB h
  omega
theorem blank_go : ∀ (ts : List Tk) (l : List UInt8) (p i b : Nat), lexS numB spanB l p = .ok ts → p ≤ b → ∃ us, lexS numB spanB (insF l p i ts) b = .ok us ∧ Moves ts us ∧ Ends l (insF l p i ts)
  | [], l, p, i, b, h, hb => by
    obtain ⟨r, hr⟩ := lexS_nil numB spanB h
    refine ⟨[], ?_, .nil, ends_app rfl rfl⟩
    have h2 : stS false (l ++ [10, 35]) = some true := by
      rw [st_app _ hr]; cases r <;> rfl
    have := blank_app [] h2
    rw [List.append_nil] at this
    rw [insF, lexS_end numB spanB (List.drop_eq_nil_iff.2 (by rw [this]; simp))]
  | (k, a, t) :: ts, l, p, i, b, h, hb => by
    obtain ⟨g, x, y, rfl, hg, rfl, ht, hy⟩ := lexS_cons numB spanB h
    have e0 : insF (g ++ (x ++ y)) p i ((k, p + g.length, t) :: ts) = g ++ (sep i ++ (x ++ insF y (p + g.length + x.length) (i + 1) ts)) := by
      rw [insF, show p + g.length - p = g.length by omega, take_app, show (g ++ (x ++ y)).drop g.length = x ++ y by simp,
        ins_app (fun k a t us e => by subst e; have := lexS_first numB spanB hy; omega)]
    obtain ⟨us, h1, h2, h3⟩ := blank_go ts y (p + g.length + x.length) (i + 1) (b + (g ++ sep i).length + x.length) hy (by simp only [List.length_append]; omega)
    have ht2 := tok_app numB spanB ht h3
    have hs : stS false (g ++ sep i) = some false := by rw [st_app _ hg]; exact sep_st i
    refine ⟨(k, b + (g ++ sep i).length, t) :: us, ?_, .cons (by simp only [List.length_append]; omega) h2, ?_⟩
    · rw [e0, ← List.append_assoc, lexS_put numB spanB hs ht2 (tok_head numB spanB ht2), h1]; rfl
    · rw [e0]
      cases g with
      | nil =>
        obtain ⟨c, r, hc, hb⟩ := sep_head i
        rw [hc]
        exact .inr ⟨c, _, rfl, hb⟩
      | cons c g => exact .inl rfl
theorem blank_all {l : List UInt8} {ts : List Tk} (h : lexS numB spanB l 0 = .ok ts) : ∃ us, lexS numB spanB (insF l 0 0 ts) 0 = .ok us ∧ Moves ts us :=
  (blank_go numB spanB ts l 0 0 0 h (Nat.le_refl _)).imp fun _ h => ⟨h.1, h.2.1⟩
theorem ins_len : ∀ (ts : List Tk) (l : List UInt8) (p i : Nat), (insF l p i ts).length ≤ l.length + 5 * ts.length + 2
  | [], l, p, i => by simp [insF]
  | (k, a, t) :: ts, l, p, i => by
    have := ins_len ts (l.drop (a - p)) a (i + 1)
    have h2 := sep_len i
    simp only [insF, List.length_append, List.length_take, List.length_drop, List.length_cons] at *
    omega
theorem lexS_len : ∀ (ts : List Tk) (l : List UInt8) (p : Nat), lexS numB spanB l p = .ok ts → ts.length ≤ l.length
  | [], _, _, _ => Nat.zero_le _
  | (k, a, t) :: ts, l, p, h => by
    obtain ⟨g, x, y, rfl, hg, rfl, ht, hy⟩ := lexS_cons numB spanB h
    have hx := tok_len numB spanB ht
    have := lexS_len ts y _ hy
    simp only [List.length_append, List.length_cons] at *
    omega
end
end Go.Proofs.YtaggmakaceafgaaGreatDoor.Lx

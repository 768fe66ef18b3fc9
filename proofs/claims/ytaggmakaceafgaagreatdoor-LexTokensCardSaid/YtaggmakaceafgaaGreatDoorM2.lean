import Derived.Test.YtaggmakaceafgaaGreatDoorM1
namespace Go.Proofs.YtaggmakaceafgaaGreatDoor.Lx
open Go

/-! blank changes nothing but places -/
/-- a text of blank, and whether a remark is open behind it -/
def stS : Bool → List UInt8 → Option Bool
  | r, [] => some r
  | r, c :: g => if (rem1 r c || isB c) = true then stS (rem1 r c) g else none
theorem blank_app : ∀ {r r' : Bool} {g : List UInt8} (l : List UInt8), stS r g = some r' → blankN r (g ++ l) = g.length + blankN r' l
  | r, r', [], l, h => by cases h; simp
  | r, r', c :: g, l, h => by
    rw [stS] at h
    split at h
    · rename_i hc
      rw [List.cons_append, blankN, if_pos hc, blank_app l h, List.length_cons]; omega
    · cases h
theorem st_app : ∀ {r r' : Bool} {g : List UInt8} (l : List UInt8), stS r g = some r' → stS r (g ++ l) = stS r' l
  | r, r', [], l, h => by cases h; rfl
  | r, r', c :: g, l, h => by
    rw [stS] at h
    split at h
    · rename_i hc
      rw [List.cons_append, stS, if_pos hc, st_app l h]
    · cases h
theorem blank_cut : ∀ (r : Bool) (l : List UInt8), ∃ r', stS r (l.take (blankN r l)) = some r' ∧ ∀ c m, l.drop (blankN r l) = c :: m → (rem1 r' c || isB c) = false
  | r, [] => ⟨r, rfl, fun c m h => by cases h⟩
  | r, c :: l => by
    by_cases hc : (rem1 r c || isB c) = true
    · obtain ⟨r', h1, h2⟩ := blank_cut (rem1 r c) l
      refine ⟨r', ?_, ?_⟩
      · rw [blankN, if_pos hc, Nat.add_comm, List.take_succ_cons, stS, if_pos hc, h1]
      · rw [blankN, if_pos hc, Nat.add_comm, List.drop_succ_cons]; exact h2
    · refine ⟨r, ?_, ?_⟩
      · rw [blankN, if_neg hc]; rfl
      · rw [blankN, if_neg hc]
        intro d m h
        cases h
        simpa using hc
theorem shut_of {r : Bool} {c : UInt8} (h : (rem1 r c || isB c) = false) : r = false := by
  cases r with
  | false => rfl
  | true =>
    exfalso
    by_cases h10 : c = 10
    · subst h10; revert h; decide
    · have : rem1 true c = true := by unfold rem1; simp [h10]
      rw [this] at h; cases h
/-- what stands behind a token may be another text that begins so, or with blank -/
def Ends (y y' : List UInt8) : Prop := y'.head? = y.head? ∨ ∃ c r, y' = c :: r ∧ isB c = true
theorem ends_app {y z : List UInt8} {c : UInt8} {r : List UInt8} (hz : z = c :: r) (hc : isB c = true) : Ends y (y ++ z) := by
  cases y with
  | nil => exact .inr ⟨c, r, hz, hc⟩
  | cons d y => exact .inl rfl
theorem blank_no {c : UInt8} (h : isB c = true) : isW c = false ∧ isL c = false ∧ isD c = false ∧ c ≠ 43 ∧ c ≠ 45 ∧ c ≠ 46 ∧ c ≠ 61 ∧ c ≠ 126 := by
  have h : ((c = 32 ∨ c = 9) ∨ c = 10) ∨ c = 13 := by simpa [isB] using h
  rcases h with ((rfl | rfl) | rfl) | rfl <;> decide
theorem tw_app {p : UInt8 → Bool} : ∀ {x y y' : List UInt8}, ((x ++ y).takeWhile p).length = x.length → (∀ c r, y' = c :: r → (∃ r', y = c :: r') ∨ p c = false) → (x ++ y').takeWhile p = x ∧ (x ++ y).takeWhile p = x
  | [], y, y', h, hy => by
    simp only [List.nil_append] at h ⊢
    have hn : y.takeWhile p = [] := List.length_eq_zero_iff.1 h
    refine ⟨?_, hn⟩
    cases y' with
    | nil => rfl
    | cons c r =>
      rw [List.takeWhile_cons]
      rcases hy c r rfl with ⟨r', rfl⟩ | h0
      · rw [List.takeWhile_cons] at hn
        cases hp : p c with
        | false => rfl
        | true => rw [hp] at hn; cases hn
      · rw [h0]; rfl
  | a :: x, y, y', h, hy => by
    simp only [List.cons_append, List.takeWhile_cons] at h ⊢
    cases hp : p a with
    | false => rw [hp] at h; cases h
    | true =>
      rw [hp] at h
      simp only [if_true, List.length_cons, Nat.add_right_cancel_iff] at h ⊢
      obtain ⟨h1, h2⟩ := tw_app h hy
      rw [h1, h2]; exact ⟨rfl, rfl⟩
theorem ends_cons {y y' : List UInt8} (he : Ends y y') : ∀ c r, y' = c :: r → (∃ r', y = c :: r') ∨ isB c = true := by
  intro c r h
  subst h
  rcases he with he | ⟨c', r', h, hb⟩
  · left
    cases y with
    | nil => cases he
    | cons d y => simp at he; exact ⟨y, by rw [he]⟩
  · right; cases h; exact hb
theorem num_app : ∀ {p b : Bool} {x y y' : List UInt8}, numE p b (x ++ y) = x.length → Ends y y' → numE p b (x ++ y') = x.length
  | p, b, [], y, y', h, he => by
    simp only [List.nil_append, List.length_nil] at h ⊢
    cases y' with
    | nil => rfl
    | cons c r =>
      rcases ends_cons he c r rfl with ⟨r', rfl⟩ | hb
      · rw [numE] at h ⊢
        split
        · rename_i hc
          rw [if_pos hc] at h
          split
          · rename_i hb; rw [if_pos hb] at h; omega
          · rfl
        · rename_i hc
          rw [if_neg hc] at h
          split
          · rename_i hb; rw [if_pos hb] at h; omega
          · rfl
      · obtain ⟨_, h1, h2, h3, h4, h5, _⟩ := blank_no hb
        rw [numE, if_neg (by rintro (e | e) <;> contradiction), if_neg (by rw [h1, h2]; simpa using h5)]
  | p, b, a :: x, y, y', h, he => by
    rw [List.cons_append, numE, List.length_cons] at h ⊢
    split
    · rename_i hc
      rw [if_pos hc] at h
      split
      · rename_i hb
        rw [if_pos hb] at h
        rw [num_app (x := x) (y := y) (by omega) he]; omega
      · rename_i hb; rw [if_neg hb] at h; omega
    · rename_i hc
      rw [if_neg hc] at h
      split
      · rename_i hb
        rw [if_pos hb] at h
        rw [num_app (x := x) (y := y) (by omega) he]; omega
      · rename_i hb; rw [if_neg hb] at h; omega
theorem quote_app : ∀ {acc : List UInt8} {n : Nat} {x y y' t : List UInt8} {m : Nat}, quoteL acc n (x ++ y) = some (t, m) → m ≤ n + x.length → quoteL acc n (x ++ y') = some (t, m)
  | acc, n, [], y, y', t, m, h, hm => by
    have := quoteL_le _ _ _ _ _ h
    simp at hm; omega
  | acc, n, [c], y, y', t, m, h, hm => by
    have hl := quoteL_le _ _ _ _ _ h
    simp only [List.cons_append, List.nil_append, List.length_cons, List.length_nil] at h hm ⊢
    rw [quoteL_cons] at h ⊢
    split
    · rename_i hc; rw [if_pos hc] at h; exact h
    · rename_i hc; rw [if_neg hc] at h
      split
      · rename_i hc; rw [if_pos hc] at h; cases h
      · rename_i hc; rw [if_neg hc] at h
        exfalso
        split at h
        · match y, h with
          | [], h => cases h
          | d :: l', h =>
            simp only at h
            split at h
            · have := quoteL_le _ _ _ _ _ h; omega
            · split at h
              · have := quoteL_le _ _ _ _ _ h; omega
              · cases h
        · have := quoteL_le _ _ _ _ _ h; omega
  | acc, n, c :: d :: x, y, y', t, m, h, hm => by
    simp only [List.cons_append, List.length_cons] at h hm ⊢
    rw [quoteL_cons] at h ⊢
    split
    · rename_i hc; rw [if_pos hc] at h; exact h
    · rename_i hc; rw [if_neg hc] at h
      split
      · rename_i hc; rw [if_pos hc] at h; cases h
      · rename_i hc; rw [if_neg hc] at h
        split
        · rename_i hc; rw [if_pos hc] at h
          simp only at h ⊢
          split
          · rename_i hc; rw [if_pos hc] at h
            exact quote_app h (by omega)
          · rename_i hc; rw [if_neg hc] at h
            split
            · rename_i hc; rw [if_pos hc] at h
              exact quote_app h (by omega)
            · rename_i hc; rw [if_neg hc] at h; cases h
        · rename_i hc; rw [if_neg hc] at h
          exact quote_app (x := d :: x) h (by simp only [List.length_cons]; omega)
theorem sign_app {x y y' : List UInt8} (h : signN (x ++ y) = x.length) (hx : x ≠ []) (he : Ends y y') : signN (x ++ y') = x.length := by
  match x, h with
  | [], _ => exact absurd rfl hx
  | [c], h =>
    simp only [List.cons_append, List.nil_append, List.length_cons, List.length_nil] at h ⊢
    have hs : sgn1 c = true := by
      cases hs : sgn1 c with
      | true => rfl
      | false =>
        exfalso
        cases y with
        | nil => rw [signN, hs] at h; cases h
        | cons d y =>
          rw [signN, hs] at h
          split at h <;> simp at h
    cases y' with
    | nil => rw [signN, if_pos hs]
    | cons d r =>
      rcases ends_cons he d r rfl with ⟨r', rfl⟩ | hb
      · simp only [signN] at h ⊢
        by_cases hd : dbl c d = true
        · rw [if_pos hd] at h; omega
        · rw [if_neg hd, if_pos hs]
      · obtain ⟨_, _, _, _, _, _, h6, h7⟩ := blank_no hb
        rw [signN, if_neg (by unfold dbl; simp [h6, h7]), if_pos hs]
  | [c, d], h =>
    simp only [List.cons_append, List.nil_append, List.length_cons, List.length_nil] at h ⊢
    rw [signN] at h ⊢
    exact h
  | c :: d :: e :: x, h =>
    exfalso
    simp only [List.cons_append, List.length_cons] at h
    rw [signN] at h
    split at h
    · omega
    · split at h <;> omega
theorem take_app (x y : List UInt8) : (x ++ y).take x.length = x := by simp
section
variable (numB spanB : List UInt8 → Bool)
theorem tok_app {x y y' : List UInt8} {k : Nat} {t : List UInt8} (h : tokF numB spanB (x ++ y) = some (k, t, x.length)) (he : Ends y y') : tokF numB spanB (x ++ y') = some (k, t, x.length) := by
  have hlen := tok_len numB spanB h
  match x, h, hlen with
  | [], _, hlen => simp at hlen
  | c :: x, h, hlen =>
    rw [List.cons_append, tokF] at h ⊢
    by_cases h1 : isL c = true
    · rw [if_pos h1] at h ⊢
      simp only [Option.some.injEq, Prod.mk.injEq] at h
      obtain ⟨rfl, rfl, hl⟩ := h
      rw [← List.cons_append] at hl
      obtain ⟨e1, e2⟩ := tw_app (y' := y') hl (fun d r hd => by
        rcases ends_cons he d r hd with h | h
        · exact .inl h
        · exact .inr (blank_no h).1)
      rw [List.cons_append] at e1 e2
      rw [e1, e2]
    · rw [if_neg h1] at h ⊢
      by_cases h2 : numHead (c :: (x ++ y)) = true
      · rw [if_pos h2] at h
        have hn : numE true false (c :: (x ++ y)) = (c :: x).length := by
          split at h
          · exact congrArg (fun q => q.2.2) (Option.some.inj h)
          · split at h
            · exact congrArg (fun q => q.2.2) (Option.some.inj h)
            · cases h
        rw [hn, ← List.cons_append, take_app] at h
        have hn' : numE true false (c :: (x ++ y')) = (c :: x).length := by
          rw [← List.cons_append] at hn ⊢
          exact num_app hn he
        have h2' : numHead (c :: (x ++ y')) = true := by
          cases x with
          | cons d x => exact h2
          | nil =>
            have hd : isD c = true := by
              cases y with
              | nil => exact h2
              | cons d y =>
                have h2 : (isD c || (c == 46 && isD d)) = true := h2
                cases hd : isD c with
                | true => rfl
                | false =>
                  exfalso
                  rw [hd] at h2
                  simp at h2
                  have hdd : (isD d || d == 46) = true := by rw [h2.2]; rfl
                  have hd43 : ¬ (d = 43 ∨ d = 45) := by rintro (rfl | rfl) <;> revert hdd <;> decide
                  obtain ⟨rfl, h22⟩ := h2
                  simp only [List.nil_append, List.length_cons, List.length_nil] at hn
                  rw [numE, if_neg (by decide), if_pos (by decide), numE, if_neg hd43, if_pos (by rw [h22]; simp)] at hn
                  omega
            cases y' with
            | nil => exact hd
            | cons d y' => show (isD c || (c == 46 && isD d)) = true; rw [hd]; rfl
        rw [if_pos h2', hn', ← List.cons_append, take_app]
        exact h
      · rw [if_neg h2] at h
        have h2' : ¬ numHead (c :: (x ++ y')) = true := by
          cases x with
          | cons d x => exact h2
          | nil =>
            intro h3
            apply h2
            cases y' with
            | nil =>
              have h3 : isD c = true := h3
              cases y with
              | nil => exact h3
              | cons d y => show (isD c || (c == 46 && isD d)) = true; rw [h3]; rfl
            | cons d y' =>
              rcases ends_cons he d y' rfl with ⟨r', rfl⟩ | hb
              · exact h3
              · have h3 : (isD c || (c == 46 && isD d)) = true := h3
                rw [(blank_no hb).2.2.1] at h3
                simp at h3
                cases y with
                | nil => exact h3
                | cons d y => show (isD c || (c == 46 && isD d)) = true; rw [h3]; rfl
        rw [if_neg h2']
        by_cases h3 : c = 34
        · rw [if_pos h3] at h ⊢
          cases hq : quoteL [] 1 (x ++ y) with
          | none => rw [hq] at h; cases h
          | some q =>
            rw [hq] at h
            simp only [Option.map_some, Option.some.injEq, Prod.mk.injEq] at h
            obtain ⟨rfl, rfl, hl⟩ := h
            have := quote_app (y' := y') (t := q.1) (m := q.2) hq (by rw [hl]; simp; omega)
            rw [this]
            simp [hl]
        · rw [if_neg h3] at h ⊢
          by_cases h4 : signN (c :: (x ++ y)) = 0
          · rw [if_pos h4] at h; cases h
          · rw [if_neg h4] at h
            have hl : signN (c :: x ++ y) = (c :: x).length := congrArg (fun q => q.2.2) (Option.some.inj h)
            have hs : signN (c :: (x ++ y')) = (c :: x).length := sign_app hl (by simp) he
            rw [show signN (c :: (x ++ y)) = (c :: x).length from hl, ← List.cons_append, take_app] at h
            rw [hs, if_neg (by simp), ← List.cons_append, take_app]
            exact h
/-! texts, cut into blank, a token, and what stands behind -/
theorem lexS_blank {g l : List UInt8} (h : stS false g = some false) (a : Nat) : lexS numB spanB (g ++ l) a = lexS numB spanB l (a + g.length) := by
  have hb := blank_app l h
  have hd : (g ++ l).drop (blankN false (g ++ l)) = l.drop (blankN false l) := by
    rw [hb, ← List.drop_drop]; simp
  by_cases h0 : l.drop (blankN false l) = []
  · rw [lexS_end numB spanB h0, lexS_end numB spanB (by rw [hd]; exact h0)]
  · cases ht : tokF numB spanB (l.drop (blankN false l)) with
    | none => rw [lexS_bad numB spanB h0 _ ht, lexS_bad numB spanB (by rw [hd]; exact h0) _ (by rw [hd]; exact ht), hb, Nat.add_assoc]
    | some q =>
      obtain ⟨k, t, n⟩ := q
      rw [lexS_next numB spanB _ ht, lexS_next numB spanB (l := g ++ l) a (by rw [hd]; exact ht), hd, hb]
      simp only [Nat.add_assoc]
theorem lexS_nil {l : List UInt8} {a : Nat} (h : lexS numB spanB l a = .ok []) : ∃ r, stS false l = some r := by
  by_cases h0 : l.drop (blankN false l) = []
  · obtain ⟨r, h1, _⟩ := blank_cut false l
    have : l.take (blankN false l) = l := List.take_of_length_le (List.drop_eq_nil_iff.1 h0)
    rw [this] at h1
    exact ⟨r, h1⟩
  · exfalso
    cases ht : tokF numB spanB (l.drop (blankN false l)) with
    | none => rw [lexS_bad numB spanB h0 _ ht] at h; cases h
    | some q =>
      obtain ⟨k, t, n⟩ := q
      rw [lexS_next numB spanB _ ht] at h
      cases hr : lexS numB spanB ((l.drop (blankN false l)).drop n) (a + blankN false l + n) with
      | error e => rw [hr] at h; cases h
      | ok us => rw [hr] at h; simp [pre] at h
theorem lexS_cons {l : List UInt8} {a k a2 : Nat} {t : List UInt8} {ts : List Tk} (h : lexS numB spanB l a = .ok ((k, a2, t) :: ts)) :
    ∃ g x y, l = g ++ (x ++ y) ∧ stS false g = some false ∧ a2 = a + g.length ∧ tokF numB spanB (x ++ y) = some (k, t, x.length) ∧ lexS numB spanB y (a2 + x.length) = .ok ts := by
  by_cases h0 : l.drop (blankN false l) = []
  · rw [lexS_end numB spanB h0] at h; cases h
  · cases ht : tokF numB spanB (l.drop (blankN false l)) with
    | none => rw [lexS_bad numB spanB h0 _ ht] at h; cases h
    | some q =>
      obtain ⟨k', t', n⟩ := q
      rw [lexS_next numB spanB _ ht] at h
      have hl := tok_len numB spanB ht
      cases hr : lexS numB spanB ((l.drop (blankN false l)).drop n) (a + blankN false l + n) with
      | error e => rw [hr] at h; cases h
      | ok us =>
        rw [hr] at h
        simp only [pre, List.cons_append, List.nil_append, Except.ok.injEq, List.cons.injEq, Prod.mk.injEq] at h
        obtain ⟨⟨rfl, rfl, rfl⟩, rfl⟩ := h
        have hle := blankN_le false l
        obtain ⟨r, h1, h2⟩ := blank_cut false l
        obtain ⟨c, m, hm⟩ := List.exists_cons_of_ne_nil h0
        have hr0 := shut_of (h2 c m hm)
        subst hr0
        have hx : ((l.drop (blankN false l)).take n).length = n := by rw [List.length_take]; omega
        refine ⟨l.take (blankN false l), (l.drop (blankN false l)).take n, (l.drop (blankN false l)).drop n, ?_, h1, ?_, ?_, ?_⟩
        · rw [List.take_append_drop, List.take_append_drop]
        · rw [List.length_take]; omega
        · rw [List.take_append_drop, hx]; exact ht
        · rw [hx]; exact hr
theorem lexS_put {g x y : List UInt8} {a k : Nat} {t : List UInt8} (hg : stS false g = some false) (ht : tokF numB spanB (x ++ y) = some (k, t, x.length)) (hx : blankN false (x ++ y) = 0) :
    lexS numB spanB (g ++ (x ++ y)) a = pre [(k, a + g.length, t)] (lexS numB spanB y (a + g.length + x.length)) := by
  rw [lexS_blank numB spanB hg, lexS_next numB spanB (l := x ++ y) _ (by rw [hx]; exact ht), hx]
  simp
end
end Go.Proofs.YtaggmakaceafgaaGreatDoor.Lx

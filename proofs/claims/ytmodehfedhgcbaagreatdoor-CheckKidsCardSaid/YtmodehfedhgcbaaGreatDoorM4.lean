/- Lemmas. No condition. -/
import Derived.Lib.ValidU
namespace Go.Proofs.YtmodehfedhgcbaaGreatDoor.Lx
open Go

/-! the signs of a query, as functions of its bytes -/
def isD (c : UInt8) : Bool := decide (48 ≤ c.toNat) && decide (c.toNat ≤ 57)
def isL (c : UInt8) : Bool := (decide (97 ≤ c.toNat) && decide (c.toNat ≤ 122)) || (decide (65 ≤ c.toNat) && decide (c.toNat ≤ 90)) || c == 95 || c == 58
def isW (c : UInt8) : Bool := isL c || isD c
def isB (c : UInt8) : Bool := c == 32 || c == 9 || c == 10 || c == 13
def rem1 (r : Bool) (c : UInt8) : Bool := c == 35 || (r && c != 10)
/-- how many bytes of blank stand ahead; r: in a remark -/
def blankN : Bool → List UInt8 → Nat
  | _, [] => 0
  | r, c :: l => if (rem1 r c || isB c) = true then 1 + blankN (rem1 r c) l else 0
/-- how many bytes of a number stand ahead; p: all were digits and points; b: behind an e -/
def numE : Bool → Bool → List UInt8 → Nat
  | _, _, [] => 0
  | p, b, c :: l =>
    if c = 43 ∨ c = 45 then (if b = true then 1 + numE p false l else 0)
    else if (isL c || isD c || c == 46) = true then 1 + numE (p && (isD c || c == 46)) (p && (c == 101 || c == 69)) l else 0
/-- what a quoted text stands for, and how long it is; n: so many bytes were taken -/
def quoteL : List UInt8 → Nat → List UInt8 → Option (List UInt8 × Nat)
  | _, _, [] => none
  | acc, n, c :: l =>
    if c = 34 then (if Lib.validD acc = true then some (acc, n + 1) else none)
    else if c = 10 then none
    else if c = 92 then
      match l with
      | [] => none
      | d :: l' => if d = 34 ∨ d = 92 then quoteL (acc ++ [d]) (n + 2) l' else if d = 110 then quoteL (acc ++ [10]) (n + 2) l' else none
    else quoteL (acc ++ [c]) (n + 1) l
theorem quoteL_cons (acc : List UInt8) (n : Nat) (c : UInt8) (l : List UInt8) : quoteL acc n (c :: l) =
    if c = 34 then (if Lib.validD acc = true then some (acc, n + 1) else none)
    else if c = 10 then none
    else if c = 92 then
      match l with
      | [] => none
      | d :: l' => if d = 34 ∨ d = 92 then quoteL (acc ++ [d]) (n + 2) l' else if d = 110 then quoteL (acc ++ [10]) (n + 2) l' else none
    else quoteL (acc ++ [c]) (n + 1) l := by rw [quoteL.eq_def]
def dbl (c d : UInt8) : Bool := (c == 61 && d == 61) || (c == 33 && d == 61) || (c == 61 && d == 126) || (c == 33 && d == 126) || (c == 62 && d == 61) || (c == 60 && d == 61)
def signs : List UInt8 := [61, 62, 60, 43, 45, 42, 47, 37, 64, 40, 41, 123, 125, 91, 93, 44]
def sgn1 (c : UInt8) : Bool := signs.contains c
def signN : List UInt8 → Nat
  | [] => 0
  | [c] => if sgn1 c = true then 1 else 0
  | c :: d :: _ => if dbl c d = true then 2 else if sgn1 c = true then 1 else 0
def numHead : List UInt8 → Bool
  | [] => false
  | [c] => isD c
  | c :: d :: _ => isD c || (c == 46 && isD d)
section
variable (numB spanB : List UInt8 → Bool)
/-- what begins a text: kind, text, how long -/
def tokF : List UInt8 → Option (Nat × List UInt8 × Nat)
  | [] => none
  | c :: r =>
    if isL c = true then some (1, (c :: r).takeWhile isW, ((c :: r).takeWhile isW).length)
    else if numHead (c :: r) = true then
      (if numB ((c :: r).take (numE true false (c :: r))) = true then some (2, (c :: r).take (numE true false (c :: r)), numE true false (c :: r))
      else if spanB ((c :: r).take (numE true false (c :: r))) = true then some (3, (c :: r).take (numE true false (c :: r)), numE true false (c :: r)) else none)
    else if c = 34 then (quoteL [] 1 r).map fun q => (4, q.1, q.2)
    else if signN (c :: r) = 0 then none else some (5, (c :: r).take (signN (c :: r)), signN (c :: r))
abbrev Tk := Nat × Nat × List UInt8
/-- the tokens of a text that begins at a place; or where none is -/
def lexGo : Nat → List UInt8 → Nat → Except Nat (List Tk)
  | 0, _, _ => .ok []
  | f + 1, l, at_ =>
    if l.drop (blankN false l) = [] then .ok []
    else match tokF numB spanB (l.drop (blankN false l)) with
      | none => .error (at_ + blankN false l)
      | some (k, t, n) => match lexGo f ((l.drop (blankN false l)).drop n) (at_ + blankN false l + n) with
        | .error e => .error e
        | .ok ts => .ok ((k, at_ + blankN false l, t) :: ts)
def lexS (l : List UInt8) (at_ : Nat) : Except Nat (List Tk) := lexGo numB spanB (l.length + 1) l at_

theorem blankN_le : ∀ (r : Bool) (l : List UInt8), blankN r l ≤ l.length
  | _, [] => Nat.le_refl _
  | r, c :: l => by
    unfold blankN
    split
    · have := blankN_le (rem1 r c) l; simp; omega
    · omega
theorem numE_le : ∀ (p b : Bool) (l : List UInt8), numE p b l ≤ l.length
  | _, _, [] => Nat.le_refl _
  | p, b, c :: l => by
    unfold numE
    split
    · split
      · have := numE_le p false l; simp; omega
      · omega
    · split
      · have := numE_le (p && (isD c || c == 46)) (p && (c == 101 || c == 69)) l; simp; omega
      · omega
theorem numE_pos {l : List UInt8} (h : numHead l = true) : 1 ≤ numE true false l := by
  have hd : ∀ c : UInt8, (isD c || c == 46) = true → ¬ (c = 43 ∨ c = 45) ∧ (isL c || isD c || c == 46) = true := by
    intro c hc
    refine ⟨?_, by cases h1 : isL c <;> simp_all⟩
    rintro (rfl | rfl) <;> revert hc <;> decide
  have key : ∀ c l, (isD c || c == 46) = true → 1 ≤ numE true false (c :: l) := by
    intro c l hc
    obtain ⟨h1, h2⟩ := hd c hc
    unfold numE
    rw [if_neg h1, if_pos h2]
    omega
  match l, h with
  | [c], h => exact key c [] (by have h : isD c = true := h; rw [h]; rfl)
  | c :: d :: r, h => exact key c _ (by
      have h : (isD c || (c == 46 && isD d)) = true := h
      cases h1 : isD c with
      | true => rfl
      | false => rw [h1] at h; simp at h ⊢; exact h.1)
theorem quoteL_le : ∀ (acc : List UInt8) (n : Nat) (l : List UInt8) (t : List UInt8) (m : Nat), quoteL acc n l = some (t, m) → n + 1 ≤ m ∧ m ≤ n + l.length
  | _, _, [], _, _, h => by unfold quoteL at h; cases h
  | acc, n, c :: l, t, m, h => by
    unfold quoteL at h
    split at h
    · split at h
      · cases h; simp
      · cases h
    · split at h
      · cases h
      · split at h
        · match l, h with
          | [], h => cases h
          | d :: l', h =>
            simp only at h
            split at h
            · have := quoteL_le _ _ l' t m h; simp; omega
            · split at h
              · have := quoteL_le _ _ l' t m h; simp; omega
              · cases h
        · have := quoteL_le _ _ l t m h; simp; omega
theorem signN_le : ∀ l : List UInt8, signN l ≤ l.length
  | [] => Nat.le_refl _
  | [c] => by show (if sgn1 c = true then 1 else 0) ≤ 1; split <;> simp
  | c :: d :: r => by
    show (if dbl c d = true then 2 else if sgn1 c = true then 1 else 0) ≤ r.length + 1 + 1
    split
    · omega
    · split <;> omega
theorem tok_len {l : List UInt8} {k : Nat} {t : List UInt8} {n : Nat} (h : tokF numB spanB l = some (k, t, n)) : 1 ≤ n ∧ n ≤ l.length := by
  match l, h with
  | c :: r, h =>
    rw [tokF] at h
    split at h
    · rename_i hl
      cases h
      refine ⟨?_, (List.takeWhile_sublist _).length_le⟩
      rw [List.takeWhile_cons, if_pos (by unfold isW; rw [hl]; rfl)]
      simp
    · split at h
      · rename_i hn
        have h1 := numE_pos hn
        have h2 := numE_le true false (c :: r)
        split at h
        · cases h; exact ⟨h1, h2⟩
        · split at h
          · cases h; exact ⟨h1, h2⟩
          · cases h
      · split at h
        · cases hq : quoteL [] 1 r with
          | none => rw [hq] at h; cases h
          | some q =>
            rw [hq] at h
            cases h
            have := quoteL_le _ _ _ q.1 q.2 hq
            simp; omega
        · split at h
          · cases h
          · cases h; exact ⟨by omega, signN_le _⟩
theorem lexGo_fuel : ∀ (f g : Nat) (l : List UInt8) (a : Nat), l.length < f → l.length < g → lexGo numB spanB f l a = lexGo numB spanB g l a
  | 0, _, _, _, h, _ => absurd h (Nat.not_lt_zero _)
  | _, 0, _, _, _, h => absurd h (Nat.not_lt_zero _)
  | f + 1, g + 1, l, a, h1, h2 => by
    unfold lexGo
    split
    · rfl
    · split
      · rfl
      · rename_i k t n ht
        have hl := tok_len numB spanB ht
        have hd : ((l.drop (blankN false l)).drop n).length < l.length := by simp at hl ⊢; omega
        rw [lexGo_fuel f g _ _ (by omega) (by omega)]
theorem lexS_end {l : List UInt8} (h : l.drop (blankN false l) = []) (a : Nat) : lexS numB spanB l a = .ok [] := by
  unfold lexS lexGo; rw [if_pos h]
theorem lexS_bad {l : List UInt8} (h : l.drop (blankN false l) ≠ []) (a : Nat) (h2 : tokF numB spanB (l.drop (blankN false l)) = none) : lexS numB spanB l a = .error (a + blankN false l) := by
  unfold lexS lexGo; rw [if_neg h, h2]
def pre (ts : List Tk) : Except Nat (List Tk) → Except Nat (List Tk)
  | .ok us => .ok (ts ++ us)
  | .error e => .error e
theorem pre_nil (r : Except Nat (List Tk)) : pre [] r = r := by cases r <;> rfl
theorem pre_pre (a b : List Tk) (r : Except Nat (List Tk)) : pre a (pre b r) = pre (a ++ b) r := by cases r <;> simp [pre]
theorem lexS_next {l : List UInt8} (a : Nat) {k : Nat} {t : List UInt8} {n : Nat} (h2 : tokF numB spanB (l.drop (blankN false l)) = some (k, t, n)) :
    lexS numB spanB l a = pre [(k, a + blankN false l, t)] (lexS numB spanB ((l.drop (blankN false l)).drop n) (a + blankN false l + n)) := by
  have h : l.drop (blankN false l) ≠ [] := by intro e; rw [e] at h2; cases h2
  have hl := tok_len numB spanB h2
  unfold lexS
  conv => lhs; unfold lexGo
  rw [if_neg h, h2]
  simp only
  rw [lexGo_fuel numB spanB l.length (((l.drop (blankN false l)).drop n).length + 1) _ _ (by simp at hl ⊢; omega) (by omega)]
  split <;> (rename_i h; rw [h]; rfl)
end
end Go.Proofs.YtmodehfedhgcbaaGreatDoor.Lx

namespace Go.Proofs.YtmodehfedhgcbaaGreatDoor.Lx
open Go

/-! blank changes nothing but places -/
/-- a text of blank, and whether a remark is open behind it -/
def stS : Bool → List UInt8 → Option Bool
  | r, [] => some r
  | r, c :: g => if (rem1 r c || isB c) = true then stS (rem1 r c) g else none
theorem blank_app : ∀ {r r' : Bool} {g : List UInt8} (l : List UInt8), stS r g = some r' → blankN r (g ++ l) = g.length + blankN r' l
  | r, r', [], l, h => by cases h; simp
  | r, r', c :: g, l, h => by
    rw [stS] at h
    split at h
    · rename_i hc
      rw [List.cons_append, blankN, if_pos hc, blank_app l h, List.length_cons]; omega
    · cases h
theorem st_app : ∀ {r r' : Bool} {g : List UInt8} (l : List UInt8), stS r g = some r' → stS r (g ++ l) = stS r' l
  | r, r', [], l, h => by cases h; rfl
  | r, r', c :: g, l, h => by
    rw [stS] at h
    split at h
    · rename_i hc
      rw [List.cons_append, stS, if_pos hc, st_app l h]
    · cases h
theorem blank_cut : ∀ (r : Bool) (l : List UInt8), ∃ r', stS r (l.take (blankN r l)) = some r' ∧ ∀ c m, l.drop (blankN r l) = c :: m → (rem1 r' c || isB c) = false
  | r, [] => ⟨r, rfl, fun c m h => by cases h⟩
  | r, c :: l => by
    by_cases hc : (rem1 r c || isB c) = true
    · obtain ⟨r', h1, h2⟩ := blank_cut (rem1 r c) l
      refine ⟨r', ?_, ?_⟩
      · rw [blankN, if_pos hc, Nat.add_comm, List.take_succ_cons, stS, if_pos hc, h1]
      · rw [blankN, if_pos hc, Nat.add_comm, List.drop_succ_cons]; exact h2
    · refine ⟨r, ?_, ?_⟩
      · rw [blankN, if_neg hc]; rfl
      · rw [blankN, if_neg hc]
        intro d m h
        cases h
        simpa using hc
theorem shut_of {r : Bool} {c : UInt8} (h : (rem1 r c || isB c) = false) : r = false := by
  cases r with
  | false => rfl
  | true =>
    exfalso
    by_cases h10 : c = 10
    · subst h10; revert h; decide
    · have : rem1 true c = true := by unfold rem1; simp [h10]
      rw [this] at h; cases h
/-- what stands behind a token may be another text that begins so, or with blank -/
def Ends (y y' : List UInt8) : Prop := y'.head? = y.head? ∨ ∃ c r, y' = c :: r ∧ isB c = true
theorem ends_app {y z : List UInt8} {c : UInt8} {r : List UInt8} (hz : z = c :: r) (hc : isB c = true) : Ends y (y ++ z) := by
  cases y with
  | nil => exact .inr ⟨c, r, hz, hc⟩
  | cons d y => exact .inl rfl
theorem blank_no {c : UInt8} (h : isB c = true) : isW c = false ∧ isL c = false ∧ isD c = false ∧ c ≠ 43 ∧ c ≠ 45 ∧ c ≠ 46 ∧ c ≠ 61 ∧ c ≠ 126 := by
  have h : ((c = 32 ∨ c = 9) ∨ c = 10) ∨ c = 13 := by simpa [isB] using h
  rcases h with ((rfl | rfl) | rfl) | rfl <;> decide
theorem tw_app {p : UInt8 → Bool} : ∀ {x y y' : List UInt8}, ((x ++ y).takeWhile p).length = x.length → (∀ c r, y' = c :: r → (∃ r', y = c :: r') ∨ p c = false) → (x ++ y').takeWhile p = x ∧ (x ++ y).takeWhile p = x
  | [], y, y', h, hy => by
    simp only [List.nil_append] at h ⊢
    have hn : y.takeWhile p = [] := List.length_eq_zero_iff.1 h
    refine ⟨?_, hn⟩
    cases y' with
    | nil => rfl
    | cons c r =>
      rw [List.takeWhile_cons]
      rcases hy c r rfl with ⟨r', rfl⟩ | h0
      · rw [List.takeWhile_cons] at hn
        cases hp : p c with
        | false => rfl
        | true => rw [hp] at hn; cases hn
      · rw [h0]; rfl
  | a :: x, y, y', h, hy => by
    simp only [List.cons_append, List.takeWhile_cons] at h ⊢
    cases hp : p a with
    | false => rw [hp] at h; cases h
    | true =>
      rw [hp] at h
      simp only [if_true, List.length_cons, Nat.add_right_cancel_iff] at h ⊢
      obtain ⟨h1, h2⟩ := tw_app h hy
      rw [h1, h2]; exact ⟨rfl, rfl⟩
theorem ends_cons {y y' : List UInt8} (he : Ends y y') : ∀ c r, y' = c :: r → (∃ r', y = c :: r') ∨ isB c = true := by
  intro c r h
  subst h
  rcases he with he | ⟨c', r', h, hb⟩
  · left
    cases y with
    | nil => cases he
    | cons d y => simp at he; exact ⟨y, by rw [he]⟩
  · right; cases h; exact hb
theorem num_app : ∀ {p b : Bool} {x y y' : List UInt8}, numE p b (x ++ y) = x.length → Ends y y' → numE p b (x ++ y') = x.length
  | p, b, [], y, y', h, he => by
    simp only [List.nil_append, List.length_nil] at h ⊢
    cases y' with
    | nil => rfl
    | cons c r =>
      rcases ends_cons he c r rfl with ⟨r', rfl⟩ | hb
      · rw [numE] at h ⊢
        split
        · rename_i hc
          rw [if_pos hc] at h
          split
          · rename_i hb; rw [if_pos hb] at h; omega
          · rfl
        · rename_i hc
          rw [if_neg hc] at h
          split
          · rename_i hb; rw [if_pos hb] at h; omega
          · rfl
      · obtain ⟨_, h1, h2, h3, h4, h5, _⟩ := blank_no hb
        rw [numE, if_neg (by rintro (e | e) <;> contradiction), if_neg (by rw [h1, h2]; simpa using h5)]
  | p, b, a :: x, y, y', h, he => by
    rw [List.cons_append, numE, List.length_cons] at h ⊢
    split
    · rename_i hc
      rw [if_pos hc] at h
      split
      · rename_i hb
        rw [if_pos hb] at h
        rw [num_app (x := x) (y := y) (by omega) he]; omega
      · rename_i hb; rw [if_neg hb] at h; omega
    · rename_i hc
      rw [if_neg hc] at h
      split
      · rename_i hb
        rw [if_pos hb] at h
        rw [num_app (x := x) (y := y) (by omega) he]; omega
      · rename_i hb; rw [if_neg hb] at h; omega
theorem quote_app : ∀ {acc : List UInt8} {n : Nat} {x y y' t : List UInt8} {m : Nat}, quoteL acc n (x ++ y) = some (t, m) → m ≤ n + x.length → quoteL acc n (x ++ y') = some (t, m)
  | acc, n, [], y, y', t, m, h, hm => by
    have := quoteL_le _ _ _ _ _ h
    simp at hm; omega
  | acc, n, [c], y, y', t, m, h, hm => by
    have hl := quoteL_le _ _ _ _ _ h
    simp only [List.cons_append, List.nil_append, List.length_cons, List.length_nil] at h hm ⊢
    rw [quoteL_cons] at h ⊢
    split
    · rename_i hc; rw [if_pos hc] at h; exact h
    · rename_i hc; rw [if_neg hc] at h
      split
      · rename_i hc; rw [if_pos hc] at h; cases h
      · rename_i hc; rw [if_neg hc] at h
        exfalso
        split at h
        · match y, h with
          | [], h => cases h
          | d :: l', h =>
            simp only at h
            split at h
            · have := quoteL_le _ _ _ _ _ h; omega
            · split at h
              · have := quoteL_le _ _ _ _ _ h; omega
              · cases h
        · have := quoteL_le _ _ _ _ _ h; omega
  | acc, n, c :: d :: x, y, y', t, m, h, hm => by
    simp only [List.cons_append, List.length_cons] at h hm ⊢
    rw [quoteL_cons] at h ⊢
    split
    · rename_i hc; rw [if_pos hc] at h; exact h
    · rename_i hc; rw [if_neg hc] at h
      split
      · rename_i hc; rw [if_pos hc] at h; cases h
      · rename_i hc; rw [if_neg hc] at h
        split
        · rename_i hc; rw [if_pos hc] at h
          simp only at h ⊢
          split
          · rename_i hc; rw [if_pos hc] at h
            exact quote_app h (by omega)
          · rename_i hc; rw [if_neg hc] at h
            split
            · rename_i hc; rw [if_pos hc] at h
              exact quote_app h (by omega)
            · rename_i hc; rw [if_neg hc] at h; cases h
        · rename_i hc; rw [if_neg hc] at h
          exact quote_app (x := d :: x) h (by simp only [List.length_cons]; omega)
theorem sign_app {x y y' : List UInt8} (h : signN (x ++ y) = x.length) (hx : x ≠ []) (he : Ends y y') : signN (x ++ y') = x.length := by
  match x, h with
  | [], _ => exact absurd rfl hx
  | [c], h =>
    simp only [List.cons_append, List.nil_append, List.length_cons, List.length_nil] at h ⊢
    have hs : sgn1 c = true := by
      cases hs : sgn1 c with
      | true => rfl
      | false =>
        exfalso
        cases y with
        | nil => rw [signN, hs] at h; cases h
        | cons d y =>
          rw [signN, hs] at h
          split at h <;> simp at h
    cases y' with
    | nil => rw [signN, if_pos hs]
    | cons d r =>
      rcases ends_cons he d r rfl with ⟨r', rfl⟩ | hb
      · simp only [signN] at h ⊢
        by_cases hd : dbl c d = true
        · rw [if_pos hd] at h; omega
        · rw [if_neg hd, if_pos hs]
      · obtain ⟨_, _, _, _, _, _, h6, h7⟩ := blank_no hb
        rw [signN, if_neg (by unfold dbl; simp [h6, h7]), if_pos hs]
  | [c, d], h =>
    simp only [List.cons_append, List.nil_append, List.length_cons, List.length_nil] at h ⊢
    rw [signN] at h ⊢
    exact h
  | c :: d :: e :: x, h =>
    exfalso
    simp only [List.cons_append, List.length_cons] at h
    rw [signN] at h
    split at h
    · omega
    · split at h <;> omega
theorem take_app (x y : List UInt8) : (x ++ y).take x.length = x := by simp
section
variable (numB spanB : List UInt8 → Bool)
theorem tok_app {x y y' : List UInt8} {k : Nat} {t : List UInt8} (h : tokF numB spanB (x ++ y) = some (k, t, x.length)) (he : Ends y y') : tokF numB spanB (x ++ y') = some (k, t, x.length) := by
  have hlen := tok_len numB spanB h
  match x, h, hlen with
  | [], _, hlen => simp at hlen
  | c :: x, h, hlen =>
    rw [List.cons_append, tokF] at h ⊢
    by_cases h1 : isL c = true
    · rw [if_pos h1] at h ⊢
      simp only [Option.some.injEq, Prod.mk.injEq] at h
      obtain ⟨rfl, rfl, hl⟩ := h
      rw [← List.cons_append] at hl
      obtain ⟨e1, e2⟩ := tw_app (y' := y') hl (fun d r hd => by
        rcases ends_cons he d r hd with h | h
        · exact .inl h
        · exact .inr (blank_no h).1)
      rw [List.cons_append] at e1 e2
      rw [e1, e2]
    · rw [if_neg h1] at h ⊢
      by_cases h2 : numHead (c :: (x ++ y)) = true
      · rw [if_pos h2] at h
        have hn : numE true false (c :: (x ++ y)) = (c :: x).length := by
          split at h
          · exact congrArg (fun q => q.2.2) (Option.some.inj h)
          · split at h
            · exact congrArg (fun q => q.2.2) (Option.some.inj h)
            · cases h
        rw [hn, ← List.cons_append, take_app] at h
        have hn' : numE true false (c :: (x ++ y')) = (c :: x).length := by
          rw [← List.cons_append] at hn ⊢
          exact num_app hn he
        have h2' : numHead (c :: (x ++ y')) = true := by
          cases x with
          | cons d x => exact h2
          | nil =>
            have hd : isD c = true := by
              cases y with
              | nil => exact h2
              | cons d y =>
                have h2 : (isD c || (c == 46 && isD d)) = true := h2
                cases hd : isD c with
                | true => rfl
                | false =>
                  exfalso
                  rw [hd] at h2
                  simp at h2
                  have hdd : (isD d || d == 46) = true := by rw [h2.2]; rfl
                  have hd43 : ¬ (d = 43 ∨ d = 45) := by rintro (rfl | rfl) <;> revert hdd <;> decide
                  obtain ⟨rfl, h22⟩ := h2
                  simp only [List.nil_append, List.length_cons, List.length_nil] at hn
                  rw [numE, if_neg (by decide), if_pos (by decide), numE, if_neg hd43, if_pos (by rw [h22]; simp)] at hn
                  omega
            cases y' with
            | nil => exact hd
            | cons d y' => show (isD c || (c == 46 && isD d)) = true; rw [hd]; rfl
        rw [if_pos h2', hn', ← List.cons_append, take_app]
        exact h
      · rw [if_neg h2] at h
        have h2' : ¬ numHead (c :: (x ++ y')) = true := by
          cases x with
          | cons d x => exact h2
          | nil =>
            intro h3
            apply h2
            cases y' with
            | nil =>
              have h3 : isD c = true := h3
              cases y with
              | nil => exact h3
              | cons d y => show (isD c || (c == 46 && isD d)) = true; rw [h3]; rfl
            | cons d y' =>
              rcases ends_cons he d y' rfl with ⟨r', rfl⟩ | hb
              · exact h3
              · have h3 : (isD c || (c == 46 && isD d)) = true := h3
                rw [(blank_no hb).2.2.1] at h3
                simp at h3
                cases y with
                | nil => exact h3
                | cons d y => show (isD c || (c == 46 && isD d)) = true; rw [h3]; rfl
        rw [if_neg h2']
        by_cases h3 : c = 34
        · rw [if_pos h3] at h ⊢
          cases hq : quoteL [] 1 (x ++ y) with
          | none => rw [hq] at h; cases h
          | some q =>
            rw [hq] at h
            simp only [Option.map_some, Option.some.injEq, Prod.mk.injEq] at h
            obtain ⟨rfl, rfl, hl⟩ := h
            have := quote_app (y' := y') (t := q.1) (m := q.2) hq (by rw [hl]; simp; omega)
            rw [this]
            simp [hl]
        · rw [if_neg h3] at h ⊢
          by_cases h4 : signN (c :: (x ++ y)) = 0
          · rw [if_pos h4] at h; cases h
          · rw [if_neg h4] at h
            have hl : signN (c :: x ++ y) = (c :: x).length := congrArg (fun q => q.2.2) (Option.some.inj h)
            have hs : signN (c :: (x ++ y')) = (c :: x).length := sign_app hl (by simp) he
            rw [show signN (c :: (x ++ y)) = (c :: x).length from hl, ← List.cons_append, take_app] at h
            rw [hs, if_neg (by simp), ← List.cons_append, take_app]
            exact h
/-! texts, cut into blank, a token, and what stands behind -/
theorem lexS_blank {g l : List UInt8} (h : stS false g = some false) (a : Nat) : lexS numB spanB (g ++ l) a = lexS numB spanB l (a + g.length) := by
  have hb := blank_app l h
  have hd : (g ++ l).drop (blankN false (g ++ l)) = l.drop (blankN false l) := by
    rw [hb, ← List.drop_drop]; simp
  by_cases h0 : l.drop (blankN false l) = []
  · rw [lexS_end numB spanB h0, lexS_end numB spanB (by rw [hd]; exact h0)]
  · cases ht : tokF numB spanB (l.drop (blankN false l)) with
    | none => rw [lexS_bad numB spanB h0 _ ht, lexS_bad numB spanB (by rw [hd]; exact h0) _ (by rw [hd]; exact ht), hb, Nat.add_assoc]
    | some q =>
      obtain ⟨k, t, n⟩ := q
      rw [lexS_next numB spanB _ ht, lexS_next numB spanB (l := g ++ l) a (by rw [hd]; exact ht), hd, hb]
      simp only [Nat.add_assoc]
theorem lexS_nil {l : List UInt8} {a : Nat} (h : lexS numB spanB l a = .ok []) : ∃ r, stS false l = some r := by
  by_cases h0 : l.drop (blankN false l) = []
  · obtain ⟨r, h1, _⟩ := blank_cut false l
    have : l.take (blankN false l) = l := List.take_of_length_le (List.drop_eq_nil_iff.1 h0)
    rw [this] at h1
    exact ⟨r, h1⟩
  · exfalso
    cases ht : tokF numB spanB (l.drop (blankN false l)) with
    | none => rw [lexS_bad numB spanB h0 _ ht] at h; cases h
    | some q =>
      obtain ⟨k, t, n⟩ := q
      rw [lexS_next numB spanB _ ht] at h
      cases hr : lexS numB spanB ((l.drop (blankN false l)).drop n) (a + blankN false l + n) with
      | error e => rw [hr] at h; cases h
      | ok us => rw [hr] at h; simp [pre] at h
theorem lexS_cons {l : List UInt8} {a k a2 : Nat} {t : List UInt8} {ts : List Tk} (h : lexS numB spanB l a = .ok ((k, a2, t) :: ts)) :
    ∃ g x y, l = g ++ (x ++ y) ∧ stS false g = some false ∧ a2 = a + g.length ∧ tokF numB spanB (x ++ y) = some (k, t, x.length) ∧ lexS numB spanB y (a2 + x.length) = .ok ts := by
  by_cases h0 : l.drop (blankN false l) = []
  · rw [lexS_end numB spanB h0] at h; cases h
  · cases ht : tokF numB spanB (l.drop (blankN false l)) with
    | none => rw [lexS_bad numB spanB h0 _ ht] at h; cases h
    | some q =>
      obtain ⟨k', t', n⟩ := q
      rw [lexS_next numB spanB _ ht] at h
      have hl := tok_len numB spanB ht
      cases hr : lexS numB spanB ((l.drop (blankN false l)).drop n) (a + blankN false l + n) with
      | error e => rw [hr] at h; cases h
      | ok us =>
        rw [hr] at h
        simp only [pre, List.cons_append, List.nil_append, Except.ok.injEq, List.cons.injEq, Prod.mk.injEq] at h
        obtain ⟨⟨rfl, rfl, rfl⟩, rfl⟩ := h
        have hle := blankN_le false l
        obtain ⟨r, h1, h2⟩ := blank_cut false l
        obtain ⟨c, m, hm⟩ := List.exists_cons_of_ne_nil h0
        have hr0 := shut_of (h2 c m hm)
        subst hr0
        have hx : ((l.drop (blankN false l)).take n).length = n := by rw [List.length_take]; omega
        refine ⟨l.take (blankN false l), (l.drop (blankN false l)).take n, (l.drop (blankN false l)).drop n, ?_, h1, ?_, ?_, ?_⟩
        · rw [List.take_append_drop, List.take_append_drop]
        · rw [List.length_take]; omega
        · rw [List.take_append_drop, hx]; exact ht
        · rw [hx]; exact hr
theorem lexS_put {g x y : List UInt8} {a k : Nat} {t : List UInt8} (hg : stS false g = some false) (ht : tokF numB spanB (x ++ y) = some (k, t, x.length)) (hx : blankN false (x ++ y) = 0) :
    lexS numB spanB (g ++ (x ++ y)) a = pre [(k, a + g.length, t)] (lexS numB spanB y (a + g.length + x.length)) := by
  rw [lexS_blank numB spanB hg, lexS_next numB spanB (l := x ++ y) _ (by rw [hx]; exact ht), hx]
  simp
end
end Go.Proofs.YtmodehfedhgcbaaGreatDoor.Lx

namespace Go.Proofs.YtmodehfedhgcbaaGreatDoor.Lx
open Go

/-! two texts with a line feed between; blank ahead of each token -/
section
variable (numB spanB : List UInt8 → Bool)
def shiftT (d : Nat) (ts : List Tk) : List Tk := ts.map fun q => (q.1, q.2.1 + d, q.2.2)
/-- no token begins with blank -/
theorem tok_head {l : List UInt8} {k : Nat} {t : List UInt8} {n : Nat} (h : tokF numB spanB l = some (k, t, n)) : blankN false l = 0 := by
  match l, h with
  | [], _ => rfl
  | c :: r, h =>
    rw [blankN]
    by_cases hc : (rem1 false c || isB c) = true
    · exfalso
      have hc : c = 35 ∨ ((c = 32 ∨ c = 9) ∨ c = 10) ∨ c = 13 := by simpa [rem1, isB] using hc
      have h1 : isL c = false ∧ isD c = false ∧ c ≠ 46 ∧ c ≠ 34 ∧ sgn1 c = false ∧ c ≠ 61 ∧ c ≠ 33 ∧ c ≠ 62 ∧ c ≠ 60 := by
        rcases hc with rfl | ((rfl | rfl) | rfl) | rfl <;> decide
      obtain ⟨a1, a2, a3, a4, a5, a6, a7, a8, a9⟩ := h1
      have hn : numHead (c :: r) = false := by
        cases r with
        | nil => exact a2
        | cons d r => show (isD c || (c == 46 && isD d)) = false; rw [a2]; simp [a3]
      have hs : signN (c :: r) = 0 := by
        cases r with
        | nil => rw [signN, a5]; rfl
        | cons d r => rw [signN, a5, if_neg (by unfold dbl; simp [a6, a7, a8, a9])]; rfl
      rw [tokF, if_neg (by rw [a1]; decide), if_neg (by rw [hn]; decide), if_neg a4, if_pos hs] at h
      cases h
    · rw [if_neg hc]
theorem lexS_shift (f : Nat) : ∀ (l : List UInt8) (a d : Nat) (ts : List Tk), l.length ≤ f → lexS numB spanB l a = .ok ts → lexS numB spanB l (a + d) = .ok (shiftT d ts) := by
  induction f with
  | zero =>
    intro l a d ts hl h
    have : l = [] := List.length_eq_zero_iff.1 (by omega)
    subst this
    rw [lexS_end numB spanB rfl] at h
    cases h
    rw [lexS_end numB spanB rfl]; rfl
  | succ f ih =>
    intro l a d ts hl h
    cases ts with
    | nil =>
      obtain ⟨r, hr⟩ := lexS_nil numB spanB h
      have := blank_app [] hr
      rw [List.append_nil] at this
      rw [lexS_end numB spanB (List.drop_eq_nil_iff.2 (by rw [this]; simp))]; rfl
    | cons q ts =>
      obtain ⟨k, a2, t⟩ := q
      obtain ⟨g, x, y, rfl, hg, rfl, ht, hy⟩ := lexS_cons numB spanB h
      have hx := tok_len numB spanB ht
      rw [lexS_put numB spanB hg ht (tok_head numB spanB ht)]
      have := ih y _ d ts (by simp only [List.length_append] at hl hx; omega) hy
      rw [show a + d + g.length + x.length = a + g.length + x.length + d by omega, this]
      simp [pre, shiftT]; omega
theorem parts_go (b : List UInt8) : ∀ (xs : List Tk) (a : List UInt8) (p : Nat), lexS numB spanB a p = .ok xs → lexS numB spanB (a ++ 10 :: b) p = pre xs (lexS numB spanB b (p + a.length + 1))
  | [], a, p, h => by
    obtain ⟨r, hr⟩ := lexS_nil numB spanB h
    have h2 : stS false (a ++ [10]) = some false := by
      rw [st_app [10] hr]
      cases r <;> rfl
    have := lexS_blank numB spanB (l := b) h2 p
    rw [List.append_assoc] at this
    rw [show a ++ 10 :: b = a ++ ([10] ++ b) from rfl, this, pre_nil]
    simp [Nat.add_assoc]
  | (k, a2, t) :: xs, a, p, h => by
    obtain ⟨g, x, y, rfl, hg, rfl, ht, hy⟩ := lexS_cons numB spanB h
    have he : Ends y (y ++ 10 :: b) := ends_app rfl rfl
    have ht2 := tok_app numB spanB ht he
    have ih := parts_go b xs y _ hy
    rw [show g ++ (x ++ y) ++ 10 :: b = g ++ (x ++ (y ++ 10 :: b)) by simp, lexS_put numB spanB hg ht2 (tok_head numB spanB ht2), ih, pre_pre]
    rw [show p + (g ++ (x ++ y)).length + 1 = p + g.length + x.length + y.length + 1 by simp; omega]
    rfl
theorem parts_all {a b : List UInt8} {xs ys : List Tk} (h1 : lexS numB spanB a 0 = .ok xs) (h2 : lexS numB spanB b 0 = .ok ys) : lexS numB spanB (a ++ 10 :: b) 0 = .ok (xs ++ shiftT (a.length + 1) ys) := by
  have h3 := lexS_shift numB spanB b.length b 0 (a.length + 1) ys (Nat.le_refl _) h2
  rw [parts_go numB spanB b xs a 0 h1, show 0 + a.length + 1 = 0 + (a.length + 1) by omega, h3]
  rfl

/-! what is put in -/
def sep (i : Nat) : List UInt8 := if i % 4 = 0 then [32] else if i % 4 = 1 then [10] else if i % 4 = 2 then [9] else [32, 10, 35, 120, 10]
theorem sep_st (i : Nat) : stS false (sep i) = some false := by unfold sep; split; rfl; split; rfl; split <;> rfl
theorem sep_head (i : Nat) : ∃ c r, sep i = c :: r ∧ isB c = true := by
  unfold sep
  split
  · exact ⟨_, _, rfl, rfl⟩
  split
  · exact ⟨_, _, rfl, rfl⟩
  split <;> exact ⟨_, _, rfl, rfl⟩
theorem sep_len (i : Nat) : (sep i).length ≤ 5 := by
  unfold sep
  split
  · decide
  split
  · decide
  split <;> decide
def insF : List UInt8 → Nat → Nat → List Tk → List UInt8
  | l, _, _, [] => l ++ [10, 35]
  | l, p, i, (_, a, _) :: ts => l.take (a - p) ++ (sep i ++ insF (l.drop (a - p)) a (i + 1) ts)
/-- the same tokens, but for their places, which come no earlier -/
inductive Moves : List Tk → List Tk → Prop
  | nil : Moves [] []
  | cons {k a b : Nat} {t : List UInt8} {ts us : List Tk} : a ≤ b → Moves ts us → Moves ((k, a, t) :: ts) ((k, b, t) :: us)
theorem ins_app {x y : List UInt8} {p i : Nat} : ∀ {ts : List Tk}, (∀ k a t us, ts = (k, a, t) :: us → p + x.length ≤ a) → insF (x ++ y) p i ts = x ++ insF y (p + x.length) i ts
  | [], _ => by simp [insF]
  | (k, a, t) :: us, h => by
    have ha := h k a t us rfl
    have e1 : (x ++ y).take (a - p) = x ++ y.take (a - (p + x.length)) := by
      rw [List.take_append, List.take_of_length_le (by omega), Nat.sub_sub]
    have e2 : (x ++ y).drop (a - p) = y.drop (a - (p + x.length)) := by
      rw [List.drop_append, List.drop_eq_nil_iff.2 (by omega), Nat.sub_sub]; rfl
    rw [insF, insF, e1, e2]
    simp
theorem lexS_first {l : List UInt8} {p k a : Nat} {t : List UInt8} {us : List Tk} (h : lexS numB spanB l p = .ok ((k, a, t) :: us)) : p ≤ a := by
  obtain ⟨g, x, y, rfl, hg, rfl, ht, hy⟩ := lexS_cons numB spanB h
  omega
theorem blank_go : ∀ (ts : List Tk) (l : List UInt8) (p i b : Nat), lexS numB spanB l p = .ok ts → p ≤ b → ∃ us, lexS numB spanB (insF l p i ts) b = .ok us ∧ Moves ts us ∧ Ends l (insF l p i ts)
  | [], l, p, i, b, h, hb => by
    obtain ⟨r, hr⟩ := lexS_nil numB spanB h
    refine ⟨[], ?_, .nil, ends_app rfl rfl⟩
    have h2 : stS false (l ++ [10, 35]) = some true := by
      rw [st_app _ hr]; cases r <;> rfl
    have := blank_app [] h2
    rw [List.append_nil] at this
    rw [insF, lexS_end numB spanB (List.drop_eq_nil_iff.2 (by rw [this]; simp))]
  | (k, a, t) :: ts, l, p, i, b, h, hb => by
    obtain ⟨g, x, y, rfl, hg, rfl, ht, hy⟩ := lexS_cons numB spanB h
    have e0 : insF (g ++ (x ++ y)) p i ((k, p + g.length, t) :: ts) = g ++ (sep i ++ (x ++ insF y (p + g.length + x.length) (i + 1) ts)) := by
      rw [insF, show p + g.length - p = g.length by omega, take_app, show (g ++ (x ++ y)).drop g.length = x ++ y by simp,
        ins_app (fun k a t us e => by subst e; have := lexS_first numB spanB hy; omega)]
    obtain ⟨us, h1, h2, h3⟩ := blank_go ts y (p + g.length + x.length) (i + 1) (b + (g ++ sep i).length + x.length) hy (by simp only [List.length_append]; omega)
    have ht2 := tok_app numB spanB ht h3
    have hs : stS false (g ++ sep i) = some false := by rw [st_app _ hg]; exact sep_st i
    refine ⟨(k, b + (g ++ sep i).length, t) :: us, ?_, .cons (by simp only [List.length_append]; omega) h2, ?_⟩
    · rw [e0, ← List.append_assoc, lexS_put numB spanB hs ht2 (tok_head numB spanB ht2), h1]; rfl
    · rw [e0]
      cases g with
      | nil =>
        obtain ⟨c, r, hc, hb⟩ := sep_head i
        rw [hc]
        exact .inr ⟨c, _, rfl, hb⟩
      | cons c g => exact .inl rfl
theorem blank_all {l : List UInt8} {ts : List Tk} (h : lexS numB spanB l 0 = .ok ts) : ∃ us, lexS numB spanB (insF l 0 0 ts) 0 = .ok us ∧ Moves ts us :=
  (blank_go numB spanB ts l 0 0 0 h (Nat.le_refl _)).imp fun _ h => ⟨h.1, h.2.1⟩
theorem ins_len : ∀ (ts : List Tk) (l : List UInt8) (p i : Nat), (insF l p i ts).length ≤ l.length + 5 * ts.length + 2
  | [], l, p, i => by simp [insF]
  | (k, a, t) :: ts, l, p, i => by
    have := ins_len ts (l.drop (a - p)) a (i + 1)
    have h2 := sep_len i
    simp only [insF, List.length_append, List.length_take, List.length_drop, List.length_cons] at *
    omega
theorem lexS_len : ∀ (ts : List Tk) (l : List UInt8) (p : Nat), lexS numB spanB l p = .ok ts → ts.length ≤ l.length
  | [], _, _, _ => Nat.zero_le _
  | (k, a, t) :: ts, l, p, h => by
    obtain ⟨g, x, y, rfl, hg, rfl, ht, hy⟩ := lexS_cons numB spanB h
    have hx := tok_len numB spanB ht
    have := lexS_len ts y _ hy
    simp only [List.length_append, List.length_cons] at *
    omega
end
end Go.Proofs.YtmodehfedhgcbaaGreatDoor.Lx

namespace Go.Proofs.YtmodehfedhgcbaaGreatDoor.Lx
open Go

/-! step by step, as the document goes -/
section
variable (numB spanB : List UInt8 → Bool)
theorem lexS_isB {c : UInt8} {l : List UInt8} (h : isB c = true) (a : Nat) : lexS numB spanB (c :: l) a = lexS numB spanB l (a + 1) := by
  have hr : rem1 false c = false := by
    have h : ((c = 32 ∨ c = 9) ∨ c = 10) ∨ c = 13 := by simpa [isB] using h
    rcases h with ((rfl | rfl) | rfl) | rfl <;> rfl
  exact lexS_blank numB spanB (g := [c]) (by rw [stS, hr, h]; rfl) a
theorem st_rem : ∀ {g : List UInt8}, (∀ x ∈ g, x ≠ 10) → stS true g = some true
  | [], _ => rfl
  | c :: g, h => by
    have hc : rem1 true c = true := by unfold rem1; have := h c (by simp); simp [this]
    rw [stS, hc]
    exact st_rem fun x hx => h x (by simp [hx])
theorem st_hash {g : List UInt8} (h : ∀ x ∈ g, x ≠ 10) : stS false (35 :: g) = some true := by
  rw [stS]
  exact st_rem h
theorem lexS_rem {g y : List UInt8} (h : ∀ x ∈ g, x ≠ 10) (hy : ∀ c r, y = c :: r → c = 10) (a : Nat) : lexS numB spanB (35 :: (g ++ y)) a = lexS numB spanB y (a + 1 + g.length) := by
  cases y with
  | nil =>
    have h1 := blank_app [] (st_hash h)
    rw [lexS_end numB spanB (l := []) rfl, lexS_end numB spanB]
    refine List.drop_eq_nil_iff.2 ?_
    have : blankN false (35 :: (g ++ [])) = (35 :: g).length + blankN true [] := h1
    rw [this]; simp
  | cons c r =>
    obtain rfl := hy c r rfl
    have h2 : stS false ((35 :: g) ++ [10]) = some false := by rw [st_app [10] (st_hash h)]; rfl
    have h3 := lexS_blank numB spanB (l := r) h2 a
    rw [List.append_assoc] at h3
    rw [lexS_isB numB spanB (c := 10) (l := r) rfl]
    have e : a + ((35 :: g) ++ [10]).length = a + 1 + g.length + 1 := by simp; omega
    rw [e] at h3
    exact h3
theorem lexS_bad0 {l : List UInt8} (h : l ≠ []) (hb : blankN false l = 0) (a : Nat) (h2 : tokF numB spanB l = none) : lexS numB spanB l a = .error a := by
  have := lexS_bad numB spanB (l := l) (by rw [hb]; exact h) a (by rw [hb]; exact h2)
  rwa [hb] at this
theorem lexS_tok0 {l : List UInt8} {k : Nat} {t : List UInt8} {n : Nat} (h2 : tokF numB spanB l = some (k, t, n)) (a : Nat) : lexS numB spanB l a = pre [(k, a, t)] (lexS numB spanB (l.drop n) (a + n)) := by
  have hb := tok_head numB spanB h2
  have := lexS_next numB spanB (l := l) a (k := k) (t := t) (n := n) (by rw [hb]; exact h2)
  rwa [hb] at this
theorem blank0 {c : UInt8} {l : List UInt8} (h1 : isB c = false) (h2 : c ≠ 35) : blankN false (c :: l) = 0 := by
  rw [blankN, if_neg]
  simp [rem1, h1, h2]
end
def numC (b : Bool) (c : UInt8) : Bool := if c = 43 ∨ c = 45 then b else (isL c || isD c || c == 46)
def numP (p : Bool) (c : UInt8) : Bool := if c = 43 ∨ c = 45 then p else (p && (isD c || c == 46))
def numB' (p : Bool) (c : UInt8) : Bool := if c = 43 ∨ c = 45 then false else (p && (c == 101 || c == 69))
theorem numE_cons (p b : Bool) (c : UInt8) (l : List UInt8) : numE p b (c :: l) = if numC b c = true then 1 + numE (numP p c) (numB' p c) l else 0 := by
  rw [numE]
  unfold numC numP numB'
  split <;> rfl
end Go.Proofs.YtmodehfedhgcbaaGreatDoor.Lx

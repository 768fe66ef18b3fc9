import Derived.Lib.ValidU
namespace Go.Proofs.YtaggmakaceafgaaGreatDoor.Lx
open Go

/-! the signs of a query, as functions of its bytes -/
def isD (c : UInt8) : Bool := decide (48 ≤ c.toNat) && decide (c.toNat ≤ 57)
def isL (c : UInt8) : Bool := (decide (97 ≤ c.toNat) && decide (c.toNat ≤ 122)) || (decide (65 ≤ c.toNat) && decide (c.toNat ≤ 90)) || c == 95 || c == 58
def isW (c : UInt8) : Bool := isL c || isD c
def isB (c : UInt8) : Bool := c == 32 || c == 9 || c == 10 || c == 13
def rem1 (r : Bool) (c : UInt8) : Bool := c == 35 || (r && c != 10)
/-- how many bytes of blank stand ahead; r: in a remark -/
def blankN : Bool → List UInt8 → Nat
  | _, [] => 0
  | r, c :: l => if (rem1 r c || isB c) = true then 1 + blankN (rem1 r c) l else 0
/-- how many bytes of a number stand ahead; p: all were digits and points; b: behind an e -/
def numE : Bool → Bool → List UInt8 → Nat
  | _, _, [] => 0
  | p, b, c :: l =>
    if c = 43 ∨ c = 45 then (if b = true then 1 + numE p false l else 0)
    else if (isL c || isD c || c == 46) = true then 1 + numE (p && (isD c || c == 46)) (p && (c == 101 || c == 69)) l else 0
/-- what a quoted text stands for, and how long it is; n: so many bytes were taken -/
def quoteL : List UInt8 → Nat → List UInt8 → Option (List UInt8 × Nat)
  | _, _, [] => none
  | acc, n, c :: l =>
    if c = 34 then (if Lib.validD acc = true then some (acc, n + 1) else none)
    else if c = 10 then none
    else if c = 92 then
      match l with
      | [] => none
      | d :: l' => if d = 34 ∨ d = 92 then quoteL (acc ++ [d]) (n + 2) l' else if d = 110 then quoteL (acc ++ [10]) (n + 2) l' else none
    else quoteL (acc ++ [c]) (n + 1) l
theorem quoteL_cons (acc : List UInt8) (n : Nat) (c : UInt8) (l : List UInt8) : quoteL acc n (c :: l) =
    if c = 34 then (if Lib.validD acc = true then some (acc, n + 1) else none)
    else if c = 10 then none
    else if c = 92 then
      match l with
      | [] => none
      | d :: l' => if d = 34 ∨ d = 92 then quoteL (acc ++ [d]) (n + 2) l' else if d = 110 then quoteL (acc ++ [10]) (n + 2) l' else none
    else quoteL (acc ++ [c]) (n + 1) l := by rw [quoteL.eq_def]
def dbl (c d : UInt8) : Bool := (c == 61 && d == 61) || (c == 33 && d == 61) || (c == 61 && d == 126) || (c == 33 && d == 126) || (c == 62 && d == 61) || (c == 60 && d == 61)
def signs : List UInt8 := [61, 62, 60, 43, 45, 42, 47, 37, 64, 40, 41, 123, 125, 91, 93, 44]
def sgn1 (c : UInt8) : Bool := signs.contains c
def signN : List UInt8 → Nat
  | [] => 0
  | [c] => if sgn1 c = true then 1 else 0
  | c :: d :: _ => if dbl c d = true then 2 else if sgn1 c = true then 1 else 0
def numHead : List UInt8 → Bool
  | [] => false
  | [c] => isD c
  | c :: d :: _ => isD c || (c == 46 && isD d)
section
variable (numB spanB : List UInt8 → Bool)
/-- what begins a text: kind, text, how long -/
def tokF : List UInt8 → Option (Nat × List UInt8 × Nat)
  | [] => none
  | c :: r =>
    if isL c = true then some (1, (c :: r).takeWhile isW, ((c :: r).takeWhile isW).length)
    else if numHead (c :: r) = true then
      (if numB ((c :: r).take (numE true false (c :: r))) = true then some (2, (c :: r).take (numE true false (c :: r)), numE true false (c :: r))
      else if spanB ((c :: r).take (numE true false (c :: r))) = true then some (3, (c :: r).take (numE true false (c :: r)), numE true false (c :: r)) else none)
    else if c = 34 then (quoteL [] 1 r).map fun q => (4, q.1, q.2)
    else if signN (c :: r) = 0 then none else some (5, (c :: r).take (signN (c :: r)), signN (c :: r))
abbrev Tk := Nat × Nat × List UInt8
/-- the tokens of a text that begins at a place; or where none is -/
def lexGo : Nat → List UInt8 → Nat → Except Nat (List Tk)
  | 0, _, _ => .ok []
  | f + 1, l, at_ =>
    if l.drop (blankN false l) = [] then .ok []
    else match tokF numB spanB (l.drop (blankN false l)) with
      | none => .error (at_ + blankN false l)
      | some (k, t, n) => match lexGo f ((l.drop (blankN false l)).drop n) (at_ + blankN false l + n) with
        | .error e => .error e
        | .ok ts => .ok ((k, at_ + blankN false l, t) :: ts)
def lexS (l : List UInt8) (at_ : Nat) : Except Nat (List Tk) := lexGo numB spanB (l.length + 1) l at_

theorem blankN_le : ∀ (r : Bool) (l : List UInt8), blankN r l ≤ l.length
  | _, [] => Nat.le_refl _
  | r, c :: l => by
    unfold blankN
    split
    · have := blankN_le (rem1 r c) l; simp; omega
    · omega
theorem numE_le : ∀ (p b : Bool) (l : List UInt8), numE p b l ≤ l.length
  | _, _, [] => Nat.le_refl _
  | p, b, c :: l => by
    unfold numE
    split
    · split
      · have := numE_le p false l; simp; omega
      · omega
    · split
      · have := numE_le (p && (isD c || c == 46)) (p && (c == 101 || c == 69)) l; simp; omega
      · omega
theorem numE_pos {l : List UInt8} (h : numHead l = true) : 1 ≤ numE true false l := by
  have hd : ∀ c : UInt8, (isD c || c == 46) = true → ¬ (c = 43 ∨ c = 45) ∧ (isL c || isD c || c == 46) = true := by
    intro c hc
    refine ⟨?_, by cases h1 : isL c <;> simp_all⟩
    rintro (rfl | rfl) <;> revert hc <;> decide
  have key : ∀ c l, (isD c || c == 46) = true → 1 ≤ numE true false (c :: l) := by
    intro c l hc
    obtain ⟨h1, h2⟩ := hd c hc
    unfold numE
    rw [if_neg h1, if_pos h2]
    omega
  match l, h with
  | [c], h => exact key c [] (by have h : isD c = true := h; rw [h]; rfl)
  | c :: d :: r, h => exact key c _ (by
      have h : (isD c || (c == 46 && isD d)) = true := h
      cases h1 : isD c with
      | true => rfl
      | false => rw [h1] at h; simp at h ⊢; exact h.1)
theorem quoteL_le : ∀ (acc : List UInt8) (n : Nat) (l : List UInt8) (t : List UInt8) (m : Nat), quoteL acc n l = some (t, m) → n + 1 ≤ m ∧ m ≤ n + l.length
  | _, _, [], _, _, h => by unfold quoteL at h; cases h
  | acc, n, c :: l, t, m, h => by
    unfold quoteL at h
    split at h
    · split at h
      · cases h; simp
      · cases h
    · split at h
      · cases h
      · split at h
        · match l, h with
          | [], h => cases h
          | d :: l', h =>
            simp only at h
            split at h
            · have := quoteL_le _ _ l' t m h; simp; omega
            · split at h
              · have := quoteL_le _ _ l' t m h; simp; omega
              · cases h
        · have := quoteL_le _ _ l t m h; simp; omega
theorem signN_le : ∀ l : List UInt8, signN l ≤ l.length
  | [] => Nat.le_refl _
  | [c] => by show (if sgn1 c = true then 1 else 0) ≤ 1; split <;> simp
  | c :: d :: r => by
    show (if dbl c d = true then 2 else if sgn1 c = true then 1 else 0) ≤ r.length + 1 + 1
    split
    · omega
    · split <;> omega
theorem tok_len {l : List UInt8} {k : Nat} {t : List UInt8} {n : Nat} (h : tokF numB spanB l = some (k, t, n)) : 1 ≤ n ∧ n ≤ l.length := by
  match l, h with
  | c :: r, h =>
    rw [tokF] at h
    split at h
    · rename_i hl
      cases h
      refine ⟨?_, (List.takeWhile_sublist _).length_le⟩
      rw [List.takeWhile_cons, if_pos (by unfold isW; rw [hl]; rfl)]
      simp
    · split at h
      · rename_i hn
        have h1 := numE_pos hn
        have h2 := numE_le true false (c :: r)
        split at h
        · cases h; exact ⟨h1, h2⟩
        · split at h
          · cases h; exact ⟨h1, h2⟩
          · cases h
      · split at h
        · cases hq : quoteL [] 1 r with
          | none => rw [hq] at h; cases h
          | some q =>
            rw [hq] at h
            cases h
            have := quoteL_le _ _ _ q.1 q.2 hq
            simp; omega
        · split at h
          · cases h
          · cases h; exact ⟨by omega, signN_le _⟩
theorem lexGo_fuel : ∀ (f g : Nat) (l : List UInt8) (a : Nat), l.length < f → l.length < g → lexGo numB spanB f l a = lexGo numB spanB g l a
  | 0, _, _, _, h, _ => absurd h (Nat.not_lt_zero _)
  | _, 0, _, _, _, h => absurd h (Nat.not_lt_zero _)
  | f + 1, g + 1, l, a, h1, h2 => by
    unfold lexGo
    split
    · rfl
    · split
      · rfl
      · rename_i k t n ht
        have hl := tok_len numB spanB ht
        have hd : ((l.drop (blankN false l)).drop n).length < l.length := by simp at hl ⊢; omega
        rw [lexGo_fuel f g _ _ (by omega) (by omega)]
theorem lexS_end {l : List UInt8} (h : l.drop (blankN false l) = []) (a : Nat) : lexS numB spanB l a = .ok [] := by
  unfold lexS lexGo; rw [if_pos h]
theorem lexS_bad {l : List UInt8} (h : l.drop (blankN false l) ≠ []) (a : Nat) (h2 : tokF numB spanB (l.drop (blankN false l)) = none) : lexS numB spanB l a = .error (a + blankN false l) := by
  unfold lexS lexGo; rw [if_neg h, h2]
def pre (ts : List Tk) : Except Nat (List Tk) → Except Nat (List Tk)
  | .ok us => .ok (ts ++ us)
  | .error e => .error e
theorem pre_nil (r : Except Nat (List Tk)) : pre [] r = r := by cases r <;> rfl
theorem pre_pre (a b : List Tk) (r : Except Nat (List Tk)) : pre a (pre b r) = pre (a ++ b) r := by cases r <;> simp [pre]
theorem lexS_next {l : List UInt8} (a : Nat) {k : Nat} {t : List UInt8} {n : Nat} (h2 : tokF numB spanB (l.drop (blankN false l)) = some (k, t, n)) :
    lexS numB spanB l a = pre [(k, a + blankN false l, t)] (lexS numB spanB ((l.drop (blankN false l)).drop n) (a + blankN false l + n)) := by
  have h : l.drop (blankN false l) ≠ [] := by intro e; rw [e] at h2; cases h2
  have hl := tok_len numB spanB h2
  unfold lexS
  conv => lhs; unfold lexGo
  rw [if_neg h, h2]
  simp only
  rw [lexGo_fuel numB spanB l.length (((l.drop (blankN false l)).drop n).length + 1) _ _ (by simp at hl ⊢; omega) (by omega)]
  split <;> (rename_i h; rw [h]; rfl)
end
end Go.Proofs.YtaggmakaceafgaaGreatDoor.Lx

/- Plain facts on spans: what a text of digits and units is, what text a number has, and that the text is read back. No condition. -/
import Derived.Lib.ItoaNum
namespace Go.Proofs.YtmpodmfbieiadaaDoor.Sp
open Go Go.Lib

def isD (b : UInt8) : Bool := decide (48 ≤ b.toNat) && decide (b.toNat ≤ 57)
def isL (b : UInt8) : Bool := !isD b
abbrev M : Nat := 35184372088832
def stepN (n : Nat) (b : UInt8) : Nat := min (10 * n + (b.toNat - 48)) 35184372088833
def digs (l : List UInt8) : List UInt8 := l.takeWhile isD
def rest (l : List UInt8) : List UInt8 := l.dropWhile isD
def numN (l : List UInt8) : Nat := (digs l).foldl stepN 0
def lets (l : List UInt8) : List UInt8 := l.takeWhile isL
def tail (l : List UInt8) : List UInt8 := l.dropWhile isL
def names : List (List UInt8) := [[121], [119], [100], [104], [109], [115], [109, 115]]
def sizes : List Nat := [31536000000, 604800000, 86400000, 3600000, 60000, 1000, 1]
def nameAt (k : Nat) : List UInt8 := names.getD k []
def sizeAt (k : Nat) : Nat := sizes.getD k 1
def findGo (nm : List UInt8) : Nat → Nat → Nat
  | 0, _ => 7
  | f + 1, k => if nameAt k = nm then k else findGo nm f (k + 1)
def findF (nm : List UInt8) (from_ : Nat) : Nat := findGo nm (7 - from_) from_

def parseL : Nat → List UInt8 → Nat → Nat → Option Nat
  | 0, l, _, sum => if l = [] then some sum else none
  | f + 1, l, from_, sum =>
    if l = [] then some sum
    else if (rest l).length = l.length ∨ findF (lets (rest l)) from_ = 7 ∨ M / sizeAt (findF (lets (rest l)) from_) < numN l then none
    else if M < sum + numN l * sizeAt (findF (lets (rest l)) from_) then none
    else parseL f (tail (rest l)) (findF (lets (rest l)) from_ + 1) (sum + numN l * sizeAt (findF (lets (rest l)) from_))
def parseP (l : List UInt8) (from_ sum : Nat) : Option Nat := parseL l.length l from_ sum
def spanF (l : List UInt8) : Option Nat := if l.length = 0 ∨ 200 < l.length then none else parseP l 0 0

theorem drop_len {p : UInt8 → Bool} : ∀ l : List UInt8, (l.dropWhile p).length ≤ l.length
  | [] => by simp
  | b :: l => by
    rw [List.dropWhile_cons]
    split
    · have := drop_len (p := p) l; simp; omega
    · simp
theorem tail_len (l : List UInt8) : (tail l).length ≤ l.length := drop_len l
theorem rest_len (l : List UInt8) : (rest l).length ≤ l.length := drop_len l

theorem parseL_fuel : ∀ (f g : Nat) (l : List UInt8) (from_ sum : Nat), l.length ≤ f → l.length ≤ g → parseL f l from_ sum = parseL g l from_ sum
  | 0, 0, _, _, _, _, _ => rfl
  | 0, g + 1, l, _, _, h, _ => by
    have : l = [] := List.length_eq_zero_iff.1 (by omega)
    subst this; rfl
  | f + 1, 0, l, _, _, _, h => by
    have : l = [] := List.length_eq_zero_iff.1 (by omega)
    subst this; rfl
  | f + 1, g + 1, l, from_, sum, h1, h2 => by
    unfold parseL
    by_cases h0 : l = []
    · rw [if_pos h0, if_pos h0]
    rw [if_neg h0, if_neg h0]
    by_cases h3 : (rest l).length = l.length ∨ findF (lets (rest l)) from_ = 7 ∨ M / sizeAt (findF (lets (rest l)) from_) < numN l
    · rw [if_pos h3, if_pos h3]
    rw [if_neg h3, if_neg h3]
    by_cases h4 : M < sum + numN l * sizeAt (findF (lets (rest l)) from_)
    · rw [if_pos h4, if_pos h4]
    rw [if_neg h4, if_neg h4]
    have e1 := rest_len l
    have e2 := tail_len (rest l)
    have e3 : (rest l).length ≠ l.length := fun e => h3 (.inl e)
    exact parseL_fuel f g _ _ _ (by omega) (by omega)
theorem parse_nil (from_ sum : Nat) : parseP [] from_ sum = some sum := rfl
theorem parse_bad {l : List UInt8} {from_ sum : Nat} (h0 : l ≠ []) (h3 : (rest l).length = l.length ∨ findF (lets (rest l)) from_ = 7 ∨ M / sizeAt (findF (lets (rest l)) from_) < numN l) : parseP l from_ sum = none := by
  unfold parseP
  cases hl : l.length with
  | zero => exact absurd (List.length_eq_zero_iff.1 hl) h0
  | succ f => rw [parseL, if_neg h0, if_pos h3]
theorem parse_much {l : List UInt8} {from_ sum : Nat} (h0 : l ≠ []) (h3 : ¬ ((rest l).length = l.length ∨ findF (lets (rest l)) from_ = 7 ∨ M / sizeAt (findF (lets (rest l)) from_) < numN l))
    (h4 : M < sum + numN l * sizeAt (findF (lets (rest l)) from_)) : parseP l from_ sum = none := by
  unfold parseP
  cases hl : l.length with
  | zero => exact absurd (List.length_eq_zero_iff.1 hl) h0
  | succ f => rw [parseL, if_neg h0, if_neg h3, if_pos h4]
theorem parse_next {l : List UInt8} {from_ sum : Nat} (h0 : l ≠ []) (h3 : ¬ ((rest l).length = l.length ∨ findF (lets (rest l)) from_ = 7 ∨ M / sizeAt (findF (lets (rest l)) from_) < numN l))
    (h4 : ¬ M < sum + numN l * sizeAt (findF (lets (rest l)) from_)) :
    parseP l from_ sum = parseP (tail (rest l)) (findF (lets (rest l)) from_ + 1) (sum + numN l * sizeAt (findF (lets (rest l)) from_)) := by
  unfold parseP
  cases hl : l.length with
  | zero => exact absurd (List.length_eq_zero_iff.1 hl) h0
  | succ f =>
    rw [parseL, if_neg h0, if_neg h3, if_neg h4]
    have e1 := rest_len l
    have e2 := tail_len (rest l)
    have e3 : (rest l).length ≠ l.length := fun e => h3 (.inl e)
    exact parseL_fuel _ _ _ _ _ (by omega) (by omega)

/-! the digits of a number -/
theorem digit_byte {u : Nat} (h : u < 10) : (UInt8.ofNat (48 + u)).toNat = 48 + u := by
  rw [UInt8.toNat_ofNat']
  omega
theorem digit_isD {u : Nat} (h : u < 10) : isD (UInt8.ofNat (48 + u)) = true := by
  unfold isD; rw [digit_byte h]; simp; omega
theorem dec_isD (u : Nat) : ∀ b ∈ decDigits u, isD b = true := by
  induction u using Nat.strongRecOn with
  | _ u ih =>
    rw [decDigits]
    by_cases h : u < 10
    · rw [dif_pos h]; intro b hb; rw [List.mem_singleton.1 hb]; exact digit_isD h
    · rw [dif_neg h]
      intro b hb
      rcases List.mem_append.1 hb with hb | hb
      · exact ih (u / 10) (by omega) b hb
      · rw [List.mem_singleton.1 hb]; exact digit_isD (by omega)
theorem dec_ne (u : Nat) : decDigits u ≠ [] := by
  rw [decDigits]; split <;> simp
theorem dec_num (u : Nat) (h : u ≤ M) : (decDigits u).foldl stepN 0 = u := by
  induction u using Nat.strongRecOn with
  | _ u ih =>
    rw [decDigits]
    by_cases h1 : u < 10
    · rw [dif_pos h1]
      simp only [List.foldl_cons, List.foldl_nil, stepN, digit_byte h1]
      omega
    · rw [dif_neg h1, List.foldl_append, ih (u / 10) (by omega) (by omega)]
      simp only [List.foldl_cons, List.foldl_nil, stepN, digit_byte (show u % 10 < 10 by omega)]
      simp only [M] at h
      omega

theorem takeWhile_all {p : UInt8 → Bool} : ∀ {a b : List UInt8}, (∀ x ∈ a, p x = true) → (∀ y, b.head? = some y → p y = false) → (a ++ b).takeWhile p = a ∧ (a ++ b).dropWhile p = b
  | [], [], _, _ => ⟨rfl, rfl⟩
  | [], y :: b, _, h => by
    have := h y rfl
    exact ⟨by rw [List.nil_append, List.takeWhile_cons, this]; rfl, by rw [List.nil_append, List.dropWhile_cons, this]; rfl⟩
  | x :: a, b, h, h' => by
    have hx := h x (by simp)
    have ih := takeWhile_all (a := a) (b := b) (fun z hz => h z (by simp [hz])) h'
    simp only [List.cons_append, List.takeWhile_cons, List.dropWhile_cons, hx, if_true]
    exact ⟨by rw [ih.1], ih.2⟩
theorem takeWhile_cut {p : UInt8 → Bool} {l : List UInt8} {k : Nat} (hk : k ≤ l.length) (h : ∀ i (hi : i < l.length), i < k → p l[i] = true) (h' : ∀ (hi : k < l.length), p l[k] = false) : l.takeWhile p = l.take k ∧ l.dropWhile p = l.drop k := by
  have := takeWhile_all (p := p) (a := l.take k) (b := l.drop k) (fun x hx => by
    obtain ⟨i, hi, rfl⟩ := List.getElem_of_mem hx
    rw [List.getElem_take]
    have : i < k ∧ i < l.length := by simp at hi; omega
    exact h i this.2 this.1) (fun y hy => by
    rw [List.head?_drop] at hy
    obtain ⟨hi, rfl⟩ := List.getElem?_eq_some_iff.1 hy
    exact h' hi)
  rw [List.take_append_drop] at this
  exact this

/-! names -/
theorem names_isL : ∀ k, k < 7 → ∀ b ∈ nameAt k, isL b = true := by decide
theorem names_head : ∀ k, k < 7 → ∀ y, (nameAt k).head? = some y → isD y = false := by decide
theorem names_ne : ∀ k, k < 7 → nameAt k ≠ [] := by decide
theorem find_name : ∀ k, k < 7 → ∀ from_, from_ ≤ k → findF (nameAt k) from_ = k := by decide
theorem sizes_pos : ∀ k, k < 7 → 0 < sizeAt k := by decide
theorem findGo_le (nm : List UInt8) : ∀ f k, k + f = 7 → findGo nm f k ≤ 7
  | 0, _, _ => Nat.le_refl _
  | f + 1, k, h => by
    unfold findGo
    split
    · omega
    · exact findGo_le nm f (k + 1) (by omega)
theorem findGo_ge (nm : List UInt8) : ∀ f k, k + f = 7 → k ≤ findGo nm f k
  | 0, _, h => by unfold findGo; omega
  | f + 1, k, h => by
    unfold findGo
    split
    · omega
    · have := findGo_ge nm f (k + 1) (by omega); omega

/-! one part of a text -/
/-- what may stand behind a part -/
def Fresh (X : List UInt8) : Prop := ∀ y, X.head? = some y → isD y = true
theorem part_step (n k from_ sum : Nat) (X : List UInt8) (hk : k < 7) (hf : from_ ≤ k) (hX : Fresh X) (hn : n * sizeAt k + sum ≤ M) :
    parseP (decDigits n ++ (nameAt k ++ X)) from_ sum = parseP X (k + 1) (sum + n * sizeAt k) := by
  have hpos := sizes_pos k hk
  have hnM : n ≤ M := Nat.le_trans (Nat.le_mul_of_pos_right n hpos) (by omega)
  obtain ⟨y, ys, hny⟩ := List.exists_cons_of_ne_nil (names_ne k hk)
  have e1 := takeWhile_all (p := isD) (a := decDigits n) (b := nameAt k ++ X) (dec_isD n) (fun z hz => by
    rw [hny] at hz
    simp at hz
    subst hz
    exact names_head k hk y (by rw [hny]; rfl))
  have e2 := takeWhile_all (p := isL) (a := nameAt k) (b := X) (names_isL k hk) (fun z hz => by
    have := hX z hz
    unfold isL; rw [this]; rfl)
  have r1 : rest (decDigits n ++ (nameAt k ++ X)) = nameAt k ++ X := e1.2
  have r2 : lets (nameAt k ++ X) = nameAt k := e2.1
  have r3 : tail (nameAt k ++ X) = X := e2.2
  have r4 : numN (decDigits n ++ (nameAt k ++ X)) = n := by
    unfold numN digs; rw [e1.1]; exact dec_num n hnM
  have hfind := find_name k hk from_ hf
  have hne : decDigits n ++ (nameAt k ++ X) ≠ [] := by
    intro e
    exact dec_ne n (List.append_eq_nil_iff.1 e).1
  have := parse_next (l := decDigits n ++ (nameAt k ++ X)) (from_ := from_) (sum := sum) hne (by
    rw [r1, r2, r4, hfind]
    rintro (h | h | h)
    · have hl : 0 < (decDigits n).length := List.length_pos_iff.2 (dec_ne n)
      simp only [List.length_append] at h
      omega
    · omega
    · have : n ≤ M / sizeAt k := (Nat.le_div_iff_mul_le hpos).2 (by omega)
      omega) (by rw [r1, r2, r4, hfind]; omega)
  rw [this, r1, r2, r3, r4, hfind]

/-! the text of a number -/
def textGo : Nat → Nat → Nat → List UInt8
  | 0, _, _ => []
  | f + 1, k, v => (if v / sizeAt k > 0 then decDigits (v / sizeAt k) ++ nameAt k else []) ++ textGo f (k + 1) (v % sizeAt k)
def textF (v : Nat) : List UInt8 := if v = 0 then [48, 115] else textGo 7 0 v
theorem fresh_nil : Fresh [] := fun y h => by simp at h
theorem fresh_digits (n : Nat) (X : List UInt8) : Fresh (decDigits n ++ X) := by
  intro y h
  obtain ⟨z, zs, hz⟩ := List.exists_cons_of_ne_nil (dec_ne n)
  rw [hz] at h
  simp at h
  subst h
  exact dec_isD n z (by rw [hz]; simp)
theorem fresh_text : ∀ f k v X, Fresh X → Fresh (textGo f k v ++ X)
  | 0, _, _, X, h => by unfold textGo; exact h
  | f + 1, k, v, X, h => by
    unfold textGo
    split
    · rw [List.append_assoc, List.append_assoc]; exact fresh_digits _ _
    · exact fresh_text f (k + 1) _ X h
/-- what is left behind some units -/
def leftGo : Nat → Nat → Nat → Nat
  | 0, _, v => v
  | f + 1, k, v => leftGo f (k + 1) (v % sizeAt k)
theorem left_le : ∀ f k v, leftGo f k v ≤ v
  | 0, _, _ => Nat.le_refl _
  | f + 1, k, v => by unfold leftGo; exact Nat.le_trans (left_le f (k + 1) _) (Nat.mod_le _ _)
theorem text_parse : ∀ f k v X from_ sum, k + f ≤ 7 → from_ ≤ k → Fresh X → sum + v ≤ M → ∃ from2, from2 ≤ k + f ∧ parseP (textGo f k v ++ X) from_ sum = parseP X from2 (sum + (v - leftGo f k v))
  | 0, k, v, X, from_, sum, _, hf, _, _ => ⟨from_, by omega, by unfold textGo leftGo; simp⟩
  | f + 1, k, v, X, from_, sum, hk, hf, hX, hM => by
    have hpos := sizes_pos k (by omega)
    have hdm := Nat.div_add_mod v (sizeAt k)
    have hml := Nat.mod_le v (sizeAt k)
    have hle := left_le f (k + 1) (v % sizeAt k)
    rw [Nat.mul_comm] at hdm
    have hq : v / sizeAt k = 0 → v / sizeAt k * sizeAt k = 0 := fun e => by rw [e, Nat.zero_mul]
    have hps := fun from_ sum X => part_step (v / sizeAt k) k from_ sum X
    generalize v / sizeAt k * sizeAt k = p at *
    unfold textGo leftGo
    by_cases h : v / sizeAt k > 0
    · rw [if_pos h]
      obtain ⟨from2, h1, h2⟩ := text_parse f (k + 1) (v % sizeAt k) X (k + 1) (sum + p) (by omega) (Nat.le_refl _) hX (by omega)
      refine ⟨from2, by omega, ?_⟩
      rw [List.append_assoc, List.append_assoc, hps from_ sum _ (by omega) hf (fresh_text f (k + 1) _ X hX) (by omega), h2]
      congr 1
      omega
    · rw [if_neg h]
      have h0 : v / sizeAt k = 0 := Nat.eq_zero_of_not_pos h
      have hv : v % sizeAt k = v := by have := hq h0; omega
      obtain ⟨from2, h1, h2⟩ := text_parse f (k + 1) (v % sizeAt k) X from_ sum (by omega) (by omega) hX (by omega)
      refine ⟨from2, by omega, ?_⟩
      rw [List.nil_append, h2, hv]
theorem left_all (v : Nat) : leftGo 7 0 v = 0 := by
  show (((((((v % 31536000000) % 604800000) % 86400000) % 3600000) % 60000) % 1000) % 1) = 0
  exact Nat.mod_one _
theorem left_hours (a : Nat) : leftGo 4 0 (a * 3600000) = 0 := by
  show ((((a * 3600000) % 31536000000) % 604800000) % 86400000) % 3600000 = 0
  omega
theorem text_hours (a : Nat) : textGo 7 0 (a * 3600000) = textGo 4 0 (a * 3600000) := by
  have h0 := left_hours a
  have key : ∀ f k v j, textGo (f + j) k v = textGo f k v ++ textGo j (k + f) (leftGo f k v) := by
    intro f
    induction f with
    | zero => intro k v j; simp [textGo, leftGo]
    | succ f ih =>
      intro k v j
      rw [show f + 1 + j = (f + j) + 1 by omega, textGo, textGo, leftGo, ih, List.append_assoc, show k + 1 + f = k + (f + 1) by omega]
  have := key 4 0 (a * 3600000) 3
  rw [h0] at this
  rw [show (7 : Nat) = 4 + 3 from rfl, this]
  show _ ++ textGo 3 4 0 = _
  rw [show textGo 3 4 0 = [] by decide, List.append_nil]

end Go.Proofs.YtmpodmfbieiadaaDoor.Sp

import Derived.Test.YtaggmakaceafgaaGreatDoorM3
namespace Go.Proofs.YtaggmakaceafgaaGreatDoor.Lx
open Go

/-! step by step, as the document goes -/
section
variable (numB spanB : List UInt8 → Bool)
theorem lexS_isB {c : UInt8} {l : List UInt8} (h : isB c = true) (a : Nat) : lexS numB spanB (c :: l) a = lexS numB spanB l (a + 1) := by
  have hr : rem1 false c = false := by
    have h : ((c = 32 ∨ c = 9) ∨ c = 10) ∨ c = 13 := by simpa [isB] using h
    rcases h with ((rfl | rfl) | rfl) | rfl <;> rfl
  exact lexS_blank numB spanB (g := [c]) (by rw [stS, hr, h]; rfl) a
theorem st_rem : ∀ {g : List UInt8}, (∀ x ∈ g, x ≠ 10) → stS true g = some true
  | [], _ => rfl
  | c :: g, h => by
    have hc : rem1 true c = true := by unfold rem1; have := h c (by simp); simp [this]
    rw [stS, hc]
    exact st_rem fun x hx => h x (by simp [hx])
theorem st_hash {g : List UInt8} (h : ∀ x ∈ g, x ≠ 10) : stS false (35 :: g) = some true := by
  rw [stS]
  exact st_rem h
theorem lexS_rem {g y : List UInt8} (h : ∀ x ∈ g, x ≠ 10) (hy : ∀ c r, y = c :: r → c = 10) (a : Nat) : lexS numB spanB (35 :: (g ++ y)) a = lexS numB spanB y (a + 1 + g.length) := by
  cases y with
  | nil =>
    have h1 := blank_app [] (st_hash h)
    rw [lexS_end numB spanB (l := []) rfl, lexS_end numB spanB]
    refine List.drop_eq_nil_iff.2 ?_
    have : blankN false (35 :: (g ++ [])) = (35 :: g).length + blankN true [] := h1
    rw [this]; simp
  | cons c r =>
    obtain rfl := hy c r rfl
    have h2 : stS false ((35 :: g) ++ [10]) = some false := by rw [st_app [10] (st_hash h)]; rfl
    have h3 := lexS_blank numB spanB (l := r) h2 a
    rw [List.append_assoc] at h3
    rw [lexS_isB numB spanB (c := 10) (l := r) rfl]
    have e : a + ((35 :: g) ++ [10]).length = a + 1 + g.length + 1 := by simp; omega
    rw [e] at h3
    exact h3
theorem lexS_bad0 {l : List UInt8} (h : l ≠ []) (hb : blankN false l = 0) (a : Nat) (h2 : tokF numB spanB l = none) : lexS numB spanB l a = .error a := by
  have := lexS_bad numB spanB (l := l) (by rw [hb]; exact h) a (by rw [hb]; exact h2)
  rwa [hb] at this
theorem lexS_tok0 {l : List UInt8} {k : Nat} {t : List UInt8} {n : Nat} (h2 : tokF numB spanB l = some (k, t, n)) (a : Nat) : lexS numB spanB l a = pre [(k, a, t)] (lexS numB spanB (l.drop n) (a + n)) := by
  have hb := tok_head numB spanB h2
  have := lexS_next numB spanB (l := l) a (k := k) (t := t) (n := n) (by rw [hb]; exact h2)
  rwa [hb] at this
theorem blank0 {c : UInt8} {l : List UInt8} (h1 : isB c = false) (h2 : c ≠ 35) : blankN false (c :: l) = 0 := by
  rw [blankN, if_neg]
  simp [rem1, h1, h2]
end
def numC (b : Bool) (c : UInt8) : Bool := if c = 43 ∨ c = 45 then b else (isL c || isD c || c == 46)
def numP (p : Bool) (c : UInt8) : Bool := if c = 43 ∨ c = 45 then p else (p && (isD c || c == 46))
def numB' (p : Bool) (c : UInt8) : Bool := if c = 43 ∨ c = 45 then false else (p && (c == 101 || c == 69))
theorem numE_cons (p b : Bool) (c : UInt8) (l : List UInt8) : numE p b (c :: l) = if numC b c = true then 1 + numE (numP p c) (numB' p c) l else 0 := by
  rw [numE]
  unfold numC numP numB'
  split <;> rfl
end Go.Proofs.YtaggmakaceafgaaGreatDoor.Lx

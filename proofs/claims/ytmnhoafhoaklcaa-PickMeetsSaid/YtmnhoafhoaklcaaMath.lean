/- Plain facts on lists of points (a time, bits): what may be, the last sample, the window. No condition. -/
namespace Go.Proofs.Ytmnhoafhoaklcaa.Pk

abbrev Pt := Int × Int

def far : Int := 2305843009213693952
def stale : Int := 9218868437227405314
def d0 : Pt := (0, 0)

theorem far_eq : far = 2305843009213693952 := rfl
theorem stale_eq : stale = 9218868437227405314 := rfl

/-- the first k points lie near, and rise -/
def Rise (l : List Pt) (k : Nat) : Prop := ∀ i, i < k → (-far ≤ (l.getD i d0).1 ∧ (l.getD i d0).1 ≤ far) ∧ (0 < i → (l.getD (i - 1) d0).1 < (l.getD i d0).1)

instance (l : List Pt) (k : Nat) : Decidable (Rise l k) := by unfold Rise; infer_instance

def nearB (t : Int) : Bool := decide (-far ≤ t) && decide (t ≤ far)

def mayB (l : List Pt) (t b : Int) : Bool := decide (Rise l l.length) && (nearB t && (decide (1 ≤ b) && decide (b ≤ far)))

theorem mayB_iff (l : List Pt) (t b : Int) : mayB l t b = true ↔ Rise l l.length ∧ (-far ≤ t ∧ t ≤ far) ∧ 1 ≤ b ∧ b ≤ far := by
  simp [mayB, nearB]

theorem Rise.mono {l : List Pt} {k j : Nat} (h : Rise l k) (hj : j ≤ k) : Rise l j := fun i hi => h i (by omega)

theorem rise_zero (l : List Pt) : Rise l 0 := fun _ hi => absurd hi (Nat.not_lt_zero _)

theorem rise_succ {l : List Pt} {k : Nat} (h : Rise l k) (hn : -far ≤ (l.getD k d0).1 ∧ (l.getD k d0).1 ≤ far) (hr : 0 < k → (l.getD (k - 1) d0).1 < (l.getD k d0).1) : Rise l (k + 1) := by
  intro i hi
  by_cases e : i = k
  · subst e; exact ⟨hn, hr⟩
  · exact h i (by omega)

theorem Rise.lt {l : List Pt} {k : Nat} (h : Rise l k) {i j : Nat} (hij : i < j) (hj : j < k) : (l.getD i d0).1 < (l.getD j d0).1 := by
  induction j with
  | zero => omega
  | succ j ih =>
    have h1 := (h (j + 1) hj).2 (by omega)
    simp only [Nat.add_sub_cancel] at h1
    by_cases e : i = j
    · subst e; exact h1
    · have := ih (by omega) (by omega); omega

theorem Rise.le {l : List Pt} {k : Nat} (h : Rise l k) {i j : Nat} (hij : i ≤ j) (hj : j < k) : (l.getD i d0).1 ≤ (l.getD j d0).1 := by
  by_cases e : i = j
  · subst e; exact Int.le_refl _
  · exact Int.le_of_lt (h.lt (by omega) hj)

/-- how many have times at most t -/
def cnt (l : List Pt) (t : Int) : Nat := (List.range l.length).countP (fun i => !decide (t < (l.getD i d0).1))

theorem cnt_le (l : List Pt) (t : Int) : cnt l t ≤ l.length := by
  have := List.countP_le_length (p := fun i => !decide (t < (l.getD i d0).1)) (l := List.range l.length)
  simpa [cnt] using this

theorem countP_range_prefix (n m : Nat) (p : Nat → Bool) (hm : m ≤ n) (h1 : ∀ i, i < m → p i = true) (h2 : ∀ i, m ≤ i → i < n → p i = false) : (List.range n).countP p = m := by
  induction n with
  | zero => simp; omega
  | succ n ih =>
    rw [List.range_succ, List.countP_append]
    by_cases e : m = n + 1
    · subst e
      have hall : (List.range n).countP p = n := by
        have := List.countP_eq_length (p := p) (l := List.range n)
        rw [List.length_range] at this
        exact this.2 (fun a ha => h1 a (by simp at ha; omega))
      rw [hall]; simp [h1 n (by omega)]
    · rw [ih (by omega) (fun i hi hn => h2 i hi (by omega))]
      simp [h2 n (by omega) (by omega)]

/-- there is a place such that all ahead are at most t, and all behind beyond -/
theorem exists_split (l : List Pt) (h : Rise l l.length) (t : Int) : ∃ m, m ≤ l.length ∧ (∀ i, i < m → (l.getD i d0).1 ≤ t) ∧ (∀ i, m ≤ i → i < l.length → t < (l.getD i d0).1) := by
  have key : ∀ n, n ≤ l.length → ∃ m, m ≤ n ∧ (∀ i, i < m → (l.getD i d0).1 ≤ t) ∧ (∀ i, m ≤ i → i < n → t < (l.getD i d0).1) := by
    intro n
    induction n with
    | zero => intro _; exact ⟨0, Nat.le_refl _, fun i hi => by omega, fun i _ hi => by omega⟩
    | succ n ih =>
      intro hn
      obtain ⟨m, hm, ha, hb⟩ := ih (by omega)
      by_cases e : t < (l.getD n d0).1
      · refine ⟨m, by omega, ha, fun i hi hin => ?_⟩
        by_cases en : i = n
        · subst en; exact e
        · exact hb i hi (by omega)
      · refine ⟨n + 1, Nat.le_refl _, fun i hi => ?_, fun i h1 h2 => by omega⟩
        have := h.le (i := i) (j := n) (by omega) (by omega)
        omega
  exact key l.length (Nat.le_refl _)

theorem cnt_spec (l : List Pt) (h : Rise l l.length) (t : Int) : (∀ i, i < cnt l t → (l.getD i d0).1 ≤ t) ∧ (∀ i, cnt l t ≤ i → i < l.length → t < (l.getD i d0).1) := by
  obtain ⟨m, hm, ha, hb⟩ := exists_split l h t
  have : cnt l t = m := countP_range_prefix _ _ _ hm (fun i hi => by simp; exact ha i hi) (fun i h1 h2 => by simp; exact hb i h1 h2)
  rw [this]; exact ⟨ha, hb⟩

theorem cnt_mono (l : List Pt) (h : Rise l l.length) {s t : Int} (hst : s ≤ t) : cnt l s ≤ cnt l t := by
  have hs := cnt_spec l h s
  have ht := cnt_spec l h t
  have := cnt_le l s
  by_cases e : cnt l s ≤ cnt l t
  · exact e
  · have h1 := hs.1 (cnt l t) (by omega)
    have h2 := ht.2 (cnt l t) (Nat.le_refl _) (by omega)
    omega

/-- the window: times within, none stale -/
def inW (t b : Int) (p : Pt) : Bool := decide (p.1 ≤ t) && (decide (t - b < p.1) && !(p.2 == stale))

def win (l : List Pt) (t b : Int) : List Pt := if mayB l t b = true then l.filter (inW t b) else []

def fresh (p : Pt) : Bool := !(p.2 == stale)

theorem filter_cut (l : List Pt) (p q : Pt → Bool) (a b : Nat) (hab : a ≤ b) (hb : b ≤ l.length) (h1 : ∀ i, i < a → p (l.getD i d0) = false) (h2 : ∀ i, a ≤ i → i < b → p (l.getD i d0) = q (l.getD i d0)) (h3 : ∀ i, b ≤ i → i < l.length → p (l.getD i d0) = false) :
    l.filter p = ((l.drop a).take (b - a)).filter q := by
  have e : l = l.take a ++ ((l.drop a).take (b - a) ++ l.drop b) := by
    have : l.drop b = (l.drop a).drop (b - a) := by rw [List.drop_drop]; congr 1; omega
    rw [this, List.take_append_drop, List.take_append_drop]
  have f1 : (l.take a).filter p = [] := by
    rw [List.filter_eq_nil_iff]
    intro x hx
    obtain ⟨i, hi, rfl⟩ := List.getElem_of_mem hx
    simp only [List.length_take] at hi
    have := h1 i (by omega)
    rw [List.getElem_take]
    simp only [List.getD_eq_getElem?_getD, List.getElem?_eq_getElem (show i < l.length by omega), Option.getD_some] at this
    simp [this]
  have f3 : (l.drop b).filter p = [] := by
    rw [List.filter_eq_nil_iff]
    intro x hx
    obtain ⟨i, hi, rfl⟩ := List.getElem_of_mem hx
    simp only [List.length_drop] at hi
    have := h3 (b + i) (by omega) (by omega)
    rw [List.getElem_drop]
    simp only [List.getD_eq_getElem?_getD, List.getElem?_eq_getElem (show b + i < l.length by omega), Option.getD_some] at this
    simp [this]
  have f2 : ((l.drop a).take (b - a)).filter p = ((l.drop a).take (b - a)).filter q := by
    apply List.filter_congr
    intro x hx
    obtain ⟨i, hi, rfl⟩ := List.getElem_of_mem hx
    simp only [List.length_take, List.length_drop] at hi
    have := h2 (a + i) (by omega) (by omega)
    rw [List.getElem_take, List.getElem_drop]
    simp only [List.getD_eq_getElem?_getD, List.getElem?_eq_getElem (show a + i < l.length by omega), Option.getD_some] at this
    exact this
  conv => lhs; rw [e]
  rw [List.filter_append, List.filter_append, f1, f2, f3]
  simp

theorem win_cut (l : List Pt) (t b : Int) (h : mayB l t b = true) : win l t b = ((l.drop (cnt l (t - b))).take (cnt l t - cnt l (t - b))).filter fresh := by
  obtain ⟨hg, ht, hb⟩ := (mayB_iff l t b).1 h
  have hs := cnt_spec l hg (t - b)
  have hu := cnt_spec l hg t
  have hm := cnt_mono l hg (s := t - b) (t := t) (by omega)
  rw [win, if_pos h]
  refine filter_cut l (inW t b) fresh _ _ hm (cnt_le l t) (fun i hi => ?_) (fun i h1 h2 => ?_) (fun i h1 h2 => ?_)
  · have := hs.1 i hi
    simp only [inW, Bool.and_eq_false_iff, decide_eq_false_iff_not]
    right; left; omega
  · have k1 := hs.2 i h1 (by have := cnt_le l t; omega)
    have k2 := hu.1 i h2
    simp only [inW, fresh]
    rw [decide_eq_true k2, decide_eq_true k1]
    simp
  · have := hu.2 i h1 h2
    simp only [inW, Bool.and_eq_false_iff, decide_eq_false_iff_not]
    left; omega

/-- the last sample -/
def lastOf (l : List Pt) (t b : Int) : Int × Bool :=
  if cnt l t = 0 then (0, false)
  else ((l.getD (cnt l t - 1) d0).2, decide (t - b < (l.getD (cnt l t - 1) d0).1) && !((l.getD (cnt l t - 1) d0).2 == stale))

def at_ (l : List Pt) (t b : Int) : Int × Bool :=
  if mayB l t b = true ∧ (lastOf l t b).2 = true then ((lastOf l t b).1, true) else (0, false)

end Go.Proofs.Ytmnhoafhoaklcaa.Pk

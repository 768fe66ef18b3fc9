import Derived.Test.YtahphjaelpgjdaaDoorW5
namespace Go.Proofs.YtahphjaelpgjdaaDoor
open Go.RowKit Rx
set_option linter.unusedVariables false

/-! rows of sets in memory -/
def flatS : List Nat → List Value
  | [] => []
  | t :: r => wv t 0 :: wv t 1 :: wv t 2 :: wv t 3 :: flatS r
theorem flatS_append (a b : List Nat) : flatS (a ++ b) = flatS a ++ flatS b := by
  induction a with
  | nil => rfl
  | cons t a ih => simp [flatS, ih]
theorem flatS_length (l : List Nat) : (flatS l).length = l.length * 4 := by
  induction l with
  | nil => rfl
  | cons t a ih => simp [flatS, ih]; omega
theorem flatS_at (l : List Nat) (i : Nat) (h : i < l.length) : (flatS l)[i * 4]? = some (wv (l.getD i 0) 0) ∧ (flatS l)[i * 4 + 1]? = some (wv (l.getD i 0) 1) ∧ (flatS l)[i * 4 + 2]? = some (wv (l.getD i 0) 2) ∧ (flatS l)[i * 4 + 3]? = some (wv (l.getD i 0) 3) := by
  induction l generalizing i with
  | nil => simp at h
  | cons t a ih =>
    cases i with
    | zero => simp [flatS]
    | succ i =>
      have := ih i (by simpa using h)
      simp only [flatS]
      rw [show (i + 1) * 4 = i * 4 + 1 + 1 + 1 + 1 by omega, show i * 4 + 1 + 1 + 1 + 1 + 1 = (i * 4 + 1) + 1 + 1 + 1 + 1 by omega, show i * 4 + 1 + 1 + 1 + 1 + 2 = (i * 4 + 2) + 1 + 1 + 1 + 1 by omega, show i * 4 + 1 + 1 + 1 + 1 + 3 = (i * 4 + 3) + 1 + 1 + 1 + 1 by omega]
      simpa using this
theorem flatS_one (l : List Nat) : ∀ u ∈ flatS l, u.oneCell' = true := by
  induction l with
  | nil => intro u hu; simp [flatS] at hu
  | cons t a ih =>
    intro u hu
    simp only [flatS, List.mem_cons] at hu
    rcases hu with rfl | rfl | rfl | rfl | hu
    · rfl
    · rfl
    · rfl
    · rfl
    · exact ih u hu
theorem set4 (t u : Nat) (r : List Value) : ((((wv t 0 :: wv t 1 :: wv t 2 :: wv t 3 :: r).set 0 (wv u 0)).set 1 (wv u 1)).set 2 (wv u 2)).set 3 (wv u 3) = wv u 0 :: wv u 1 :: wv u 2 :: wv u 3 :: r := rfl
theorem flatS_set (l : List Nat) (i u : Nat) (h : i < l.length) : ((((flatS l).set (i * 4) (wv u 0)).set (i * 4 + 1) (wv u 1)).set (i * 4 + 2) (wv u 2)).set (i * 4 + 3) (wv u 3) = flatS (l.set i u) := by
  induction l generalizing i with
  | nil => simp at h
  | cons t a ih =>
    cases i with
    | zero => simp [flatS]
    | succ i =>
      have := ih i (by simpa using h)
      simp only [flatS, List.set_cons_succ]
      rw [show (i + 1) * 4 = i * 4 + 1 + 1 + 1 + 1 by omega, show i * 4 + 1 + 1 + 1 + 1 + 1 = (i * 4 + 1) + 1 + 1 + 1 + 1 by omega, show i * 4 + 1 + 1 + 1 + 1 + 2 = (i * 4 + 2) + 1 + 1 + 1 + 1 by omega, show i * 4 + 1 + 1 + 1 + 1 + 3 = (i * 4 + 3) + 1 + 1 + 1 + 1 by omega]
      simp only [List.set_cons_succ, this]

abbrev rowS (w : World) (v : Value) (l : List Nat) : Prop := w.ownsRow 5 61 4 v l.length (flatS l)
/-- the cells of a reader -/
abbrev rdC (T F : Value) (l : ByteArray) (a o : Int) : Array Value :=
  #[T, F, .int .u64 0, .int .u64 0, .int .u64 0, .int .u64 0, .int .u64 0, .int .u64 0, .int .u64 0, .int .u64 0, .bool false, .string l, .int .i64 a, .int .i64 o]
structure Rdr (w : World) (b : Nat) (T F : Value) (l : ByteArray) (m : Mach) (a o : Nat) : Prop where
  blk : Blk w b 83 (rdC T F l a o)
  low : 5 ≤ b
  tk : rowS w T m.takes
  fl : rowS w F m.follow
  apart : ∀ g, T.ownBlock = some g → F.ownBlock ≠ some g
def Foot (b : Nat) (T F : Value) (j : Nat) : Prop := j = b ∨ T.ownBlock = some j ∨ F.ownBlock = some j
structure Moves (b : Nat) (T F : Value) (w : World) (T' F' : Value) (w' : World) : Prop where
  os : w'.os = w.os
  tape : w'.tape = w.tape
  output : w'.output = w.output
  size : w.heap.size ≤ w'.heap.size
  block : ∀ j, j < w.heap.size → ¬ Foot b T F j → w'.heap[j]? = w.heap[j]?
  foot : ∀ j, j < w.heap.size → Foot b T' F' j → Foot b T F j
theorem Moves.refl (b : Nat) (T F : Value) (w : World) : Moves b T F w T F w := ⟨rfl, rfl, rfl, Nat.le_refl _, fun _ _ _ => rfl, fun _ _ h => h⟩
theorem Moves.trans {b : Nat} {T F T1 F1 T2 F2 : Value} {w w1 w2 : World} (h : Moves b T F w T1 F1 w1) (k : Moves b T1 F1 w1 T2 F2 w2) : Moves b T F w T2 F2 w2 :=
  ⟨k.os.trans h.os, k.tape.trans h.tape, k.output.trans h.output, Nat.le_trans h.size k.size,
    fun j hj hn => (k.block j (Nat.lt_of_lt_of_le hj h.size) (fun hf => hn (h.foot j hj hf))).trans (h.block j hj hn),
    fun j hj hf => h.foot j hj (k.foot j (Nat.lt_of_lt_of_le hj h.size) hf)⟩
/-- a step that leaves what was there as it was -/
theorem Moves.below {b : Nat} {T F T1 F1 : Value} {w w1 w2 : World} (h : Moves b T F w T1 F1 w1) (k : Below w1.heap.size w1 w2) : Moves b T F w T1 F1 w2 :=
  h.trans ⟨k.os, k.tape, k.output, k.size, fun j hj _ => k.block j hj, fun _ _ h => h⟩
theorem Moves.alloc {b : Nat} {T F T1 F1 : Value} {w w1 : World} (h : Moves b T F w T1 F1 w1) (o : Obj) : Moves b T F w T1 F1 (w1.alloc o) := h.below ((Below.refl _ _).alloc (Nat.le_refl _) o)
/-- a step that writes blocks that are new -/
theorem Moves.new {b : Nat} {T F T1 F1 : Value} {w w1 w2 : World} (h : Moves b T F w T1 F1 w1) (k : Below w.heap.size w1 w2) : Moves b T F w T1 F1 w2 :=
  ⟨k.os.trans h.os, k.tape.trans h.tape, k.output.trans h.output, Nat.le_trans h.size k.size, fun j hj hn => (k.block j hj).trans (h.block j hj hn), h.foot⟩
theorem Moves.set_new {b : Nat} {T F T1 F1 : Value} {w w1 : World} (h : Moves b T F w T1 F1 w1) {g : Nat} (hg : w.heap.size ≤ g) (i : Nat) (u : Value) : Moves b T F w T1 F1 (w1.setCell ⟨g, i, none⟩ u) :=
  h.new ((Below.refl _ _).setCell (p := ⟨g, i, none⟩) hg u)
/-- a step that writes the reader itself, or one of its rows -/
theorem Moves.set_foot {b : Nat} {T F T1 F1 : Value} {w w1 : World} (h : Moves b T F w T1 F1 w1) {g : Nat} (hg : Foot b T1 F1 g) (i : Nat) (u : Value) : Moves b T F w T1 F1 (w1.setCell ⟨g, i, none⟩ u) :=
  h.trans ⟨rfl, rfl, rfl, by simp [World.setCell], fun j hj hn => Below.heap_setCell w1 ⟨g, i, none⟩ u j (fun e => hn (e ▸ hg)), fun _ _ h => h⟩
theorem Moves.drewN {b : Nat} {T F T1 F1 : Value} {w w1 : World} (h : Moves b T F w T1 F1 w1) (n : Nat) : Moves b T F w T1 F1 (w1.drewN n) := ⟨h.os, h.tape, h.output, h.size, h.block, h.foot⟩
theorem Moves.drew {b : Nat} {T F T1 F1 : Value} {w w1 : World} (h : Moves b T F w T1 F1 w1) : Moves b T F w T1 F1 w1.drew := ⟨h.os, h.tape, h.output, h.size, h.block, h.foot⟩

theorem own_blk {w : World} {base e s n g : Nat} {v : Value} {xs : List Value} (h : w.ownsRow base e s v n xs) (hv : v.ownBlock = some g) : ∃ cur, w.heap[g]? = some (.cells cur e (0, 0)) := by
  rcases h.2 with ⟨h1, _⟩ | ⟨q, cap, cur, h1, _, h3, _⟩
  · rw [h1] at hv; cases hv
  · rw [h1] at hv; injection hv with hv; subst hv; exact ⟨cur, h3⟩
/-- blocks of another type are none of the reader's -/
theorem Rdr.off {w : World} {b : Nat} {T F : Value} {l : ByteArray} {m : Mach} {a o j : Nat} {t : TypeId} {cs : Array Value} (h : Rdr w b T F l m a o) (hj : Blk w j t cs) (h1 : t ≠ 83) (h2 : t ≠ 61) : ¬ Foot b T F j := by
  rintro (rfl | hf | hf)
  · have e := h.blk
    unfold Blk at e hj
    rw [e] at hj
    injection hj with hj
    injection hj with _ hj
    exact h1 hj.symm
  · obtain ⟨cur, e⟩ := own_blk h.tk hf
    unfold Blk at hj
    rw [e] at hj
    injection hj with hj
    injection hj with _ hj
    exact h2 hj.symm
  · obtain ⟨cur, e⟩ := own_blk h.fl hf
    unfold Blk at hj
    rw [e] at hj
    injection hj with hj
    injection hj with _ hj
    exact h2 hj.symm
theorem Blk.moves {b : Nat} {T F T1 F1 : Value} {w w1 : World} {j : Nat} {t : TypeId} {cs : Array Value} (hj : Blk w j t cs) (h : Moves b T F w T1 F1 w1) (hn : ¬ Foot b T F j) : Blk w1 j t cs := (h.block j hj.lt hn).trans hj
theorem own_ne {w : World} {base e s n k : Nat} {v : Value} {xs : List Value} (h : w.ownsRow base e s v n xs) (hk : v.ownBlock ≠ some k) (i : Nat) (u : Value) : (w.setCell ⟨k, i, none⟩ u).ownsRow base e s v n xs :=
  h.kept (grown_set w k i u) (.inr hk)
theorem own_below {w w' : World} {base e s n : Nat} {v : Value} {xs : List Value} (h : w.ownsRow base e s v n xs) (hb : Below w.heap.size w w') : w'.ownsRow base e s v n xs := by
  refine ⟨h.1, ?_⟩
  rcases h.2 with h2 | ⟨q, cap, cur, h1, h2, h3, h4⟩
  · exact .inl h2
  · refine .inr ⟨q, cap, cur, h1, h2, ?_, h4⟩
    rw [← h3]
    refine hb.block q ?_
    rcases Nat.lt_or_ge q w.heap.size with h | h
    · exact h
    · rw [Array.getElem?_eq_none h] at h3; cases h3
theorem Rdr.below {w w' : World} {b : Nat} {T F : Value} {l : ByteArray} {m : Mach} {a o : Nat} (h : Rdr w b T F l m a o) (hb : Below w.heap.size w w') : Rdr w' b T F l m a o :=
  ⟨h.blk.below hb, h.low, own_below h.tk hb, own_below h.fl hb, h.apart⟩
theorem Rdr.alloc {w : World} {b : Nat} {T F : Value} {l : ByteArray} {m : Mach} {a o : Nat} (h : Rdr w b T F l m a o) (ob : Obj) : Rdr (w.alloc ob) b T F l m a o := h.below ((Below.refl _ _).alloc (Nat.le_refl _) ob)
/-- a block that is none of the reader's is written -/
theorem Rdr.other {w : World} {b : Nat} {T F : Value} {l : ByteArray} {m : Mach} {a o k : Nat} (h : Rdr w b T F l m a o) (hk : ¬ Foot b T F k) (i : Nat) (u : Value) : Rdr (w.setCell ⟨k, i, none⟩ u) b T F l m a o :=
  ⟨h.blk.other (fun e => hk (.inl e.symm)) i u, h.low, own_ne h.tk (fun e => hk (.inr (.inl e))) i u, own_ne h.fl (fun e => hk (.inr (.inr e))) i u, h.apart⟩
theorem Rdr.t_b {w : World} {b : Nat} {T F : Value} {l : ByteArray} {m : Mach} {a o : Nat} (h : Rdr w b T F l m a o) : T.ownBlock ≠ some b := by
  intro hf
  obtain ⟨cur, e⟩ := own_blk h.tk hf
  have hb := h.blk
  unfold Blk at hb
  rw [e] at hb
  injection hb with hb
  injection hb with _ hb
  cases hb
theorem Rdr.f_b {w : World} {b : Nat} {T F : Value} {l : ByteArray} {m : Mach} {a o : Nat} (h : Rdr w b T F l m a o) : F.ownBlock ≠ some b := by
  intro hf
  obtain ⟨cur, e⟩ := own_blk h.fl hf
  have hb := h.blk
  unfold Blk at hb
  rw [e] at hb
  injection hb with hb
  injection hb with _ hb
  cases hb
/-- the place moves -/
theorem Rdr.set_at {w : World} {b : Nat} {T F : Value} {l : ByteArray} {m : Mach} {a o : Nat} (h : Rdr w b T F l m a o) (a' : Nat) (u : Value) (hu : u = .int .i64 a') : Rdr (w.setCell ⟨b, 12, none⟩ u) b T F l m a' o := by
  subst hu
  exact ⟨h.blk.set_ 12 _, h.low, own_ne h.tk h.t_b _ _, own_ne h.fl h.f_b _ _, h.apart⟩
theorem Rdr.set_open {w : World} {b : Nat} {T F : Value} {l : ByteArray} {m : Mach} {a o : Nat} (h : Rdr w b T F l m a o) (o' : Nat) (u : Value) (hu : u = .int .i64 o') : Rdr (w.setCell ⟨b, 13, none⟩ u) b T F l m a o' := by
  subst hu
  exact ⟨h.blk.set_ 13 _, h.low, own_ne h.tk h.t_b _ _, own_ne h.fl h.f_b _ _, h.apart⟩
theorem Rdr.lt_foot {w : World} {b : Nat} {T F : Value} {l : ByteArray} {m : Mach} {a o j : Nat} (h : Rdr w b T F l m a o) (hf : Foot b T F j) : j < w.heap.size ∧ 5 ≤ j := by
  rcases hf with rfl | hf | hf
  · exact ⟨h.blk.lt, h.low⟩
  · have := h.tk.lt j hf; exact ⟨this.2, this.1⟩
  · have := h.fl.lt j hf; exact ⟨this.2, this.1⟩
theorem Moves.low {w w1 : World} {b : Nat} {T F T1 F1 : Value} {l : ByteArray} {m : Mach} {a o : Nat} (h : Moves b T F w T1 F1 w1) (hr : Rdr w b T F l m a o) : Below 5 w w1 :=
  ⟨h.os, h.tape, h.output, h.size, fun k hk => h.block k (by have := hr.blk.lt; have := hr.low; omega) (fun hf => by have := (hr.lt_foot hf).2; omega)⟩
theorem TzT.low {w w1 : World} (h : TzT w) (hb : Below 5 w w1) : TzT w1 := fun t ht => (hb.cell (p := ⟨1, idx t, none⟩) (show (1 : Nat) < 5 by decide)).trans (h t ht)

/-- an error: its place, its code -/
def ErrAt (w : World) (e : Value) (pl code : Nat) : Prop := ∃ f, e = .iface 70 (.pointer (some ⟨f, 0, none⟩)) ∧ Blk w f 74 #[.int .i64 pl, .iface 55 (.int .i64 code)]
theorem ErrAt.below {w w' : World} {e : Value} {pl c : Nat} (h : ErrAt w e pl c) (hb : Below w.heap.size w w') : ErrAt w' e pl c := let ⟨f, h1, h2⟩ := h; ⟨f, h1, h2.below hb⟩
end Go.Proofs.YtahphjaelpgjdaaDoor

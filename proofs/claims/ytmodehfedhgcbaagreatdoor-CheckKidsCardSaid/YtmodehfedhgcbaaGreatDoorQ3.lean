/- A list of parts that are yet to be asked: what stays the same from round to round; how many parts a tree has. No condition. -/
import Derived.Test.YtmodehfedhgcbaaGreatDoorQ2
namespace Go.Proofs.YtmodehfedhgcbaaGreatDoor.Ck
open Go.RowKit
set_option linter.unusedVariables false
set_option linter.unusedSimpArgs false

theorem allL_append (ok : Hd → Nat → Bool) : ∀ a b : List Tr, allL ok (a ++ b) = (allL ok a && allL ok b)
  | [], b => by rw [List.nil_append, allL, Bool.true_and]
  | t :: ts, b => by rw [List.cons_append, allL, allL, allL_append ok ts b, Bool.and_assoc]
theorem szL_append : ∀ a b : List Tr, szL (a ++ b) = szL a + szL b
  | [], b => by rw [List.nil_append, szL, Nat.zero_add]
  | t :: ts, b => by rw [List.cons_append, szL, szL, szL_append ts b, Nat.add_assoc]
theorem szF_pos (t : Tr) : 1 ≤ szF t := by cases t; rw [szF]; omega
theorem szL_length : ∀ l : List Tr, l.length ≤ szL l
  | [] => by simp
  | t :: ts => by
    have := szL_length ts
    have := szF_pos t
    rw [szL, List.length_cons]
    omega
theorem szL_mem : ∀ {l : List Tr} {t : Tr}, t ∈ l → szF t ≤ szL l
  | [], _, h => by cases h
  | x :: ts, t, h => by
    rw [szL]
    rcases List.mem_cons.1 h with rfl | h
    · omega
    · have := szL_mem h; omega
/-- the last one of a list of parts, taken off -/
theorem last_split {l : List Tr} {n : Nat} (h : l.length = n + 1) : ∃ a t, l = a ++ [t] ∧ a.length = n := by
  refine ⟨l.dropLast, l.getLast (by intro h0; rw [h0] at h; simp at h), (List.dropLast_concat_getLast _).symm, by simp [h]⟩
theorem all_bad {ok : Hd → Nat → Bool} {a : List Tr} {h : Hd} {ks : List Tr} (hb : ok h ks.length = false) : allL ok (a ++ [.mk h ks]) = false := by
  rw [allL_append, allL, allF, hb]; simp
theorem all_go {ok : Hd → Nat → Bool} {a : List Tr} {h : Hd} {ks : List Tr} (hb : ok h ks.length = true) : allL ok (a ++ [.mk h ks]) = allL ok (a ++ ks) := by
  rw [allL_append, allL_append, allL, allF, hb]; simp [allL]
theorem sz_go (a : List Tr) (h : Hd) (ks : List Tr) : szL (a ++ ks) + 1 ≤ szL (a ++ [.mk h ks]) := by
  rw [szL_append, szL_append, szL, szF, szL]; omega

/-! nested parts -/
abbrev Nd := Tr × Nat
def mostF (m : Nat) : List Nd → Nat
  | [] => m
  | x :: l => mostF (max m (x.2 + nestF x.1)) l
theorem mostF_max (l : List Nd) : ∀ m n, mostF (max m n) l = max m (mostF n l) := by
  induction l with
  | nil => intro m n; rfl
  | cons x l ih => intro m n; rw [mostF, mostF, Nat.max_assoc, ih]
theorem mostF_append (a b : List Nd) : ∀ m, mostF m (a ++ b) = mostF (mostF m a) b := by
  induction a with
  | nil => intro m; rfl
  | cons x l ih => intro m; rw [List.cons_append, mostF, mostF, ih]
/-- the first kids, as they are put on the list -/
def kidN (h : Hd) (n d : Nat) : Nat → List Tr → List Nd
  | _, [] => []
  | i, t :: ts => (t, d + deepF h n i t) :: kidN h n d (i + 1) ts
theorem kidN_length (h : Hd) (n d : Nat) : ∀ (i : Nat) (l : List Tr), (kidN h n d i l).length = l.length
  | _, [] => rfl
  | i, t :: ts => by rw [kidN, List.length_cons, List.length_cons, kidN_length h n d (i + 1) ts]
theorem kidN_snoc (h : Hd) (n d : Nat) : ∀ (i : Nat) (l : List Tr) (t : Tr), kidN h n d i (l ++ [t]) = kidN h n d i l ++ [(t, d + deepF h n (i + l.length) t)]
  | i, [], t => by simp [kidN]
  | i, x :: ts, t => by
    rw [List.cons_append, kidN, kidN, kidN_snoc h n d (i + 1) ts t, List.cons_append, List.length_cons, show i + 1 + ts.length = i + (ts.length + 1) by omega]
theorem kidN_most (h : Hd) (n d : Nat) : ∀ (i : Nat) (l : List Tr) (m : Nat), d ≤ m → mostF m (kidN h n d i l) = max m (d + nestL h n i l)
  | _, [], m, hm => by rw [kidN, mostF, nestL]; omega
  | i, t :: ts, m, hm => by
    rw [kidN, mostF, kidN_most h n d (i + 1) ts _ (by omega), nestL]
    dsimp only
    omega
theorem most_none {h : Hd} {ks : List Tr} (hk : hasKidsF h.k = false) (m d : Nat) (a : List Nd) : mostF m (a ++ [(.mk h ks, d)]) = mostF (max m d) a := by
  rw [mostF_append, mostF, mostF, nestF, hk, if_neg (by simp), Nat.max_comm, ← mostF_max, Nat.max_comm]
  rfl
theorem most_empty {h : Hd} (hk : hasKidsF h.k = true) (m d : Nat) (a : List Nd) : mostF m (a ++ [(.mk h [], d)]) = mostF (max (max m d) (d + 1)) a := by
  rw [mostF_append, mostF, mostF, nestF, hk, if_pos rfl, if_pos (show ([] : List Tr).length = 0 from rfl), Nat.max_comm, ← mostF_max]
  congr 1
  dsimp only
  omega
theorem most_kids {h : Hd} {ks : List Tr} (hk : hasKidsF h.k = true) (hn : ks.length ≠ 0) (m d : Nat) (a : List Nd) : mostF m (a ++ [(.mk h ks, d)]) = mostF (max m d) (a ++ kidN h ks.length d 0 ks) := by
  have hm : ∀ x, mostF (max m d) a = max (max m d) x ∨ True := fun _ => .inr trivial
  have hge : d ≤ mostF (max m d) a := by rw [Nat.max_comm, mostF_max]; omega
  rw [mostF_append, mostF_append, kidN_most _ _ _ _ _ _ hge, mostF, mostF, nestF, hk, if_pos rfl, if_neg hn, Nat.max_comm m d, mostF_max]
  dsimp only
  omega
def ndsz : List Nd → Nat
  | [] => 0
  | x :: l => szF x.1 + ndsz l
theorem ndsz_append (a b : List Nd) : ndsz (a ++ b) = ndsz a + ndsz b := by
  induction a with
  | nil => simp [ndsz]
  | cons x l ih => rw [List.cons_append, ndsz, ndsz, ih, Nat.add_assoc]
theorem ndsz_kids (h : Hd) (n d : Nat) : ∀ (i : Nat) (l : List Tr), ndsz (kidN h n d i l) = szL l
  | _, [] => by rw [kidN, ndsz, szL]
  | i, t :: ts => by rw [kidN, ndsz, ndsz_kids h n d (i + 1) ts, szL]
theorem ndsz_length : ∀ l : List Nd, l.length ≤ ndsz l
  | [] => by simp
  | t :: ts => by
    have := ndsz_length ts
    have := szF_pos t.1
    rw [ndsz, List.length_cons]
    omega
theorem nd_split {l : List Nd} {n : Nat} (h : l.length = n + 1) : ∃ a t, l = a ++ [t] ∧ a.length = n := by
  refine ⟨l.dropLast, l.getLast (by intro h0; rw [h0] at h; simp at h), (List.dropLast_concat_getLast _).symm, by simp [h]⟩

/-! how many parts -/
mutual
def sizeF : Tr → Int
  | .mk h ks => sizeL (1 + (h.ms.length : Int) + (h.ns.length : Int)) ks
def sizeL (n : Int) : List Tr → Int
  | [] => n
  | t :: ts => if n ≤ 300 then sizeL (wrap64 (n + sizeF t)) ts else n
end
def mtOk (m : Mt) : Bool := decide (m.2.2.size ≤ 250) && decide (m.2.1.size ≤ 400)
def nmOk (s : ByteArray) : Bool := decide (s.size ≤ 400)
mutual
def shortF : Tr → Bool
  | .mk h ks => decide (sizeF (.mk h ks) ≤ 300) && (decide (h.s.size ≤ 400) && (h.ms.all mtOk && (h.ns.all nmOk && shortL ks)))
def shortL : List Tr → Bool
  | [] => true
  | t :: ts => shortF t && shortL ts
end
theorem wrap_id {x : Int} (h0 : 0 ≤ x) (h1 : x ≤ 9223372036854775807) : wrap64 x = x := by unfold wrap64; omega
theorem sizeL_gt {n : Int} (h : 300 < n) : ∀ ts : List Tr, 300 < sizeL n ts
  | [] => by rw [sizeL]; exact h
  | t :: ts => by rw [sizeL, if_neg (by omega)]; exact h
theorem sizeL_sum : ∀ (ts : List Tr) (n : Nat), (∀ t, t ∈ ts → sizeF t = (szF t : Int) ∧ szF t ≤ 300) → sizeL (n : Int) ts ≤ 300 → sizeL (n : Int) ts = ((n + szL ts : Nat) : Int)
  | [], n, _, _ => by rw [sizeL, szL, Nat.add_zero]
  | t :: ts, n, hk, h => by
    have ht := hk t List.mem_cons_self
    by_cases hn : (n : Int) ≤ 300
    · have e : wrap64 ((n : Int) + sizeF t) = ((n + szF t : Nat) : Int) := by rw [ht.1, wrap_id (by omega) (by omega)]; omega
      rw [sizeL, if_pos hn, e] at h ⊢
      rw [sizeL_sum ts _ (fun x hx => hk x (List.mem_cons_of_mem _ hx)) h, szL, Nat.add_assoc]
    · have := sizeL_gt (n := (n : Int)) (by omega) (t :: ts)
      omega
mutual
theorem short_size : ∀ {t : Tr}, shortF t = true → sizeF t = (szF t : Int) ∧ szF t ≤ 300
  | .mk h ks, hs => by
    rw [shortF, Bool.and_eq_true, Bool.and_eq_true, Bool.and_eq_true, Bool.and_eq_true, decide_eq_true_eq] at hs
    obtain ⟨h1, _, _, _, h5⟩ := hs
    rw [sizeF] at h1 ⊢
    have e : (1 + (h.ms.length : Int) + (h.ns.length : Int)) = ((1 + h.ms.length + h.ns.length : Nat) : Int) := by omega
    rw [e] at h1 ⊢
    have := sizeL_sum ks _ (short_sizes h5) h1
    rw [szF]
    omega
theorem short_sizes : ∀ {ts : List Tr}, shortL ts = true → ∀ t, t ∈ ts → sizeF t = (szF t : Int) ∧ szF t ≤ 300
  | [], _, _, h => by cases h
  | x :: ts, hs, t, h => by
    rw [shortL, Bool.and_eq_true] at hs
    rcases List.mem_cons.1 h with h | h
    · have := short_size hs.1
      rw [h]
      exact this
    · exact short_sizes hs.2 t h
end
mutual
theorem nest_size : ∀ t : Tr, nestF t ≤ 2 * szF t
  | .mk h ks => by
    have := nest_sizes h ks.length 0 ks
    rw [nestF, szF]
    split
    · split
      · omega
      · omega
    · omega
theorem nest_sizes (h : Hd) (n : Nat) : ∀ (i : Nat) (ts : List Tr), nestL h n i ts ≤ 2 * szL ts + 2
  | _, [] => by rw [nestL]; omega
  | i, t :: ts => by
    have := nest_size t
    have := nest_sizes h n (i + 1) ts
    have := deepF_le h n i t
    rw [nestL, szL]
    omega
end
end Go.Proofs.YtmodehfedhgcbaaGreatDoor.Ck

import Derived.Test.YtiabnacgfoaihaaDoorS6
import Derived.Test.YtiabnacgfoaihaaDoorP9
import Derived.ArgAppend
namespace Go.Proofs.YtiabnacgfoaihaaDoor
open Go.RowKit Lb
set_option linter.unusedVariables false

/-! cells of points, and of series -/
def flatV : List VV → List Value
  | [] => []
  | x :: r => x.1 :: x.2 :: flatV r
theorem flatV_append (a b : List VV) : flatV (a ++ b) = flatV a ++ flatV b := by
  induction a with
  | nil => rfl
  | cons p a ih => simp [flatV, ih]
theorem flatV_length (l : List VV) : (flatV l).length = l.length * 2 := by
  induction l with
  | nil => rfl
  | cons p a ih => simp [flatV, ih]; omega
theorem flatV_at (l : List VV) (i : Nat) (h : i < l.length) : (flatV l)[i * 2]? = some (l.getD i v0).1 ∧ (flatV l)[i * 2 + 1]? = some (l.getD i v0).2 := by
  induction l generalizing i with
  | nil => simp at h
  | cons p a ih =>
    cases i with
    | zero => simp [flatV]
    | succ i =>
      have := ih i (by simpa using h)
      simp only [flatV]
      rw [show (i + 1) * 2 = i * 2 + 1 + 1 by omega]
      simpa using this
def encP (p : Pt) : VV := (.int .i64 p.1, .int .u64 p.2)
def flatP (l : List Pt) : List Value := flatV (l.map encP)
theorem add_plain (b off k : Nat) : (⟨b, off, none⟩ : Addr).add k = ⟨b, off + k, none⟩ := by unfold Addr.add; split <;> simp_all
theorem Raw.cells {w : World} {ad : Addr} {r : List VV} (h : Raw w (some ad) r) : ∀ j u, (flatV r)[j]? = some u → w.cell? (ad.add j) = some u := by
  intro j u hu
  have hj : j < (flatV r).length := by
    rcases Nat.lt_or_ge j (flatV r).length with h1 | h1
    · exact h1
    · rw [List.getElem?_eq_none h1] at hu; cases hu
  rw [flatV_length] at hj
  obtain ⟨b, off, e, _, hc⟩ := h (by omega)
  injection e with e
  subst e
  rw [add_plain]
  have f := flatV_at r (j / 2) (by omega)
  have c := hc (j / 2) (by omega)
  by_cases hp : j % 2 = 0
  · have ej : j / 2 * 2 = j := by omega
    rw [ej] at f c
    rw [← hu, f.1]; exact c.1
  · have ej : j / 2 * 2 + 1 = j := by omega
    have eo : off + j / 2 * 2 + 1 = off + j := by omega
    rw [ej] at f
    rw [eo] at c
    rw [← hu, f.2]; exact c.2
theorem Raw.take {w : World} {A : Option Addr} {r : List VV} (h : Raw w A r) (a : Nat) : Raw w A (r.take a) := by
  intro h0
  have hl : 0 < r.length := by simp at h0; omega
  obtain ⟨b, off, e, hb, hc⟩ := h hl
  refine ⟨b, off, e, hb, fun i hi => ?_⟩
  have hi2 : i < a ∧ i < r.length := by simp at hi; omega
  have := hc i hi2.2
  rw [show (r.take a).getD i v0 = r.getD i v0 by simp [hi2.1]]
  exact this
theorem Raw.drop {w : World} {b off : Nat} {r : List VV} (h : Raw w (some ⟨b, off, none⟩) r) (a : Nat) : Raw w (some ⟨b, off + a * 2, none⟩) (r.drop a) := by
  intro h0
  have hl : 0 < r.length := by simp at h0; omega
  obtain ⟨b', off', e, hb, hc⟩ := h hl
  injection e with e
  injection e with e1 e2
  subst e1; subst e2
  refine ⟨b, off + a * 2, rfl, hb, fun i hi => ?_⟩
  have hi2 : a + i < r.length := by simp at hi; omega
  have := hc (a + i) hi2
  rw [show (r.drop a).getD i v0 = r.getD (a + i) v0 by simp [List.getD_eq_getElem?_getD, List.getElem?_drop]]
  rw [show off + a * 2 + i * 2 = off + (a + i) * 2 by omega]
  exact this
theorem Raw.of_own {w : World} {base n : Nat} {e : TypeId} {v : Value} {r : List VV} (hn : r.length = n) (h : w.ownsRow base e 2 v n (flatV r)) :
    ∃ A c, v = .slice A n c ∧ Raw w A r ∧ (A = none → c = 0) ∧ n ≤ c ∧ c ≤ 9223372036854775807 := by
  subst hn
  rcases h.2 with ⟨hv, hn⟩ | ⟨g, cap, cur, hv, _, _, h3, h4, _⟩
  · exact ⟨none, 0, by rw [hv, hn], fun h0 => by omega, fun _ => rfl, by omega, by omega⟩
  · subst hv
    unfold maxLen at h4
    refine ⟨_, cap, rfl, fun h0 => ⟨g, 0, rfl, (h.lt g rfl).2, fun i hi => ?_⟩, (fun h => by cases h), h3, by omega⟩
    have c := h.cells (g := g) rfl
    have f := flatV_at r i hi
    have e1 : (⟨g, 0, none⟩ : Addr).add (i * 2) = ⟨g, 0 + i * 2, none⟩ := by unfold Addr.add; split <;> simp_all
    have e2 : (⟨g, 0, none⟩ : Addr).add (i * 2 + 1) = ⟨g, 0 + i * 2 + 1, none⟩ := by unfold Addr.add; simp
    rw [← e1, ← e2]
    exact ⟨c _ _ f.1, c _ _ f.2⟩
theorem map_getD (l : List Pt) (i : Nat) (hi : i < l.length) : (l.map encP).getD i v0 = encP (l.getD i p0) := by simp [hi]
theorem Pts.raw {w : World} {A : Option Addr} {l : List Pt} (h : Pts w A l) : Raw w A (l.map encP) := by
  intro h0
  obtain ⟨b, off, e, hb, hc⟩ := h (by simpa using h0)
  refine ⟨b, off, e, hb, fun i hi => ?_⟩
  have hi' : i < l.length := by simpa using hi
  rw [map_getD l i hi']
  exact ⟨(hc i hi').1, (hc i hi').2.1⟩
theorem Pts.bits {w : World} {A : Option Addr} {l : List Pt} (h : Pts w A l) : ∀ i, i < l.length → Bits (l.getD i p0).2 := by
  intro i hi
  obtain ⟨_, _, _, _, hc⟩ := h (by omega)
  exact (hc i hi).2.2
theorem Pts.of_raw {w : World} {A : Option Addr} {l : List Pt} (h : Raw w A (l.map encP)) (hb : ∀ i, i < l.length → Bits (l.getD i p0).2) : Pts w A l := by
  intro h0
  obtain ⟨b, off, e, hlt, hc⟩ := h (by simpa using h0)
  refine ⟨b, off, e, hlt, fun i hi => ?_⟩
  have := hc i (by simpa using hi)
  rw [map_getD l i hi] at this
  exact ⟨this.1, this.2, hb i hi⟩
theorem flatV_one {r : List VV} (h : ∀ x ∈ r, x.1.oneCell' = true ∧ x.2.oneCell' = true) : ∀ u ∈ flatV r, u.oneCell' = true := by
  induction r with
  | nil => intro u hu; simp [flatV] at hu
  | cons p l ih =>
    intro u hu
    simp only [flatV, List.mem_cons] at hu
    rcases hu with rfl | rfl | hu
    · exact (h p (by simp)).1
    · exact (h p (by simp)).2
    · exact ih (fun x hx => h x (by simp [hx])) u hu
theorem flatP_one (l : List Pt) : ∀ u ∈ flatP l, u.oneCell' = true :=
  flatV_one fun x hx => by
    obtain ⟨p, _, rfl⟩ := List.mem_map.1 hx
    exact ⟨rfl, rfl⟩
theorem serV_one {w : World} {x : VV} {s : Ser} (h : SerV w x s) : x.1.oneCell' = true ∧ x.2.oneCell' = true := by
  obtain ⟨LA, lc, PA, pc, rfl, _⟩ := h
  exact ⟨rfl, rfl⟩
theorem SerVs.one {w : World} {r : List VV} {S : List Ser} (h : SerVs w r S) : ∀ x ∈ r, x.1.oneCell' = true ∧ x.2.oneCell' = true := by
  intro x hx
  obtain ⟨i, hi, rfl⟩ := List.getElem_of_mem hx
  have := serV_one (h.2 i (by rw [← h.1]; exact hi))
  rw [show r.getD i v0 = r[i] by simp [hi]] at this
  exact this
theorem SerVs.append {w : World} {r r' : List VV} {S S' : List Ser} (h : SerVs w r S) (h' : SerVs w r' S') : SerVs w (r ++ r') (S ++ S') := by
  refine ⟨by rw [List.length_append, List.length_append, h.1, h'.1], fun i hi => ?_⟩
  by_cases hlt : i < S.length
  · rw [show (r ++ r').getD i v0 = r.getD i v0 by simp [List.getD_eq_getElem?_getD, List.getElem?_append_left (show i < r.length by rw [h.1]; exact hlt)],
      show (S ++ S').getD i s0 = S.getD i s0 by simp [List.getD_eq_getElem?_getD, List.getElem?_append_left hlt]]
    exact h.2 i hlt
  · rw [show (r ++ r').getD i v0 = r'.getD (i - S.length) v0 by simp [List.getD_eq_getElem?_getD, List.getElem?_append_right (show r.length ≤ i by rw [h.1]; omega), h.1],
      show (S ++ S').getD i s0 = S'.getD (i - S.length) s0 by simp [List.getD_eq_getElem?_getD, List.getElem?_append_right (show S.length ≤ i by omega)]]
    exact h'.2 (i - S.length) (by simp at hi; omega)
theorem SerVs.take {w : World} {r : List VV} {S : List Ser} (h : SerVs w r S) (a : Nat) : SerVs w (r.take a) (S.take a) := by
  refine ⟨by simp [h.1], fun i hi => ?_⟩
  have hi2 : i < a ∧ i < S.length := by simp at hi; omega
  rw [show (r.take a).getD i v0 = r.getD i v0 by simp [hi2.1], show (S.take a).getD i s0 = S.getD i s0 by simp [hi2.1]]
  exact h.2 i hi2.2
theorem SerVs.drop {w : World} {r : List VV} {S : List Ser} (h : SerVs w r S) (a : Nat) : SerVs w (r.drop a) (S.drop a) := by
  refine ⟨by simp [h.1], fun i hi => ?_⟩
  have hi2 : a + i < S.length := by simp at hi; omega
  rw [show (r.drop a).getD i v0 = r.getD (a + i) v0 by simp [List.getD_eq_getElem?_getD, List.getElem?_drop], show (S.drop a).getD i s0 = S.getD (a + i) s0 by simp [List.getD_eq_getElem?_getD, List.getElem?_drop]]
  exact h.2 (a + i) hi2
theorem SerVs.single {w : World} {x : VV} {s : Ser} (h : SerV w x s) : SerVs w [x] [s] := ⟨rfl, fun i hi => by
  have : i = 0 := by simp at hi; omega
  subst this; exact h⟩

/-! what Append comes to -/
def lastT (l : List Pt) : Int := (l.getD (l.length - 1) p0).1
def reach (S : List Ser) (m : List Lab) : Nat := S.findIdx fun x => decide (0 ≤ cmpL x.1 m)
theorem reach_is (S : List Ser) (m : List Lab) : Reach S m (reach S m) := by
  refine ⟨List.findIdx_le_length, fun i hi => ?_, fun h => ?_⟩
  · have hl : i < S.length := Nat.lt_of_lt_of_le hi List.findIdx_le_length
    have := List.not_of_lt_findIdx hi
    rw [show S.getD i s0 = S[i] by simp [hl]]
    simpa using this
  · have := List.findIdx_getElem (w := h)
    rw [show S.getD (reach S m) s0 = S[reach S m] by simp [h]]
    exact of_decide_eq_true this
/-- the points that stand there -/
def ptsAt (S : List Ser) (m : List Lab) : List Pt := if isAt S m (reach S m) = true then (S.getD (reach S m) s0).2 else []
def behindN (S : List Ser) (m : List Lab) : Nat := if isAt S m (reach S m) = true then reach S m + 1 else reach S m
def appOut (S : List Ser) (m : List Lab) (p : Pt) : List Ser := S.take (reach S m) ++ [(m, ptsAt S m ++ [p])] ++ S.drop (behindN S m)
def appF (S : List Ser) (l : List Lab) (p : Pt) : Int × List Ser :=
  if storeB S = false then (3, []) else
  match makeF l with
  | none => (1, [])
  | some m => if m.length = 0 then (1, []) else if tmB p.1 = false then (4, []) else
    if 0 < (ptsAt S m).length ∧ p.1 ≤ lastT (ptsAt S m) then (3, []) else (0, appOut S m (p.1, normI p.2))
end Go.Proofs.YtiabnacgfoaihaaDoor

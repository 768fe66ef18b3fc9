import Derived.Test.YtaggmakaceafgaaGreatDoorL2
namespace Go.Proofs.YtaggmakaceafgaaGreatDoor
open Go.RowKit Lx Er
set_option linter.unusedVariables false

/-! LexParts: both texts are lexed -/
section
variable (numB spanB : List UInt8 → Bool)
theorem lexS_at : ∀ (ts : List Tk) (l : List UInt8) (p : Nat), lexS numB spanB l p = .ok ts → ∀ q ∈ ts, q.2.1 ≤ p + l.length
  | [], _, _, _, q, hq => by cases hq
  | (k, a, t) :: ts, l, p, h, q, hq => by
    obtain ⟨g, x, y, rfl, hg, rfl, ht, hy⟩ := lexS_cons numB spanB h
    rcases List.mem_cons.1 hq with rfl | hq
    · simp
    · have := lexS_at ts y _ hy q hq
      simp only [List.length_append] at *
      omega
end
theorem getD_at {ts : List Tk} {B : Nat} (h : ∀ q ∈ ts, q.2.1 ≤ B) (i : Nat) (hi : i < ts.length) : (ts.getD i t0).2.1 ≤ B := by
  have : ts.getD i t0 = ts[i] := by simp [hi]
  rw [this]
  exact h _ (List.getElem_mem hi)
theorem flatT_one (l : List Tk) : ∀ u ∈ flatT l, u.oneCell' = true := by
  induction l with
  | nil => intro u hu; simp [flatT] at hu
  | cons p l ih =>
    intro u hu
    simp only [flatT, List.mem_cons] at hu
    rcases hu with rfl | rfl | rfl | hu
    · rfl
    · rfl
    · rfl
    · exact ih u hu
theorem toks_cells {w : World} {ad : Addr} {l : List Tk} (h : Toks w (some ad) l) : ∀ j u, (flatT l)[j]? = some u → w.cell? (ad.add j) = some u := by
  intro j u hu
  have hj : j < (flatT l).length := by
    rcases Nat.lt_or_ge j (flatT l).length with h1 | h1
    · exact h1
    · rw [List.getElem?_eq_none h1] at hu; cases hu
  rw [flatT_length] at hj
  obtain ⟨b, e, _, hc⟩ := h (by omega)
  injection e with e
  subst e
  rw [addr_none, Nat.zero_add]
  have f := flatT_at l (j / 3) (by omega)
  have c := hc (j / 3) (by omega)
  rcases (by omega : j % 3 = 0 ∨ j % 3 = 1 ∨ j % 3 = 2) with hp | hp | hp
  · have ej : j / 3 * 3 = j := by omega
    rw [ej] at f c
    rw [← hu, f.1]; exact c.1
  · have ej : j / 3 * 3 + 1 = j := by omega
    rw [ej] at f c
    rw [← hu, f.2.1]; exact c.2.1
  · have ej : j / 3 * 3 + 2 = j := by omega
    rw [ej] at f c
    rw [← hu, f.2.2]; exact c.2.2
/-- with its bounds: where a block may lie -/
def ToksB (lo hi : Nat) (w : World) (A : Option Addr) (c : Nat) (l : List Tk) : Prop :=
  (A = none → c = 0) ∧ (0 < l.length → ∃ b, A = some ⟨b, 0, none⟩ ∧ lo ≤ b ∧ b < hi ∧ hi ≤ w.heap.size ∧ ∃ cs, Blk w b 35 cs ∧ ∀ i, i < l.length → cs[i * 3]? = some (.int .i64 ((l.getD i t0).1 : Int)) ∧ cs[i * 3 + 1]? = some (.int .i64 ((l.getD i t0).2.1 : Int)) ∧ cs[i * 3 + 2]? = some (.string ⟨(l.getD i t0).2.2.toArray⟩))
theorem own_toksB {w : World} {base : Nat} {v : Value} {l : List Tk} (h : w.ownsRow base 35 3 v l.length (flatT l)) : ∃ A c, v = .slice A l.length c ∧ ToksB base w.heap.size w A c l := by
  rcases h.2 with ⟨hv, hn⟩ | ⟨g, cap, cur, hv, hb, hg, hc1, hc2, hs, ht⟩
  · exact ⟨none, 0, by rw [hv, hn], fun _ => rfl, fun h0 => by omega⟩
  · refine ⟨_, cap, hv, (fun h => by cases h), fun h0 => ⟨g, rfl, hb, (h.lt g (by rw [hv]; rfl)).2, Nat.le_refl _, cur, hg, fun i hi => ?_⟩⟩
    have f := flatT_at l i hi
    have key : ∀ j u, (flatT l)[j]? = some u → cur[j]? = some u := fun j u hu => by
      rw [← ht, List.getElem?_take] at hu
      split at hu
      · simpa using hu
      · cases hu
    exact ⟨key _ _ f.1, key _ _ f.2.1, key _ _ f.2.2⟩
theorem ToksB.toks {lo hi : Nat} {w : World} {A : Option Addr} {c : Nat} {l : List Tk} (h : ToksB lo hi w A c l) : Toks w A l := fun h0 => by
  obtain ⟨b, rfl, _, h2, h3, cs, hb, hc⟩ := h.2 h0
  exact ⟨b, rfl, by omega, fun i hi => ⟨(hb.cell _).trans (hc i hi).1, (hb.cell _).trans (hc i hi).2.1, (hb.cell _).trans (hc i hi).2.2⟩⟩
theorem ToksB.below {lo hi : Nat} {w w' : World} {A : Option Addr} {c : Nat} {l : List Tk} (h : ToksB lo hi w A c l) (hb : Below w.heap.size w w') : ToksB lo hi w' A c l :=
  ⟨h.1, fun h0 => by
    obtain ⟨b, e, h1, h2, h3, cs, hk, hc⟩ := h.2 h0
    exact ⟨b, e, h1, h2, Nat.le_trans h3 hb.size, cs, hk.below hb, hc⟩⟩
theorem ToksB.moved {lo hi g : Nat} {w w' : World} {A : Option Addr} {c : Nat} {l : List Tk} (h : ToksB lo hi w A c l) (hm : Moved g w w') (hg : g < lo ∨ hi ≤ g) : ToksB lo hi w' A c l :=
  ⟨h.1, fun h0 => by
    obtain ⟨b, e, h1, h2, h3, cs, hk, hc⟩ := h.2 h0
    exact ⟨b, e, h1, h2, by rw [hm.size]; exact h3, cs, (hm.block b (by omega)).trans hk, hc⟩⟩
/-- one token moved -/
theorem ToksB.set {lo hi : Nat} {w : World} {A : Option Addr} {c : Nat} {l l' : List Tk} {i : Nat} {y : Nat} (h : ToksB lo hi w A c l) (hi' : i < l.length) (hl : l'.length = l.length)
    (hs : ∀ k, k < l.length → l'.getD k t0 = if k = i then ((l.getD i t0).1, y, (l.getD i t0).2.2) else l.getD k t0) {b : Nat} (hb : A = some ⟨b, 0, none⟩) : ToksB lo hi (w.setCell ⟨b, i * 3 + 1, none⟩ (.int .i64 (y : Int))) A c l' :=
  ⟨h.1, fun h0 => by
    obtain ⟨b', e, h1, h2, h3, cs, hk, hc⟩ := h.2 (by omega)
    rw [hb] at e
    cases e
    refine ⟨b, hb, h1, h2, by rw [(Moved.set b (i * 3 + 1) w _).size]; exact h3, _, hk.set_ (i * 3 + 1) (.int .i64 (y : Int)), fun k hk' => ?_⟩
    rw [hl] at hk'
    have hck := hc k hk'
    have hci := hc i hi'
    have hsz : i * 3 + 1 < cs.size := by
      rcases Nat.lt_or_ge (i * 3 + 1) cs.size with h | h
      · exact h
      · rw [Array.getElem?_eq_none h] at hci; cases hci.2.1
    rw [hs k hk']
    by_cases e : k = i
    · subst e
      rw [if_pos rfl, set_none (by omega), set_some hsz, set_none (by omega)]
      exact ⟨hck.1, rfl, hck.2.2⟩
    · rw [if_neg e, set_none (by omega), set_none (by omega), set_none (by omega)]
      exact hck⟩
/-- the first ones moved, the others not yet -/
def mix (d i : Nat) (l : List Tk) : List Tk := shiftT d (l.take i) ++ l.drop i
theorem mix_len (d i : Nat) (l : List Tk) (hi : i ≤ l.length) : (mix d i l).length = l.length := by simp [mix, shiftT]; omega
theorem mix_get (d i k : Nat) (l : List Tk) (hi : i ≤ l.length) (hk : k < l.length) : (mix d i l).getD k t0 = if k < i then ((l.getD k t0).1, (l.getD k t0).2.1 + d, (l.getD k t0).2.2) else l.getD k t0 := by
  unfold mix shiftT
  by_cases h : k < i
  · rw [if_pos h]
    simp [h, hk, hi, Nat.min_eq_left hi]
  · rw [if_neg h]
    have hm : (List.map (fun q : Tk => (q.1, q.2.1 + d, q.2.2)) (l.take i)).length = i := by simp; omega
    rw [List.getD_eq_getElem?_getD, List.getElem?_append_right (by omega), hm, List.getElem?_drop, show i + (k - i) = k by omega, List.getD_eq_getElem?_getD]
theorem mix_zero (d : Nat) (l : List Tk) : mix d 0 l = l := by simp [mix, shiftT]
theorem mix_all (d : Nat) (l : List Tk) : mix d l.length l = shiftT d l := by simp [mix]
theorem mix_next (d i : Nat) (l : List Tk) (hi : i < l.length) : ∀ k, k < (mix d i l).length → (mix d (i + 1) l).getD k t0 = if k = i then (((mix d i l).getD i t0).1, (l.getD i t0).2.1 + d, ((mix d i l).getD i t0).2.2) else (mix d i l).getD k t0 := by
  intro k hk
  rw [mix_len d i l (by omega)] at hk
  rw [mix_get d (i + 1) k l (by omega) hk, mix_get d i i l (by omega) hi, mix_get d i k l (by omega) hk, if_neg (Nat.lt_irrefl i)]
  by_cases e : k = i
  · subst e; rw [if_pos (by omega), if_pos rfl]
  · rw [if_neg e]
    by_cases h : k < i
    · rw [if_pos (by omega), if_pos h]
    · rw [if_neg (by omega), if_neg h]
end Go.Proofs.YtaggmakaceafgaaGreatDoor

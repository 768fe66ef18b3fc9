/- How lists of matchers lie, and what is appended to them. No condition. -/
import Derived.Test.YtahphjaelpgjdaaDoorLa
import Derived.Deep.Slices
import Derived.ChangeSame
import Derived.Maps.AppendAt
import Derived.Laws.AppendOwnNone
import Derived.Laws.OwnMore
namespace Go.Proofs.YtahphjaelpgjdaaDoor
open Go.RowKit Lb Go.ChangeShapes Go.WideShapes Go.Deep
set_option linter.unusedVariables false

abbrev Mt := Int × ByteArray × ByteArray
def m0 : Mt := (0, ByteArray.empty, ByteArray.empty)
/-- a slice of matchers reads as a list -/
def Mts (w : World) (A : Option Addr) (l : List Mt) : Prop :=
  0 < l.length → ∃ b off, A = some ⟨b, off, none⟩ ∧ b < w.heap.size ∧ ∀ i, i < l.length → w.cell? ⟨b, off + i * 3, none⟩ = some (.int .i64 (l.getD i m0).1) ∧ w.cell? ⟨b, off + i * 3 + 1, none⟩ = some (.string (l.getD i m0).2.1) ∧ w.cell? ⟨b, off + i * 3 + 2, none⟩ = some (.string (l.getD i m0).2.2)
theorem Mts.below {w w' : World} {A : Option Addr} {l : List Mt} (h : Mts w A l) (hb : Below w.heap.size w w') : Mts w' A l := by
  intro hn
  obtain ⟨b, off, rfl, hlt, hc⟩ := h hn
  exact ⟨b, off, rfl, by have := hb.size; omega, fun i hi => ⟨(hb.cell (p := ⟨b, off + i * 3, none⟩) hlt).trans (hc i hi).1, (hb.cell (p := ⟨b, off + i * 3 + 1, none⟩) hlt).trans (hc i hi).2.1, (hb.cell (p := ⟨b, off + i * 3 + 2, none⟩) hlt).trans (hc i hi).2.2⟩⟩
/-- a list of matchers as cells -/
def flatM : List Mt → List Value
  | [] => []
  | p :: l => .int .i64 p.1 :: .string p.2.1 :: .string p.2.2 :: flatM l
theorem flatM_append (a b : List Mt) : flatM (a ++ b) = flatM a ++ flatM b := by
  induction a with
  | nil => rfl
  | cons p a ih => simp [flatM, ih]
theorem flatM_length (l : List Mt) : (flatM l).length = l.length * 3 := by
  induction l with
  | nil => rfl
  | cons p a ih => simp [flatM, ih]; omega
theorem flatM_at (l : List Mt) (i : Nat) (h : i < l.length) : (flatM l)[i * 3]? = some (.int .i64 (l.getD i m0).1) ∧ (flatM l)[i * 3 + 1]? = some (.string (l.getD i m0).2.1) ∧ (flatM l)[i * 3 + 2]? = some (.string (l.getD i m0).2.2) := by
  induction l generalizing i with
  | nil => simp at h
  | cons p a ih =>
    cases i with
    | zero => simp [flatM]
    | succ i =>
      have := ih i (by simpa using h)
      simp only [flatM]
      rw [show (i + 1) * 3 = i * 3 + 1 + 1 + 1 by omega]
      simpa using this
theorem flatM_one (l : List Mt) : ∀ u ∈ flatM l, u.oneCell' = true := by
  induction l with
  | nil => intro u hu; simp [flatM] at hu
  | cons p l ih =>
    intro u hu
    simp only [flatM, List.mem_cons] at hu
    rcases hu with rfl | rfl | rfl | hu
    · rfl
    · rfl
    · rfl
    · exact ih u hu
theorem addr_none (b off k : Nat) : (⟨b, off, none⟩ : Addr).add k = ⟨b, off + k, none⟩ := by unfold Addr.add; split <;> simp_all
theorem Mts.cells {w : World} {ad : Addr} {l : List Mt} (h : Mts w (some ad) l) : ∀ j u, (flatM l)[j]? = some u → w.cell? (ad.add j) = some u := by
  intro j u hu
  have hj : j < (flatM l).length := by
    rcases Nat.lt_or_ge j (flatM l).length with h1 | h1
    · exact h1
    · rw [List.getElem?_eq_none h1] at hu; cases hu
  rw [flatM_length] at hj
  obtain ⟨b, off, e, _, hc⟩ := h (by omega)
  injection e with e
  subst e
  rw [addr_none]
  have f := flatM_at l (j / 3) (by omega)
  have c := hc (j / 3) (by omega)
  rcases (by omega : j % 3 = 0 ∨ j % 3 = 1 ∨ j % 3 = 2) with hp | hp | hp
  · have ej : j / 3 * 3 = j := by omega
    rw [ej] at f c
    rw [← hu, f.1]; exact c.1
  · have ej : j / 3 * 3 + 1 = j := by omega
    have eo : off + j / 3 * 3 + 1 = off + j := by omega
    rw [ej] at f
    rw [eo] at c
    rw [← hu, f.2.1]; exact c.2.1
  · have ej : j / 3 * 3 + 2 = j := by omega
    have eo : off + j / 3 * 3 + 2 = off + j := by omega
    rw [ej] at f
    rw [eo] at c
    rw [← hu, f.2.2]; exact c.2.2
/-- as it came in: nil has no room -/
def OwnM (w : World) (A : Option Addr) (c : Nat) (l : List Mt) : Prop := Mts w A l ∧ (A = none → c = 0)
theorem OwnM.below {w w' : World} {A : Option Addr} {c : Nat} {l : List Mt} (h : OwnM w A c l) (hb : Below w.heap.size w w') : OwnM w' A c l := ⟨h.1.below hb, h.2⟩
theorem own_mts {w : World} {base : Nat} {v : Value} {l : List Mt} (h : w.ownsRow base 37 3 v l.length (flatM l)) : ∃ A c, v = .slice A l.length c ∧ Mts w A l := by
  rcases h.2 with ⟨hv, hn⟩ | ⟨g, cap, cur, hv, _⟩
  · exact ⟨none, 0, by rw [hv, hn], fun h0 => by omega⟩
  · subst hv
    refine ⟨_, cap, rfl, fun h0 => ⟨g, 0, rfl, (h.lt g rfl).2, fun i hi => ?_⟩⟩
    have c := h.cells (g := g) rfl
    have f := flatM_at l i hi
    have e1 : (⟨g, 0, none⟩ : Addr).add (i * 3) = ⟨g, 0 + i * 3, none⟩ := addr_none _ _ _
    have e2 : (⟨g, 0, none⟩ : Addr).add (i * 3 + 1) = ⟨g, 0 + i * 3 + 1, none⟩ := addr_none _ _ _
    have e3 : (⟨g, 0, none⟩ : Addr).add (i * 3 + 2) = ⟨g, 0 + i * 3 + 2, none⟩ := addr_none _ _ _
    rw [← e1, ← e2, ← e3]
    exact ⟨c _ _ f.1, c _ _ f.2.1, c _ _ f.2.2⟩
theorem mt_info : (Tryd.prog.info? 37).map (fun i => (i.zero, i.size, i.bytes)) = some (some (.agg #[.int .i64 0, .string ⟨#[]⟩, .string ⟨#[]⟩]), 3, 40) := by kernel_rfl
theorem info_parts3 {i : Option TypeInfo} {z : Option Value} {s b : Nat} (h : i.map (fun i => (i.zero, i.size, i.bytes)) = some (z, s, b)) : ∃ i0, i = some i0 ∧ i0.zero = z ∧ i0.size = s ∧ i0.bytes = b := by
  cases i with
  | none => cases h
  | some i0 =>
    simp only [Option.map_some, Option.some.injEq, Prod.mk.injEq] at h
    exact ⟨i0, rfl, h.1, h.2.1, h.2.2⟩
theorem mt_grown {a w : World} (h : Below a.heap.size a w) : a.grownBy w none := ⟨h.os, h.tape, h.output, h.size, fun i hi _ => h.block i hi⟩
theorem mt_own_below {w w' : World} {base : Nat} {e : TypeId} {size : Nat} {v : Value} {n : Nat} {xs : List Value} (h : w.ownsRow base e size v n xs) (hb : Below w.heap.size w w') : w'.ownsRow base e size v n xs :=
  h.kept (mt_grown hb) (by
    cases hv : v.ownBlock with
    | none => exact .inl rfl
    | some g => exact .inr (by simp))
theorem wpList_append_mts {w : World} {ops : Array Oper} {rest : List Oper} {o : Oper} {a : Act} {Q : Exit → Act → World → Prop} (hgd : o.guard = none) (s x : Operand)
    (ho : o.op = .call { callee := .builtin .append, args := #[s, x], argTypes := #[43, 43] })
    (base : Nat) (v : Value) (n : Nat) (xs : List Value) (hs : a.eval s = v) (hown : w.ownsRow base 37 3 v n xs)
    (A : Option Addr) (m c : Nat) (l : List Mt) (hm : l.length = m) (hx : a.eval x = .slice A m c) (hl : OwnM w A c l) (hsz : n + m ≤ 65536) (hbase : base ≤ w.heap.size)
    (h : ∀ v' w', w'.ownsRow base 37 3 v' (n + m) (xs ++ flatM l) → w.grownBy w' v.ownBlock → (v'.ownBlock = v.ownBlock ∨ v'.ownBlock = some w.heap.size) → wpList Tryd.prog ops Q rest (a.put o.dst v') w') : wpList Tryd.prog ops Q (o :: rest) a w := by
  obtain ⟨i0, hi0, hz0, hz1, hz2⟩ := info_parts3 mt_info
  subst hm
  cases A with
  | none =>
    have hc := hl.2 rfl
    have h0 : l = [] := by
      cases l with
      | nil => rfl
      | cons p l => obtain ⟨_, _, e, _⟩ := hl.1 (by simp); cases e
    subst h0
    subst hc
    refine wpList_append_own_none hgd s x 43 ho base 37 i0 3 Tryd.underlying43 hi0 v n xs hs hown hx ?_
    exact h v w (by simpa [flatM] using hown) (World.grownBy.refl w _) (.inl rfl)
  | some ad =>
    refine wpList_append_own_at w hgd s x 43 ho base 37 i0 _ 3 40 Tryd.underlying43 hi0 hz0 hz1 hz2 rfl (by decide) v n xs hs hown ad l.length c (flatM l) hx (flatM_length l) hl.1.cells (flatM_one l) (by unfold maxLen; omega) (by omega) hbase ?_
    intro v' w' h1 h2 _ h4
    exact h v' w' h1 h2 h4
theorem mt_triple {H : Type} {enc : TypeId × Value → H} {P : Program} {w : World} {base : Nat} {spare : Nat → Bool} {held : Bool} {e : TypeId} {f0 f1 f2 : Field} {n : Nat} {cs : List Value} {y : DataW H × List MemPlace} (he : P.underlying e = some (.struct #[f0, f1, f2])) (o0 : f0.offset = 0) (o1 : f1.offset = 1) (o2 : f2.offset = 2)
    (k0 : P.cellsOf f0.type = 1) (k1 : P.cellsOf f1.type = 1) (k2 : P.cellsOf f2.type = 1) (hlen : cs.length = 3) (h : DataW.trod enc P w base spare held n e cs = some y) :
    ∃ v0 v1 v2 k y0 y1 y2, cs = [v0, v1, v2] ∧ DataW.trod enc P w base spare held k f0.type [v0] = some y0 ∧ DataW.trod enc P w base spare held k f1.type [v1] = some y1 ∧ DataW.trod enc P w base spare held k f2.type [v2] = some y2 := by
  obtain ⟨xs, k, hk, hxy, _, hxl, hf⟩ := DataW.trod_struct he h
  match xs, hxl, cs, hlen with
  | [y0, y1, y2], _, [v0, v1, v2], _ =>
    have g0 := hf 0 f0 rfl
    have g1 := hf 1 f1 rfl
    have g2 := hf 2 f2 rfl
    simp [o0, o1, o2, k0, k1, k2] at g0 g1 g2
    exact ⟨v0, v1, v2, k, y0, y1, y2, rfl, g0, g1, g2⟩
theorem mt_cells : Tryd.prog.cellsOf 37 = 3 := by kernel_rfl
theorem mt_one3 : Tryd.prog.cellsOf 3 = 1 := by kernel_rfl
theorem mt_one9 : Tryd.prog.cellsOf 9 = 1 := by kernel_rfl
theorem open_mts {H : Type} {enc : TypeId × Value → H} {w : World} {base : Nat} {spare : Nat → Bool} {held : Bool} {fuel : Nat} {a : Option Addr} {len cap : Nat} {x : DataW H × List MemPlace}
    (h : DataW.trod enc Tryd.prog w base spare held fuel 43 [.slice a len cap] = some x) : ∃ l : List Mt, l.length = len ∧ len ≤ cap ∧ cap ≤ 9223372036854775807 ∧ OwnM w a cap l := by
  rcases Go.Deep.open_slice Tryd.underlying43 h with ⟨hcs, _⟩ | ⟨ad, n, c, m, k, D, Pl, hcs, _, hl, hm, hmm, _, hx⟩
  · simp at hcs
    obtain ⟨rfl, rfl, rfl⟩ := hcs
    exact ⟨[], rfl, Nat.le_refl _, by omega, fun h => by simp at h, fun _ => rfl⟩
  · simp only [List.cons.injEq, and_true, Value.slice.injEq] at hcs
    obtain ⟨rfl, rfl, rfl⟩ := hcs
    have hlm : len ≤ m := by rw [hmm]; split <;> omega
    have each : ∀ i, i < len → ∃ p : Mt, w.cell? (ad.add (i * 3)) = some (.int .i64 p.1) ∧ w.cell? (ad.add (i * 3 + 1)) = some (.string p.2.1) ∧ w.cell? (ad.add (i * 3 + 2)) = some (.string p.2.2) := by
      intro i hi
      obtain ⟨cs', h1, h2⟩ := hx i (by omega)
      rw [mt_cells] at h1
      obtain ⟨_, hlen, hcell⟩ := World.cells?_some h1
      obtain ⟨v0, v1, v2, q, y0, y1, y2, rfl, g0, g1, g2⟩ := mt_triple Tryd.underlying37 rfl rfl rfl mt_one3 mt_one9 mt_one9 hlen h2
      obtain ⟨z0, e0, _⟩ := DataW.trod_int Tryd.underlying3 g0
      obtain ⟨z1, e1, _⟩ := DataW.trod_string Tryd.underlying9 g1
      obtain ⟨z2, e2, _⟩ := DataW.trod_string Tryd.underlying9 g2
      simp at e0 e1 e2
      subst e0 e1 e2
      have c0 := hcell 0 (by omega)
      have c1 := hcell 1 (by omega)
      have c2 := hcell 2 (by omega)
      rw [Go.Deep.add_add] at c0 c1 c2
      exact ⟨(z0, z1, z2), by simpa using c0, by simpa using c1, by simpa using c2⟩
    obtain ⟨f, hf⟩ := Go.Deep.choose_lt each
    unfold maxLen at hm
    refine ⟨(List.range len).map f, by simp, hl, by omega, fun h0 => ?_, fun e => by cases e⟩
    simp at h0
    have c0 := (hf 0 (by omega)).1
    obtain ⟨b, off, spot⟩ := ad
    have hspot : spot = none := by simpa [Addr.add] using World.cell?_spot c0
    subst hspot
    refine ⟨b, off, rfl, ?_, fun i hi => ?_⟩
    · have := World.block_lt_of_cell? _ _ c0
      simpa [Addr.add] using this
    · simp at hi
      have g := hf i hi
      rw [addr_none, addr_none, addr_none] at g
      have e : ((List.range len).map f).getD i m0 = f i := by simp [hi]
      rw [e]
      exact g
end Go.Proofs.YtahphjaelpgjdaaDoor

import Derived.Test.YtofndhmnofghaaaGreatDoorB1
import Derived.Laws.AppendOwnNone
import Derived.Laws.OwnMore
import Derived.Deep.DeepCutAuto
namespace Go.Proofs.YtofndhmnofghaaaGreatDoor
open Go.RowKit Ieee
set_option linter.unusedVariables false

/-! a text on its way: a row of bytes of one's own, and the digits beside it -/
def Dig (w : World) (b : Nat) (ds : List UInt8) : Prop := ∀ j, j < ds.length → w.cell? ⟨b, j, none⟩ = some (encB (ds.getD j 0))
def Buf (w : World) (b : Nat) : Prop := ∃ cs, w.heap[b]? = some (.cells cs 96 (0, 0))
structure Outp (w0 : World) (base b : Nat) (ds : List UInt8) (v : Value) (bs : List UInt8) (w : World) : Prop where
  own : w.ownsRow base 5 1 v bs.length (bs.map encB)
  buf : Buf w b
  dig : Dig w b ds
  le : base ≤ w.heap.size
  bel : Below base w0 w
theorem Buf.lt {w : World} {b : Nat} (h : Buf w b) : b < w.heap.size := by
  obtain ⟨cs, h⟩ := h
  rcases Nat.lt_or_ge b w.heap.size with hlt | hge
  · exact hlt
  · rw [Array.getElem?_eq_none hge] at h; cases h
theorem info5 : (Tryz.prog.info? 5).map (fun i => (i.zero, i.size, i.bytes)) = some (some (.int .u8 0), 1, 1) := by kernel_rfl
theorem own_ne {w : World} {base b : Nat} {v : Value} {n : Nat} {xs : List Value} (h : w.ownsRow base 5 1 v n xs) (hb : Buf w b) : some b ≠ v.ownBlock := by
  obtain ⟨cs, hb⟩ := hb
  rcases h.2 with ⟨rfl, _⟩ | ⟨g, cap, cur, rfl, _, hg, _⟩
  · intro h; cases h
  · intro e
    have : b = g := Option.some.inj e
    subst this
    rw [hb] at hg
    injection hg with hg
    injection hg with _ h2
    cases h2
theorem Outp.grown {w0 w w' : World} {base b : Nat} {ds : List UInt8} {v v' : Value} {bs bs' : List UInt8} (h : Outp w0 base b ds v bs w) (hg : w.grownBy w' v.ownBlock) (ho : w'.ownsRow base 5 1 v' bs'.length (bs'.map encB)) : Outp w0 base b ds v' bs' w' := by
  have hne := own_ne h.own h.buf
  have hbk := hg.block b h.buf.lt hne
  refine ⟨ho, ?_, fun j hj => ?_, Nat.le_trans h.le hg.size, ?_⟩
  · obtain ⟨cs, hb⟩ := h.buf
    exact ⟨cs, hbk.trans hb⟩
  · exact (World.cell?_of_block (a := ⟨b, j, none⟩) hbk).trans (h.dig j hj)
  · exact h.bel.grown hg h.le fun k hk => (h.own.lt k hk).1
theorem Outp.alloc {w0 w : World} {base b : Nat} {ds : List UInt8} {v : Value} {bs : List UInt8} (h : Outp w0 base b ds v bs w) (o : Obj) : Outp w0 base b ds v bs (w.alloc o) := by
  refine ⟨h.own.alloc o, ?_, fun j hj => ?_, by have := h.le; simp; omega, h.bel.alloc h.le o⟩
  · obtain ⟨cs, hb⟩ := h.buf
    exact ⟨cs, (Below.heap_alloc w o b h.buf.lt).trans hb⟩
  · exact (World.cell?_alloc_lt w o ⟨b, j, none⟩ h.buf.lt).trans (h.dig j hj)
theorem add_plain (b off k : Nat) : (⟨b, off, none⟩ : Addr).add k = ⟨b, off + k, none⟩ := by unfold Addr.add; split <;> simp_all
theorem Dig.drop {w : World} {b : Nat} {ds : List UInt8} (h : Dig w b ds) (k : Nat) : ∀ j u, ((ds.drop k).map encB)[j]? = some u → w.cell? ((⟨b, k, none⟩ : Addr).add j) = some u := by
  intro j u hu
  have hj : k + j < ds.length := by
    rcases Nat.lt_or_ge (k + j) ds.length with hj | hj
    · exact hj
    · rw [List.getElem?_eq_none (by rw [List.length_map, List.length_drop]; omega)] at hu; cases hu
  rw [add_plain, h (k + j) hj, ← hu, List.getElem?_map, List.getElem?_drop, List.getElem?_eq_getElem hj, List.getD_eq_getElem?_getD, List.getElem?_eq_getElem hj]
  rfl
theorem one_encB (l : List UInt8) : ∀ u ∈ l.map encB, u.oneCell' = true := by
  intro u hu
  obtain ⟨x, _, rfl⟩ := List.mem_map.1 hu
  rfl
section
variable {w0 w : World} {base b : Nat} {ds : List UInt8} {v : Value} {bs : List UInt8} {ops : Array Oper} {rest : List Oper} {o : Oper} {a : Act} {Q : Exit → Act → World → Prop}
theorem push_law (hgd : o.guard = none) (s x : Operand) (ho : o.op = .call { callee := .builtin .append, args := #[s, x], argTypes := #[66, 66] }) (hs : a.eval s = v) (hO : Outp w0 base b ds v bs w)
    (ad : Addr) (c m : Nat) (news : List UInt8) (hm : news.length = m) (hx : a.eval x = .slice (some ad) m c) (hn : ∀ j u, (news.map encB)[j]? = some u → w.cell? (ad.add j) = some u) (hl : bs.length + news.length ≤ 65536)
    (h : ∀ v' w', Outp w0 base b ds v' (bs ++ news) w' → wpList Tryz.prog ops Q rest (a.put o.dst v') w') : wpList Tryz.prog ops Q (o :: rest) a w := by
  subst hm
  obtain ⟨i0, hi0, hz0, hz1, hz2⟩ := info_parts info5
  refine wpList_append_own w hgd s x 66 ho base 5 i0 _ 1 1 Tryz.underlying66 hi0 hz0 hz1 hz2 rfl (by decide) v bs.length (bs.map encB) hs hO.own ad news.length c (news.map encB) hx (by simp) hn (one_encB news) (by unfold maxLen; omega) (by omega) hO.le ?_
  intro v' w' ho' hg _
  refine h v' w' (hO.grown hg ?_)
  rw [List.length_append, List.map_append]
  exact ho'
/-- one byte more -/
theorem push_one (hgd : o.guard = none) (s x : Operand) (ho : o.op = .call { callee := .builtin .append, args := #[s, x], argTypes := #[66, 66] }) (hs : a.eval s = v) (t : TypeId) (c : UInt8) (z : Int) (hz : z = (c.toNat : Int)) (hO : Outp w0 base b ds v bs w)
    (hx : a.eval x = .slice (some ⟨w.heap.size, 0, none⟩) 1 1) (hl : bs.length < 4096)
    (h : ∀ v' w', Outp w0 base b ds v' (bs ++ [c]) w' → wpList Tryz.prog ops Q rest (a.put o.dst v') w') : wpList Tryz.prog ops Q (o :: rest) a (w.alloc (.cells #[.int .u8 z] t)) := by
  subst hz
  refine push_law (w := w.alloc _) hgd s x ho hs (hO.alloc _) ⟨w.heap.size, 0, none⟩ 1 1 [c] rfl hx (fun j u hj => ?_) (by simp; omega) h
  have hj0 : j = 0 := by
    rcases Nat.eq_zero_or_pos j with h0 | h0
    · exact h0
    · rw [List.getElem?_eq_none (by simp; omega)] at hj; cases hj
  subst hj0
  simp at hj
  subst hj
  exact (Blk.new w t #[encB c]).cell 0
/-- some bytes more, of a row of one's own -/
theorem push_some (hgd : o.guard = none) (s x : Operand) (ho : o.op = .call { callee := .builtin .append, args := #[s, x], argTypes := #[66, 66] }) (hs : a.eval s = v) (t : TypeId) (news : List UInt8) (cs : Array Value) (hcs : cs = (news.map encB).toArray) (hO : Outp w0 base b ds v bs w)
    (hx : a.eval x = .slice (some ⟨w.heap.size, 0, none⟩) news.length news.length) (hl : bs.length + news.length ≤ 65536)
    (h : ∀ v' w', Outp w0 base b ds v' (bs ++ news) w' → wpList Tryz.prog ops Q rest (a.put o.dst v') w') : wpList Tryz.prog ops Q (o :: rest) a (w.alloc (.cells cs t)) := by
  subst hcs
  refine push_law (w := w.alloc _) hgd s x ho hs (hO.alloc _) ⟨w.heap.size, 0, none⟩ news.length news.length news rfl hx (fun j u hj => ?_) hl h
  have : (⟨w.heap.size, 0, none⟩ : Addr).add j = ⟨w.heap.size, j, none⟩ := by unfold Addr.add; split <;> simp_all
  rw [this, (Blk.new w t _).cell j]
  simpa using hj
end
def sgn (neg : Bool) : List UInt8 := if neg = true then [45] else []
def EfgP (w0 : World) (base b : Nat) (ds out : List UInt8) (e : Ending) (w' : World) : Prop := ∃ v, e = .returned v ∧ Outp w0 base b ds v out w'
end Go.Proofs.YtofndhmnofghaaaGreatDoor

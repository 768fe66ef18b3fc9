/- A tree in memory. No condition. -/
import Derived.Test.YtmodehfedhgcbaaGreatDoorQ1
import Derived.Deep.Slices
import Derived.ChangeSame
import Derived.Laws.AppendOwnNone
import Derived.Laws.OwnMore
namespace Go.Proofs.YtmodehfedhgcbaaGreatDoor.Ck
open Go.RowKit
set_option linter.unusedVariables false
set_option linter.unusedSimpArgs false

def m0 : Mt := (0, ByteArray.empty, ByteArray.empty)
def n0 : ByteArray := ByteArray.empty
/-- matchers, names, parts in memory -/
def Mts (w : World) (A : Option Addr) (l : List Mt) : Prop :=
  0 < l.length → ∃ b off, A = some ⟨b, off, none⟩ ∧ b < w.heap.size ∧ ∀ i, i < l.length → w.cell? ⟨b, off + i * 3, none⟩ = some (.int .i64 (l.getD i m0).1) ∧ w.cell? ⟨b, off + i * 3 + 1, none⟩ = some (.string (l.getD i m0).2.1) ∧ w.cell? ⟨b, off + i * 3 + 2, none⟩ = some (.string (l.getD i m0).2.2)
def Nms (w : World) (A : Option Addr) (l : List ByteArray) : Prop :=
  0 < l.length → ∃ b off, A = some ⟨b, off, none⟩ ∧ b < w.heap.size ∧ ∀ i, i < l.length → w.cell? ⟨b, off + i, none⟩ = some (.string (l.getD i n0))
def cellsT : Tr → List Value
  | .mk h ks => [.int .i64 h.k, .int .i64 h.o, .int .u64 (h.v : Int), .string h.s, .slice h.ma h.ms.length h.mc, .int .i64 h.wd, .int .i64 h.off, .bool h.ha, .int .i64 h.tm, .int .i64 h.how, .slice h.na h.ns.length h.nc, .bool h.bo, .slice h.ka ks.length h.kc]
def valT (t : Tr) : Value := .agg (cellsT t).toArray
theorem valT_mk (h : Hd) (ks : List Tr) : valT (.mk h ks) = exV h.k h.o h.v h.s (.slice h.ma h.ms.length h.mc) h.wd h.off h.ha h.tm h.how (.slice h.na h.ns.length h.nc) h.bo (.slice h.ka ks.length h.kc) := rfl
theorem cellsT_length (t : Tr) : (cellsT t).length = 13 := by cases t; rfl
def t0 : Tr := .mk ⟨0, 0, 0, ⟨#[]⟩, none, 0, [], 0, 0, false, 0, 0, none, 0, [], false, none, 0⟩ []
def Trs (w : World) (A : Option Addr) (l : List Tr) : Prop :=
  0 < l.length → ∃ b off, A = some ⟨b, off, none⟩ ∧ b < w.heap.size ∧ ∀ i, i < l.length → ∀ j x, (cellsT (l.getD i t0))[j]? = some x → w.cell? ⟨b, off + i * 13 + j, none⟩ = some x
theorem Mts.below {w w' : World} {A : Option Addr} {l : List Mt} (h : Mts w A l) (hb : Below w.heap.size w w') : Mts w' A l := by
  intro hn
  obtain ⟨b, off, rfl, hlt, hc⟩ := h hn
  exact ⟨b, off, rfl, by have := hb.size; omega, fun i hi => ⟨(hb.cell (p := ⟨b, off + i * 3, none⟩) hlt).trans (hc i hi).1, (hb.cell (p := ⟨b, off + i * 3 + 1, none⟩) hlt).trans (hc i hi).2.1, (hb.cell (p := ⟨b, off + i * 3 + 2, none⟩) hlt).trans (hc i hi).2.2⟩⟩
theorem Nms.below {w w' : World} {A : Option Addr} {l : List ByteArray} (h : Nms w A l) (hb : Below w.heap.size w w') : Nms w' A l := by
  intro hn
  obtain ⟨b, off, rfl, hlt, hc⟩ := h hn
  exact ⟨b, off, rfl, by have := hb.size; omega, fun i hi => (hb.cell (p := ⟨b, off + i, none⟩) hlt).trans (hc i hi)⟩
theorem Trs.below {w w' : World} {A : Option Addr} {l : List Tr} (h : Trs w A l) (hb : Below w.heap.size w w') : Trs w' A l := by
  intro hn
  obtain ⟨b, off, rfl, hlt, hc⟩ := h hn
  exact ⟨b, off, rfl, by have := hb.size; omega, fun i hi j x hx => (hb.cell (p := ⟨b, off + i * 13 + j, none⟩) hlt).trans (hc i hi j x hx)⟩
/-- what is asked of a head: how long, how great -/
structure HdOk (h : Hd) : Prop where
  v : h.v < 18446744073709551616
  ms : h.ms.length ≤ 140737488355328
  ns : h.ns.length ≤ 140737488355328
  kn : h.ka = none → h.kc = 0
mutual
def Lies (w : World) : Tr → Prop
  | .mk h ks => HdOk h ∧ ks.length ≤ 140737488355328 ∧ Mts w h.ma h.ms ∧ Nms w h.na h.ns ∧ Trs w h.ka ks ∧ LiesL w ks
def LiesL (w : World) : List Tr → Prop
  | [] => True
  | t :: ts => Lies w t ∧ LiesL w ts
end
mutual
theorem Lies.below {w w' : World} (hb : Below w.heap.size w w') : ∀ {t : Tr}, Lies w t → Lies w' t
  | .mk h ks, hl => by
    rw [Lies] at hl ⊢
    obtain ⟨a, a', b, c, d, e⟩ := hl
    exact ⟨a, a', b.below hb, c.below hb, d.below hb, LiesL.below hb e⟩
theorem LiesL.below {w w' : World} (hb : Below w.heap.size w w') : ∀ {ts : List Tr}, LiesL w ts → LiesL w' ts
  | [], _ => by rw [LiesL]; trivial
  | t :: ts, hl => by
    rw [LiesL] at hl ⊢
    exact ⟨Lies.below hb hl.1, LiesL.below hb hl.2⟩
end
theorem LiesL.mem {w : World} : ∀ {ts : List Tr} {t : Tr}, LiesL w ts → t ∈ ts → Lies w t
  | [], _, _, h => by cases h
  | x :: ts, t, hl, h => by
    rw [LiesL] at hl
    rcases List.mem_cons.1 h with rfl | h
    · exact hl.1
    · exact LiesL.mem hl.2 h
theorem LiesL.append {w : World} : ∀ {a b : List Tr}, LiesL w a → LiesL w b → LiesL w (a ++ b)
  | [], _, _, h => h
  | x :: ts, b, ha, h => by
    rw [LiesL] at ha
    rw [List.cons_append, LiesL]
    exact ⟨ha.1, LiesL.append ha.2 h⟩
/-- the thirteen cells of a kid -/
theorem Trs.at {w : World} {b off : Nat} {l : List Tr} {i : Nat} (hc : ∀ i, i < l.length → ∀ j x, (cellsT (l.getD i t0))[j]? = some x → w.cell? ⟨b, off + i * 13 + j, none⟩ = some x) (hi : i < l.length) {h : Hd} {ks : List Tr} (ht : l.getD i t0 = .mk h ks) :
    w.cell? ⟨b, off + i * 13, none⟩ = some (.int .i64 h.k) ∧ w.cell? ⟨b, off + i * 13 + 1, none⟩ = some (.int .i64 h.o) ∧ w.cell? ⟨b, off + i * 13 + 2, none⟩ = some (.int .u64 (h.v : Int)) ∧ w.cell? ⟨b, off + i * 13 + 3, none⟩ = some (.string h.s) ∧
    w.cell? ⟨b, off + i * 13 + 4, none⟩ = some (.slice h.ma h.ms.length h.mc) ∧ w.cell? ⟨b, off + i * 13 + 5, none⟩ = some (.int .i64 h.wd) ∧ w.cell? ⟨b, off + i * 13 + 6, none⟩ = some (.int .i64 h.off) ∧ w.cell? ⟨b, off + i * 13 + 7, none⟩ = some (.bool h.ha) ∧
    w.cell? ⟨b, off + i * 13 + 8, none⟩ = some (.int .i64 h.tm) ∧ w.cell? ⟨b, off + i * 13 + 9, none⟩ = some (.int .i64 h.how) ∧ w.cell? ⟨b, off + i * 13 + 10, none⟩ = some (.slice h.na h.ns.length h.nc) ∧ w.cell? ⟨b, off + i * 13 + 11, none⟩ = some (.bool h.bo) ∧ w.cell? ⟨b, off + i * 13 + 12, none⟩ = some (.slice h.ka ks.length h.kc) := by
  have hc := hc i hi
  rw [ht] at hc
  exact ⟨hc 0 _ rfl, hc 1 _ rfl, hc 2 _ rfl, hc 3 _ rfl, hc 4 _ rfl, hc 5 _ rfl, hc 6 _ rfl, hc 7 _ rfl, hc 8 _ rfl, hc 9 _ rfl, hc 10 _ rfl, hc 11 _ rfl, hc 12 _ rfl⟩
/-- a list of parts, flat -/
def flatE : List Tr → List Value
  | [] => []
  | t :: l => cellsT t ++ flatE l
theorem flatE_append (a b : List Tr) : flatE (a ++ b) = flatE a ++ flatE b := by
  induction a with
  | nil => rfl
  | cons p a ih => simp [flatE, ih]
theorem flatE_length (l : List Tr) : (flatE l).length = l.length * 13 := by
  induction l with
  | nil => rfl
  | cons p a ih => simp [flatE, ih, cellsT_length]; omega
theorem flatE_at (l : List Tr) (i : Nat) (h : i < l.length) (j : Nat) (x : Value) (hx : (cellsT (l.getD i t0))[j]? = some x) : (flatE l)[i * 13 + j]? = some x := by
  induction l generalizing i with
  | nil => simp at h
  | cons p a ih =>
    have hj : j < 13 := by
      have := (List.getElem?_eq_some_iff.1 hx).1
      rwa [cellsT_length] at this
    cases i with
    | zero =>
      simp at hx
      simp only [flatE, Nat.zero_mul, Nat.zero_add]
      rw [List.getElem?_append_left (by rw [cellsT_length]; exact hj)]
      exact hx
    | succ i =>
      have := ih i (by simpa using h) (by simpa using hx)
      simp only [flatE]
      rw [List.getElem?_append_right (by rw [cellsT_length]; omega), cellsT_length, show (i + 1) * 13 + j - 13 = i * 13 + j by omega]
      exact this
end Go.Proofs.YtmodehfedhgcbaaGreatDoor.Ck

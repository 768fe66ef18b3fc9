/- A tree as data: its head, its kids; how it is nested, of what type it is; the plain facts of the law. No condition. -/
import Derived.Test.YticmkabafmmlhaaGreatDoorN3j
import Derived.Deep.Slices
import Derived.ChangeSame
import Derived.Laws.AppendOwnNone
import Derived.Laws.OwnMore
set_option linter.unusedVariables false
set_option linter.unusedSimpArgs false
namespace Go.Proofs.YticmkabafmmlhaaGreatDoor.Ck
open Go.RowKit
abbrev Mt := Int × ByteArray × ByteArray
structure Hd where
 k : Int
 o : Int
 v : Nat
 s : ByteArray
 ma : Option Addr
 mc : Nat
 ms : List Mt
 wd : Int
 off : Int
 ha : Bool
 tm : Int
 how : Int
 na : Option Addr
 nc : Nat
 ns : List ByteArray
 bo : Bool
 ka : Option Addr
 kc : Nat
inductive Tr where
 | mk (h : Hd) (ks : List Tr)
def Tr.h : Tr → Hd
 | .mk h _ => h
def Tr.ks : Tr → List Tr
 | .mk _ ks => ks
def wrapF (h : Hd) (i : Nat) (t : Tr) : Bool := if i = 0 then decide (strengthF t.h.k t.h.o < strengthF h.k h.o) else decide (strengthF t.h.k t.h.o ≤ strengthF h.k h.o)
def deepF (h : Hd) (n i : Nat) (t : Tr) : Nat := if h.k = 7 ∧ n = 1 ∧ t.h.k = 6 then 2 else if h.k = 6 ∧ n = 2 ∧ wrapF h i t = false then 0 else 1
theorem deepF_le (h : Hd) (n i : Nat) (t : Tr) : deepF h n i t ≤ 2 := by
 unfold deepF; split
 · omega
 · split <;> omega
mutual
def nestF : Tr → Nat
 | .mk h ks => if hasKidsF h.k = true then (if ks.length = 0 then 1 else nestL h ks.length 0 ks) else 0
def nestL (h : Hd) (n : Nat) : Nat → List Tr → Nat
 | _, [] => 0
 | i, t :: ts => max (deepF h n i t + nestF t) (nestL h n (i + 1) ts)
end
mutual
def szF : Tr → Nat
 | .mk h ks => 1 + h.ms.length + h.ns.length + szL ks
def szL : List Tr → Nat
 | [] => 0
 | t :: ts => szF t + szL ts
end
mutual
def allF (ok : Hd → Nat → Bool) : Tr → Bool
 | .mk h ks => ok h ks.length && allL ok ks
def allL (ok : Hd → Nat → Bool) : List Tr → Bool
 | [] => true
 | t :: ts => allF ok t && allL ok ts
end
def fitsF (s : List UInt8) : Option (List Int × Int) :=
 if s = [114, 97, 116, 101] ∨ s = [105, 110, 99, 114, 101, 97, 115, 101] ∨ s = [100, 101, 108, 116, 97] then some ([3], 2)
 else if s = [116, 105, 109, 101] then some ([], 1)
 else if s = [118, 101, 99, 116, 111, 114] then some ([1], 2)
 else if s = [97, 98, 115] ∨ s = [115, 117, 109] ∨ s = [97, 118, 103] ∨ s = [109, 105, 110] ∨ s = [109, 97, 120] ∨ s = [99, 111, 117, 110, 116] then some ([2], 2)
 else if s = [116, 111, 112, 107] ∨ s = [98, 111, 116, 116, 111, 109, 107] then some ([1, 2], 2)
 else none
def callF (s : List UInt8) (l : List Int) : Int :=
 match fitsF s with
 | none => 0
 | some (a, g) => if l = a then g else 0
mutual
def ofF : Tr → Int
 | .mk h ks => if h.k = 1 then 1 else if h.k = 2 then 4 else if h.k = 3 then (if h.wd = 0 then 2 else 3)
    else if h.k = 7 then numberF ((ofL ks).getD 0 0)
    else if h.k = 6 then heldF h.o h.bo h.how (numberF ((ofL ks).getD 0 0)) (numberF ((ofL ks).getD 1 0))
    else callF h.s.toList (ofL ks)
def ofL : List Tr → List Int
 | [] => []
 | t :: ts => ofF t :: ofL ts
end
theorem allL_mem {ok : Hd → Nat → Bool} : ∀ {ks : List Tr} {t : Tr}, allL ok ks = true → t ∈ ks → allF ok t = true
 | [], _, _, h => by cases h
 | x :: ts, t, ha, h => by
   rw [allL, Bool.and_eq_true] at ha
   rcases List.mem_cons.1 h with rfl | h
   · exact ha.1
   · exact allL_mem ha.2 h
theorem nestL_mem {h : Hd} {n : Nat} : ∀ {ks : List Tr} {i : Nat} {t : Tr}, t ∈ ks → nestF t ≤ nestL h n i ks
 | [], _, _, h => by cases h
 | x :: ts, i, t, hm => by
   rw [nestL]
   rcases List.mem_cons.1 hm with rfl | hm
   · omega
   · have := nestL_mem (h := h) (n := n) (i := i + 1) hm
     omega
structure OkR (ok : Hd → Nat → Bool) : Prop where
 bare : ∀ h n, ok h n = true → h.k = 1 ∨ h.k = 2 ∨ h.k = 3 → n = 0
 kind : ∀ h n, ok h n = true → 1 ≤ h.k ∧ h.k ≤ 7
 pair : ∀ h n, ok h n = true → h.k = 6 → n = 2
 less : ∀ h n, ok h n = true → h.k = 7 → n = 1
def rightF (ok : Hd → Nat → Bool) (t : Tr) : Bool := decide (nestF t ≤ 64) && allF ok t
theorem kid_right {ok : Hd → Nat → Bool} (hok : OkR ok) {h : Hd} {ks : List Tr} {t : Tr} (hr : rightF ok (.mk h ks) = true) (ht : t ∈ ks) : rightF ok t = true := by
 unfold rightF at hr ⊢
 rw [Bool.and_eq_true, decide_eq_true_eq, allF, Bool.and_eq_true] at hr
 obtain ⟨h1, h2, h3⟩ := hr
 rw [Bool.and_eq_true, decide_eq_true_eq]
 refine ⟨?_, allL_mem h3 ht⟩
 have hk := hok.kind _ _ h2
 have hl : ks.length ≠ 0 := by intro h0; rw [List.length_eq_zero_iff.1 h0] at ht; cases ht
 have hh : hasKidsF h.k = true := by
  unfold hasKidsF
  rw [decide_eq_true_eq]
  have := hok.bare _ _ h2
  omega
 rw [nestF, if_pos hh, if_neg hl] at h1
 exact Nat.le_trans (nestL_mem ht) h1
def plusH (A : Option Addr) (c : Nat) : Hd := ⟨6, 7, 0, ⟨#[]⟩, none, 0, [], 0, 0, false, 0, 0, none, 0, [], false, A, c⟩
end Go.Proofs.YticmkabafmmlhaaGreatDoor.Ck

set_option linter.unusedVariables false
set_option linter.unusedSimpArgs false
namespace Go.Proofs.YticmkabafmmlhaaGreatDoor.Ck
open Go.RowKit
def m0 : Mt := (0, ByteArray.empty, ByteArray.empty)
def n0 : ByteArray := ByteArray.empty
def Mts (w : World) (A : Option Addr) (l : List Mt) : Prop :=
 0 < l.length → ∃ b off, A = some ⟨b, off, none⟩ ∧ b < w.heap.size ∧ ∀ i, i < l.length → w.cell? ⟨b, off + i * 3, none⟩ = some (.int .i64 (l.getD i m0).1) ∧ w.cell? ⟨b, off + i * 3 + 1, none⟩ = some (.string (l.getD i m0).2.1) ∧ w.cell? ⟨b, off + i * 3 + 2, none⟩ = some (.string (l.getD i m0).2.2)
def Nms (w : World) (A : Option Addr) (l : List ByteArray) : Prop :=
 0 < l.length → ∃ b off, A = some ⟨b, off, none⟩ ∧ b < w.heap.size ∧ ∀ i, i < l.length → w.cell? ⟨b, off + i, none⟩ = some (.string (l.getD i n0))
def cellsT : Tr → List Value
 | .mk h ks => [.int .i64 h.k, .int .i64 h.o, .int .u64 (h.v : Int), .string h.s, .slice h.ma h.ms.length h.mc, .int .i64 h.wd, .int .i64 h.off, .bool h.ha, .int .i64 h.tm, .int .i64 h.how, .slice h.na h.ns.length h.nc, .bool h.bo, .slice h.ka ks.length h.kc]
def valT (t : Tr) : Value := .agg (cellsT t).toArray
theorem cellsT_length (t : Tr) : (cellsT t).length = 13 := by cases t; rfl
def t0 : Tr := .mk ⟨0, 0, 0, ⟨#[]⟩, none, 0, [], 0, 0, false, 0, 0, none, 0, [], false, none, 0⟩ []
def Trs (w : World) (A : Option Addr) (l : List Tr) : Prop :=
 0 < l.length → ∃ b off, A = some ⟨b, off, none⟩ ∧ b < w.heap.size ∧ ∀ i, i < l.length → ∀ j x, (cellsT (l.getD i t0))[j]? = some x → w.cell? ⟨b, off + i * 13 + j, none⟩ = some x
theorem Mts.below {w w' : World} {A : Option Addr} {l : List Mt} (h : Mts w A l) (hb : Below w.heap.size w w') : Mts w' A l := by
 intro hn
 obtain ⟨b, off, rfl, hlt, hc⟩ := h hn
 exact ⟨b, off, rfl, by have := hb.size; omega, fun i hi => ⟨(hb.cell (p := ⟨b, off + i * 3, none⟩) hlt).trans (hc i hi).1, (hb.cell (p := ⟨b, off + i * 3 + 1, none⟩) hlt).trans (hc i hi).2.1, (hb.cell (p := ⟨b, off + i * 3 + 2, none⟩) hlt).trans (hc i hi).2.2⟩⟩
theorem Nms.below {w w' : World} {A : Option Addr} {l : List ByteArray} (h : Nms w A l) (hb : Below w.heap.size w w') : Nms w' A l := by
 intro hn
 obtain ⟨b, off, rfl, hlt, hc⟩ := h hn
 exact ⟨b, off, rfl, by have := hb.size; omega, fun i hi => (hb.cell (p := ⟨b, off + i, none⟩) hlt).trans (hc i hi)⟩
theorem Trs.below {w w' : World} {A : Option Addr} {l : List Tr} (h : Trs w A l) (hb : Below w.heap.size w w') : Trs w' A l := by
 intro hn
 obtain ⟨b, off, rfl, hlt, hc⟩ := h hn
 exact ⟨b, off, rfl, by have := hb.size; omega, fun i hi j x hx => (hb.cell (p := ⟨b, off + i * 13 + j, none⟩) hlt).trans (hc i hi j x hx)⟩
structure HdOk (h : Hd) : Prop where
 v : h.v < 18446744073709551616
 ms : h.ms.length ≤ 140737488355328
 ns : h.ns.length ≤ 140737488355328
 kn : h.ka = none → h.kc = 0
 nc : h.ns.length ≤ h.nc
mutual
def Lies (w : World) : Tr → Prop
 | .mk h ks => HdOk h ∧ ks.length ≤ 140737488355328 ∧ Mts w h.ma h.ms ∧ Nms w h.na h.ns ∧ Trs w h.ka ks ∧ LiesL w ks
def LiesL (w : World) : List Tr → Prop
 | [] => True
 | t :: ts => Lies w t ∧ LiesL w ts
end
mutual
theorem Lies.below {w w' : World} (hb : Below w.heap.size w w') : ∀ {t : Tr}, Lies w t → Lies w' t
 | .mk h ks, hl => by
   rw [Lies] at hl ⊢
   obtain ⟨a, a', b, c, d, e⟩ := hl
   exact ⟨a, a', b.below hb, c.below hb, d.below hb, LiesL.below hb e⟩
theorem LiesL.below {w w' : World} (hb : Below w.heap.size w w') : ∀ {ts : List Tr}, LiesL w ts → LiesL w' ts
 | [], _ => by rw [LiesL]; trivial
 | t :: ts, hl => by
   rw [LiesL] at hl ⊢
   exact ⟨Lies.below hb hl.1, LiesL.below hb hl.2⟩
end
theorem LiesL.mem {w : World} : ∀ {ts : List Tr} {t : Tr}, LiesL w ts → t ∈ ts → Lies w t
 | [], _, _, h => by cases h
 | x :: ts, t, hl, h => by
   rw [LiesL] at hl
   rcases List.mem_cons.1 h with rfl | h
   · exact hl.1
   · exact LiesL.mem hl.2 h
theorem LiesL.append {w : World} : ∀ {a b : List Tr}, LiesL w a → LiesL w b → LiesL w (a ++ b)
 | [], _, _, h => h
 | x :: ts, b, ha, h => by
   rw [LiesL] at ha
   rw [List.cons_append, LiesL]
   exact ⟨ha.1, LiesL.append ha.2 h⟩
theorem Trs.at {w : World} {b off : Nat} {l : List Tr} {i : Nat} (hc : ∀ i, i < l.length → ∀ j x, (cellsT (l.getD i t0))[j]? = some x → w.cell? ⟨b, off + i * 13 + j, none⟩ = some x) (hi : i < l.length) {h : Hd} {ks : List Tr} (ht : l.getD i t0 = .mk h ks) :
 w.cell? ⟨b, off + i * 13, none⟩ = some (.int .i64 h.k) ∧ w.cell? ⟨b, off + i * 13 + 1, none⟩ = some (.int .i64 h.o) ∧ w.cell? ⟨b, off + i * 13 + 2, none⟩ = some (.int .u64 (h.v : Int)) ∧ w.cell? ⟨b, off + i * 13 + 3, none⟩ = some (.string h.s) ∧
 w.cell? ⟨b, off + i * 13 + 4, none⟩ = some (.slice h.ma h.ms.length h.mc) ∧ w.cell? ⟨b, off + i * 13 + 5, none⟩ = some (.int .i64 h.wd) ∧ w.cell? ⟨b, off + i * 13 + 6, none⟩ = some (.int .i64 h.off) ∧ w.cell? ⟨b, off + i * 13 + 7, none⟩ = some (.bool h.ha) ∧
 w.cell? ⟨b, off + i * 13 + 8, none⟩ = some (.int .i64 h.tm) ∧ w.cell? ⟨b, off + i * 13 + 9, none⟩ = some (.int .i64 h.how) ∧ w.cell? ⟨b, off + i * 13 + 10, none⟩ = some (.slice h.na h.ns.length h.nc) ∧ w.cell? ⟨b, off + i * 13 + 11, none⟩ = some (.bool h.bo) ∧ w.cell? ⟨b, off + i * 13 + 12, none⟩ = some (.slice h.ka ks.length h.kc) := by
 have hc := hc i hi
 rw [ht] at hc
 exact ⟨hc 0 _ rfl, hc 1 _ rfl, hc 2 _ rfl, hc 3 _ rfl, hc 4 _ rfl, hc 5 _ rfl, hc 6 _ rfl, hc 7 _ rfl, hc 8 _ rfl, hc 9 _ rfl, hc 10 _ rfl, hc 11 _ rfl, hc 12 _ rfl⟩
def flatE : List Tr → List Value
 | [] => []
 | t :: l => cellsT t ++ flatE l
theorem flatE_append (a b : List Tr) : flatE (a ++ b) = flatE a ++ flatE b := by
 induction a with
 | nil => rfl
 | cons p a ih => simp [flatE, ih]
theorem flatE_length (l : List Tr) : (flatE l).length = l.length * 13 := by
 induction l with
 | nil => rfl
 | cons p a ih => simp [flatE, ih, cellsT_length]; omega
theorem flatE_at (l : List Tr) (i : Nat) (h : i < l.length) (j : Nat) (x : Value) (hx : (cellsT (l.getD i t0))[j]? = some x) : (flatE l)[i * 13 + j]? = some x := by
 induction l generalizing i with
 | nil => simp at h
 | cons p a ih =>
   have hj : j < 13 := by
    have := (List.getElem?_eq_some_iff.1 hx).1
    rwa [cellsT_length] at this
   cases i with
   | zero =>
     simp at hx
     simp only [flatE, Nat.zero_mul, Nat.zero_add]
     rw [List.getElem?_append_left (by rw [cellsT_length]; exact hj)]
     exact hx
   | succ i =>
     have := ih i (by simpa using h) (by simpa using hx)
     simp only [flatE]
     rw [List.getElem?_append_right (by rw [cellsT_length]; omega), cellsT_length, show (i + 1) * 13 + j - 13 = i * 13 + j by omega]
     exact this
end Go.Proofs.YticmkabafmmlhaaGreatDoor.Ck

set_option linter.unusedVariables false
set_option linter.unusedSimpArgs false
namespace Go.Proofs.YticmkabafmmlhaaGreatDoor.Ck
open Go.RowKit
theorem allL_append (ok : Hd → Nat → Bool) : ∀ a b : List Tr, allL ok (a ++ b) = (allL ok a && allL ok b)
 | [], b => by rw [List.nil_append, allL, Bool.true_and]
 | t :: ts, b => by rw [List.cons_append, allL, allL, allL_append ok ts b, Bool.and_assoc]
theorem szL_append : ∀ a b : List Tr, szL (a ++ b) = szL a + szL b
 | [], b => by rw [List.nil_append, szL, Nat.zero_add]
 | t :: ts, b => by rw [List.cons_append, szL, szL, szL_append ts b, Nat.add_assoc]
theorem szF_pos (t : Tr) : 1 ≤ szF t := by cases t; rw [szF]; omega
theorem szL_length : ∀ l : List Tr, l.length ≤ szL l
 | [] => by simp
 | t :: ts => by
   have := szL_length ts
   have := szF_pos t
   rw [szL, List.length_cons]
   omega
theorem szL_mem : ∀ {l : List Tr} {t : Tr}, t ∈ l → szF t ≤ szL l
 | [], _, h => by cases h
 | x :: ts, t, h => by
   rw [szL]
   rcases List.mem_cons.1 h with rfl | h
   · omega
   · have := szL_mem h; omega
theorem last_split {l : List Tr} {n : Nat} (h : l.length = n + 1) : ∃ a t, l = a ++ [t] ∧ a.length = n := by
 refine ⟨l.dropLast, l.getLast (by intro h0; rw [h0] at h; simp at h), (List.dropLast_concat_getLast _).symm, by simp [h]⟩
theorem all_bad {ok : Hd → Nat → Bool} {a : List Tr} {h : Hd} {ks : List Tr} (hb : ok h ks.length = false) : allL ok (a ++ [.mk h ks]) = false := by
 rw [allL_append, allL, allF, hb]; simp
theorem all_go {ok : Hd → Nat → Bool} {a : List Tr} {h : Hd} {ks : List Tr} (hb : ok h ks.length = true) : allL ok (a ++ [.mk h ks]) = allL ok (a ++ ks) := by
 rw [allL_append, allL_append, allL, allF, hb]; simp [allL]
theorem sz_go (a : List Tr) (h : Hd) (ks : List Tr) : szL (a ++ ks) + 1 ≤ szL (a ++ [.mk h ks]) := by
 rw [szL_append, szL_append, szL, szF, szL]; omega
abbrev Nd := Tr × Nat
def mostF (m : Nat) : List Nd → Nat
 | [] => m
 | x :: l => mostF (max m (x.2 + nestF x.1)) l
theorem mostF_max (l : List Nd) : ∀ m n, mostF (max m n) l = max m (mostF n l) := by
 induction l with
 | nil => intro m n; rfl
 | cons x l ih => intro m n; rw [mostF, mostF, Nat.max_assoc, ih]
theorem mostF_append (a b : List Nd) : ∀ m, mostF m (a ++ b) = mostF (mostF m a) b := by
 induction a with
 | nil => intro m; rfl
 | cons x l ih => intro m; rw [List.cons_append, mostF, mostF, ih]
def kidN (h : Hd) (n d : Nat) : Nat → List Tr → List Nd
 | _, [] => []
 | i, t :: ts => (t, d + deepF h n i t) :: kidN h n d (i + 1) ts
theorem kidN_length (h : Hd) (n d : Nat) : ∀ (i : Nat) (l : List Tr), (kidN h n d i l).length = l.length
 | _, [] => rfl
 | i, t :: ts => by rw [kidN, List.length_cons, List.length_cons, kidN_length h n d (i + 1) ts]
theorem kidN_snoc (h : Hd) (n d : Nat) : ∀ (i : Nat) (l : List Tr) (t : Tr), kidN h n d i (l ++ [t]) = kidN h n d i l ++ [(t, d + deepF h n (i + l.length) t)]
 | i, [], t => by simp [kidN]
 | i, x :: ts, t => by
   rw [List.cons_append, kidN, kidN, kidN_snoc h n d (i + 1) ts t, List.cons_append, List.length_cons, show i + 1 + ts.length = i + (ts.length + 1) by omega]
theorem kidN_most (h : Hd) (n d : Nat) : ∀ (i : Nat) (l : List Tr) (m : Nat), d ≤ m → mostF m (kidN h n d i l) = max m (d + nestL h n i l)
 | _, [], m, hm => by rw [kidN, mostF, nestL]; omega
 | i, t :: ts, m, hm => by
   rw [kidN, mostF, kidN_most h n d (i + 1) ts _ (by omega), nestL]
   dsimp only
   omega
theorem most_none {h : Hd} {ks : List Tr} (hk : hasKidsF h.k = false) (m d : Nat) (a : List Nd) : mostF m (a ++ [(.mk h ks, d)]) = mostF (max m d) a := by
 rw [mostF_append, mostF, mostF, nestF, hk, if_neg (by simp), Nat.max_comm, ← mostF_max, Nat.max_comm]
 rfl
theorem most_empty {h : Hd} (hk : hasKidsF h.k = true) (m d : Nat) (a : List Nd) : mostF m (a ++ [(.mk h [], d)]) = mostF (max (max m d) (d + 1)) a := by
 rw [mostF_append, mostF, mostF, nestF, hk, if_pos rfl, if_pos (show ([] : List Tr).length = 0 from rfl), Nat.max_comm, ← mostF_max]
 congr 1
 dsimp only
 omega
theorem most_kids {h : Hd} {ks : List Tr} (hk : hasKidsF h.k = true) (hn : ks.length ≠ 0) (m d : Nat) (a : List Nd) : mostF m (a ++ [(.mk h ks, d)]) = mostF (max m d) (a ++ kidN h ks.length d 0 ks) := by
 have hm : ∀ x, mostF (max m d) a = max (max m d) x ∨ True := fun _ => .inr trivial
 have hge : d ≤ mostF (max m d) a := by rw [Nat.max_comm, mostF_max]; omega
 rw [mostF_append, mostF_append, kidN_most _ _ _ _ _ _ hge, mostF, mostF, nestF, hk, if_pos rfl, if_neg hn, Nat.max_comm m d, mostF_max]
 dsimp only
 omega
def ndsz : List Nd → Nat
 | [] => 0
 | x :: l => szF x.1 + ndsz l
theorem ndsz_append (a b : List Nd) : ndsz (a ++ b) = ndsz a + ndsz b := by
 induction a with
 | nil => simp [ndsz]
 | cons x l ih => rw [List.cons_append, ndsz, ndsz, ih, Nat.add_assoc]
theorem ndsz_kids (h : Hd) (n d : Nat) : ∀ (i : Nat) (l : List Tr), ndsz (kidN h n d i l) = szL l
 | _, [] => by rw [kidN, ndsz, szL]
 | i, t :: ts => by rw [kidN, ndsz, ndsz_kids h n d (i + 1) ts, szL]
theorem ndsz_length : ∀ l : List Nd, l.length ≤ ndsz l
 | [] => by simp
 | t :: ts => by
   have := ndsz_length ts
   have := szF_pos t.1
   rw [ndsz, List.length_cons]
   omega
theorem nd_split {l : List Nd} {n : Nat} (h : l.length = n + 1) : ∃ a t, l = a ++ [t] ∧ a.length = n := by
 refine ⟨l.dropLast, l.getLast (by intro h0; rw [h0] at h; simp at h), (List.dropLast_concat_getLast _).symm, by simp [h]⟩
mutual
def sizeF : Tr → Int
 | .mk h ks => sizeL (1 + (h.ms.length : Int) + (h.ns.length : Int)) ks
def sizeL (n : Int) : List Tr → Int
 | [] => n
 | t :: ts => if n ≤ 300 then sizeL (wrap64 (n + sizeF t)) ts else n
end
def mtOk (m : Mt) : Bool := decide (m.2.2.size ≤ 250) && decide (m.2.1.size ≤ 400)
def nmOk (s : ByteArray) : Bool := decide (s.size ≤ 400)
mutual
def shortF : Tr → Bool
 | .mk h ks => decide (sizeF (.mk h ks) ≤ 300) && (decide (h.s.size ≤ 400) && (h.ms.all mtOk && (h.ns.all nmOk && shortL ks)))
def shortL : List Tr → Bool
 | [] => true
 | t :: ts => shortF t && shortL ts
end
theorem wrap_id {x : Int} (h0 : 0 ≤ x) (h1 : x ≤ 9223372036854775807) : wrap64 x = x := by unfold wrap64; omega
theorem sizeL_gt {n : Int} (h : 300 < n) : ∀ ts : List Tr, 300 < sizeL n ts
 | [] => by rw [sizeL]; exact h
 | t :: ts => by rw [sizeL, if_neg (by omega)]; exact h
theorem sizeL_sum : ∀ (ts : List Tr) (n : Nat), (∀ t, t ∈ ts → sizeF t = (szF t : Int) ∧ szF t ≤ 300) → sizeL (n : Int) ts ≤ 300 → sizeL (n : Int) ts = ((n + szL ts : Nat) : Int)
 | [], n, _, _ => by rw [sizeL, szL, Nat.add_zero]
 | t :: ts, n, hk, h => by
   have ht := hk t List.mem_cons_self
   by_cases hn : (n : Int) ≤ 300
   · have e : wrap64 ((n : Int) + sizeF t) = ((n + szF t : Nat) : Int) := by rw [ht.1, wrap_id (by omega) (by omega)]; omega
     rw [sizeL, if_pos hn, e] at h ⊢
     rw [sizeL_sum ts _ (fun x hx => hk x (List.mem_cons_of_mem _ hx)) h, szL, Nat.add_assoc]
   · have := sizeL_gt (n := (n : Int)) (by omega) (t :: ts)
     omega
mutual
theorem short_size : ∀ {t : Tr}, shortF t = true → sizeF t = (szF t : Int) ∧ szF t ≤ 300
 | .mk h ks, hs => by
   rw [shortF, Bool.and_eq_true, Bool.and_eq_true, Bool.and_eq_true, Bool.and_eq_true, decide_eq_true_eq] at hs
   obtain ⟨h1, _, _, _, h5⟩ := hs
   rw [sizeF] at h1 ⊢
   have e : (1 + (h.ms.length : Int) + (h.ns.length : Int)) = ((1 + h.ms.length + h.ns.length : Nat) : Int) := by omega
   rw [e] at h1 ⊢
   have := sizeL_sum ks _ (short_sizes h5) h1
   rw [szF]
   omega
theorem short_sizes : ∀ {ts : List Tr}, shortL ts = true → ∀ t, t ∈ ts → sizeF t = (szF t : Int) ∧ szF t ≤ 300
 | [], _, _, h => by cases h
 | x :: ts, hs, t, h => by
   rw [shortL, Bool.and_eq_true] at hs
   rcases List.mem_cons.1 h with h | h
   · have := short_size hs.1
     rw [h]
     exact this
   · exact short_sizes hs.2 t h
end
mutual
theorem nest_size : ∀ t : Tr, nestF t ≤ 2 * szF t
 | .mk h ks => by
   have := nest_sizes h ks.length 0 ks
   rw [nestF, szF]
   split
   · split
     · omega
     · omega
   · omega
theorem nest_sizes (h : Hd) (n : Nat) : ∀ (i : Nat) (ts : List Tr), nestL h n i ts ≤ 2 * szL ts + 2
 | _, [] => by rw [nestL]; omega
 | i, t :: ts => by
   have := nest_size t
   have := nest_sizes h n (i + 1) ts
   have := deepF_le h n i t
   rw [nestL, szL]
   omega
end
end Go.Proofs.YticmkabafmmlhaaGreatDoor.Ck

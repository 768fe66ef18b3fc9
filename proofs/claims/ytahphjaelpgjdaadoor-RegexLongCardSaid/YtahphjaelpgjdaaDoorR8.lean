/- The document's reader: a row of parts. Condition: a text of at most 200 bytes. -/
import Derived.Test.YtahphjaelpgjdaaDoorR7
import Derived.Test.YtahphjaelpgjdaaDoorW11
namespace Go.Proofs.YtahphjaelpgjdaaDoor
open Go.RowKit Rx
set_option linter.unusedVariables false

abbrev rwC (k : Nat) (K : Value) : Array Value := #[.int .u8 k, .slice none 0 0, K]
theorem own_grown {w w' : World} {base e s n b : Nat} {v : Value} {xs : List Value} (h : w.ownsRow base e s v n xs) (hg : w.grownBy w' (some b)) (hb : v.ownBlock ≠ some b) : w'.ownsRow base e s v n xs := h.kept hg (.inr hb)
theorem own_far {w : World} {base e s n b : Nat} {v : Value} {xs : List Value} (h : w.ownsRow base e s v n xs) (hb : b < base) : v.ownBlock ≠ some b := fun e => by have := (h.lt b e).1; omega
theorem own_new {w : World} {base e s n b : Nat} {v : Value} {xs : List Value} (h : w.ownsRow base e s v n xs) (hb : w.heap.size ≤ b) : v.ownBlock ≠ some b := fun e => by have := (h.lt b e).2; omega
theorem gr_own {w w1 w2 : World} {b base e s n : Nat} {v : Value} {xs : List Value} (h : w.grownBy w1 (some b)) (ho : w1.ownsRow base e s v n xs) (k : w1.grownBy w2 v.ownBlock) (hb : w.heap.size ≤ base) : w.grownBy w2 (some b) :=
  ⟨k.os.trans h.os, k.tape.trans h.tape, k.output.trans h.output, Nat.le_trans h.size k.size, fun j hj hn => (k.block j (Nat.lt_of_lt_of_le hj h.size) (fun e => by have := (ho.lt j e.symm).1; omega)).trans (h.block j hj hn)⟩
/-- what a row's loop holds of memory, its part of the round in a block of its own -/
def Bd (w : World) (b j2 j3 j6 : Nat) (kc : Nat) (K : Value) (n : Nat) (xs : List Value) (wr : World) : Prop :=
  (∃ (k : Nat) (A : Option Addr) (q c : Nat) (B : Option Addr) (q' c' : Nat), Blk wr j6 30 #[.int .u8 k, .slice A q c, .slice B q' c']) ∧ Blk wr j3 30 (rwC kc K) ∧ wr.ownsRow (w.heap.size + 1 + 1) 30 3 K n xs ∧ Blk wr j2 30 zero3 ∧ w.grownBy wr (some b)
theorem Bd.drewN {w : World} {b j2 j3 j6 kc : Nat} {K : Value} {n : Nat} {xs : List Value} {wr : World} (h : Bd w b j2 j3 j6 kc K n xs wr) (d : Nat) : Bd w b j2 j3 j6 kc K n xs (wr.drewN d) :=
  ⟨h.1, h.2.1, h.2.2.1, h.2.2.2.1, gr_drewN h.2.2.2.2 d⟩
theorem Bd.at_ {w : World} {b j2 j3 j6 kc : Nat} {K : Value} {n : Nat} {xs : List Value} {wr : World} (h : Bd w b j2 j3 j6 kc K n xs wr) (hb : b < w.heap.size) (h2 : w.heap.size ≤ j2) (h3 : w.heap.size ≤ j3) (h6 : w.heap.size ≤ j6) (i : Nat) (u : Value) : Bd w b j2 j3 j6 kc K n xs (wr.setCell ⟨b, i, none⟩ u) := by
  obtain ⟨⟨k, A, q, c, B, q', c', a1⟩, a2, a3, a4, a5⟩ := h
  exact ⟨⟨k, A, q, c, B, q', c', a1.other (by omega) i u⟩, a2.other (by omega) i u, own_ne a3 (own_far a3 (by omega)) i u, a4.other (by omega) i u, gr_set a5 i u⟩
theorem own_put3 {w : World} {base e s n j : Nat} {v : Value} {xs : List Value} (h : w.ownsRow base e s v n xs) (hk : v.ownBlock ≠ some j) (v0 v1 v2 : Value) : (put3 w j v0 v1 v2).ownsRow base e s v n xs := own_ne (own_ne (own_ne h hk _ _) hk _ _) hk _ _
theorem own_drew {w : World} {base e s n : Nat} {v : Value} {xs : List Value} (h : w.ownsRow base e s v n xs) : w.drew.ownsRow base e s v n xs := h
theorem Bd.node {w : World} {b j2 j3 j6 kc : Nat} {K : Value} {n : Nat} {xs : List Value} {wr : World} (h : Bd w b j2 j3 j6 kc K n xs wr) (h6 : w.heap.size ≤ j6) (h26 : j2 ≠ j6) (h36 : j3 ≠ j6) (hK : K.ownBlock ≠ some j6) (o : Obj) (k : Nat) (A : Option Addr) (q c : Nat) (B : Option Addr) (q' c' : Nat) :
    Bd w b j2 j3 j6 kc K n xs (put3 (wr.alloc o) j6 (.int .u8 k) (.slice A q c) (.slice B q' c')) := by
  obtain ⟨⟨k0, A0, q0, c0, B0, q0', c0', a1⟩, a2, a3, a4, a5⟩ := h
  exact ⟨⟨k, A, q, c, B, q', c', (a1.alloc o).set3 _ _ _⟩, (a2.alloc o).set3_other h36 _ _ _, own_put3 (own_below a3 ((Below.refl _ _).alloc (Nat.le_refl _) o)) hK _ _ _, (a4.alloc o).set3_other h26 _ _ _, gr_set3 (gr_alloc a5 o) h6 _ _ _⟩
theorem Bd.node2 {w : World} {b j2 j3 j6 kc : Nat} {K : Value} {n : Nat} {xs : List Value} {wr : World} (h : Bd w b j2 j3 j6 kc K n xs wr) (h6 : w.heap.size ≤ j6) (h26 : j2 ≠ j6) (h36 : j3 ≠ j6) (hK : K.ownBlock ≠ some j6) (o : Obj) (k : Nat) (A : Option Addr) (q c : Nat) (B : Option Addr) (q' c' : Nat) :
    Bd w b j2 j3 j6 kc K n xs ((put3 wr j6 (.int .u8 k) (.slice A q c) (.slice B q' c')).alloc o) := by
  obtain ⟨⟨k0, A0, q0, c0, B0, q0', c0', a1⟩, a2, a3, a4, a5⟩ := h
  exact ⟨⟨k, A, q, c, B, q', c', (a1.set3 _ _ _).alloc o⟩, (a2.set3_other h36 _ _ _).alloc o, own_below (own_put3 a3 hK _ _ _) ((Below.refl _ _).alloc (Nat.le_refl _) o), (a4.set3_other h26 _ _ _).alloc o, gr_alloc (gr_set3 a5 h6 _ _ _) o⟩
/-- where a part's loop stands -/
def RepAt (b : Nat) (l : ByteArray) (o : Nat) (m0 : Mach) (a0 : Nat) (target : Res) (wr : World) : Prop :=
  (∃ (kk a2 : Nat) (m2 : Mach) (p2 : Pc), l.size < kk + a2 ∧ a2 ≤ l.size ∧ a0 < a2 ∧ Par wr b l a2 o 0 ∧ Rx.Good m2 ∧ PcIn m2.takes.length p2 ∧ m0.takes.length ≤ m2.takes.length ∧ target = repL l kk a2 m2 p2) ∨
  (∃ pl c : Nat, Par wr b l pl o c ∧ (c = 2 ∨ c = 12) ∧ target = .bad pl c)
/-- where a row's loop stands -/
def CatAt (b : Nat) (l : ByteArray) (o d n : Nat) (target : Res) (wr : World) : Prop :=
  (∃ (k a2 : Nat) (m2 : Mach) (p2 : Pc), l.size < k + a2 ∧ a2 ≤ l.size ∧ n ≤ a2 ∧ Par wr b l a2 o 0 ∧ Rx.Good m2 ∧ PcIn m2.takes.length p2 ∧ target = catL l (grpF l d) k a2 m2 p2) ∨
  (∃ pl c : Nat, Par wr b l pl o c ∧ (c = 2 ∨ c = 12) ∧ n ≤ l.size + 1 ∧ target = .bad pl c)
def RowS (w : World) (b j2 j3 : Nat) (l : ByteArray) (o d : Nat) (target : Res) (wr : World) : Prop :=
  ∃ (K : Value) (n : Nat) (xs : List Value), Blk wr j3 30 (rwC 44 K) ∧ wr.ownsRow (w.heap.size + 1 + 1) 30 3 K n xs ∧ Blk wr j2 30 zero3 ∧ w.grownBy wr (some b) ∧ CatAt b l o d n target wr
theorem node_info : (Tryd.prog.info? 30).map (fun i => (i.zero, i.size, i.bytes)) = some (some (.agg #[.int .u8 0, .slice none 0 0, .slice none 0 0]), 3, 56) := by kernel_rfl
theorem triple_at (W : World) (x0 x1 x2 : Value) (g : Nat) (h : g = W.heap.size) (t : TypeId) : ∀ j u, ([x0, x1, x2] : List Value)[j]? = some u → (W.alloc (.cells #[x0, x1, x2] t)).cell? ((⟨g, 0, none⟩ : Addr).add j) = some u := by
  subst h
  intro j u hu
  match j, hu with
  | 0, hu => simp at hu; subst hu; simp [Addr.add, World.cell?_alloc_at]
  | 1, hu => simp at hu; subst hu; simp [Addr.add, World.cell?_alloc_at]
  | 2, hu => simp at hu; subst hu; simp [Addr.add, World.cell?_alloc_at]
  | j + 3, hu => simp at hu
theorem row_own_nil (w : World) (base : Nat) : w.ownsRow base 30 3 (.slice none 0 0) 0 [] := ⟨rfl, .inl ⟨rfl, rfl⟩⟩
theorem repL_next {l : ByteArray} {k a : Nat} {m : Mach} {p : Pc} (h : seesAny l a [42, 43, 63] = true) : repL l (k + 1) a m p = repL l k (a + 1) (repM m p (by_ l a)) (repP p (by_ l a)) := by
  conv => lhs; unfold repL
  rw [if_pos h]
theorem repL_stop {l : ByteArray} {k a : Nat} {m : Mach} {p : Pc} (h : seesAny l a [42, 43, 63] = false) : repL l (k + 1) a m p = .ok a m p := by
  conv => lhs; unfold repL
  rw [if_neg (by rw [h]; simp)]
theorem catL_stop {l : ByteArray} {grp : Nat → Mach → Res} {k a : Nat} {m : Mach} {p : Pc} (h : ¬ (a < l.size ∧ seesAny l a [124, 41] = false)) : catL l grp (k + 1) a m p = .ok a m p := by
  conv => lhs; unfold catL
  rw [if_neg h]
theorem catL_bad {l : ByteArray} {grp : Nat → Mach → Res} {k a pl c : Nat} {m : Mach} {p : Pc} (h : a < l.size) (h2 : seesAny l a [124, 41] = false) (h3 : repF l grp a m = .bad pl c) : catL l grp (k + 1) a m p = .bad pl c := by
  conv => lhs; unfold catL
  rw [if_pos ⟨h, h2⟩, h3]
theorem catL_ok {l : ByteArray} {grp : Nat → Mach → Res} {k a a1 : Nat} {m m1 : Mach} {p q : Pc} (h : a < l.size) (h2 : seesAny l a [124, 41] = false) (h3 : repF l grp a m = .ok a1 m1 q) : catL l grp (k + 1) a m p = catL l grp k a1 (chainM m1 p q) (chainP p q) := by
  conv => lhs; unfold catL
  rw [if_pos ⟨h, h2⟩, h3]
theorem any_of_sees {l : ByteArray} {a : Nat} (h : sees l a 42 = true ∨ sees l a 43 = true ∨ sees l a 63 = true) : seesAny l a [42, 43, 63] = true := by
  have ha : a < l.size := by rcases h with h | h | h <;> exact sees_lt h
  unfold seesAny
  rw [sees_true ha, sees_true ha, sees_true ha] at h
  rw [decide_eq_true ha, Bool.true_and]
  simp at h ⊢
  omega
theorem any_not {l : ByteArray} {a : Nat} (h1 : sees l a 42 = false) (h2 : sees l a 43 = false) (h3 : sees l a 63 = false) : seesAny l a [42, 43, 63] = false := by
  by_cases ha : a < l.size
  · unfold seesAny
    rw [sees_true ha] at h1 h2 h3
    rw [decide_eq_true ha, Bool.true_and]
    simp at h1 h2 h3 ⊢
    omega
  · unfold seesAny
    simp [ha]
/-- the three signs, asked in turn -/
theorem three_ok (b a o : Nat) (l : ByteArray) (w : World) (hp : Par w b l a o 0) (hl : l.size ≤ 200) (ha : a ≤ l.size) (s : Nat) (n : Nat) :
    Calls Tryd.prog 42 #[.pointer (some ⟨b, 0, none⟩), .int .u8 s] (w.drewN n) fun e w' => e = .returned (.bool (sees l a s)) ∧ ∃ n, w' = w.drewN n := by
  refine (is_any b a o s l _ rfl (w.drewN n) (hp.drewN n) hl ha).mono ?_
  rintro e w' ⟨h1, k, h2⟩; exact ⟨h1, n + k, h2.trans (World.drewN_drewN _ _ _)⟩
theorem three_bad (b a o c : Nat) (l : ByteArray) (w : World) (hp : Par w b l a o c) (hc : c = 2 ∨ c = 12) (s : Nat) (n : Nat) :
    Calls Tryd.prog 42 #[.pointer (some ⟨b, 0, none⟩), .int .u8 s] (w.drewN n) fun e w' => e = .returned (.bool false) ∧ ∃ n, w' = w.drewN n := by
  refine (is_bad b a o c s l (w.drewN n) (hp.drewN n) hc).mono ?_
  rintro e w' ⟨h1, k, h2⟩; exact ⟨h1, n + k, h2.trans (World.drewN_drewN _ _ _)⟩
end Go.Proofs.YtahphjaelpgjdaaDoor

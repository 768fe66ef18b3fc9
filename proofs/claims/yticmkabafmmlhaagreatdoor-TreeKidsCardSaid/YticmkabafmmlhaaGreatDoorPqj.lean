/- The writer's pair: a stack of parts on the way down, and what is put on the way back: what stays the same. No condition. -/
import Derived.Test.YticmkabafmmlhaaGreatDoorPnj
import Derived.Test.YticmkabafmmlhaaGreatDoorN16j
set_option linter.unusedVariables false
set_option linter.unusedSimpArgs false
namespace Go.Proofs.YticmkabafmmlhaaGreatDoor.Ck
open Go.RowKit
set_option maxRecDepth 100000
def kid0 (q : Tr) : Tr := q.ks.getD 0 t0
def wr0 (q : Tr) : Bool := wrapF q.h 0 (kid0 q)
def rightQ (q : Tr) : List UInt8 := rightT q.h (wrapF q.h 1 (q.ks.getD 1 t0)) (printF (q.ks.getD 1 t0))
def openT (s : Bool) : List UInt8 := if s = true then [40] else []
def closeT (s : Bool) : List UInt8 := if s = true then [41] else []
def preF : List Tr → List UInt8
 | [] => []
 | q :: D => openT (wr0 q) ++ preF D
def postF : List Tr → List UInt8
 | [] => []
 | q :: D => postF D ++ (closeT (wr0 q) ++ rightQ q)
theorem preF_snoc (q : Tr) : ∀ D, preF (D ++ [q]) = preF D ++ openT (wr0 q)
 | [] => by simp [preF]
 | x :: D => by rw [List.cons_append, preF, preF, preF_snoc q D, List.append_assoc]
theorem postF_snoc (q : Tr) : ∀ D, postF (D ++ [q]) = closeT (wr0 q) ++ rightQ q ++ postF D
 | [] => by simp [postF]
 | x :: D => by rw [List.cons_append, postF, postF, postF_snoc q D, List.append_assoc]
theorem print_pair (q : Tr) (hk : q.h.k = 6) (hn : q.ks.length = 2) : printF q = openT (wr0 q) ++ printF (kid0 q) ++ (closeT (wr0 q) ++ rightQ q) := by
 obtain ⟨h, ks⟩ := q
 have hk' : h.k = 6 := hk
 have hn' : ks.length = 2 := hn
 rw [printF, if_neg (by omega), if_neg (by omega), if_neg (by omega), if_neg (by omega), if_neg (by omega), if_pos hk', printL_at ks 0 (by omega), printL_at ks 1 (by omega)]
 show wrapT (wr0 (.mk h ks)) (printF (kid0 (.mk h ks))) ++ rightQ (.mk h ks) = _
 unfold wrapT openT closeT
 cases wr0 (.mk h ks) <;> simp
structure PG (w0 : World) (b : Nat) (q : Tr) : Prop where
 k : q.h.k = 6
 n : q.ks.length = 2
 t : Trs w0 q.h.ka q.ks
 r : PartC w0 b 61 q (rightQ q)
theorem post_take {D : List Tr} {m : Nat} (h : m < D.length) : postF (D.take (m + 1)) = closeT (wr0 (D.getD m t0)) ++ rightQ (D.getD m t0) ++ postF (D.take m) := by
 rw [List.take_succ_eq_append_getElem h, show D.getD m t0 = D[m] by simp [h], postF_snoc]
theorem own_keeps {b : Nat} {W W' : World} {base n : Nat} {v : Value} {xs : List Value} (h : W.ownsRow base 49 13 v n xs) (hk : Kept b W W') (hb : b < base) : W'.ownsRow base 49 13 v n xs := by
 refine ⟨h.1, ?_⟩
 rcases h.2 with h0 | ⟨g, cap, cur, hv, hbg, hg, rest⟩
 · exact .inl h0
 · refine .inr ⟨g, cap, cur, hv, hbg, ?_, rest⟩
   exact hk g _ hg (fun e => by have := Option.some.inj e; omega) (fun c fz e => by injection e with _ e; exact absurd e (by decide))
theorem St.grown {w0 : World} {b : Nat} {acc : List UInt8} {w W W' : World} (h : St w0 b acc w W) {base n : Nat} {v : Value} {xs : List Value} (ho : W.ownsRow base 49 13 v n xs) (hB : w.heap.size ≤ base) (hbw : b < w.heap.size) (hw : w0.heap.size ≤ w.heap.size) (hg : W.grownBy W' v.ownBlock) : St w0 b acc w W' := by
 have hn : ∀ k, v.ownBlock = some k → base ≤ k := by
  intro k hk
  rcases ho.2 with ⟨hv, _⟩ | ⟨g, cap, cur, hv, hbg, _⟩
  · rw [hv] at hk; cases hk
  · rw [hv] at hk; have : g = k := Option.some.inj hk; omega
 have hty : ∀ g cs fz, v.ownBlock = some g → W.heap[g]? = some (.cells cs 5 fz) → False := by
  intro k cs fz hk h5
  rcases ho.2 with ⟨hv, _⟩ | ⟨g, cap, cur, hv, hbg, hgg, _⟩
  · rw [hv] at hk; cases hk
  · rw [hv] at hk
    have e : g = k := Option.some.inj hk
    subst e
    rw [hgg] at h5
    injection h5 with h5
    injection h5 with _ h5
    exact absurd h5 (by decide)
 have hbl : ∀ k, k < W.heap.size → v.ownBlock ≠ some k → W'.heap[k]? = W.heap[k]? := fun k hk hne => hg.block k hk (fun e => hne e.symm)
 have hsz := hg.size
 have key : ∀ p, WrP w0.heap.size b p acc W → WrP w0.heap.size b p acc W' := fun p hp => by
  obtain ⟨q1, v5, q2, q3, q4⟩ := hp
  have hbs : b < W.heap.size := (Array.getElem?_eq_some_iff.1 q2).1
  refine ⟨q1, v5, (hbl b hbs fun e => by have := hn b e; omega).trans q2, q3.kept hg ?_, q4⟩
  rcases q3.2 with ⟨hv, _⟩ | ⟨g, cap, cur, hv, hbg, hgg, _⟩
  · rw [hv]; exact .inl rfl
  · right
    intro e
    rw [hv] at e
    exact hty g cur (0, 0) e.symm hgg
 refine ⟨?_, ?_, ?_, ?_, Nat.le_trans h.size hsz⟩
 · rcases h.wr with h | h
   · exact .inl (key _ h)
   · exact .inr (key _ h)
 · exact h.low.grown hg h.size fun k hk => Nat.le_trans hw (Nat.le_trans hB (hn k hk))
 · exact h.bel.grown hg h.size fun k hk => Nat.le_trans hw (Nat.le_trans hB (hn k hk))
 · intro k o hk hnb h5
   have hk1 : k < w.heap.size := (Array.getElem?_eq_some_iff.1 hk).1
   have hk2 := h.kept k o hk hnb h5
   refine (hbl k (Array.getElem?_eq_some_iff.1 hk2).1 fun e => ?_).trans hk2
   have := hn k e
   omega
theorem St.set {w0 : World} {b : Nat} {acc : List UInt8} {w W : World} (h : St w0 b acc w W) {bx : Nat} {cs : Array Value} (hx : Blk W bx 49 cs) (hB : w.heap.size ≤ bx) (hbw : b < w.heap.size) (hw : w0.heap.size ≤ w.heap.size) (i : Nat) (u : Value) : St w0 b acc w (W.setCell ⟨bx, i, none⟩ u) := by
 have hg := set_grown W bx i u
 have hbl : ∀ k, k < W.heap.size → bx ≠ k → (W.setCell ⟨bx, i, none⟩ u).heap[k]? = W.heap[k]? := fun k hk hne => hg.block k hk (fun e => hne (Option.some.inj e).symm)
 have key : ∀ p, WrP w0.heap.size b p acc W → WrP w0.heap.size b p acc (W.setCell ⟨bx, i, none⟩ u) := fun p hp => by
  obtain ⟨q1, v5, q2, q3, q4⟩ := hp
  have hbs : b < W.heap.size := (Array.getElem?_eq_some_iff.1 q2).1
  refine ⟨q1, v5, (hbl b hbs (by omega)).trans q2, q3.kept hg ?_, q4⟩
  rcases q3.2 with ⟨hv, _⟩ | ⟨g, cap, cur, hv, hbg, hgg, _⟩
  · rw [hv]; exact .inl rfl
  · right
    intro e
    rw [hv] at e
    have e2 : g = bx := Option.some.inj e
    subst e2
    have hx2 : W.heap[g]? = some (.cells cs 49 (0, 0)) := hx
    rw [hx2] at hgg
    injection hgg with hgg
    injection hgg with _ hgg
    exact absurd hgg (by decide)
 refine ⟨?_, h.low.setCell (p := ⟨bx, i, none⟩) (Nat.le_trans hw hB) u, h.bel.setCell (p := ⟨bx, i, none⟩) (Nat.le_trans hw hB) u, ?_, by rw [World.size_setCell]; exact h.size⟩
 · rcases h.wr with h | h
   · exact .inl (key _ h)
   · exact .inr (key _ h)
 · intro k o hk hnb h5
   have hk1 : k < w.heap.size := (Array.getElem?_eq_some_iff.1 hk).1
   have hk2 := h.kept k o hk hnb h5
   exact (hbl k (Array.getElem?_eq_some_iff.1 hk2).1 (by omega)).trans hk2
structure Pv (w0 : World) (b : Nat) (w : World) (x : List UInt8) (cs : Array Value) (v : Value) (D : List Tr) (W : World) : Prop where
 st : St w0 b x w W
 bl : Blk W w.heap.size 49 cs
 ow : W.ownsRow (w.heap.size + 1) 49 13 v D.length (flatE D)
theorem Pv.below {w0 : World} {b : Nat} {w : World} {x : List UInt8} {cs : Array Value} {v : Value} {D : List Tr} {W W' : World} (h : Pv w0 b w x cs v D W) (hb : Below W.heap.size W W') : Pv w0 b w x cs v D W' := ⟨h.st.below hb, h.bl.below hb, own_below h.ow hb⟩
theorem Pv.alloc {w0 : World} {b : Nat} {w : World} {x : List UInt8} {cs : Array Value} {v : Value} {D : List Tr} {W : World} (h : Pv w0 b w x cs v D W) (o : Obj) : Pv w0 b w x cs v D (W.alloc o) := h.below ((Below.refl _ _).alloc (Nat.le_refl _) _)
theorem Pv.out {w0 : World} {b : Nat} {w : World} {x y : List UInt8} {cs : Array Value} {v : Value} {D : List Tr} {W W' : World} {e : Ending} (hbw : b < w.heap.size) (h : Pv w0 b w x cs v D W) (hq : OutP w0.heap.size b y W e W') : e = .returned (.tuple #[]) ∧ Pv w0 b w y cs v D W' := by
 have hk := hq.2.2.2
 obtain ⟨he, hs⟩ := h.st.out hq
 exact ⟨he, hs, hk.blk h.bl (by omega) (by decide), own_keeps h.ow hk (by omega)⟩
theorem Pv.set {w0 : World} {b : Nat} {w : World} {x : List UInt8} {cs : Array Value} {v : Value} {D : List Tr} {W : World} (hbw : b < w.heap.size) (hw : w0.heap.size ≤ w.heap.size) (h : Pv w0 b w x cs v D W) (i : Nat) (u : Value) : Pv w0 b w x (cs.setIfInBounds i u) v D (W.setCell ⟨w.heap.size, i, none⟩ u) := by
 refine ⟨h.st.set h.bl (Nat.le_refl _) hbw hw i u, h.bl.set_ i u, h.ow.kept (set_grown W w.heap.size i u) ?_⟩
 rcases h.ow.2 with ⟨hv, _⟩ | ⟨g, cap, cur, hv, hbg, _⟩
 · rw [hv]; exact .inl rfl
 · right
   intro e
   rw [hv] at e
   have : g = w.heap.size := Option.some.inj e
   omega
theorem Pv.app {w0 : World} {b : Nat} {w : World} {x : List UInt8} {cs : Array Value} {v v' : Value} {D D' : List Tr} {W W' : World} (hbw : b < w.heap.size) (hw : w0.heap.size ≤ w.heap.size) (h : Pv w0 b w x cs v D W) (ho : W'.ownsRow (w.heap.size + 1) 49 13 v' D'.length (flatE D')) (hg : W.grownBy W' v.ownBlock) : Pv w0 b w x cs v' D' W' := by
 refine ⟨h.st.grown h.ow (Nat.le_succ _) hbw hw hg, ?_, ho⟩
 refine (hg.block w.heap.size h.bl.lt fun e => ?_).trans h.bl
 rcases h.ow.2 with ⟨hv, _⟩ | ⟨g, cap, cur, hv, hbg, _⟩
 · rw [hv] at e; cases e
 · rw [hv] at e
   have : w.heap.size = g := Option.some.inj e
   omega
theorem info49 : (Tryz.prog.info? 49).map (fun i => (i.zero.map (·.cells.size), i.size, i.bytes)) = some (some 13, 13, 160) := by kernel_rfl
theorem wpList_append_part {ops : Array Oper} {rest : List Oper} {o : Oper} {a : Act} {Q : Exit → Act → World → Prop} (w : World) (hgd : o.guard = none) (s x : Operand)
 (ho : o.op = .call { callee := .builtin .append, args := #[s, x], argTypes := #[95, 95] })
 (base : Nat) (v : Value) (l : List Tr) (hs : a.eval s = v) (hown : w.ownsRow base 49 13 v l.length (flatE l))
 (g c : Nat) (h : Hd) (ks : List Tr) (hx : a.eval x = .slice (some ⟨g, 0, none⟩) 1 c) (hK : Blk w g 49 (arr h ks.length))
 (hlen : l.length ≤ 1400) (hbase : base ≤ w.heap.size)
 (hh : ∀ v' w', w'.ownsRow base 49 13 v' (l ++ [Tr.mk h ks]).length (flatE (l ++ [Tr.mk h ks])) → w.grownBy w' v.ownBlock → wpList Tryz.prog ops Q rest (a.put o.dst v') w') :
 wpList Tryz.prog ops Q (o :: rest) a w := by
 obtain ⟨i, z, hi, hz, hzs, hsz, hby⟩ := info_of info49
 refine wpList_append_own w hgd s x 95 ho base 49 i z 13 160 Tryz.underlying95 hi hz hsz hby hzs (by decide) v l.length (flatE l) hs hown ⟨g, 0, none⟩ 1 c (cellsT (.mk h ks)) hx (cellsT_length _) ?_ (one_cell _) (by unfold maxLen; omega) (by omega) hbase ?_
 · intro j u hu
   rw [addr_plus, hK.cell j]
   have e : (arr h ks.length).toList = cellsT (.mk h ks) := rfl
   rw [← e] at hu
   simpa using hu
 · intro v' w' h1 h2 _
   refine hh v' w' ?_ h2
   have e : flatE (l ++ [Tr.mk h ks]) = flatE l ++ cellsT (.mk h ks) := by rw [flatE_append]; simp [flatE]
   rw [e, List.length_append]
   exact h1
theorem index_part (A : Option Addr) (n c k b : Nat) (hA : A = some ⟨b, 0, none⟩) (hk : k < n) (W : World) : (Instr.indexAt 95 (.slice A n c) (.int .i64 (k : Int))).run Tryz.prog W = .ok (.pointer (some ⟨b, k * 13, none⟩)) W := by
 subst hA
 have hs : ∀ W, (sizeOf 49).run Tryz.prog W = .ok 13 W := fun W => by kernel_rfl
 simp [Instr.indexAt, run_underlying Tryz.underlying95, asIntOf, hs, hk, Addr.add]
 exact fun h => h.symm
theorem own_part {w : World} {base g n cap : Nat} {l : List Tr} (h : w.ownsRow base 49 13 (.slice (some ⟨g, 0, none⟩) n cap) n (flatE l)) {i : Nat} (hi : i < l.length) {hd : Hd} {ks : List Tr} (ht : l.getD i t0 = .mk hd ks) : C13k w g (i * 13) hd ks.length := by
 have key : ∀ j x, (cellsT (.mk hd ks))[j]? = some x → w.cell? ⟨g, i * 13 + j, none⟩ = some x := fun j x hx => by
  have := h.cells (g := g) rfl (i * 13 + j) x (flatE_at l i hi j x (by rw [ht]; exact hx))
  rwa [addr_plus] at this
 exact ⟨key 0 _ rfl, key 1 _ rfl, key 2 _ rfl, key 3 _ rfl, key 4 _ rfl, key 5 _ rfl, key 6 _ rfl, key 7 _ rfl, key 8 _ rfl, key 9 _ rfl, key 10 _ rfl, key 11 _ rfl, key 12 _ rfl⟩
theorem arr_over (h g : Hd) (m n : Nat) : ((((((((((((((arr h m).setIfInBounds 0 (.int .i64 g.k)).setIfInBounds 1 (.int .i64 g.o)).setIfInBounds 2 (.int .u64 (g.v : Int))).setIfInBounds 3 (.string g.s)).setIfInBounds 4 (.slice g.ma g.ms.length g.mc)).setIfInBounds 5 (.int .i64 g.wd)).setIfInBounds 6 (.int .i64 g.off)).setIfInBounds 7 (.bool g.ha)).setIfInBounds 8 (.int .i64 g.tm)).setIfInBounds 9 (.int .i64 g.how)).setIfInBounds 10 (.slice g.na g.ns.length g.nc)).setIfInBounds 11 (.bool g.bo)).setIfInBounds 12 (.slice g.ka n g.kc)) = arr g n := by kernel_rfl
theorem Pv.over {w0 : World} {b : Nat} {w : World} {x : List UInt8} {h : Hd} {m : Nat} {v : Value} {D : List Tr} {W : World} (hbw : b < w.heap.size) (hw : w0.heap.size ≤ w.heap.size) (p : Pv w0 b w x (arr h m) v D W) (g : Hd) (n : Nat) :
 Pv w0 b w x (arr g n) v D (((((((((((((W.setCell ⟨w.heap.size, 0, none⟩ (.int .i64 g.k)).setCell ⟨w.heap.size, 1, none⟩ (.int .i64 g.o)).setCell ⟨w.heap.size, 2, none⟩ (.int .u64 (g.v : Int))).setCell ⟨w.heap.size, 3, none⟩ (.string g.s)).setCell ⟨w.heap.size, 4, none⟩ (.slice g.ma g.ms.length g.mc)).setCell ⟨w.heap.size, 5, none⟩ (.int .i64 g.wd)).setCell ⟨w.heap.size, 6, none⟩ (.int .i64 g.off)).setCell ⟨w.heap.size, 7, none⟩ (.bool g.ha)).setCell ⟨w.heap.size, 8, none⟩ (.int .i64 g.tm)).setCell ⟨w.heap.size, 9, none⟩ (.int .i64 g.how)).setCell ⟨w.heap.size, 10, none⟩ (.slice g.na g.ns.length g.nc)).setCell ⟨w.heap.size, 11, none⟩ (.bool g.bo)).setCell ⟨w.heap.size, 12, none⟩ (.slice g.ka n g.kc)) := by
 have := ((((((((((((p.set hbw hw 0 (.int .i64 g.k)).set hbw hw 1 (.int .i64 g.o)).set hbw hw 2 (.int .u64 (g.v : Int))).set hbw hw 3 (.string g.s)).set hbw hw 4 (.slice g.ma g.ms.length g.mc)).set hbw hw 5 (.int .i64 g.wd)).set hbw hw 6 (.int .i64 g.off)).set hbw hw 7 (.bool g.ha)).set hbw hw 8 (.int .i64 g.tm)).set hbw hw 9 (.int .i64 g.how)).set hbw hw 10 (.slice g.na g.ns.length g.nc)).set hbw hw 11 (.bool g.bo)).set hbw hw 12 (.slice g.ka n g.kc)
 rwa [arr_over] at this
end Go.Proofs.YticmkabafmmlhaaGreatDoor.Ck

set_option linter.unusedVariables false
set_option linter.unusedSimpArgs false
set_option maxHeartbeats 4000000
namespace Go.Proofs.YticmkabafmmlhaaGreatDoor.Ck
open Go.RowKit
open Lib (hid)
set_option maxRecDepth 100000
structure Sp (w0 : World) (b : Nat) (P : Tr → Prop) : Prop where
 pg : ∀ q, P q → q.h.k = 6 → PG w0 b q
 kid : ∀ q, P q → q.h.k = 6 → P (kid0 q) ∧ szF (kid0 q) < szF q
 leaf : ∀ q, P q → q.h.k ≠ 6 → PartC w0 b 16 q (printF q)
def DownR (w0 : World) (b : Nat) (P : Tr → Prop) (w : World) (acc r : List UInt8) (D : List Tr) (hd : Hd) (ks : List Tr) (v : Value) (W : World) : Prop :=
 P (.mk hd ks) ∧ (∀ q, q ∈ D → PG w0 b q) ∧ acc ++ preF D ++ printF (.mk hd ks) ++ postF D = r ∧ Pv w0 b w (acc ++ preF D) (arr hd ks.length) v D W ∧ D.length + szF (.mk hd ks) ≤ 700
theorem down_len {r acc : List UInt8} {x y z : List UInt8} (h : acc ++ x ++ y ++ z = r) (hl : r.length ≤ 140737488355328) : (acc ++ x).length ≤ 140737488355328 ∧ (acc ++ x ++ y).length ≤ 140737488355328 := by
 rw [← h] at hl
 simp only [List.length_append] at hl ⊢
 omega
theorem pair_put {w0 : World} {b : Nat} (P : Tr → Prop) (hP : Sp w0 b P) (t : Tr) (ht : P t) (hs : szF t ≤ 700) : PartC w0 b 35 t (printF t) := by
 intro acc w hw hb hl
 obtain ⟨h, ks⟩ := t
 obtain ⟨r, hr⟩ : ∃ a, acc ++ printF (.mk h ks) = a := ⟨_, rfl⟩
 have hlr : r.length ≤ 140737488355328 := by rw [← hr, List.length_append]; exact hl
 rw [hr]
 have hbw : b < w.heap.size := hw.lt.2
 have hww : w0.heap.size ≤ w.heap.size := hb.size
 have HS0 : Hid (St w0 b acc w (w.alloc (.cells (arr h ks.length) 49))) := hid ((St.first hw hb).alloc _)
 have HD0 : Hid (DownR w0 b P w acc r [] h ks (.slice none 0 0) (w.alloc (.cells (arr h ks.length) 49))) :=
  ⟨ht, (fun q hq => absurd hq List.not_mem_nil), (by simp [preF, postF, hr]), ⟨by rw [preF, List.append_nil]; exact HS0.out, Blk.new w 49 _, World.ownsRow_nil _ _ _ _⟩, (by rw [List.length_nil, Nat.zero_add]; exact hs)⟩
 have HP := hid hP
 have HPU := hid (fun (x : List UInt8) (l : List ByteArray) (n : Nat) (hn : l.length = n) (cs : Array Value) (hcs : cs = strs l) W (hW : St w0 b x w W) (h9 : n ≤ 1000) (y : List UInt8) (hy : x ++ cat l = y) (hy2 : y.length ≤ 140737488355328) => putC w0 b w x l n hn cs hcs W hW h9 y hy hy2)
 have HLR := hid hlr
 have HSZ := hid hs
 rw [valT_arr]
 clear hr hl hw hb ht hs hP HS0 hlr
 unfold arr
 go_enter Tryz.func35, Tryz.ntmps35
 go_wp2_with fail
 go_loopg [4] 700 (fun g s4 wx => ∃ D hd ks', szF (.mk hd ks') ≤ g ∧ Hid (DownR w0 b P w acc r D hd ks' s4 wx))
 case atStart => exact ⟨[], h, ks, HSZ.out, HD0⟩
 case round =>
  obtain ⟨D, hd, ks', hg, HR⟩ := hrel
  obtain ⟨q1, q2, q3, q4, q5⟩ := HR.out
  obtain ⟨c0, c1, c2, c3, c4, c5, c6, c7, c8, c9, c10, c11, c12⟩ := blk13 (h := hd) (n := ks'.length) q4.bl
  have hl2 := down_len q3 HLR.out
  have HQ2 := hid q2
  have HQ3 := hid q3
  have HQ4 := hid q4
  have HL2 := hid hl2
  by_cases hk : hd.k = 6
  · have hpg := HP.out.pg _ q1 hk
    have hkd := HP.out.kid _ q1 hk
    have HN2 : Hid (ks'.length = 2) := hid hpg.n
    have HK6 := hid hk
    have d6 : (hd.k == 6) = true := by simp [hk]
    have hT2 : Trs w0 hd.ka ks' := hpg.t
    have hwd : ∀ W, Below w0.heap.size w0 W → Calls Tryz.prog 37 #[valT (.mk hd ks'), .int .i64 0] W fun e w' => e = .returned (.bool (wr0 (.mk hd ks'))) ∧ Below W.heap.size W w' := fun W hW => wrapped_any hd ks' 0 W (hT2.below hW) (by have := HN2.out; omega)
    have hopen : acc ++ preF (D ++ [.mk hd ks']) = acc ++ preF D ++ openT (wr0 (.mk hd ks')) := by rw [preF_snoc, List.append_assoc]
    have hol : (acc ++ preF (D ++ [.mk hd ks'])).length ≤ 140737488355328 := by
     have := q3
     rw [print_pair (.mk hd ks') HK6.out HN2.out] at this
     have hl := HLR.out
     rw [← this] at hl
     rw [hopen]
     simp only [List.length_append] at hl ⊢
     omega
    obtain ⟨so, hso⟩ : ∃ so, wr0 (.mk hd ks') = so := ⟨_, rfl⟩
    rw [hso] at hopen
    simp only [hso] at hwd
    rw [valT_arr] at hwd
    have HWD := hid hwd
    have HT2 := hid hT2
    have HPG := hid hpg
    have HOP := hid hopen
    have HOL := hid hol
    have HBW : Hid (Blk (wr.alloc (.cells (arr hd ks'.length) 49)) wr.heap.size 49 (arr hd ks'.length)) := hid (Blk.new wr 49 _)
    have HV5 := hid (HQ4.out.alloc (.cells (arr hd ks'.length) 49))
    have hDl : D.length ≤ 1400 := by omega
    have hsz5 : w.heap.size + 1 ≤ (wr.alloc (.cells (arr hd ks'.length) 49)).heap.size := by have := HQ4.out.bl.lt; rw [World.size_alloc]; omega
    clear hk hpg q1 q2 q3 q4 hT2 hwd hopen hol hso HR hl2
    unfold arr at HBW HV5 hsz5 HWD
    go_wp2_with (at_builtin; refine wpList_append_part _ rfl _ _ rfl (w.heap.size + 1) _ D rfl HV5.out.ow _ 1 hd ks' rfl HBW.out hDl hsz5 ?_)
    intro v' w6 hown hgr
    have HV6 : Hid (Pv w0 b w (acc ++ preF D) (arr hd ks'.length) v' (D ++ [.mk hd ks']) w6) := hid (HV5.out.app hbw hww (by rw [List.length_append]; exact hown) hgr)
    clear hown hgr HV5 HBW hsz5 hDl c0 c1 c2 c3 c4 c5 c6 c7 c8 c9 c10 c11 c12
    obtain ⟨c0, c1, c2, c3, c4, c5, c6, c7, c8, c9, c10, c11, c12⟩ := blk13 (h := hd) (n := ks'.length) HV6.out.bl
    go_wp2_with fail
    refine (HWD.out _ HV6.out.st.low).mono ?_
    rintro e w7 ⟨rfl, hb7⟩
    have HV7' := hid (HV6.out.below hb7)
    clear hb7 c0 c1 c2 c3 c4 c5 c6 c7 c8 c9 c10 c11 c12 HV6 HWD
    cases so with
    | true =>
      go_wp2_with fail
      refine (HPU.out _ [⟨#[40]⟩] 1 rfl _ rfl _ HV7'.out.st (by decide) (acc ++ preF (D ++ [.mk hd ks'])) (by rw [HOP.out]; rfl) HOL.out).mono ?_
      rintro e w8 hq
      obtain ⟨rfl, h8⟩ := HV7'.out.out hbw hq
      have HV7 := hid h8
      clear hq h8 HV7'
      obtain ⟨kb, off, hA, hkb, hc⟩ := (HT2.out.below HV7.out.st.low) (by rw [HN2.out]; decide)
      obtain ⟨k0, k1, k2, k3, k4, k5, k6, k7, k8, k9, k10, k11, k12⟩ := blk13 (h := hd) (n := 2) (by have := HV7.out.bl; rw [HN2.out] at this; exact this)
      have z := fun i => HV7.out.bl.frozen i
      have hix : ∀ W, (Instr.indexAt 25 (.slice hd.ka 2 hd.kc) (.int .i64 0)).run Tryz.prog W = .ok (.pointer (some ⟨kb, off, none⟩)) W := fun W => by
       have := index_kid hd.ka 2 hd.kc 0 kb off hA (by decide) W
       rw [Nat.zero_mul, Nat.add_zero] at this
       exact this
      cases ht : ks'.getD 0 t0 with
      | mk h2 ks2 =>
        obtain ⟨c0, c1, c2, c3, c4, c5, c6, c7, c8, c9, c10, c11, c12⟩ := Trs.at hc (by rw [HN2.out]; decide) ht
        rw [Nat.zero_mul] at c0 c1 c2 c3 c4 c5 c6 c7 c8 c9 c10 c11 c12
        simp only [Nat.add_zero] at c0 c1 c2 c3 c4 c5 c6 c7 c8 c9 c10 c11 c12
        have HV9 := hid (HV7.out.over hbw hww h2 ks2.length)
        have hkd2 : P (.mk h2 ks2) ∧ szF (.mk h2 ks2) < szF (.mk hd ks') := by rw [← ht]; exact hkd
        have hr9 : acc ++ preF (D ++ [.mk hd ks']) ++ printF (.mk h2 ks2) ++ postF (D ++ [.mk hd ks']) = r := by
         have := HQ3.out
         rw [print_pair (.mk hd ks') HK6.out HN2.out, show kid0 (.mk hd ks') = .mk h2 ks2 from ht] at this
         rw [← this, preF_snoc, postF_snoc]
         simp only [List.append_assoc]
        have hall : ∀ q, q ∈ D ++ [.mk hd ks'] → PG w0 b q := fun q hq => by
         rcases List.mem_append.1 hq with hq | hq
         · exact HQ2.out q hq
         · rw [List.mem_singleton.1 hq]; exact HPG.out
        have HN9 : Hid (DownR w0 b P w acc r (D ++ [.mk hd ks']) h2 ks2 _ _) := hid ⟨hkd2.1, hall, hr9, HV9.out, by have := hkd2.2; rw [List.length_append, List.length_singleton]; omega⟩
        obtain ⟨g1, rfl⟩ : ∃ g1, gk = g1 + 1 := ⟨gk - 1, by omega⟩
        clear hc hA hkb hr9 hall ht HV9
        go_wp2_with fail
        go_roundg g1
        case measure => omega
        case rel => exact ⟨D ++ [.mk hd ks'], h2, ks2, by omega, HN9⟩
    | false =>
      have HV7 : Hid (Pv w0 b w (acc ++ preF (D ++ [.mk hd ks'])) (arr hd ks'.length) v' (D ++ [.mk hd ks']) w7) := by
       rw [HOP.out]
       show Hid (Pv w0 b w (acc ++ preF D ++ []) _ _ _ _)
       rw [List.append_nil]
       exact HV7'
      clear HV7'
      obtain ⟨kb, off, hA, hkb, hc⟩ := (HT2.out.below HV7.out.st.low) (by rw [HN2.out]; decide)
      obtain ⟨k0, k1, k2, k3, k4, k5, k6, k7, k8, k9, k10, k11, k12⟩ := blk13 (h := hd) (n := 2) (by have := HV7.out.bl; rw [HN2.out] at this; exact this)
      have z := fun i => HV7.out.bl.frozen i
      have hix : ∀ W, (Instr.indexAt 25 (.slice hd.ka 2 hd.kc) (.int .i64 0)).run Tryz.prog W = .ok (.pointer (some ⟨kb, off, none⟩)) W := fun W => by
       have := index_kid hd.ka 2 hd.kc 0 kb off hA (by decide) W
       rw [Nat.zero_mul, Nat.add_zero] at this
       exact this
      cases ht : ks'.getD 0 t0 with
      | mk h2 ks2 =>
        obtain ⟨c0, c1, c2, c3, c4, c5, c6, c7, c8, c9, c10, c11, c12⟩ := Trs.at hc (by rw [HN2.out]; decide) ht
        rw [Nat.zero_mul] at c0 c1 c2 c3 c4 c5 c6 c7 c8 c9 c10 c11 c12
        simp only [Nat.add_zero] at c0 c1 c2 c3 c4 c5 c6 c7 c8 c9 c10 c11 c12
        have HV9 := hid (HV7.out.over hbw hww h2 ks2.length)
        have hkd2 : P (.mk h2 ks2) ∧ szF (.mk h2 ks2) < szF (.mk hd ks') := by rw [← ht]; exact hkd
        have hr9 : acc ++ preF (D ++ [.mk hd ks']) ++ printF (.mk h2 ks2) ++ postF (D ++ [.mk hd ks']) = r := by
         have := HQ3.out
         rw [print_pair (.mk hd ks') HK6.out HN2.out, show kid0 (.mk hd ks') = .mk h2 ks2 from ht] at this
         rw [← this, preF_snoc, postF_snoc]
         simp only [List.append_assoc]
        have hall : ∀ q, q ∈ D ++ [.mk hd ks'] → PG w0 b q := fun q hq => by
         rcases List.mem_append.1 hq with hq | hq
         · exact HQ2.out q hq
         · rw [List.mem_singleton.1 hq]; exact HPG.out
        have HN9 : Hid (DownR w0 b P w acc r (D ++ [.mk hd ks']) h2 ks2 _ _) := hid ⟨hkd2.1, hall, hr9, HV9.out, by have := hkd2.2; rw [List.length_append, List.length_singleton]; omega⟩
        obtain ⟨g1, rfl⟩ : ∃ g1, gk = g1 + 1 := ⟨gk - 1, by omega⟩
        clear hc hA hkb hr9 hall ht HV9
        go_wp2_with fail
        go_roundg g1
        case measure => omega
        case rel => exact ⟨D ++ [.mk hd ks'], h2, ks2, by omega, HN9⟩
  · skip
    have hlf := HP.out.leaf _ q1 hk
    have HLF := hid (fun W (hW : St w0 b (acc ++ preF D) w W) => by
     have := hlf.call w (acc ++ preF D) W hW _ rfl hl2.2
     rw [valT_arr] at this
     exact this)
    obtain ⟨A, cap, rfl, hAn⟩ := own_len q4.ow
    clear q1 q2 q3 q4 hlf HR hl2 HP
    unfold arr at HLF
    have d6 : (hd.k == 6) = false := by simp [hk]
    go_wp2_with fail
    refine (HLF.out _ HQ4.out.st).mono ?_
    rintro e w7 hq
    obtain ⟨rfl, h7⟩ := HQ4.out.out hbw hq
    have HX7 : Hid (∃ x, x ++ postF (D.take D.length) = r ∧ Pv w0 b w x (arr hd ks'.length) (.slice A D.length cap) D w7) := hid ⟨_, by rw [List.take_length]; exact HQ3.out, h7⟩
    clear hq h7 c0 c1 c2 c3 c4 c5 c6 c7 c8 c9 c10 c11 c12 HQ4 d6
    have hwr : IntKind.i64.wrap ((D.length : Int) - 1) = (D.length : Int) - 1 := by rw [IntKind.wrap_i64]; omega
    go_wp2_with fail
    go_loopw [5] (fun s5 wx => ∃ m : Nat, m ≤ D.length ∧ s5 = .int .i64 ((m : Int) - 1) ∧ Hid (∃ x, x ++ postF (D.take m) = r ∧ Pv w0 b w x (arr hd ks'.length) (.slice A D.length cap) D wx)) (fun s5 _ => (intOf s5 + 1).toNat)
    case atStart => exact ⟨D.length, Nat.le_refl _, rfl, HX7⟩
    case round =>
     clear HX7 hwr
     obtain ⟨m, hm, rfl, HX⟩ := hrel
     obtain ⟨x, hx, hv⟩ := HX.out
     clear HX
     have HV := hid hv
     cases m with
     | zero =>
       have e0 : (((0 : Nat) : Int) - 1) = -1 := rfl
       rw [e0]
       have HXR : Hid (x = r) := by rw [List.take_zero, postF, List.append_nil] at hx; exact hx
       clear hx hv
       go_wp2_with fail
       go_end0
       have := HV.out.st.end_
       rwa [HXR.out] at this
     | succ j =>
       have e0 : (((j + 1 : Nat) : Int) - 1) = (j : Int) := by omega
       rw [e0]
       clear e0
       have hlt : j < D.length := by omega
       obtain ⟨g, cap', hvv, hbg, _, _⟩ := own_addr hv.ow (by omega)
       simp only [Value.slice.injEq] at hvv
       obtain ⟨rfl, _, rfl⟩ := hvv
       have hpg : PG w0 b (D.getD j t0) := HQ2.out _ (by rw [List.getD_eq_getElem?_getD, List.getElem?_eq_getElem hlt]; exact List.getElem_mem hlt)
       rw [post_take hlt] at hx
       cases hq : D.getD j t0 with
       | mk h2 ks2 =>
       rw [hq] at hpg hx
       have HN2 : Hid (ks2.length = 2) := hid hpg.n
       have hT2 : Trs w0 h2.ka ks2 := hpg.t
       have hix := fun W => index_part (some ⟨g, 0, none⟩) D.length cap j g rfl hlt W
       obtain ⟨so, hso⟩ : ∃ so, wr0 (.mk h2 ks2) = so := ⟨_, rfl⟩
       rw [hso] at hx
       have HWD : Hid (∀ W, Below w0.heap.size w0 W → Calls Tryz.prog 37 #[.agg (arr h2 ks2.length), .int .i64 0] W fun e w' => e = .returned (.bool so) ∧ Below W.heap.size W w') := fun W hW => by
        have := wrapped_any h2 ks2 0 W (hT2.below hW) (by have := HN2.out; omega)
        rw [show wrapF h2 0 (ks2.getD 0 t0) = so from hso] at this
        exact this
       have hy : x ++ closeT so ++ rightQ (.mk h2 ks2) ++ postF (D.take j) = r := by rw [← hx]; simp only [List.append_assoc]
       have hll := HLR.out
       rw [← hy] at hll
       simp only [List.length_append] at hll
       have HY := hid hy
       have hl2 : (x ++ closeT so).length ≤ 140737488355328 := by rw [List.length_append]; omega
       have HRI := hid (fun W (hW : St w0 b (x ++ closeT so) w W) => by
        have := hpg.r.call w (x ++ closeT so) W hW _ rfl (by simp only [List.length_append]; omega)
        rw [valT_arr] at this
        exact this)
       obtain ⟨c0, c1, c2, c3, c4, c5, c6, c7, c8, c9, c10, c11, c12⟩ := own_part hv.ow hlt hq
       have HDJ := hid hq
       clear hx hv hpg hT2 hso hy hll hq
       unfold arr at HWD HRI
       have hj0 : (0 : Int) ≤ (j : Int) := by omega
       have hwj : IntKind.i64.wrap ((j : Int) - 1) = (j : Int) - 1 := by rw [IntKind.wrap_i64]; omega
       go_wp2_with fail
       refine (HWD.out _ HV.out.st.low).mono ?_
       rintro e w8 ⟨rfl, hb8⟩
       have HV8 := hid (HV.out.below hb8)
       clear hb8 c0 c1 c2 c3 c4 c5 c6 c7 c8 c9 c10 c11 c12
       cases so with
       | true =>
         go_wp2_with fail
         refine (HPU.out x [⟨#[41]⟩] 1 rfl _ rfl _ HV8.out.st (by decide) (x ++ closeT true) rfl hl2).mono ?_
         rintro e w9 hq
         obtain ⟨rfl, h9⟩ := HV8.out.out hbw hq
         have HV9 := hid h9
         clear hq h9
         obtain ⟨c0, c1, c2, c3, c4, c5, c6, c7, c8, c9, c10, c11, c12⟩ := own_part HV9.out.ow hlt HDJ.out
         go_wp2_with fail
         refine (HRI.out _ HV9.out.st).mono ?_
         rintro e w10 hq
         obtain ⟨rfl, h10⟩ := HV9.out.out hbw hq
         have HX9 : Hid (∃ x, x ++ postF (D.take j) = r ∧ Pv w0 b w x (arr hd ks'.length) (.slice (some ⟨g, 0, none⟩) D.length cap) D w10) := hid ⟨_, HY.out, h10⟩
         clear hq h10 c0 c1 c2 c3 c4 c5 c6 c7 c8 c9 c10 c11 c12
         go_wp2_with fail
         go_roundw
         case rel => exact ⟨j, by omega, rfl, HX9⟩
         case measure => simp [intOf]
       | false =>
         have HV9 : Hid (Pv w0 b w (x ++ closeT false) (arr hd ks'.length) (.slice (some ⟨g, 0, none⟩) D.length cap) D w8) := by
          show Hid (Pv w0 b w (x ++ []) _ _ _ _)
          rw [List.append_nil]
          exact HV8
         obtain ⟨c0, c1, c2, c3, c4, c5, c6, c7, c8, c9, c10, c11, c12⟩ := own_part HV9.out.ow hlt HDJ.out
         go_wp2_with fail
         refine (HRI.out _ HV9.out.st).mono ?_
         rintro e w10 hq
         obtain ⟨rfl, h10⟩ := HV9.out.out hbw hq
         have HX9 : Hid (∃ x, x ++ postF (D.take j) = r ∧ Pv w0 b w x (arr hd ks'.length) (.slice (some ⟨g, 0, none⟩) D.length cap) D w10) := hid ⟨_, HY.out, h10⟩
         clear hq h10 c0 c1 c2 c3 c4 c5 c6 c7 c8 c9 c10 c11 c12
         go_wp2_with fail
         go_roundw
         case rel => exact ⟨j, by omega, rfl, HX9⟩
         case measure => simp [intOf]
end Go.Proofs.YticmkabafmmlhaaGreatDoor.Ck

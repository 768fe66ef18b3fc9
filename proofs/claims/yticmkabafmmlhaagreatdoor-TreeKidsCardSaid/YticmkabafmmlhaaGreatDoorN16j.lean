/- A stack of parts: its last one read, taken off, others put on. No condition. -/
import Derived.Test.YticmkabafmmlhaaGreatDoorN12j
import Derived.Maps.AppendAt
import Derived.Deep.AppendLies
set_option linter.unusedVariables false
set_option linter.unusedSimpArgs false
namespace Go.Proofs.YticmkabafmmlhaaGreatDoor.Ck
open Go.RowKit
theorem addr_none (b off k : Nat) : (⟨b, off, none⟩ : Addr).add k = ⟨b, off + k, none⟩ := by unfold Addr.add; split <;> simp_all
theorem flatE_inv (l : List Tr) : ∀ (j : Nat) (u : Value), (flatE l)[j]? = some u → ∃ i r, j = i * 13 + r ∧ i < l.length ∧ (cellsT (l.getD i t0))[r]? = some u := by
 induction l with
 | nil => intro j u h; simp [flatE] at h
 | cons t l ih =>
   intro j u h
   rw [flatE] at h
   by_cases hj : j < 13
   · rw [List.getElem?_append_left (by rw [cellsT_length]; exact hj)] at h
     exact ⟨0, j, by omega, by simp, by simpa using h⟩
   · rw [List.getElem?_append_right (by rw [cellsT_length]; omega), cellsT_length] at h
     obtain ⟨i, r, h1, h2, h3⟩ := ih _ _ h
     exact ⟨i + 1, r, by omega, by simpa using h2, by simpa using h3⟩
theorem one_cell (t : Tr) : ∀ u ∈ cellsT t, u.oneCell' = true := by
 cases t with
 | mk h ks =>
   intro u hu
   simp only [cellsT, List.mem_cons, List.not_mem_nil, or_false] at hu
   rcases hu with rfl | rfl | rfl | rfl | rfl | rfl | rfl | rfl | rfl | rfl | rfl | rfl | rfl <;> rfl
theorem one_cells (l : List Tr) : ∀ u ∈ flatE l, u.oneCell' = true := by
 induction l with
 | nil => intro u hu; cases hu
 | cons t l ih =>
   intro u hu
   rw [flatE] at hu
   rcases List.mem_append.1 hu with h | h
   · exact one_cell t u h
   · exact ih u h
theorem own_cut {w : World} {base : Nat} {e : TypeId} {size : Nat} {ad : Addr} {n m cap : Nat} {xs ys : List Value} (h : w.ownsRow base e size (.slice (some ad) (n + m) cap) (n + m) (xs ++ ys)) (hx : xs.length = n * size) : w.ownsRow base e size (.slice (some ad) n cap) n xs := by
 refine ⟨hx, ?_⟩
 rcases h.2 with ⟨hv, _⟩ | ⟨g, cap', cur, hv, hb, hg, hn, hm, hs, ht⟩
 · cases hv
 · simp only [Value.slice.injEq, Option.some.injEq] at hv
   obtain ⟨rfl, _, rfl⟩ := hv
   refine .inr ⟨g, cap, cur, rfl, hb, hg, by omega, hm, hs, ?_⟩
   have : (cur.toList.take ((n + m) * size)).take (n * size) = xs := by rw [ht, List.take_left' hx]
   rwa [List.take_take, Nat.min_eq_left (Nat.mul_le_mul_right _ (by omega))] at this
theorem own_addr {w : World} {base : Nat} {e : TypeId} {size : Nat} {v : Value} {n : Nat} {xs : List Value} (h : w.ownsRow base e size v n xs) (hn : 0 < n) : ∃ g cap, v = .slice (some ⟨g, 0, none⟩) n cap ∧ base ≤ g ∧ g < w.heap.size ∧ n ≤ cap := by
 rcases h.2 with ⟨_, h0⟩ | ⟨g, cap, cur, hv, hb, hg, hle, _⟩
 · omega
 · exact ⟨g, cap, hv, hb, (Array.getElem?_eq_some_iff.1 hg).1, hle⟩
theorem own_len {w : World} {base : Nat} {e : TypeId} {size : Nat} {v : Value} {n : Nat} {xs : List Value} (h : w.ownsRow base e size v n xs) : ∃ A cap, v = .slice A n cap ∧ (A = none → n = 0 ∧ cap = 0) := by
 rcases h.2 with ⟨hv, h0⟩ | ⟨g, cap, cur, hv, _⟩
 · exact ⟨none, 0, by rw [hv, h0], fun _ => ⟨h0, rfl⟩⟩
 · exact ⟨_, cap, hv, fun h => by cases h⟩
theorem addr_plus (g k : Nat) : (⟨g, 0, none⟩ : Addr).add k = ⟨g, k, none⟩ := by rw [addr_none]; simp
theorem own_at {w : World} {base g n cap : Nat} {l : List Tr} (h : w.ownsRow base 27 13 (.slice (some ⟨g, 0, none⟩) n cap) n (flatE l)) {i : Nat} (hi : i < l.length) {hd : Hd} {ks : List Tr} (ht : l.getD i t0 = .mk hd ks) :
 w.cell? ⟨g, i * 13, none⟩ = some (.int .i64 hd.k) ∧ w.cell? ⟨g, i * 13 + 1, none⟩ = some (.int .i64 hd.o) ∧ w.cell? ⟨g, i * 13 + 2, none⟩ = some (.int .u64 (hd.v : Int)) ∧ w.cell? ⟨g, i * 13 + 3, none⟩ = some (.string hd.s) ∧
 w.cell? ⟨g, i * 13 + 4, none⟩ = some (.slice hd.ma hd.ms.length hd.mc) ∧ w.cell? ⟨g, i * 13 + 5, none⟩ = some (.int .i64 hd.wd) ∧ w.cell? ⟨g, i * 13 + 6, none⟩ = some (.int .i64 hd.off) ∧ w.cell? ⟨g, i * 13 + 7, none⟩ = some (.bool hd.ha) ∧
 w.cell? ⟨g, i * 13 + 8, none⟩ = some (.int .i64 hd.tm) ∧ w.cell? ⟨g, i * 13 + 9, none⟩ = some (.int .i64 hd.how) ∧ w.cell? ⟨g, i * 13 + 10, none⟩ = some (.slice hd.na hd.ns.length hd.nc) ∧ w.cell? ⟨g, i * 13 + 11, none⟩ = some (.bool hd.bo) ∧ w.cell? ⟨g, i * 13 + 12, none⟩ = some (.slice hd.ka ks.length hd.kc) := by
 have key : ∀ j x, (cellsT (.mk hd ks))[j]? = some x → w.cell? ⟨g, i * 13 + j, none⟩ = some x := fun j x hx => by
  have := h.cells (g := g) rfl (i * 13 + j) x (flatE_at l i hi j x (by rw [ht]; exact hx))
  rwa [addr_plus] at this
 exact ⟨key 0 _ rfl, key 1 _ rfl, key 2 _ rfl, key 3 _ rfl, key 4 _ rfl, key 5 _ rfl, key 6 _ rfl, key 7 _ rfl, key 8 _ rfl, key 9 _ rfl, key 10 _ rfl, key 11 _ rfl, key 12 _ rfl⟩
theorem info27 : (Tryz.prog.info? 27).map (fun i => (i.zero.map (·.cells.size), i.size, i.bytes)) = some (some 13, 13, 160) := by kernel_rfl
theorem info_of {i : Option TypeInfo} {z s b : Nat} (h : i.map (fun i => (i.zero.map (·.cells.size), i.size, i.bytes)) = some (some z, s, b)) : ∃ i0 z0, i = some i0 ∧ i0.zero = some z0 ∧ z0.cells.size = z ∧ i0.size = s ∧ i0.bytes = b := by
 cases i with
 | none => cases h
 | some i0 =>
   simp only [Option.map_some, Option.some.injEq, Prod.mk.injEq] at h
   cases hz : i0.zero with
   | none => rw [hz] at h; simp at h
   | some z0 =>
     rw [hz] at h
     simp only [Option.map_some, Option.some.injEq] at h
     exact ⟨i0, z0, rfl, hz, h.1, h.2.1, h.2.2⟩
theorem wpList_append_trs {ops : Array Oper} {rest : List Oper} {o : Oper} {a : Act} {Q : Exit → Act → World → Prop} (w : World) (hgd : o.guard = none) (s x : Operand)
 (ho : o.op = .call { callee := .builtin .append, args := #[s, x], argTypes := #[25, 25] })
 (base : Nat) (v : Value) (l : List Tr) (hs : a.eval s = v) (hown : w.ownsRow base 27 13 v l.length (flatE l))
 (A : Option Addr) (c : Nat) (ks : List Tr) (hx : a.eval x = .slice A ks.length c) (hK : Trs w A ks) (hn : A = none → ks.length = 0 ∧ c = 0)
 (hlen : l.length + ks.length ≤ 1400) (hbase : base ≤ w.heap.size)
 (h : ∀ v' w', w'.ownsRow base 27 13 v' (l ++ ks).length (flatE (l ++ ks)) → w.grownBy w' v.ownBlock → wpList Tryz.prog ops Q rest (a.put o.dst v') w') :
 wpList Tryz.prog ops Q (o :: rest) a w := by
 obtain ⟨i, z, hi, hz, hzs, hsz, hby⟩ := info_of info27
 cases A with
 | none =>
   obtain ⟨h0, rfl⟩ := hn rfl
   have hk : ks = [] := List.length_eq_zero_iff.1 h0
   subst hk
   refine wpList_append_own_none hgd s x 25 ho base 27 i 13 Tryz.underlying25 hi v l.length (flatE l) hs hown hx ?_
   refine h v w (by rw [List.append_nil]; exact hown) ⟨rfl, rfl, rfl, Nat.le_refl _, fun _ _ _ => rfl⟩
 | some ad =>
   refine wpList_append_own w hgd s x 25 ho base 27 i z 13 160 Tryz.underlying25 hi hz hsz hby hzs (by decide) v l.length (flatE l) hs hown ad ks.length c (flatE ks) hx (flatE_length ks) ?_ (one_cells ks) (by unfold maxLen; omega) (by omega) hbase ?_
   · intro j u hu
     obtain ⟨q, r, hj, hq, hr⟩ := flatE_inv ks j u hu
     obtain ⟨b, off, hA, hb, hc⟩ := hK (by omega)
     cases hA
     have := hc q hq r u hr
     rw [addr_none, hj, ← Nat.add_assoc]
     exact this
   · intro v' w' h1 h2 _
     exact h v' w' (by rw [flatE_append, List.length_append]; exact h1) h2
end Go.Proofs.YticmkabafmmlhaaGreatDoor.Ck

set_option linter.unusedVariables false
set_option linter.unusedSimpArgs false
namespace Go.Proofs.YticmkabafmmlhaaGreatDoor.Ck
open Go.RowKit
def cellsN (x : Nd) : List Value := cellsT x.1 ++ [.int .i64 (x.2 : Int)]
theorem cellsN_length (x : Nd) : (cellsN x).length = 14 := by unfold cellsN; rw [List.length_append, cellsT_length]; rfl
def nd0 : Nd := (t0, 0)
def flatN : List Nd → List Value
 | [] => []
 | t :: l => cellsN t ++ flatN l
theorem flatN_append (a b : List Nd) : flatN (a ++ b) = flatN a ++ flatN b := by
 induction a with
 | nil => rfl
 | cons p a ih => simp [flatN, ih]
theorem flatN_length (l : List Nd) : (flatN l).length = l.length * 14 := by
 induction l with
 | nil => rfl
 | cons p a ih => simp [flatN, ih, cellsN_length]; omega
theorem flatN_at (l : List Nd) (i : Nat) (h : i < l.length) (j : Nat) (x : Value) (hx : (cellsN (l.getD i nd0))[j]? = some x) : (flatN l)[i * 14 + j]? = some x := by
 induction l generalizing i with
 | nil => simp at h
 | cons p a ih =>
   have hj : j < 14 := by
    have := (List.getElem?_eq_some_iff.1 hx).1
    rwa [cellsN_length] at this
   cases i with
   | zero =>
     simp at hx
     simp only [flatN, Nat.zero_mul, Nat.zero_add]
     rw [List.getElem?_append_left (by rw [cellsN_length]; exact hj)]
     exact hx
   | succ i =>
     have := ih i (by simpa using h) (by simpa using hx)
     simp only [flatN]
     rw [List.getElem?_append_right (by rw [cellsN_length]; omega), cellsN_length, show (i + 1) * 14 + j - 14 = i * 14 + j by omega]
     exact this
theorem one_cellN (t : Nd) : ∀ u ∈ cellsN t, u.oneCell' = true := by
 intro u hu
 unfold cellsN at hu
 rcases List.mem_append.1 hu with h | h
 · exact one_cell t.1 u h
 · rw [List.mem_singleton.1 h]; rfl
theorem own_atN {w : World} {base g n cap : Nat} {l : List Nd} (h : w.ownsRow base 52 14 (.slice (some ⟨g, 0, none⟩) n cap) n (flatN l)) {i : Nat} (hi : i < l.length) {hd : Hd} {ks : List Tr} {d : Nat} (ht : l.getD i nd0 = (.mk hd ks, d)) :
 w.cell? ⟨g, i * 14, none⟩ = some (.int .i64 hd.k) ∧ w.cell? ⟨g, i * 14 + 1, none⟩ = some (.int .i64 hd.o) ∧ w.cell? ⟨g, i * 14 + 2, none⟩ = some (.int .u64 (hd.v : Int)) ∧ w.cell? ⟨g, i * 14 + 3, none⟩ = some (.string hd.s) ∧
 w.cell? ⟨g, i * 14 + 4, none⟩ = some (.slice hd.ma hd.ms.length hd.mc) ∧ w.cell? ⟨g, i * 14 + 5, none⟩ = some (.int .i64 hd.wd) ∧ w.cell? ⟨g, i * 14 + 6, none⟩ = some (.int .i64 hd.off) ∧ w.cell? ⟨g, i * 14 + 7, none⟩ = some (.bool hd.ha) ∧
 w.cell? ⟨g, i * 14 + 8, none⟩ = some (.int .i64 hd.tm) ∧ w.cell? ⟨g, i * 14 + 9, none⟩ = some (.int .i64 hd.how) ∧ w.cell? ⟨g, i * 14 + 10, none⟩ = some (.slice hd.na hd.ns.length hd.nc) ∧ w.cell? ⟨g, i * 14 + 11, none⟩ = some (.bool hd.bo) ∧ w.cell? ⟨g, i * 14 + 12, none⟩ = some (.slice hd.ka ks.length hd.kc) ∧ w.cell? ⟨g, i * 14 + 13, none⟩ = some (.int .i64 (d : Int)) := by
 have key : ∀ j x, (cellsN (.mk hd ks, d))[j]? = some x → w.cell? ⟨g, i * 14 + j, none⟩ = some x := fun j x hx => by
  have := h.cells (g := g) rfl (i * 14 + j) x (flatN_at l i hi j x (by rw [ht]; exact hx))
  rwa [addr_plus] at this
 exact ⟨key 0 _ rfl, key 1 _ rfl, key 2 _ rfl, key 3 _ rfl, key 4 _ rfl, key 5 _ rfl, key 6 _ rfl, key 7 _ rfl, key 8 _ rfl, key 9 _ rfl, key 10 _ rfl, key 11 _ rfl, key 12 _ rfl, key 13 _ rfl⟩
theorem index_kid (A : Option Addr) (n c k b off : Nat) (hA : A = some ⟨b, off, none⟩) (hk : k < n) (W : World) : (Instr.indexAt 25 (.slice A n c) (.int .i64 (k : Int))).run Tryz.prog W = .ok (.pointer (some ⟨b, off + k * 13, none⟩)) W := by
 subst hA
 have hs : ∀ W, (sizeOf 27).run Tryz.prog W = .ok 13 W := fun W => by kernel_rfl
 simp [Instr.indexAt, run_underlying Tryz.underlying25, asIntOf, hs, hk, Addr.add]
theorem slice_popN (g n cap : Nat) (h : n + 1 ≤ cap) (W : World) : (Instr.slice 53 (.slice (some ⟨g, 0, none⟩) (n + 1) cap) none (some (.int .i64 (n : Int))) none).run Tryz.prog W = .ok (.slice (some ⟨g, 0, none⟩) n cap) W := by
 have e : Tryz.prog.underlying 53 = some (.slice (Tryz.prog.elem 53)) := by kernel_rfl
 have hs : ∀ W, (sizeOf (Tryz.prog.elem 53)).run Tryz.prog W = .ok 14 W := fun W => by kernel_rfl
 rw [run_slice_h W 53 _ _ _ e .i64 _ (by omega) (by omega), hs]
 simp [Result.andThen, sliced, Addr.add]
theorem info68 : (Tryz.prog.info? 52).map (fun i => (i.zero.map (·.cells.size), i.size, i.bytes)) = some (some 14, 14, 168) := by kernel_rfl
def arrN (h : Hd) (n : Nat) (d : Int) : Array Value := #[.int .i64 h.k, .int .i64 h.o, .int .u64 (h.v : Int), .string h.s, .slice h.ma h.ms.length h.mc, .int .i64 h.wd, .int .i64 h.off, .bool h.ha, .int .i64 h.tm, .int .i64 h.how, .slice h.na h.ns.length h.nc, .bool h.bo, .slice h.ka n h.kc, .int .i64 d]
theorem arrN_cells (h : Hd) (ks : List Tr) (d : Nat) : (arrN h ks.length (d : Int)).toList = cellsN (.mk h ks, d) := rfl
theorem step_append_nd {ops : Array Oper} {o : Oper} {a : Act} {K : Act → World → Prop} {Q : Exit → Act → World → Prop} {E : Prop} (w : World) (hgd : o.guard = none) (s x : Operand)
 (ho : o.op = .call { callee := .builtin .append, args := #[s, x], argTypes := #[53, 53] })
 (base : Nat) (v : Value) (l : List Nd) (hs : a.eval s = v) (hown : w.ownsRow base 52 14 v l.length (flatN l))
 (g c : Nat) (h : Hd) (ks : List Tr) (d : Nat) (hx : a.eval x = .slice (some ⟨g, 0, none⟩) 1 c) (hK : Blk w g 52 (arrN h ks.length (d : Int)))
 (hlen : l.length ≤ 1400) (hbase : base ≤ w.heap.size)
 (hh : ∀ v' w', w'.ownsRow base 52 14 v' (l ++ [(Tr.mk h ks, d)]).length (flatN (l ++ [(Tr.mk h ks, d)])) → w.grownBy w' v.ownBlock → (v'.ownBlock = v.ownBlock ∨ v'.ownBlock = some w.heap.size) → K (a.put o.dst v') w') :
 if Region.wanted o (yielded ops a.tmps) = true then Oper.wp Tryz.prog o a w K Q else E := by
 obtain ⟨i, z, hi, hz, hzs, hsz, hby⟩ := info_of info68
 refine step_append_lies w hgd s x 53 ho base 52 i z 14 168 Tryz.underlying53 hi hz hsz hby hzs (by decide) v l.length (flatN l) hs hown ⟨g, 0, none⟩ 1 c (cellsN (.mk h ks, d)) hx (cellsN_length _) ?_ (one_cellN _) (by decide) (by unfold maxLen; omega) (by omega) hbase _ rfl ?_
 · intro j u hu
   rw [addr_plus, hK.cell j]
   rw [← arrN_cells] at hu
   simpa using hu
 · intro g' cap' w' h1 h2 h3 _
   refine hh _ w' ?_ h2 (by rcases h3 with h | h; exact .inl (by rw [h]; rfl); exact .inr (by rw [← h]; rfl))
   have e : flatN (l ++ [(Tr.mk h ks, d)]) = flatN l ++ cellsN (.mk h ks, d) := by rw [flatN_append]; simp [flatN]
   rw [e, List.length_append]
   exact h1
abbrev C14 (W : World) (b : Nat) (h : Hd) (n : Nat) (d : Int) : Prop := C13 W b h n ∧ W.cell? ⟨b, 13, none⟩ = some (.int .i64 d)
theorem blk14 {W : World} {b : Nat} {t : TypeId} {h : Hd} {n : Nat} {d : Int} (c : Blk W b t (arrN h n d)) : C14 W b h n d :=
 ⟨⟨c.cell 0, c.cell 1, c.cell 2, c.cell 3, c.cell 4, c.cell 5, c.cell 6, c.cell 7, c.cell 8, c.cell 9, c.cell 10, c.cell 11, c.cell 12⟩, c.cell 13⟩
abbrev Kid (W4 : World) (a b : Nat) (h g : Hd) (n m : Nat) (d : Int) (W : World) : Prop := (C14 W a h n d ∧ C13 W b g m) ∧ Below W4.heap.size W4 W
end Go.Proofs.YticmkabafmmlhaaGreatDoor.Ck

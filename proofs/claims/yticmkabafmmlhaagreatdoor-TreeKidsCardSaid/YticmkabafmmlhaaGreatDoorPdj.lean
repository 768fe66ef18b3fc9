/- The writer: what it holds; put. Condition: the writer was made by the call, in a block of its own. -/
import Derived.Test.YticmkabafmmlhaaGreatDoorQ3j
import Derived.Test.YticmkabafmmlhaaGreatDoorShelfj
import Derived.Test.YticmkabafmmlhaaGreatDoorW1j
import Derived.Lib.AppendStr
import Derived.Lib.OthersKept
import Derived.Lib.FrozenHead
import Derived.Shelf.Strings.BuilderK
import Derived.IntWalk
import Derived.Test.YticmkabafmmlhaaGreatDoorSxj
import Derived.Test.YticmkabafmmlhaaGreatDoorShelfRj
import Derived.Lib.ReplaceLaws
import Derived.Test.YticmkabafmmlhaaGreatDoorN10j
import Derived.Test.YticmkabafmmlhaaGreatDoorVB9j
set_option linter.unusedVariables false
set_option linter.unusedSimpArgs false
namespace Go.Proofs.YticmkabafmmlhaaGreatDoor.Ck
open Go.RowKit
open Lib (hid)
set_option maxRecDepth 100000
def byteC (l : List UInt8) : List Value := l.map fun b => .int .u8 (b.toNat : Int)
theorem byteC_append (a b : List UInt8) : byteC (a ++ b) = byteC a ++ byteC b := List.map_append
def WrP (B b : Nat) (p : Value) (l : List UInt8) (w : World) : Prop :=
 B ≤ b ∧ ∃ v, w.heap[b]? = some (.cells #[p, v] 46 (0, 0)) ∧ w.ownsRow B 5 1 v l.length (byteC l) ∧ v.ownBlock ≠ some b
def Wr (B b : Nat) (l : List UInt8) (w : World) : Prop := WrP B b (.pointer none) l w ∨ WrP B b (.pointer (some ⟨b, 0, none⟩)) l w
theorem Wr.lt {B b : Nat} {l : List UInt8} {w : World} (h : Wr B b l w) : B ≤ b ∧ b < w.heap.size := by
 have key : ∀ p, WrP B b p l w → B ≤ b ∧ b < w.heap.size := fun p h => by
  obtain ⟨h1, v, h2, _⟩ := h
  exact ⟨h1, (Array.getElem?_eq_some_iff.1 h2).1⟩
 rcases h with h | h <;> exact key _ h
theorem Wr.below {B b : Nat} {l : List UInt8} {w w' : World} (h : Wr B b l w) (hb : Below w.heap.size w w') : Wr B b l w' := by
 have key : ∀ p, WrP B b p l w → WrP B b p l w' := fun p h => by
  obtain ⟨h1, v, h2, h3, h4⟩ := h
  exact ⟨h1, v, (hb.block b (Array.getElem?_eq_some_iff.1 h2).1).trans h2, own_below h3 hb, h4⟩
 rcases h with h | h
 · exact .inl (key _ h)
 · exact .inr (key _ h)
def Kept (b : Nat) (w w' : World) : Prop := Lib.OthersKept 5 (some b) w w'
theorem Kept.of_below {b : Nat} {w w' : World} (hb : Below w.heap.size w w') : Kept b w w' := fun k o hk _ _ => (hb.block k (Array.getElem?_eq_some_iff.1 hk).1).trans hk
theorem Kept.trans {b : Nat} {u v w : World} (h : Kept b u v) (h' : Kept b v w) : Kept b u w := Lib.OthersKept.trans h h'
theorem noEsc (a : Option Addr) (w : World) : (callFunc 112 #[.pointer a]).run Tryz.prog w = .ok (.value (.pointer a)) w := by kernel_rfl
theorem size44 : (Tryz.prog.info? 44).map (·.size) = some 2 := by kernel_rfl
theorem lies46 : liesAt Tryz.prog Tryz.prog.depth 46 (2 / Tryz.prog.cellsOf 46) 0 44 1 = true := by kernel_rfl
theorem copy_used (b : Nat) (w : World) (h0 : w.cell? ⟨b, 0, none⟩ = some (.pointer (some ⟨b, 0, none⟩))) :
 Calls Tryz.prog 95 #[.pointer (some ⟨b, 0, none⟩)] w fun e w' => e = .returned (.tuple #[]) ∧ w = w' := by
 obtain ⟨j, hj, _⟩ := Option.map_eq_some_iff.1 size44
 go_enter Tryz.func95, Tryz.ntmps95
 go_wp2
 rw [Lib.run_neq_ptr_same w _ Tryz.underlying41 hj]
 go_wp2
 go_end0
 exact ⟨rfl, rfl⟩
theorem copy_fresh (b : Nat) (w : World) (h0 : w.cell? ⟨b, 0, none⟩ = some (.pointer none)) (hsh : w.shape? b = some (46, 2)) (hfz : w.frozen? ⟨b, 0, none⟩ = false) :
 Calls Tryz.prog 95 #[.pointer (some ⟨b, 0, none⟩)] w fun e w' => e = .returned (.tuple #[]) ∧ w' = w.setCell ⟨b, 0, none⟩ (.pointer (some ⟨b, 0, none⟩)) := by
 obtain ⟨j, hj, hjs⟩ := Option.map_eq_some_iff.1 size44
 have hne := noEsc
 go_enter Tryz.func95, Tryz.ntmps95
 go_wp2
 rw [Lib.run_to_unsafe w ⟨b, 0, none⟩ Tryz.underlying41 Tryz.underlying69 hj (by rw [hjs]; decide) hsh (Nat.zero_lt_succ 1)]
 simp only [Result.andThen]
 rw [Oper.upon_value]
 go_wp2
 rw [Lib.run_from_unsafe w ⟨b, 0, none⟩ Tryz.underlying69 Tryz.underlying41 hj hsh lies46]
 simp only [Result.andThen]
 rw [Oper.upon_value]
 go_wp2
 go_end0
 exact ⟨rfl, rfl⟩
theorem WrP.cell0 {B b : Nat} {p : Value} {l : List UInt8} {w : World} (h : WrP B b p l w) : w.cell? ⟨b, 0, none⟩ = some p := by
 obtain ⟨_, v, hb, _⟩ := h
 simp [World.cell?, hb]
theorem set_grown (w : World) (b i : Nat) (u : Value) : w.grownBy (w.setCell ⟨b, i, none⟩ u) (some b) :=
 ⟨rfl, rfl, rfl, by simp [World.setCell], fun k _ hk => Below.heap_setCell _ _ _ _ (fun e => hk (by rw [e]))⟩
theorem copy_any (B b : Nat) (l : List UInt8) (w : World) (h : Wr B b l w) :
 Calls Tryz.prog 95 #[.pointer (some ⟨b, 0, none⟩)] w fun e w' => e = .returned (.tuple #[]) ∧ WrP B b (.pointer (some ⟨b, 0, none⟩)) l w' ∧ Below B w w' ∧ Kept b w w' := by
 rcases h with h | h
 · refine (copy_fresh b w h.cell0 (by obtain ⟨_, v, hb, _⟩ := h; simp [World.shape?, hb]) (by obtain ⟨_, v, hb, _⟩ := h; simp [World.frozen?, hb])).mono ?_
   rintro e w' ⟨rfl, rfl⟩
   obtain ⟨hB, v, hb, ho, hn⟩ := h
   refine ⟨rfl, ⟨hB, v, by simp [World.setCell, Array.getElem?_modify, hb], ho.kept (set_grown w b 0 _) (.inr hn), hn⟩, (Below.refl B w).setCell (p := ⟨b, 0, none⟩) hB _, (Lib.OthersKept.refl _ _ w).setCell ⟨b, 0, none⟩ rfl _⟩
 · refine (copy_used b w h.cell0).mono ?_
   rintro e w' ⟨rfl, rfl⟩
   exact ⟨rfl, h, Below.refl B _, Lib.OthersKept.refl _ _ _⟩
theorem byte_info : (Tryz.prog.info? 5).map (fun i => (i.zero, i.size, i.bytes)) = some (some (.int .u8 0), 1, 1) := by kernel_rfl
def WriteP (B b : Nat) (l : List UInt8) (n : Nat) (w : World) (e : Ending) (w' : World) : Prop := e = .returned (.tuple #[.int .i64 (n : Int), .nilIface]) ∧ Wr B b l w' ∧ Below B w w' ∧ Kept b w w'
theorem write_any (B b : Nat) (l : List UInt8) (s : ByteArray) (w : World) (h : Wr B b l w) (hl : l.length + s.size ≤ 140737488355328) (hBw : B ≤ w.heap.size) :
 Calls Tryz.prog 79 #[.pointer (some ⟨b, 0, none⟩), .string s] w (WriteP B b (l ++ s.data.toList) s.size w) := by
 obtain ⟨i0, hi, hz0, hz1, hz2⟩ := info_parts3 byte_info
 have HC := hid (copy_any B b l w h)
 clear h
 go_enter Tryz.func79, Tryz.ntmps79
 go_wp2_with fail
 refine (HC.out).mono ?_
 rintro e w1 ⟨rfl, h1, hb1, hk1⟩
 obtain ⟨hB, v, hb, ho, hn⟩ := h1
 have HK1 := hid hk1
 have HB1 := hid hb1
 have HO := hid ho
 have hlt : b < w1.heap.size := (Array.getElem?_eq_some_iff.1 hb).1
 have c1 : w1.cell? ⟨b, 1, none⟩ = some v := by simp [World.cell?, hb]
 have HBK := hid hb
 have hs1 := hb1.size
 clear hk1 hb1 ho hb HC
 go_wp2_with (at_builtin; refine Lib.wpList_append_own_string _ rfl _ _ 42 9 rfl B 5 i0 Tryz.underlying42 Tryz.underlying9 hi hz0 hz1 hz2 v l.length (byteC l) rfl HO.out s rfl ?c3 ?c4 ?c5 ?_)
 case c3 => unfold maxLen; omega
 case c4 => omega
 case c5 => omega
 intro v' w2 hown hgr _
 obtain ⟨ao, n', cap', rfl⟩ : ∃ ao n' cap', v' = .slice ao n' cap' := by
  rcases hown.2 with ⟨hv, _⟩ | ⟨g, cap, cur, hv, _⟩
  · exact ⟨_, _, _, hv⟩
  · exact ⟨_, _, _, hv⟩
 have hb2 : w2.heap[b]? = some (.cells #[.pointer (some ⟨b, 0, none⟩), v] 46 (0, 0)) := by
  rw [hgr.block b hlt (fun e => hn e.symm)]; exact HBK.out
 have f1 : w2.frozen? ⟨b, 1, none⟩ = false := by simp [World.frozen?, hb2]
 have d1 : w2.cell? ⟨b, 1, none⟩ = some v := by simp [World.cell?, hb2]
 have HO2 := hid hown
 have HB2 : Hid (Below B w w2) := HB1.out.grown hgr (by omega) (fun k hk => (HO.out.lt k hk).1)
 have HK2 : Hid (Kept b w w2) := Lib.OthersKept.grown HK1.out hgr (Lib.ownsRowF_kind (World.ownsRowF_of HO.out))
 have hn2 : (Value.slice ao n' cap').ownBlock ≠ some b := by
  intro hv
  rcases hown.2 with ⟨hv0, _⟩ | ⟨g, cap, cur, hv0, _, hg, _⟩
  · rw [hv0] at hv; cases hv
  · rw [hv0] at hv
    have hgb : g = b := by injection hv
    subst hgb
    rw [hb2] at hg
    injection hg with hg
    injection hg with _ hg
    exact absurd hg (by decide)
 have HW : Hid (Wr B b (l ++ s.data.toList) (w2.setCell ⟨b, 1, none⟩ (.slice ao n' cap'))) := by
  refine .inr ⟨hB, _, by simp [World.setCell, Array.getElem?_modify, hb2], ?_, hn2⟩
  have := hown.kept (set_grown w2 b 1 (.slice ao n' cap')) (.inr hn2)
  rw [List.length_append, byteC_append, ← Lib.size_eq]
  exact this
 clear hown hgr hb2
 go_wp2_with fail
 go_ret2
 exact ⟨rfl, HW.out, HB2.out.setCell (p := ⟨b, 1, none⟩) hB _, HK2.out.setCell ⟨b, 1, none⟩ rfl _⟩
end Go.Proofs.YticmkabafmmlhaaGreatDoor.Ck

set_option linter.unusedVariables false
set_option linter.unusedSimpArgs false
set_option maxHeartbeats 2000000
namespace Go.Proofs.YticmkabafmmlhaaGreatDoor.Ck
open Go.RowKit
open Lib (hid)
set_option maxRecDepth 100000
def cat (l : List ByteArray) : List UInt8 := (l.map fun s => s.data.toList).flatten
theorem cat_nil : cat [] = [] := rfl
theorem cat_take (l : List ByteArray) (k : Nat) (h : k < l.length) : cat (l.take (k + 1)) = cat (l.take k) ++ (l.getD k n0).data.toList := by
 rw [List.take_succ_eq_append_getElem h, show l.getD k n0 = l[k] by simp [h]]
 unfold cat
 rw [List.map_append, List.flatten_append]
 simp
theorem cat_le (l : List ByteArray) (k : Nat) : (cat (l.take k)).length ≤ (cat l).length := by
 have : cat l = cat (l.take k) ++ cat (l.drop k) := by
  unfold cat
  rw [← List.flatten_append, ← List.map_append, List.take_append_drop]
 rw [this, List.length_append]; omega
def strs (l : List ByteArray) : Array Value := (l.map Value.string).toArray
def OutP (B b : Nat) (l : List UInt8) (w : World) (e : Ending) (w' : World) : Prop := e = .returned (.tuple #[]) ∧ Wr B b l w' ∧ Below B w w' ∧ Kept b w w'
theorem Kept.blk {b : Nat} {w w' : World} (h : Kept b w w') {g : Nat} {t : TypeId} {cs : Array Value} (hg : Blk w g t cs) (hn : g ≠ b) (ht : t ≠ 5) : Blk w' g t cs :=
 h g _ hg (fun e => hn (Option.some.inj e)) (fun c fz e => by injection e with _ e; exact ht e)
theorem put_any (B b g : Nat) (acc : List UInt8) (l : List ByteArray) (n : Nat) (hn : l.length = n) (w : World) (h : Wr B b acc w) (hg : Blk w g 9 (strs l)) (hgb : g ≠ b) (h9 : n ≤ 1000) (hl : acc.length + (cat l).length ≤ 140737488355328) (hBw : B ≤ w.heap.size) :
 Calls Tryz.prog 53 #[.pointer (some ⟨b, 0, none⟩), .slice (some ⟨g, 0, none⟩) n n] w (OutP B b (acc ++ cat l) w) := by
 have HW := hid (fun W (x : List UInt8) (s : ByteArray) (hx : Wr B b x W) (h1 : x.length + s.size ≤ 140737488355328) (h2 : B ≤ W.heap.size) => write_any B b x s W hx h1 h2)
 unfold WriteP at HW
 obtain ⟨r, hr⟩ : ∃ r, acc ++ cat l = r := ⟨_, rfl⟩
 obtain ⟨K, hK⟩ : ∃ K : Nat → List UInt8, ∀ k, acc ++ cat (l.take k) = K k := ⟨_, fun _ => rfl⟩
 have H0 : Hid (Wr B b (K 0) w) := by rw [← hK, List.take_zero, cat_nil, List.append_nil]; exact h
 have HKN := hid (fun k (hk : k < n) => by rw [← hK, cat_take l k (by omega), ← List.append_assoc, hK] : ∀ k, k < n → K (k + 1) = K k ++ (l.getD k n0).data.toList)
 have HKL := hid (fun k => by rw [← hK, List.length_append]; have := cat_le l k; omega : ∀ k, (K k).length ≤ 140737488355328)
 have HKR : Hid (K n = r) := by rw [← hK, ← hr, ← hn, List.take_length]; exact hid rfl
 have HG := hid hg
 have HC := hid (fun k (hk : k < n) => by unfold strs; rw [List.getElem?_toArray, List.getElem?_map, List.getElem?_eq_getElem (by omega)]; simp [show k < l.length by omega] : ∀ k, k < n → (strs l)[k]? = some (.string (l.getD k n0)))
 rw [hr]
 clear h hg hr hK hl hn
 go_enter Tryz.func53, Tryz.ntmps53
 go_wp2_with fail
 go_loopw [8] (fun s8 wr => ∃ k : Nat, k ≤ n ∧ s8 = .int .i64 k ∧ Hid (Wr B b (K k) wr) ∧ Hid (Below B w wr) ∧ Hid (Kept b w wr)) (fun s8 _ => n - (intOf s8).toNat)
 case atStart => exact ⟨0, Nat.zero_le _, rfl, H0, Below.refl _ _, Lib.OthersKept.refl _ _ _⟩
 case round =>
  obtain ⟨k, hk, rfl, HX, HB, HK⟩ := hrel
  by_cases hlt : k < n
  · have c1 : wr.cell? ⟨g, k, none⟩ = some (.string (l.getD k n0)) := by rw [(HK.out.blk HG.out hgb (by decide)).cell k]; exact HC.out k hlt
    have hkn := HKN.out k hlt
    have hkl := HKL.out (k + 1)
    rw [hkn, List.length_append, ← Lib.size_eq] at hkl
    have HKK := hid hkn
    have hsz := HB.out.size
    have HQ := hid (HW.out wr (K k) (l.getD k n0) HX.out hkl (by omega))
    have d : decide (k < n) = true := by simpa using hlt
    clear hkn hkl
    generalize l.getD k n0 = s at *
    go_wp2_with fail
    refine (HQ.out).mono ?_
    rintro e w1 ⟨rfl, q1, q2, q3⟩
    have HX1 : Hid (Wr B b (K (k + 1)) w1) := by rw [HKK.out]; exact q1
    have HB1 := hid (HB.out.trans q2)
    have HK1 := hid (HK.out.trans q3)
    clear q1 q2 q3 c1
    go_wp2
    go_roundw
    case rel => exact ⟨k + 1, by omega, by go_num, HX1, HB1, HK1⟩
    case measure => simp [intOf]; omega
  · have d : decide (k < n) = false := by simpa using hlt
    obtain rfl : n = k := by omega
    have HX1 : Hid (Wr B b r wr) := by rw [← HKR.out]; exact HX
    go_wp2
    go_end0
    exact ⟨rfl, HX1.out, HB.out, HK.out⟩
end Go.Proofs.YticmkabafmmlhaaGreatDoor.Ck

set_option linter.unusedVariables false
set_option linter.unusedSimpArgs false
namespace Go.Proofs.YticmkabafmmlhaaGreatDoor.Ck
open Go.RowKit
open Lib (hid)
set_option maxRecDepth 100000
def repl (o n s : List UInt8) : List UInt8 := Lib.replaceAll s o n
def quoteIn (s : List UInt8) : List UInt8 := repl [10] [92, 110] (repl [34] [92, 34] (repl [92] [92, 92] s))
def quoteF (s : List UInt8) : List UInt8 := [34] ++ quoteIn s ++ [34]
theorem repK_len (o n : List UInt8) : ∀ (k : Nat) (s : List UInt8), (Lib.replaceK o n k s).length ≤ s.length + k * n.length
 | 0, s => by rw [Lib.replaceK]; omega
 | k + 1, s => by
   rw [Lib.replaceK]
   split
   · omega
   · have := repK_len o n k (s.drop ((Lib.index s o).toNat + o.length))
     simp only [List.length_append, List.length_drop, List.length_take, Nat.add_mul] at *
     omega
theorem count_le (s : List UInt8) (c : UInt8) : Lib.count s [c] ≤ s.length := by
 have := Lib.countB_mul_le ⟨#[c]⟩ (show 1 ≤ 1 from Nat.le_refl _) s.length ⟨s.toArray⟩ (by rw [Lib.size_eq]; exact Nat.le_refl _)
 have e : Lib.countB ⟨s.toArray⟩ ⟨#[c]⟩ = Lib.count s [c] := rfl
 have e2 : (⟨s.toArray⟩ : ByteArray).size = s.length := by rw [Lib.size_eq]
 have e3 : (⟨#[c]⟩ : ByteArray).size = 1 := rfl
 rw [e, e2, e3] at this
 omega
theorem repl_len (c a b : UInt8) (s : List UInt8) : (repl [c] [a, b] s).length ≤ 3 * s.length := by
 unfold repl Lib.replaceAll Lib.replace Lib.replaceNum
 have hc := count_le s c
 split
 · omega
 · rw [if_pos (.inl (by omega))]
   have := repK_len [c] [a, b] (Lib.count s [c]) s
   simp only [List.length_cons, List.length_nil] at this
   omega
theorem quote_len (s : List UInt8) : (quoteF s).length ≤ 27 * s.length + 2 := by
 unfold quoteF quoteIn
 have h1 := repl_len 92 92 92 s
 have h2 := repl_len 34 92 34 (repl [92] [92, 92] s)
 have h3 := repl_len 10 92 110 (repl [34] [92, 34] (repl [92] [92, 92] s))
 simp only [List.length_append, List.length_cons, List.length_nil]
 omega
def MaxL (w : World) : Prop := ∃ m : Int, w.cell? ⟨5, 0, none⟩ = some (.int .i64 m)
theorem MaxL.below {w w' : World} (h : MaxL w) (hb : Below w.heap.size w w') : MaxL w' := by
 obtain ⟨m, h⟩ := h
 exact ⟨m, (hb.cell (p := ⟨5, 0, none⟩) (World.block_lt_of_cell? _ _ h)).trans h⟩
theorem repl_any (c a b : UInt8) (s t : ByteArray) (ht : t = ⟨(repl [c] [a, b] s.data.toList).toArray⟩) (hs : s.size ≤ 100000) (w : World) (hM : MaxL w) :
 Calls Tryz.prog 81 #[.string s, .string ⟨#[c]⟩, .string ⟨#[a, b]⟩] w fun e w' => e = .returned (.string t) ∧ Below w.heap.size w w' := by
 subst ht
 obtain ⟨m, hm⟩ := hM
 have hc := count_le s.data.toList c
 rw [← Lib.size_eq] at hc
 exact Tryz.strings_ReplaceAll s ⟨#[c]⟩ ⟨#[a, b]⟩ m w (by omega) hm (show 1 ≤ 1 from Nat.le_refl _) (by
  have e : Lib.countB s ⟨#[c]⟩ = Lib.count s.data.toList [c] := rfl
  have e3 : (⟨#[a, b]⟩ : ByteArray).size = 2 := rfl
  rw [e, e3]; omega)
theorem quoted_any (s t : ByteArray) (ht : t = ⟨(quoteF s.data.toList).toArray⟩) (hs : s.size ≤ 1000) (w : World) (hM : MaxL w) :
 Calls Tryz.prog 55 #[.string s] w fun e w' => e = .returned (.string t) ∧ Below w.heap.size w w' := by
 obtain ⟨s1, h1⟩ : ∃ s1 : ByteArray, s1 = ⟨(repl [92] [92, 92] s.data.toList).toArray⟩ := ⟨_, rfl⟩
 obtain ⟨s2, h2⟩ : ∃ s2 : ByteArray, s2 = ⟨(repl [34] [92, 34] s1.data.toList).toArray⟩ := ⟨_, rfl⟩
 obtain ⟨s3, h3⟩ : ∃ s3 : ByteArray, s3 = ⟨(repl [10] [92, 110] s2.data.toList).toArray⟩ := ⟨_, rfl⟩
 have z : ∀ l : List UInt8, (⟨l.toArray⟩ : ByteArray).data.toList = l := fun l => rfl
 have n1 : s1.size ≤ 3 * s.size := by rw [h1, Lib.size_eq, z, Lib.size_eq s]; exact repl_len _ _ _ _
 have n2 : s2.size ≤ 3 * s1.size := by rw [h2, Lib.size_eq, z, Lib.size_eq s1]; exact repl_len _ _ _ _
 have n3 : s3.size ≤ 3 * s2.size := by rw [h3, Lib.size_eq, z, Lib.size_eq s2]; exact repl_len _ _ _ _
 have H1 := hid (fun W (hW : MaxL W) => repl_any 92 92 92 s s1 h1 (by omega) W hW)
 have H2 := hid (fun W (hW : MaxL W) => repl_any 34 92 34 s1 s2 h2 (by omega) W hW)
 have H3 := hid (fun W (hW : MaxL W) => repl_any 10 92 110 s2 s3 h3 (by omega) W hW)
 have HM := hid hM
 have a1 : ∀ W, (Op.stringOp .add ⟨#[34]⟩ s3).run Tryz.prog W = .ok (.string ⟨([34] ++ s3.data.toList).toArray⟩) W := fun W => by
  rw [run_string_add_sum _ _ _ (by show 1 + s3.size ≤ _; omega)]; rfl
 have a2 : ∀ W, (Op.stringOp .add ⟨([34] ++ s3.data.toList).toArray⟩ ⟨#[34]⟩).run Tryz.prog W = .ok (.string t) W := fun W => by
  rw [run_string_add_sum _ _ _ (by rw [Lib.size_eq, z, List.length_append, ← Lib.size_eq s3]; show 1 + s3.size + 1 ≤ _; omega), ht]
  congr 2
  unfold quoteF quoteIn
  rw [← z (repl [92] [92, 92] s.data.toList), ← h1, ← z (repl [34] [92, 34] s1.data.toList), ← h2, ← z (repl [10] [92, 110] s2.data.toList), ← h3]
  rfl
 clear h1 h2 h3 n1 n2 n3 z ht hs hM
 generalize (⟨([34] ++ s3.data.toList).toArray⟩ : ByteArray) = s4 at *
 go_enter Tryz.func55, Tryz.ntmps55
 go_wp2_with fail
 refine (H1.out _ HM.out).mono ?_
 rintro e w1 ⟨rfl, b1⟩
 have HM1 := hid (HM.out.below b1)
 have HB1 := hid b1
 clear b1
 go_wp2_with fail
 refine (H2.out _ HM1.out).mono ?_
 rintro e w2 ⟨rfl, b2⟩
 have HM2 := hid (HM1.out.below b2)
 have HB2 := hid (HB1.out.trans (b2.mono HB1.out.size))
 clear b2
 go_wp2_with fail
 refine (H3.out _ HM2.out).mono ?_
 rintro e w3 ⟨rfl, b3⟩
 have HB3 := hid (HB2.out.trans (b3.mono HB2.out.size))
 clear b3
 go_wp2_with fail
 go_ret
 exact ⟨rfl, HB3.out⟩
def commaF (k : Nat) : List UInt8 := if k = 0 then [] else [44, 32]
theorem comma_any (k : Nat) (t : ByteArray) (ht : t = ⟨(commaF k).toArray⟩) (w : World) : Calls Tryz.prog 82 #[.int .i64 (k : Int)] w fun e w' => e = .returned (.string t) ∧ w = w' := by
 subst ht
 unfold commaF
 by_cases h : k = 0
 · subst h
   rw [if_pos rfl]
   go_enter Tryz.func82, Tryz.ntmps82
   go_wp2
   go_ret
   exact ⟨rfl, rfl⟩
 · have d : ((k : Int) == 0) = false := beq_eq_false_iff_ne.2 (by omega)
   rw [if_neg h]
   go_enter Tryz.func82, Tryz.ntmps82
   go_wp2
   go_ret
   exact ⟨rfl, rfl⟩
end Go.Proofs.YticmkabafmmlhaaGreatDoor.Ck

set_option linter.unusedVariables false
set_option linter.unusedSimpArgs false
set_option maxHeartbeats 2000000
namespace Go.Proofs.YticmkabafmmlhaaGreatDoor.Ck
open Go.RowKit
open Lib (hid)
set_option maxRecDepth 100000
structure Env (w : World) : Prop where
 ml : MaxL w
 un : Sp.UnitsB w
 pw : Sp.Pow w
 vt : Vt.Tabs w
theorem Env.below {w w' : World} (h : Env w) (hb : Below w.heap.size w w') : Env w' :=
 ⟨h.ml.below hb, h.un.below (by have := h.vt.size; omega) hb, h.pw.below hb, h.vt.below h.vt.size hb⟩
theorem put_new (B b : Nat) (acc : List UInt8) (l : List ByteArray) (n : Nat) (hn : l.length = n) (cs : Array Value) (hcs : cs = strs l) (W : World) (h : Wr B b acc W) (h9 : n ≤ 1000) (hl : acc.length + (cat l).length ≤ 140737488355328) (hBw : B ≤ W.heap.size) :
 Calls Tryz.prog 53 #[.pointer (some ⟨b, 0, none⟩), .slice (some ⟨W.heap.size, 0, none⟩) n n] (W.alloc (.cells cs 9)) (OutP B b (acc ++ cat l) W) := by
 subst hcs
 have hb : Below W.heap.size W (W.alloc (.cells (strs l) 9)) := (Below.refl _ _).alloc (Nat.le_refl _) _
 refine (put_any B b W.heap.size acc l n hn _ (h.below hb) (Blk.new W 9 (strs l)) (by have := h.lt; omega) h9 hl (by have := hb.size; omega)).mono ?_
 rintro e w' ⟨rfl, q1, q2, q3⟩
 exact ⟨rfl, q1, (hb.mono hBw).trans q2, (Kept.of_below hb).trans q3⟩
def PartC (w0 : World) (b : Nat) (fn : Nat) (t : Tr) (out : List UInt8) : Prop := ∀ (acc : List UInt8) (w : World), Wr w0.heap.size b acc w → Below w0.heap.size w0 w → acc.length + out.length ≤ 140737488355328 →
 Calls Tryz.prog fn #[.pointer (some ⟨b, 0, none⟩), valT t] w (OutP w0.heap.size b (acc ++ out) w)
structure St (w0 : World) (b : Nat) (acc : List UInt8) (w W : World) : Prop where
 wr : Wr w0.heap.size b acc W
 low : Below w0.heap.size w0 W
 bel : Below w0.heap.size w W
 kept : Kept b w W
 size : w0.heap.size ≤ W.heap.size
theorem St.first {w0 : World} {b : Nat} {acc : List UInt8} {w : World} (h : Wr w0.heap.size b acc w) (hb : Below w0.heap.size w0 w) : St w0 b acc w w := ⟨h, hb, Below.refl _ _, Lib.OthersKept.refl _ _ _, hb.size⟩
theorem St.below {w0 : World} {b : Nat} {acc : List UInt8} {w W W' : World} (h : St w0 b acc w W) (hb : Below W.heap.size W W') : St w0 b acc w W' :=
 ⟨h.wr.below hb, h.low.trans (hb.mono h.size), h.bel.trans (hb.mono h.size), h.kept.trans (Kept.of_below hb), Nat.le_trans h.size hb.size⟩
theorem St.alloc {w0 : World} {b : Nat} {acc : List UInt8} {w W : World} (h : St w0 b acc w W) (o : Obj) : St w0 b acc w (W.alloc o) := h.below ((Below.refl _ _).alloc (Nat.le_refl _) _)
theorem St.out {w0 : World} {b : Nat} {acc acc' : List UInt8} {w W W' : World} {e : Ending} (h : St w0 b acc w W) (hq : OutP w0.heap.size b acc' W e W') : e = .returned (.tuple #[]) ∧ St w0 b acc' w W' := by
 obtain ⟨he, q1, q2, q3⟩ := hq
 exact ⟨he, q1, h.low.trans q2, h.bel.trans q2, h.kept.trans q3, Nat.le_trans h.size q2.size⟩
theorem St.end_ {w0 : World} {b : Nat} {acc : List UInt8} {w W : World} (h : St w0 b acc w W) : OutP w0.heap.size b acc w (.returned (.tuple #[])) W := ⟨rfl, h.wr, h.bel, h.kept⟩
theorem St.blk {w0 : World} {b : Nat} {acc acc' : List UInt8} {w W W' : World} (h : St w0 b acc w W) (hq : St w0 b acc' W W') {g : Nat} {t : TypeId} {cs : Array Value} (hg : Blk W g t cs) (hn : g ≠ b) (ht : t ≠ 5) : Blk W' g t cs := hq.kept.blk hg hn ht
theorem cat_one (s : List UInt8) : cat [⟨s.toArray⟩] = s := by show s ++ [] = s; rw [List.append_nil]
def numT (v : Nat) : List UInt8 := Lib.trimPrefix (Vt.fmtF v) [43]
theorem numT_any (v : Nat) (t : ByteArray) (ht : t = ⟨(numT v).toArray⟩) (w : World) : Calls Tryz.prog 54 #[.string (Vt.strF v), .string ⟨#[43]⟩] w fun e w' => e = .returned (.string t) ∧ w = w' := by
 subst ht
 refine (Tryz.strings_TrimPrefix (Vt.strF v) ⟨#[43]⟩ w).mono ?_
 rintro e w' ⟨rfl, rfl⟩
 exact ⟨rfl, rfl⟩
theorem num_put {w0 : World} {b : Nat} (h : Hd) (ks : List Tr) (hE : Env w0) (hv : h.v < 18446744073709551616) : PartC w0 b 30 (.mk h ks) (numT h.v) := by
 intro acc w hw hb hl
 have HS := hid ((St.first hw hb).alloc (.cells (arr h ks.length) 49))
 have HBL := hid (Blk.new w 49 (arr h ks.length))
 have HT := hid (fun W (hW : Below w0.heap.size w0 W) => Vt.text_any h.v hv W (hE.vt.below hE.vt.size hW))
 obtain ⟨t, ht⟩ : ∃ t : ByteArray, t = ⟨(numT h.v).toArray⟩ := ⟨_, rfl⟩
 have HN := hid (fun W => numT_any h.v t ht W)
 have HP := hid (fun W (hW : St w0 b acc w W) => put_new w0.heap.size b acc [t] 1 rfl #[.string t] rfl W hW.wr (by decide) (by rw [ht, cat_one]; exact hl) hW.size)
 rw [ht, cat_one, ← ht] at HP
 generalize numT h.v = out at *
 generalize Vt.strF h.v = sv at *
 obtain ⟨c0, c1, c2, c3, c4, c5, c6, c7, c8, c9, c10, c11, c12⟩ := blk13 (h := h) (n := ks.length) HBL.out
 clear hw hb hl ht hE hv
 rw [valT_arr]
 unfold arr at *
 go_enter Tryz.func30, Tryz.ntmps30
 go_wp2_with fail
 refine (HT.out _ HS.out.low).mono ?_
 rintro e w1 ⟨rfl, hb1⟩
 have HS1 := hid (HS.out.below hb1)
 clear hb1 c0 c1 c2 c3 c4 c5 c6 c7 c8 c9 c10 c11 c12
 go_wp2_with fail
 refine (HN.out _).mono ?_
 rintro e w2 ⟨rfl, rfl⟩
 go_wp2_with fail
 refine (HP.out _ HS1.out).mono ?_
 rintro e w3 hq
 obtain ⟨rfl, h3⟩ := HS1.out.out hq
 have HS3 := hid h3
 clear hq h3
 go_wp2_with fail
 go_end0
 exact HS3.out.end_
theorem text_put {w0 : World} {b : Nat} (h : Hd) (ks : List Tr) (hE : Env w0) (hs : h.s.size ≤ 1000) : PartC w0 b 31 (.mk h ks) (quoteF h.s.data.toList) := by
 intro acc w hw hb hl
 have HS := hid ((St.first hw hb).alloc (.cells (arr h ks.length) 49))
 have HBL := hid (Blk.new w 49 (arr h ks.length))
 obtain ⟨t, ht⟩ : ∃ t : ByteArray, t = ⟨(quoteF h.s.data.toList).toArray⟩ := ⟨_, rfl⟩
 have HT := hid (fun W (hW : Below w0.heap.size w0 W) => quoted_any h.s t ht hs W (hE.ml.below hW))
 have HP := hid (fun W (hW : St w0 b acc w W) => put_new w0.heap.size b acc [t] 1 rfl #[.string t] rfl W hW.wr (by decide) (by rw [ht, cat_one]; exact hl) hW.size)
 rw [ht, cat_one, ← ht] at HP
 generalize quoteF h.s.data.toList = out at *
 obtain ⟨c0, c1, c2, c3, c4, c5, c6, c7, c8, c9, c10, c11, c12⟩ := blk13 (h := h) (n := ks.length) HBL.out
 clear hw hb hl ht hE hs
 rw [valT_arr]
 unfold arr at *
 go_enter Tryz.func31, Tryz.ntmps31
 go_wp2_with fail
 refine (HT.out _ HS.out.low).mono ?_
 rintro e w1 ⟨rfl, hb1⟩
 have HS1 := hid (HS.out.below hb1)
 clear hb1 c0 c1 c2 c3 c4 c5 c6 c7 c8 c9 c10 c11 c12
 go_wp2_with fail
 refine (HP.out _ HS1.out).mono ?_
 rintro e w3 hq
 obtain ⟨rfl, h3⟩ := HS1.out.out hq
 have HS3 := hid h3
 clear hq h3
 go_wp2_with fail
 go_end0
 exact HS3.out.end_
end Go.Proofs.YticmkabafmmlhaaGreatDoor.Ck

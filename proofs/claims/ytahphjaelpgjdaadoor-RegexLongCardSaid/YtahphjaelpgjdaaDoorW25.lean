/- The map of moves: keys, what is looked up, what is put in. No condition. -/
import Derived.Test.YtahphjaelpgjdaaDoorW24
import Derived.Maps.OwnSet
import Derived.DeepKeys4
namespace Go.Proofs.YtahphjaelpgjdaaDoor
open Go.RowKit Rx
set_option linter.unusedVariables false

theorem laidOut : laidOutB Tryd.prog = true := by kernel_rfl
theorem row93 : (93 : TypeId) < Tryd.prog.types.size := of_decide_eq_true (by kernel_rfl)
theorem wide93 : (match Tryd.prog.underlying 93 with | some (.array _ _) | some (.struct _) => true | _ => false) = true := by kernel_rfl
set_option maxRecDepth 100000 in
theorem lawMv : WideMaps.KeyLaw Tryd.prog 93 := deep_law_laid laidOut (m := 6) (by omega) row93 (by kernel_rfl) wide93
theorem keyMv : Maps.Keyed Tryd.prog 93 := Maps.Keyed.of_law lawMv
abbrev mvC (t : Nat) (d : Bool) (c : Nat) : Array Value := #[wv t 0, wv t 1, wv t 2, wv t 3, .bool d, .int .u8 c]
abbrev mvV (t : Nat) (d : Bool) (c : Nat) : Value := .agg (mvC t d c)
theorem wf_u64 (n i : Nat) : (Lit.int .u64 (uw n i)).wf = true := by
  have := wd_lt n i
  unfold uw
  simp only [Lit.wf, show IntKind.u64.min = 0 from rfl, show IntKind.u64.max = 18446744073709551615 by decide, Bool.and_eq_true, decide_eq_true_eq]
  omega
theorem wf_u8 (c : Nat) (hc : c < 256) : (Lit.int .u8 (c : Int)).wf = true := by
  simp only [Lit.wf, show IntKind.u8.min = 0 from rfl, show IntKind.u8.max = 255 by decide, Bool.and_eq_true, decide_eq_true_eq]
  omega
theorem kt93 : Tryd.prog.keyType 93 = true := by kernel_rfl
theorem sz178 : Tryd.prog.types.size = 178 := by kernel_rfl
theorem ce93 : Tryd.prog.cellsOf 93 = 6 := by kernel_rfl
theorem ce63 : Tryd.prog.cellsOf 63 = 5 := by kernel_rfl
theorem ce61 : Tryd.prog.cellsOf 61 = 4 := by kernel_rfl
theorem ce59 : Tryd.prog.cellsOf 59 = 1 := by kernel_rfl
theorem kl59 (n : Nat) (x : Int) (h : (Lit.int .u64 x).wf = true) : Tryd.prog.keyLits (n + 1) 59 [.int .u64 x] = some [.int .u64 x] := by
  unfold Program.keyLits
  rw [Tryd.underlying59]
  exact if_pos ⟨rfl, h⟩
theorem kl4 (n : Nat) (x : Bool) : Tryd.prog.keyLits (n + 1) 4 [.bool x] = some [.bool x] := by
  unfold Program.keyLits
  rw [Tryd.underlying4]
theorem kl5 (n : Nat) (x : Int) (h : (Lit.int .u8 x).wf = true) : Tryd.prog.keyLits (n + 1) 5 [.int .u8 x] = some [.int .u8 x] := by
  unfold Program.keyLits
  rw [Tryd.underlying5]
  exact if_pos ⟨rfl, h⟩
theorem kl61 (n : Nat) (a b c d : Int) (ha : (Lit.int .u64 a).wf = true) (hb : (Lit.int .u64 b).wf = true) (hc : (Lit.int .u64 c).wf = true) (hd : (Lit.int .u64 d).wf = true) :
    Tryd.prog.keyLits (n + 1 + 1) 61 [.int .u64 a, .int .u64 b, .int .u64 c, .int .u64 d] = some [.int .u64 a, .int .u64 b, .int .u64 c, .int .u64 d] := by
  unfold Program.keyLits
  rw [Tryd.underlying61]
  simp [ce61, ce59, List.range, List.range.loop, kl59 n a ha, kl59 n b hb, kl59 n c hc, kl59 n d hd]
theorem kl63 (n : Nat) (a b c d : Int) (x : Bool) (ha : (Lit.int .u64 a).wf = true) (hb : (Lit.int .u64 b).wf = true) (hc : (Lit.int .u64 c).wf = true) (hd : (Lit.int .u64 d).wf = true) :
    Tryd.prog.keyLits (n + 1 + 1 + 1) 63 [.int .u64 a, .int .u64 b, .int .u64 c, .int .u64 d, .bool x] = some [.int .u64 a, .int .u64 b, .int .u64 c, .int .u64 d, .bool x] := by
  unfold Program.keyLits
  rw [Tryd.underlying63]
  have e4 : Tryd.prog.cellsOf 4 = 1 := by kernel_rfl
  simp [ce63, ce61, e4, kl61 n a b c d ha hb hc hd, kl4 (n + 1) x]
theorem kl93 (n : Nat) (a b c d : Int) (x : Bool) (y : Int) (ha : (Lit.int .u64 a).wf = true) (hb : (Lit.int .u64 b).wf = true) (hc : (Lit.int .u64 c).wf = true) (hd : (Lit.int .u64 d).wf = true) (hy : (Lit.int .u8 y).wf = true) :
    Tryd.prog.keyLits (n + 1 + 1 + 1 + 1) 93 [.int .u64 a, .int .u64 b, .int .u64 c, .int .u64 d, .bool x, .int .u8 y] = some [.int .u64 a, .int .u64 b, .int .u64 c, .int .u64 d, .bool x, .int .u8 y] := by
  unfold Program.keyLits
  rw [Tryd.underlying93]
  have e5 : Tryd.prog.cellsOf 5 = 1 := by kernel_rfl
  simp [ce93, ce63, e5, kl63 n a b c d x ha hb hc hd, kl5 (n + 1 + 1) y hy]
set_option maxRecDepth 100000 in
theorem key_of (t : Nat) (d : Bool) (c : Nat) (hc : c < 256) : ∃ kl, keyOf Tryd.prog 93 (mvV t d c) = some kl := by
  have hf : (mvV t d c).formed Tryd.prog 93 = true := by
    unfold mvV mvC wv
    generalize uw t 0 = x0
    generalize uw t 1 = x1
    generalize uw t 2 = x2
    generalize uw t 3 = x3
    kernel_rfl
  have hl := kl93 175 _ _ _ _ d _ (wf_u64 t 0) (wf_u64 t 1) (wf_u64 t 2) (wf_u64 t 3) (wf_u8 c hc)
  have hl2 : Tryd.prog.keyLits (Tryd.prog.types.size + 1) 93 (mvV t d c).cells.toList = some [.int .u64 (uw t 0), .int .u64 (uw t 1), .int .u64 (uw t 2), .int .u64 (uw t 3), .bool d, .int .u8 c] := by rw [sz178]; exact hl
  refine ⟨.string (keyBytes [.int .u64 (uw t 0), .int .u64 (uw t 1), .int .u64 (uw t 2), .int .u64 (uw t 3), .bool d, .int .u8 c]), ?_⟩
  unfold keyOf
  rw [Tryd.underlying93]
  dsimp only
  rw [kt93, hf, hl2]
  rfl

/-! the map: each move that it holds, with what is left behind it -/
def MapOk (w : World) (mp : Nat) (m : Mach) (lst : Nat) : Prop :=
  ∃ (es : Array MapEntry) (clock : Nat), w.heap[mp]? = some (.map es clock) ∧ ∀ x ∈ es.toList, ∃ (t : Nat) (d : Bool) (c : Nat), t < 2 ^ 256 ∧ c < 256 ∧ x.key = mvV t d c ∧ x.val = rsV (behF m lst t c).1 (behF m lst t c).2
theorem MapOk.kept {w w' : World} {mp lst : Nat} {m : Mach} (h : MapOk w mp m lst) (hk : w'.heap[mp]? = w.heap[mp]?) : MapOk w' mp m lst := by
  obtain ⟨es, clock, h1, h2⟩ := h
  exact ⟨es, clock, hk.trans h1, h2⟩
theorem MapOk.lt {w : World} {mp lst : Nat} {m : Mach} (h : MapOk w mp m lst) : mp < w.heap.size := by
  obtain ⟨es, clock, h1, h2⟩ := h
  exact (Array.getElem?_eq_some_iff.1 h1).1
theorem uw_inj {n m : Nat} (hn : n < 2 ^ 256) (hm : m < 2 ^ 256) (h0 : uw n 0 = uw m 0) (h1 : uw n 1 = uw m 1) (h2 : uw n 2 = uw m 2) (h3 : uw n 3 = uw m 3) : n = m := by
  refine words_eq hn hm fun i hi => ?_
  unfold uw at h0 h1 h2 h3
  have : i = 0 ∨ i = 1 ∨ i = 2 ∨ i = 3 := by omega
  rcases this with rfl | rfl | rfl | rfl <;> omega
theorem zero63 (w : World) : (zeroValue 63).run Tryd.prog w = .ok (.agg zero5) w := by kernel_rfl
/-- a look: the move is there, with what is left behind it; or it isn't -/
theorem look_any {w : World} {mp lst : Nat} {m : Mach} (h : MapOk w mp m lst) (t : Nat) (d : Bool) (c : Nat) (ht : t < 2 ^ 256) (hc : c < 256) :
    (Instr.lookup 90 (.map (some mp)) (mvV t d c) true).run Tryd.prog w = .ok (.tuple #[rsV (behF m lst t c).1 (behF m lst t c).2, .bool true]) w ∨
    ((Instr.lookup 90 (.map (some mp)) (mvV t d c) true).run Tryd.prog w = .ok (.tuple #[.agg zero5, .bool false]) w ∧
      ∀ (w2 : World) (v : Value), w2.heap[mp]? = w.heap[mp]? → v = rsV (behF m lst t c).1 (behF m lst t c).2 → ∃ w3, (Instr.mapUpdate 90 (.map (some mp)) (mvV t d c) v).run Tryd.prog w2 = .ok () w3 ∧ MapOk w3 mp m lst ∧ w2.grownBy w3 (some mp)) := by
  obtain ⟨es, clock, h1, h2⟩ := h
  obtain ⟨kl, hkl⟩ := key_of t d c hc
  have hkeys : ∀ e ∈ es.toList, ∃ l, keyOf Tryd.prog 93 e.key = some l := fun e he => by
    obtain ⟨t', d', c', _, hc', hk, _⟩ := h2 e he
    rw [hk]; exact key_of t' d' c' hc'
  have hf := fun w => keyMv.find w hkl es.toList hkeys
  rcases hf w with ⟨g1, g2⟩ | ⟨j, e0, g1, g2, g3⟩
  · refine .inr ⟨?_, fun w2 v hw2 hv => ?_⟩
    · simp [Instr.lookup, run_underlying Tryd.underlying90, MapKept.run_getObj_map h1, keyMv.check w _ hkl, g1, Result.andThen]
    · have h12 : w2.heap[mp]? = some (.map es clock) := hw2.trans h1
      rcases hf w2 with ⟨k1, k2⟩ | ⟨j, e0, k1, k2, k3⟩
      · refine ⟨{ w2 with heap := w2.heap.setIfInBounds mp (.map (es.push ⟨mvV t d c, v, clock⟩) (clock + 1)) }, ?_, ⟨es.push ⟨mvV t d c, v, clock⟩, clock + 1, ?_, ?_⟩, ⟨rfl, rfl, rfl, by simp, fun k hk hne => ?_⟩⟩
        · simp [Instr.mapUpdate, run_underlying Tryd.underlying90, MapKept.run_getObj_map h12, keyMv.check w2 false hkl, k1, MapKept.run_setObj_map _ h12, Result.andThen]
        · have hlt : mp < w2.heap.size := (Array.getElem?_eq_some_iff.1 h12).1
          simp [hlt]
        · intro x hx
          simp only [Array.toList_push, List.mem_append, List.mem_singleton] at hx
          rcases hx with hx | rfl
          · exact h2 x hx
          · exact ⟨t, d, c, ht, hc, rfl, hv⟩
        · have : mp ≠ k := fun e => hne (by rw [e])
          simp [this]
      · exact absurd k3 (g2 e0 (List.mem_of_getElem? k2))
  · refine .inl ?_
    obtain ⟨t', d', c', ht', hc', hk, hv⟩ := h2 e0 (List.mem_of_getElem? g2)
    rw [g3] at hk
    have hk' : c = c' ∧ t = t' := by
      simp only [mvV, mvC, wv, Value.agg.injEq] at hk
      simp at hk
      obtain ⟨a0, a1, a2, a3, _, a5⟩ := hk
      exact ⟨by omega, uw_inj ht ht' (by omega) (by omega) (by omega) (by omega)⟩
    obtain ⟨rfl, rfl⟩ := hk'
    simp [Instr.lookup, run_underlying Tryd.underlying90, MapKept.run_getObj_map h1, keyMv.check w _ hkl, g1, hv, Result.andThen]
end Go.Proofs.YtahphjaelpgjdaaDoor

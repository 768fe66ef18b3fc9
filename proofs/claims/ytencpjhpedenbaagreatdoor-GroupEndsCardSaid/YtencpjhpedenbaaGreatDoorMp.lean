/- Maps of texts: a new key put in, a key looked up, at any map type of this program. No condition. -/
import Derived.Test.YtencpjhpedenbaaGreatDoorM5
import Derived.Maps.AppendAt
import Derived.StringKeys
import Derived.Maps.OwnSet
namespace Go.Proofs.YtencpjhpedenbaaGreatDoor
open Go.RowKit
set_option linter.unusedVariables false
set_option linter.unusedSimpArgs false

theorem keyK : WideMaps.KeyLaw Tryz.prog 9 := WideMaps.string_law Tryz.underlying9
/-- what a map holds: texts, values -/
def MapS (w : World) (mp : Nat) (L : List (ByteArray × Value)) : Prop :=
  ∃ (es : Array MapEntry) (clock : Nat), w.heap[mp]? = some (.map es clock) ∧ es.toList.map (fun e => (e.key, e.val)) = L.map (fun p => (Value.string p.1, p.2)) ∧ ∀ p ∈ L, p.1.size ≤ 1000000
theorem MapS.kept {w w' : World} {mp : Nat} {L : List (ByteArray × Value)} (h : MapS w mp L) (hk : w'.heap[mp]? = w.heap[mp]?) : MapS w' mp L := by
  obtain ⟨es, clock, h1, h2⟩ := h
  exact ⟨es, clock, hk.trans h1, h2⟩
theorem MapS.lt {w : World} {mp : Nat} {L : List (ByteArray × Value)} (h : MapS w mp L) : mp < w.heap.size := by
  obtain ⟨es, clock, h1, h2⟩ := h
  exact (Array.getElem?_eq_some_iff.1 h1).1
theorem MapS.below {w w' : World} {mp : Nat} {L : List (ByteArray × Value)} (h : MapS w mp L) (hb : Below w.heap.size w w') : MapS w' mp L := h.kept (hb.block mp h.lt)
/-- a row of cells grew: the map stays -/
theorem MapS.grown {w w' : World} {mp : Nat} {L : List (ByteArray × Value)} {row : Option Nat} (h : MapS w mp L) (hg : w.grownBy w' row) (hr : ∀ g, row = some g → ∃ cs t fr, w.heap[g]? = some (.cells cs t fr)) : MapS w' mp L := by
  refine h.kept (hg.block mp h.lt fun e => ?_)
  obtain ⟨es, clock, h1, _⟩ := h
  obtain ⟨cs, t, fr, h2⟩ := hr mp e.symm
  rw [h1] at h2; cases h2
theorem key9 {s : ByteArray} (hs : s.size ≤ 1000000) : keyOf Tryz.prog 9 (.string s) = some (.string s.data.toList) := WideMaps.keyOf_string_mk Tryz.underlying9 (by unfold maxLen; omega)
theorem entry_mem {es : Array MapEntry} {L : List (ByteArray × Value)} (h : es.toList.map (fun e => (e.key, e.val)) = L.map (fun p => (Value.string p.1, p.2))) {e : MapEntry} (he : e ∈ es.toList) : ∃ p ∈ L, e.key = .string p.1 ∧ e.val = p.2 := by
  have : (e.key, e.val) ∈ es.toList.map (fun e => (e.key, e.val)) := List.mem_map.2 ⟨e, he, rfl⟩
  rw [h] at this
  obtain ⟨p, hp, hq⟩ := List.mem_map.1 this
  simp only [Prod.mk.injEq] at hq
  exact ⟨p, hp, hq.1.symm, hq.2.symm⟩
theorem mem_entry {es : Array MapEntry} {L : List (ByteArray × Value)} (h : es.toList.map (fun e => (e.key, e.val)) = L.map (fun p => (Value.string p.1, p.2))) {p : ByteArray × Value} (hp : p ∈ L) : ∃ e ∈ es.toList, e.key = .string p.1 ∧ e.val = p.2 := by
  have : (Value.string p.1, p.2) ∈ L.map (fun p => (Value.string p.1, p.2)) := List.mem_map.2 ⟨p, hp, rfl⟩
  rw [← h] at this
  obtain ⟨e, he, hq⟩ := List.mem_map.1 this
  simp only [Prod.mk.injEq] at hq
  exact ⟨e, he, hq.1, hq.2⟩
theorem keys9 {es : Array MapEntry} {L : List (ByteArray × Value)} (h : es.toList.map (fun e => (e.key, e.val)) = L.map (fun p => (Value.string p.1, p.2))) (hL : ∀ p ∈ L, p.1.size ≤ 1000000) : ∀ e ∈ es.toList, ∃ l, keyOf Tryz.prog 9 e.key = some l := fun e he => by
  obtain ⟨p, hp, hk, _⟩ := entry_mem h he
  rw [hk]
  exact ⟨_, key9 (hL p hp)⟩
theorem put_new {t vt : TypeId} (ht : Tryz.prog.underlying t = some (.map 9 vt)) {w : World} {mp : Nat} {L : List (ByteArray × Value)} (h : MapS w mp L) (s : ByteArray) (v : Value) (hs : s.size ≤ 1000000) (hn : ∀ p ∈ L, p.1 ≠ s) :
    ∃ w3, (Instr.mapUpdate t (.map (some mp)) (.string s) v).run Tryz.prog w = .ok () w3 ∧ MapS w3 mp (L ++ [(s, v)]) ∧ w.grownBy w3 (some mp) ∧ w3.heap.size = w.heap.size := by
  obtain ⟨es, clock, h1, h2, h3⟩ := h
  rcases keyK.find w (key9 hs) es.toList (keys9 h2 h3) with ⟨k1, k2⟩ | ⟨j, e0, k1, k2, k3⟩
  · refine ⟨{ w with heap := w.heap.setIfInBounds mp (.map (es.push ⟨.string s, v, clock⟩) (clock + 1)) }, ?_, ⟨es.push ⟨.string s, v, clock⟩, clock + 1, ?_, ?_, ?_⟩, ⟨rfl, rfl, rfl, by simp, fun k hk hne => ?_⟩, by simp⟩
    · simp [Instr.mapUpdate, run_underlying ht, MapKept.run_getObj_map h1, keyK.check w false (key9 hs), k1, MapKept.run_setObj_map _ h1, Result.andThen]
    · have hlt : mp < w.heap.size := (Array.getElem?_eq_some_iff.1 h1).1
      simp [hlt]
    · simp [h2]
    · intro p hp
      rcases List.mem_append.1 hp with hp | hp
      · exact h3 p hp
      · rw [List.mem_singleton.1 hp]; exact hs
    · have : mp ≠ k := fun e => hne (by rw [e])
      simp [this]
  · obtain ⟨p, hp, hk, _⟩ := entry_mem h2 (List.mem_of_getElem? k2)
    rw [hk] at k3
    exact absurd (by simpa using k3) (hn p hp)
theorem look_new {t vt : TypeId} (ht : Tryz.prog.underlying t = some (.map 9 vt)) {z : Value} (hz : ∀ w, (zeroValue vt).run Tryz.prog w = .ok z w) {w : World} {mp : Nat} {L : List (ByteArray × Value)} (h : MapS w mp L) (s : ByteArray) (hs : s.size ≤ 1000000) :
    (∃ p ∈ L, p.1 = s ∧ (Instr.lookup t (.map (some mp)) (.string s) true).run Tryz.prog w = .ok (.tuple #[p.2, .bool true]) w) ∨
    ((∀ p ∈ L, p.1 ≠ s) ∧ (Instr.lookup t (.map (some mp)) (.string s) true).run Tryz.prog w = .ok (.tuple #[z, .bool false]) w) := by
  obtain ⟨es, clock, h1, h2, h3⟩ := h
  rcases keyK.find w (key9 hs) es.toList (keys9 h2 h3) with ⟨k1, k2⟩ | ⟨j, e0, k1, k2, k3⟩
  · refine .inr ⟨fun p hp e => ?_, ?_⟩
    · obtain ⟨e1, he, hk, _⟩ := mem_entry h2 hp
      exact k2 e1 he (by rw [hk, e])
    · simp [Instr.lookup, run_underlying ht, MapKept.run_getObj_map h1, keyK.check w _ (key9 hs), k1, hz, Result.andThen]
  · obtain ⟨p, hp, hk, hv⟩ := entry_mem h2 (List.mem_of_getElem? k2)
    rw [hk] at k3
    refine .inl ⟨p, hp, by simpa using k3, ?_⟩
    simp [Instr.lookup, run_underlying ht, MapKept.run_getObj_map h1, keyK.check w _ (key9 hs), k1, hv, Result.andThen]
end Go.Proofs.YtencpjhpedenbaaGreatDoor

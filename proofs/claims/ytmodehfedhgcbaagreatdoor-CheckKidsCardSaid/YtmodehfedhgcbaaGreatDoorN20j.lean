/- A map of texts: a new key put in, a key looked up. No condition. -/
import Derived.Test.YtmodehfedhgcbaaGreatDoorN12j
import Derived.Maps.AppendAt
import Derived.StringKeys
import Derived.Maps.OwnSet
import Derived.Deep.DeepCutAuto
import Derived.Test.YtmodehfedhgcbaaGreatDoorN10j
namespace Go.Proofs.YtmodehfedhgcbaaGreatDoor.Ck
open Go.RowKit
set_option linter.unusedVariables false
set_option linter.unusedSimpArgs false

theorem keyK : WideMaps.KeyLaw Tryz.prog 9 := WideMaps.string_law Tryz.underlying9
/-- what a map holds: texts, values, no text twice -/
def MapS (w : World) (mp : Nat) (L : List (ByteArray × Value)) : Prop :=
  ∃ (es : Array MapEntry) (clock : Nat), w.heap[mp]? = some (.map es clock) ∧ es.toList.map (fun e => (e.key, e.val)) = L.map (fun p => (Value.string p.1, p.2)) ∧ ∀ p ∈ L, p.1.size ≤ 200
theorem MapS.kept {w w' : World} {mp : Nat} {L : List (ByteArray × Value)} (h : MapS w mp L) (hk : w'.heap[mp]? = w.heap[mp]?) : MapS w' mp L := by
  obtain ⟨es, clock, h1, h2⟩ := h
  exact ⟨es, clock, hk.trans h1, h2⟩
theorem MapS.lt {w : World} {mp : Nat} {L : List (ByteArray × Value)} (h : MapS w mp L) : mp < w.heap.size := by
  obtain ⟨es, clock, h1, h2⟩ := h
  exact (Array.getElem?_eq_some_iff.1 h1).1
theorem MapS.below {w w' : World} {mp : Nat} {L : List (ByteArray × Value)} (h : MapS w mp L) (hb : Below w.heap.size w w') : MapS w' mp L := h.kept (hb.block mp h.lt)
theorem key9 {s : ByteArray} (hs : s.size ≤ 200) : keyOf Tryz.prog 9 (.string s) = some (.string s.data.toList) := WideMaps.keyOf_string_mk Tryz.underlying9 (by unfold maxLen; omega)
theorem entry_mem {es : Array MapEntry} {L : List (ByteArray × Value)} (h : es.toList.map (fun e => (e.key, e.val)) = L.map (fun p => (Value.string p.1, p.2))) {e : MapEntry} (he : e ∈ es.toList) : ∃ p ∈ L, e.key = .string p.1 ∧ e.val = p.2 := by
  have : (e.key, e.val) ∈ es.toList.map (fun e => (e.key, e.val)) := List.mem_map.2 ⟨e, he, rfl⟩
  rw [h] at this
  obtain ⟨p, hp, hq⟩ := List.mem_map.1 this
  simp only [Prod.mk.injEq] at hq
  exact ⟨p, hp, hq.1.symm, hq.2.symm⟩
theorem mem_entry {es : Array MapEntry} {L : List (ByteArray × Value)} (h : es.toList.map (fun e => (e.key, e.val)) = L.map (fun p => (Value.string p.1, p.2))) {p : ByteArray × Value} (hp : p ∈ L) : ∃ e ∈ es.toList, e.key = .string p.1 ∧ e.val = p.2 := by
  have : (Value.string p.1, p.2) ∈ L.map (fun p => (Value.string p.1, p.2)) := List.mem_map.2 ⟨p, hp, rfl⟩
  rw [← h] at this
  obtain ⟨e, he, hq⟩ := List.mem_map.1 this
  simp only [Prod.mk.injEq] at hq
  exact ⟨e, he, hq.1, hq.2⟩
theorem keys9 {es : Array MapEntry} {L : List (ByteArray × Value)} (h : es.toList.map (fun e => (e.key, e.val)) = L.map (fun p => (Value.string p.1, p.2))) (hL : ∀ p ∈ L, p.1.size ≤ 200) : ∀ e ∈ es.toList, ∃ l, keyOf Tryz.prog 9 e.key = some l := fun e he => by
  obtain ⟨p, hp, hk, _⟩ := entry_mem h he
  rw [hk]
  exact ⟨_, key9 (hL p hp)⟩
theorem put_new {w : World} {mp : Nat} {L : List (ByteArray × Value)} (h : MapS w mp L) (s : ByteArray) (v : Value) (hs : s.size ≤ 200) (hn : ∀ p ∈ L, p.1 ≠ s) :
    ∃ w3, (Instr.mapUpdate 42 (.map (some mp)) (.string s) v).run Tryz.prog w = .ok () w3 ∧ MapS w3 mp (L ++ [(s, v)]) ∧ w.grownBy w3 (some mp) ∧ w3.heap.size = w.heap.size := by
  obtain ⟨es, clock, h1, h2, h3⟩ := h
  rcases keyK.find w (key9 hs) es.toList (keys9 h2 h3) with ⟨k1, k2⟩ | ⟨j, e0, k1, k2, k3⟩
  · refine ⟨{ w with heap := w.heap.setIfInBounds mp (.map (es.push ⟨.string s, v, clock⟩) (clock + 1)) }, ?_, ⟨es.push ⟨.string s, v, clock⟩, clock + 1, ?_, ?_, ?_⟩, ⟨rfl, rfl, rfl, by simp, fun k hk hne => ?_⟩, by simp⟩
    · simp [Instr.mapUpdate, run_underlying Tryz.underlying42, MapKept.run_getObj_map h1, keyK.check w false (key9 hs), k1, MapKept.run_setObj_map _ h1, Result.andThen]
    · have hlt : mp < w.heap.size := (Array.getElem?_eq_some_iff.1 h1).1
      simp [hlt]
    · simp [h2]
    · intro p hp
      rcases List.mem_append.1 hp with hp | hp
      · exact h3 p hp
      · rw [List.mem_singleton.1 hp]; exact hs
    · have : mp ≠ k := fun e => hne (by rw [e])
      simp [this]
  · obtain ⟨p, hp, hk, _⟩ := entry_mem h2 (List.mem_of_getElem? k2)
    rw [hk] at k3
    exact absurd (by simpa using k3) (hn p hp)
theorem zero50 (w : World) : (zeroValue 50).run Tryz.prog w = .ok (.agg #[.slice none 0 0, .int .i64 0]) w := by kernel_rfl
theorem look_new {w : World} {mp : Nat} {L : List (ByteArray × Value)} (h : MapS w mp L) (s : ByteArray) (hs : s.size ≤ 200) :
    (∃ p ∈ L, p.1 = s ∧ (Instr.lookup 42 (.map (some mp)) (.string s) true).run Tryz.prog w = .ok (.tuple #[p.2, .bool true]) w) ∨
    ((∀ p ∈ L, p.1 ≠ s) ∧ (Instr.lookup 42 (.map (some mp)) (.string s) true).run Tryz.prog w = .ok (.tuple #[.agg #[.slice none 0 0, .int .i64 0], .bool false]) w) := by
  obtain ⟨es, clock, h1, h2, h3⟩ := h
  rcases keyK.find w (key9 hs) es.toList (keys9 h2 h3) with ⟨k1, k2⟩ | ⟨j, e0, k1, k2, k3⟩
  · refine .inr ⟨fun p hp e => ?_, ?_⟩
    · obtain ⟨e1, he, hk, _⟩ := mem_entry h2 hp
      exact k2 e1 he (by rw [hk, e])
    · simp [Instr.lookup, run_underlying Tryz.underlying42, MapKept.run_getObj_map h1, keyK.check w _ (key9 hs), k1, zero50, Result.andThen]
  · obtain ⟨p, hp, hk, hv⟩ := entry_mem h2 (List.mem_of_getElem? k2)
    rw [hk] at k3
    refine .inl ⟨p, hp, by simpa using k3, ?_⟩
    simp [Instr.lookup, run_underlying Tryz.underlying42, MapKept.run_getObj_map h1, keyK.check w _ (key9 hs), k1, hv, Result.andThen]
end Go.Proofs.YtmodehfedhgcbaaGreatDoor.Ck

namespace Go.Proofs.YtmodehfedhgcbaaGreatDoor.Ck
open Go.RowKit
set_option linter.unusedVariables false
set_option linter.unusedSimpArgs false

def chk0 (b1 b2 b3 b4 : Nat) : List (ByteArray × Value) := []
def chk1 (b1 b2 b3 b4 : Nat) : List (ByteArray × Value) := [(⟨#[114, 97, 116, 101]⟩, .agg #[.slice (some ⟨b1, 0, none⟩) 1 1, .int .i64 2])]
def chk2 (b1 b2 b3 b4 : Nat) : List (ByteArray × Value) := [(⟨#[114, 97, 116, 101]⟩, .agg #[.slice (some ⟨b1, 0, none⟩) 1 1, .int .i64 2]), (⟨#[105, 110, 99, 114, 101, 97, 115, 101]⟩, .agg #[.slice (some ⟨b1, 0, none⟩) 1 1, .int .i64 2])]
def chk3 (b1 b2 b3 b4 : Nat) : List (ByteArray × Value) := [(⟨#[114, 97, 116, 101]⟩, .agg #[.slice (some ⟨b1, 0, none⟩) 1 1, .int .i64 2]), (⟨#[105, 110, 99, 114, 101, 97, 115, 101]⟩, .agg #[.slice (some ⟨b1, 0, none⟩) 1 1, .int .i64 2]), (⟨#[100, 101, 108, 116, 97]⟩, .agg #[.slice (some ⟨b1, 0, none⟩) 1 1, .int .i64 2])]
def chk4 (b1 b2 b3 b4 : Nat) : List (ByteArray × Value) := [(⟨#[114, 97, 116, 101]⟩, .agg #[.slice (some ⟨b1, 0, none⟩) 1 1, .int .i64 2]), (⟨#[105, 110, 99, 114, 101, 97, 115, 101]⟩, .agg #[.slice (some ⟨b1, 0, none⟩) 1 1, .int .i64 2]), (⟨#[100, 101, 108, 116, 97]⟩, .agg #[.slice (some ⟨b1, 0, none⟩) 1 1, .int .i64 2]), (⟨#[97, 98, 115]⟩, .agg #[.slice (some ⟨b2, 0, none⟩) 1 1, .int .i64 2])]
def chk5 (b1 b2 b3 b4 : Nat) : List (ByteArray × Value) := [(⟨#[114, 97, 116, 101]⟩, .agg #[.slice (some ⟨b1, 0, none⟩) 1 1, .int .i64 2]), (⟨#[105, 110, 99, 114, 101, 97, 115, 101]⟩, .agg #[.slice (some ⟨b1, 0, none⟩) 1 1, .int .i64 2]), (⟨#[100, 101, 108, 116, 97]⟩, .agg #[.slice (some ⟨b1, 0, none⟩) 1 1, .int .i64 2]), (⟨#[97, 98, 115]⟩, .agg #[.slice (some ⟨b2, 0, none⟩) 1 1, .int .i64 2]), (⟨#[116, 105, 109, 101]⟩, .agg #[.slice none 0 0, .int .i64 1])]
def chk6 (b1 b2 b3 b4 : Nat) : List (ByteArray × Value) := [(⟨#[114, 97, 116, 101]⟩, .agg #[.slice (some ⟨b1, 0, none⟩) 1 1, .int .i64 2]), (⟨#[105, 110, 99, 114, 101, 97, 115, 101]⟩, .agg #[.slice (some ⟨b1, 0, none⟩) 1 1, .int .i64 2]), (⟨#[100, 101, 108, 116, 97]⟩, .agg #[.slice (some ⟨b1, 0, none⟩) 1 1, .int .i64 2]), (⟨#[97, 98, 115]⟩, .agg #[.slice (some ⟨b2, 0, none⟩) 1 1, .int .i64 2]), (⟨#[116, 105, 109, 101]⟩, .agg #[.slice none 0 0, .int .i64 1]), (⟨#[118, 101, 99, 116, 111, 114]⟩, .agg #[.slice (some ⟨b4, 0, none⟩) 1 1, .int .i64 2])]
def chk7 (b1 b2 b3 b4 : Nat) : List (ByteArray × Value) := [(⟨#[114, 97, 116, 101]⟩, .agg #[.slice (some ⟨b1, 0, none⟩) 1 1, .int .i64 2]), (⟨#[105, 110, 99, 114, 101, 97, 115, 101]⟩, .agg #[.slice (some ⟨b1, 0, none⟩) 1 1, .int .i64 2]), (⟨#[100, 101, 108, 116, 97]⟩, .agg #[.slice (some ⟨b1, 0, none⟩) 1 1, .int .i64 2]), (⟨#[97, 98, 115]⟩, .agg #[.slice (some ⟨b2, 0, none⟩) 1 1, .int .i64 2]), (⟨#[116, 105, 109, 101]⟩, .agg #[.slice none 0 0, .int .i64 1]), (⟨#[118, 101, 99, 116, 111, 114]⟩, .agg #[.slice (some ⟨b4, 0, none⟩) 1 1, .int .i64 2]), (⟨#[115, 117, 109]⟩, .agg #[.slice (some ⟨b2, 0, none⟩) 1 1, .int .i64 2])]
def chk8 (b1 b2 b3 b4 : Nat) : List (ByteArray × Value) := [(⟨#[114, 97, 116, 101]⟩, .agg #[.slice (some ⟨b1, 0, none⟩) 1 1, .int .i64 2]), (⟨#[105, 110, 99, 114, 101, 97, 115, 101]⟩, .agg #[.slice (some ⟨b1, 0, none⟩) 1 1, .int .i64 2]), (⟨#[100, 101, 108, 116, 97]⟩, .agg #[.slice (some ⟨b1, 0, none⟩) 1 1, .int .i64 2]), (⟨#[97, 98, 115]⟩, .agg #[.slice (some ⟨b2, 0, none⟩) 1 1, .int .i64 2]), (⟨#[116, 105, 109, 101]⟩, .agg #[.slice none 0 0, .int .i64 1]), (⟨#[118, 101, 99, 116, 111, 114]⟩, .agg #[.slice (some ⟨b4, 0, none⟩) 1 1, .int .i64 2]), (⟨#[115, 117, 109]⟩, .agg #[.slice (some ⟨b2, 0, none⟩) 1 1, .int .i64 2]), (⟨#[97, 118, 103]⟩, .agg #[.slice (some ⟨b2, 0, none⟩) 1 1, .int .i64 2])]
def chk9 (b1 b2 b3 b4 : Nat) : List (ByteArray × Value) := [(⟨#[114, 97, 116, 101]⟩, .agg #[.slice (some ⟨b1, 0, none⟩) 1 1, .int .i64 2]), (⟨#[105, 110, 99, 114, 101, 97, 115, 101]⟩, .agg #[.slice (some ⟨b1, 0, none⟩) 1 1, .int .i64 2]), (⟨#[100, 101, 108, 116, 97]⟩, .agg #[.slice (some ⟨b1, 0, none⟩) 1 1, .int .i64 2]), (⟨#[97, 98, 115]⟩, .agg #[.slice (some ⟨b2, 0, none⟩) 1 1, .int .i64 2]), (⟨#[116, 105, 109, 101]⟩, .agg #[.slice none 0 0, .int .i64 1]), (⟨#[118, 101, 99, 116, 111, 114]⟩, .agg #[.slice (some ⟨b4, 0, none⟩) 1 1, .int .i64 2]), (⟨#[115, 117, 109]⟩, .agg #[.slice (some ⟨b2, 0, none⟩) 1 1, .int .i64 2]), (⟨#[97, 118, 103]⟩, .agg #[.slice (some ⟨b2, 0, none⟩) 1 1, .int .i64 2]), (⟨#[109, 105, 110]⟩, .agg #[.slice (some ⟨b2, 0, none⟩) 1 1, .int .i64 2])]
def chk10 (b1 b2 b3 b4 : Nat) : List (ByteArray × Value) := [(⟨#[114, 97, 116, 101]⟩, .agg #[.slice (some ⟨b1, 0, none⟩) 1 1, .int .i64 2]), (⟨#[105, 110, 99, 114, 101, 97, 115, 101]⟩, .agg #[.slice (some ⟨b1, 0, none⟩) 1 1, .int .i64 2]), (⟨#[100, 101, 108, 116, 97]⟩, .agg #[.slice (some ⟨b1, 0, none⟩) 1 1, .int .i64 2]), (⟨#[97, 98, 115]⟩, .agg #[.slice (some ⟨b2, 0, none⟩) 1 1, .int .i64 2]), (⟨#[116, 105, 109, 101]⟩, .agg #[.slice none 0 0, .int .i64 1]), (⟨#[118, 101, 99, 116, 111, 114]⟩, .agg #[.slice (some ⟨b4, 0, none⟩) 1 1, .int .i64 2]), (⟨#[115, 117, 109]⟩, .agg #[.slice (some ⟨b2, 0, none⟩) 1 1, .int .i64 2]), (⟨#[97, 118, 103]⟩, .agg #[.slice (some ⟨b2, 0, none⟩) 1 1, .int .i64 2]), (⟨#[109, 105, 110]⟩, .agg #[.slice (some ⟨b2, 0, none⟩) 1 1, .int .i64 2]), (⟨#[109, 97, 120]⟩, .agg #[.slice (some ⟨b2, 0, none⟩) 1 1, .int .i64 2])]
def chk11 (b1 b2 b3 b4 : Nat) : List (ByteArray × Value) := [(⟨#[114, 97, 116, 101]⟩, .agg #[.slice (some ⟨b1, 0, none⟩) 1 1, .int .i64 2]), (⟨#[105, 110, 99, 114, 101, 97, 115, 101]⟩, .agg #[.slice (some ⟨b1, 0, none⟩) 1 1, .int .i64 2]), (⟨#[100, 101, 108, 116, 97]⟩, .agg #[.slice (some ⟨b1, 0, none⟩) 1 1, .int .i64 2]), (⟨#[97, 98, 115]⟩, .agg #[.slice (some ⟨b2, 0, none⟩) 1 1, .int .i64 2]), (⟨#[116, 105, 109, 101]⟩, .agg #[.slice none 0 0, .int .i64 1]), (⟨#[118, 101, 99, 116, 111, 114]⟩, .agg #[.slice (some ⟨b4, 0, none⟩) 1 1, .int .i64 2]), (⟨#[115, 117, 109]⟩, .agg #[.slice (some ⟨b2, 0, none⟩) 1 1, .int .i64 2]), (⟨#[97, 118, 103]⟩, .agg #[.slice (some ⟨b2, 0, none⟩) 1 1, .int .i64 2]), (⟨#[109, 105, 110]⟩, .agg #[.slice (some ⟨b2, 0, none⟩) 1 1, .int .i64 2]), (⟨#[109, 97, 120]⟩, .agg #[.slice (some ⟨b2, 0, none⟩) 1 1, .int .i64 2]), (⟨#[99, 111, 117, 110, 116]⟩, .agg #[.slice (some ⟨b2, 0, none⟩) 1 1, .int .i64 2])]
def chk12 (b1 b2 b3 b4 : Nat) : List (ByteArray × Value) := [(⟨#[114, 97, 116, 101]⟩, .agg #[.slice (some ⟨b1, 0, none⟩) 1 1, .int .i64 2]), (⟨#[105, 110, 99, 114, 101, 97, 115, 101]⟩, .agg #[.slice (some ⟨b1, 0, none⟩) 1 1, .int .i64 2]), (⟨#[100, 101, 108, 116, 97]⟩, .agg #[.slice (some ⟨b1, 0, none⟩) 1 1, .int .i64 2]), (⟨#[97, 98, 115]⟩, .agg #[.slice (some ⟨b2, 0, none⟩) 1 1, .int .i64 2]), (⟨#[116, 105, 109, 101]⟩, .agg #[.slice none 0 0, .int .i64 1]), (⟨#[118, 101, 99, 116, 111, 114]⟩, .agg #[.slice (some ⟨b4, 0, none⟩) 1 1, .int .i64 2]), (⟨#[115, 117, 109]⟩, .agg #[.slice (some ⟨b2, 0, none⟩) 1 1, .int .i64 2]), (⟨#[97, 118, 103]⟩, .agg #[.slice (some ⟨b2, 0, none⟩) 1 1, .int .i64 2]), (⟨#[109, 105, 110]⟩, .agg #[.slice (some ⟨b2, 0, none⟩) 1 1, .int .i64 2]), (⟨#[109, 97, 120]⟩, .agg #[.slice (some ⟨b2, 0, none⟩) 1 1, .int .i64 2]), (⟨#[99, 111, 117, 110, 116]⟩, .agg #[.slice (some ⟨b2, 0, none⟩) 1 1, .int .i64 2]), (⟨#[116, 111, 112, 107]⟩, .agg #[.slice (some ⟨b3, 0, none⟩) 2 2, .int .i64 2])]
def chk13 (b1 b2 b3 b4 : Nat) : List (ByteArray × Value) := [(⟨#[114, 97, 116, 101]⟩, .agg #[.slice (some ⟨b1, 0, none⟩) 1 1, .int .i64 2]), (⟨#[105, 110, 99, 114, 101, 97, 115, 101]⟩, .agg #[.slice (some ⟨b1, 0, none⟩) 1 1, .int .i64 2]), (⟨#[100, 101, 108, 116, 97]⟩, .agg #[.slice (some ⟨b1, 0, none⟩) 1 1, .int .i64 2]), (⟨#[97, 98, 115]⟩, .agg #[.slice (some ⟨b2, 0, none⟩) 1 1, .int .i64 2]), (⟨#[116, 105, 109, 101]⟩, .agg #[.slice none 0 0, .int .i64 1]), (⟨#[118, 101, 99, 116, 111, 114]⟩, .agg #[.slice (some ⟨b4, 0, none⟩) 1 1, .int .i64 2]), (⟨#[115, 117, 109]⟩, .agg #[.slice (some ⟨b2, 0, none⟩) 1 1, .int .i64 2]), (⟨#[97, 118, 103]⟩, .agg #[.slice (some ⟨b2, 0, none⟩) 1 1, .int .i64 2]), (⟨#[109, 105, 110]⟩, .agg #[.slice (some ⟨b2, 0, none⟩) 1 1, .int .i64 2]), (⟨#[109, 97, 120]⟩, .agg #[.slice (some ⟨b2, 0, none⟩) 1 1, .int .i64 2]), (⟨#[99, 111, 117, 110, 116]⟩, .agg #[.slice (some ⟨b2, 0, none⟩) 1 1, .int .i64 2]), (⟨#[116, 111, 112, 107]⟩, .agg #[.slice (some ⟨b3, 0, none⟩) 2 2, .int .i64 2]), (⟨#[98, 111, 116, 116, 111, 109, 107]⟩, .agg #[.slice (some ⟨b3, 0, none⟩) 2 2, .int .i64 2])]
/-- what calls and groups take and give, in memory -/
structure ChkM (w : World) (mp b1 b2 b3 b4 : Nat) : Prop where
  map : MapS w mp (chk13 b1 b2 b3 b4)
  x1 : Blk w b1 3 #[.int .i64 3]
  x2 : Blk w b2 3 #[.int .i64 2]
  x3 : Blk w b3 3 #[.int .i64 1, .int .i64 2]
  x4 : Blk w b4 3 #[.int .i64 1]
theorem ChkM.below {w w' : World} {mp b1 b2 b3 b4 : Nat} (h : ChkM w mp b1 b2 b3 b4) (hb : Below w.heap.size w w') : ChkM w' mp b1 b2 b3 b4 :=
  ⟨h.map.below hb, h.x1.below hb, h.x2.below hb, h.x3.below hb, h.x4.below hb⟩
theorem below_grown {B mp : Nat} {w W W' : World} (h : Below B w W) (hm : B ≤ mp) (hB : B ≤ w.heap.size) (hg : W.grownBy W' (some mp)) : Below B w W' :=
  ⟨hg.os.trans h.os, hg.tape.trans h.tape, hg.output.trans h.output, Nat.le_trans h.size hg.size, fun k hk => (hg.block k (Nat.lt_of_lt_of_le hk (Nat.le_trans hB h.size)) (by intro e; simp at e; omega)).trans (h.block k hk)⟩
theorem blk_grown' {w w' : World} {g mp : Nat} {t : TypeId} {cs : Array Value} (h : Blk w g t cs) (hg : w.grownBy w' (some mp)) (hne : mp ≠ g) : Blk w' g t cs := (hg.block g h.lt (by intro e; simp at e; omega)).trans h
theorem blk_other {w : World} {g k : Nat} {t : TypeId} {cs : Array Value} (h : Blk w g t cs) (hk : g ≠ k) (i : Nat) (u : Value) : Blk (w.setCell ⟨k, i, none⟩ u) g t cs := (Below.heap_setCell w ⟨k, i, none⟩ u g hk).trans h
theorem fresh {L : List (ByteArray × Value)} (ks : List (List UInt8)) (h : L.map (fun p => p.1.data.toList) = ks) (s : ByteArray) (hn : s.data.toList ∉ ks) : ∀ p ∈ L, p.1 ≠ s := fun p hp e => by
  have : p.1.data.toList ∈ L.map (fun p => p.1.data.toList) := List.mem_map.2 ⟨p, hp, rfl⟩
  rw [h, e] at this
  exact hn this
def W7 (w : World) : World :=
  ((((((w.alloc (.cells #[.map none] 44)).alloc (.cells #[.int .i64 3] 3)).alloc (.cells #[.slice (some ⟨w.heap.size + 1, 0, none⟩) 1 1, .int .i64 2] 50)).alloc (.cells #[.int .i64 2] 3)).alloc (.cells #[.slice (some ⟨w.heap.size + 1 + 1 + 1, 0, none⟩) 1 1, .int .i64 2] 50)).alloc (.cells #[.int .i64 1, .int .i64 2] 3)).alloc (.cells #[.slice (some ⟨w.heap.size + 1 + 1 + 1 + 1 + 1, 0, none⟩) 2 2, .int .i64 2] 50)
theorem W7_size (w : World) : (W7 w).heap.size = w.heap.size + 7 := by simp [W7]
theorem W7_below (w : World) : Below w.heap.size w (W7 w) := by
  unfold W7
  exact (((((((Below.refl _ _).alloc (Nat.le_refl _) _).alloc (by simp) _).alloc (by simp; omega) _).alloc (by simp; omega) _).alloc (by simp; omega) _).alloc (by simp; omega) _).alloc (by simp; omega) _
theorem W7_blk (w : World) : Blk (W7 w) w.heap.size 44 #[.map none] ∧ Blk (W7 w) (w.heap.size + 1) 3 #[.int .i64 3] ∧ Blk (W7 w) (w.heap.size + 1 + 1) 50 #[.slice (some ⟨w.heap.size + 1, 0, none⟩) 1 1, .int .i64 2] ∧ Blk (W7 w) (w.heap.size + 1 + 1 + 1) 3 #[.int .i64 2] ∧ Blk (W7 w) (w.heap.size + 1 + 1 + 1 + 1) 50 #[.slice (some ⟨w.heap.size + 1 + 1 + 1, 0, none⟩) 1 1, .int .i64 2] ∧ Blk (W7 w) (w.heap.size + 1 + 1 + 1 + 1 + 1) 3 #[.int .i64 1, .int .i64 2] ∧ Blk (W7 w) (w.heap.size + 1 + 1 + 1 + 1 + 1 + 1) 50 #[.slice (some ⟨w.heap.size + 1 + 1 + 1 + 1 + 1, 0, none⟩) 2 2, .int .i64 2] := by
  have key : ∀ (W : World) (n : Nat) (h : W.heap.size = n) (t : TypeId) (cs : Array Value), Blk (W.alloc (.cells cs t)) n t cs := fun W n h t cs => by subst h; exact Blk.new W t cs
  unfold W7
  refine ⟨?_, ?_, ?_, ?_, ?_, ?_, ?_⟩
  · exact ((((((key _ _ rfl _ _).alloc _).alloc _).alloc _).alloc _).alloc _).alloc _
  · exact (((((key _ _ (by simp) _ _).alloc _).alloc _).alloc _).alloc _).alloc _
  · exact ((((key _ _ (by simp) _ _).alloc _).alloc _).alloc _).alloc _
  · exact (((key _ _ (by simp) _ _).alloc _).alloc _).alloc _
  · exact ((key _ _ (by simp) _ _).alloc _).alloc _
  · exact (key _ _ (by simp) _ _).alloc _
  · exact key _ _ (by simp) _ _
set_option maxRecDepth 100000 in
set_option maxHeartbeats 4000000 in
theorem new_any (w : World) : Calls Tryz.prog 14 #[] w fun e w' => ∃ mp b1 b2 b3 b4, e = .returned (.agg #[.map (some mp)]) ∧ ChkM w' mp b1 b2 b3 b4 ∧ Below w.heap.size w w' := by
  have hmm := @run_makeMap Tryz.prog
  have HBW := Lib.hid (W7_below w)
  have HS7 := Lib.hid (W7_size w)
  obtain ⟨k0, k1, k2, k3, k4, k5, k6⟩ := W7_blk w
  have H0 := Lib.hid k0
  have H1 := Lib.hid k1
  have H2 := Lib.hid k2
  have H3 := Lib.hid k3
  have H4 := Lib.hid k4
  have H5 := Lib.hid k5
  have H6 := Lib.hid k6
  clear k0 k1 k2 k3 k4 k5 k6
  unfold W7 at HBW HS7 H0 H1 H2 H3 H4 H5 H6
  go_enter Tryz.func14, Tryz.ntmps14
  go_upto_region 4 with fail
  generalize World.alloc _ (.cells _ 50) = W0 at *
  have hb7 : W0.heap.size = w.heap.size + 1 + 1 + 1 + 1 + 1 + 1 + 1 := by have := HS7.out; omega
  have HM0 : Hid (MapS (W0.alloc (.map #[] 0)) (w.heap.size + 1 + 1 + 1 + 1 + 1 + 1 + 1) (chk0 (w.heap.size + 1) (w.heap.size + 1 + 1 + 1) (w.heap.size + 1 + 1 + 1 + 1 + 1) (w.heap.size + 1 + 1 + 1 + 1 + 1 + 1 + 1 + 1))) := ⟨#[], 0, by have := heap_alloc_new W0 (.map #[] 0); rw [hb7] at this; exact this, rfl, fun p hp => by cases hp⟩
  have HB0 : Hid (Below (w.heap.size + 1 + 1 + 1 + 1 + 1 + 1 + 1) W0 (W0.alloc (.map #[] 0))) := (Below.refl _ _).alloc (by omega) _
  have HG0 : Hid (Below (w.heap.size + 1 + 1 + 1 + 1 + 1 + 1 + 1) W0 (W0.alloc (.map #[] 0))) := HB0
  have y0a : (W0.alloc (.map #[] 0)).cell? ⟨w.heap.size + 1 + 1, 0, none⟩ = _ := (HB0.out.cell (p := ⟨w.heap.size + 1 + 1, 0, none⟩) (by show w.heap.size + 1 + 1 < w.heap.size + 1 + 1 + 1 + 1 + 1 + 1 + 1; omega)).trans (H2.out.cell 0)
  have y0b : (W0.alloc (.map #[] 0)).cell? ⟨w.heap.size + 1 + 1, 1, none⟩ = _ := (HB0.out.cell (p := ⟨w.heap.size + 1 + 1, 1, none⟩) (by show w.heap.size + 1 + 1 < w.heap.size + 1 + 1 + 1 + 1 + 1 + 1 + 1; omega)).trans (H2.out.cell 1)
  simp only [List.getElem?_toArray, List.getElem?_cons_zero, List.getElem?_cons_succ] at y0a y0b
  obtain ⟨v1, r0, m0, g0, s0⟩ := put_new HM0.out ⟨#[114, 97, 116, 101]⟩ (.agg #[.slice (some ⟨w.heap.size + 1, 0, none⟩) 1 1, .int .i64 2]) (by decide) (fresh [] rfl _ (by decide))
  have HM1 : Hid (MapS v1 (w.heap.size + 1 + 1 + 1 + 1 + 1 + 1 + 1) (chk1 (w.heap.size + 1) (w.heap.size + 1 + 1 + 1) (w.heap.size + 1 + 1 + 1 + 1 + 1) (w.heap.size + 1 + 1 + 1 + 1 + 1 + 1 + 1 + 1))) := m0
  have HB1 := Lib.hid (below_grown HB0.out (Nat.le_refl _) (by omega) g0)
  have y1a : v1.cell? ⟨w.heap.size + 1 + 1, 0, none⟩ = _ := (HB1.out.cell (p := ⟨w.heap.size + 1 + 1, 0, none⟩) (by show w.heap.size + 1 + 1 < w.heap.size + 1 + 1 + 1 + 1 + 1 + 1 + 1; omega)).trans (H2.out.cell 0)
  have y1b : v1.cell? ⟨w.heap.size + 1 + 1, 1, none⟩ = _ := (HB1.out.cell (p := ⟨w.heap.size + 1 + 1, 1, none⟩) (by show w.heap.size + 1 + 1 < w.heap.size + 1 + 1 + 1 + 1 + 1 + 1 + 1; omega)).trans (H2.out.cell 1)
  simp only [List.getElem?_toArray, List.getElem?_cons_zero, List.getElem?_cons_succ] at y1a y1b
  obtain ⟨v2, r1, m1, g1, s1⟩ := put_new HM1.out ⟨#[105, 110, 99, 114, 101, 97, 115, 101]⟩ (.agg #[.slice (some ⟨w.heap.size + 1, 0, none⟩) 1 1, .int .i64 2]) (by decide) (fresh [[114, 97, 116, 101]] rfl _ (by decide))
  have HM2 : Hid (MapS v2 (w.heap.size + 1 + 1 + 1 + 1 + 1 + 1 + 1) (chk2 (w.heap.size + 1) (w.heap.size + 1 + 1 + 1) (w.heap.size + 1 + 1 + 1 + 1 + 1) (w.heap.size + 1 + 1 + 1 + 1 + 1 + 1 + 1 + 1))) := m1
  have HB2 := Lib.hid (below_grown HB1.out (Nat.le_refl _) (by omega) g1)
  have y2a : v2.cell? ⟨w.heap.size + 1 + 1, 0, none⟩ = _ := (HB2.out.cell (p := ⟨w.heap.size + 1 + 1, 0, none⟩) (by show w.heap.size + 1 + 1 < w.heap.size + 1 + 1 + 1 + 1 + 1 + 1 + 1; omega)).trans (H2.out.cell 0)
  have y2b : v2.cell? ⟨w.heap.size + 1 + 1, 1, none⟩ = _ := (HB2.out.cell (p := ⟨w.heap.size + 1 + 1, 1, none⟩) (by show w.heap.size + 1 + 1 < w.heap.size + 1 + 1 + 1 + 1 + 1 + 1 + 1; omega)).trans (H2.out.cell 1)
  simp only [List.getElem?_toArray, List.getElem?_cons_zero, List.getElem?_cons_succ] at y2a y2b
  obtain ⟨v3, r2, m2, g2, s2⟩ := put_new HM2.out ⟨#[100, 101, 108, 116, 97]⟩ (.agg #[.slice (some ⟨w.heap.size + 1, 0, none⟩) 1 1, .int .i64 2]) (by decide) (fresh [[114, 97, 116, 101], [105, 110, 99, 114, 101, 97, 115, 101]] rfl _ (by decide))
  have HM3 : Hid (MapS v3 (w.heap.size + 1 + 1 + 1 + 1 + 1 + 1 + 1) (chk3 (w.heap.size + 1) (w.heap.size + 1 + 1 + 1) (w.heap.size + 1 + 1 + 1 + 1 + 1) (w.heap.size + 1 + 1 + 1 + 1 + 1 + 1 + 1 + 1))) := m2
  have HB3 := Lib.hid (below_grown HB2.out (Nat.le_refl _) (by omega) g2)
  have y3a : v3.cell? ⟨w.heap.size + 1 + 1 + 1 + 1, 0, none⟩ = _ := (HB3.out.cell (p := ⟨w.heap.size + 1 + 1 + 1 + 1, 0, none⟩) (by show w.heap.size + 1 + 1 + 1 + 1 < w.heap.size + 1 + 1 + 1 + 1 + 1 + 1 + 1; omega)).trans (H4.out.cell 0)
  have y3b : v3.cell? ⟨w.heap.size + 1 + 1 + 1 + 1, 1, none⟩ = _ := (HB3.out.cell (p := ⟨w.heap.size + 1 + 1 + 1 + 1, 1, none⟩) (by show w.heap.size + 1 + 1 + 1 + 1 < w.heap.size + 1 + 1 + 1 + 1 + 1 + 1 + 1; omega)).trans (H4.out.cell 1)
  simp only [List.getElem?_toArray, List.getElem?_cons_zero, List.getElem?_cons_succ] at y3a y3b
  obtain ⟨v4, r3, m3, g3, s3⟩ := put_new HM3.out ⟨#[97, 98, 115]⟩ (.agg #[.slice (some ⟨w.heap.size + 1 + 1 + 1, 0, none⟩) 1 1, .int .i64 2]) (by decide) (fresh [[114, 97, 116, 101], [105, 110, 99, 114, 101, 97, 115, 101], [100, 101, 108, 116, 97]] rfl _ (by decide))
  have HM4 : Hid (MapS v4 (w.heap.size + 1 + 1 + 1 + 1 + 1 + 1 + 1) (chk4 (w.heap.size + 1) (w.heap.size + 1 + 1 + 1) (w.heap.size + 1 + 1 + 1 + 1 + 1) (w.heap.size + 1 + 1 + 1 + 1 + 1 + 1 + 1 + 1))) := m3
  have HB4 := Lib.hid (below_grown HB3.out (Nat.le_refl _) (by omega) g3)
  obtain ⟨v5, r4, m4, g4, s4⟩ := put_new HM4.out ⟨#[116, 105, 109, 101]⟩ (.agg #[.slice none 0 0, .int .i64 1]) (by decide) (fresh [[114, 97, 116, 101], [105, 110, 99, 114, 101, 97, 115, 101], [100, 101, 108, 116, 97], [97, 98, 115]] rfl _ (by decide))
  have HM5 : Hid (MapS v5 (w.heap.size + 1 + 1 + 1 + 1 + 1 + 1 + 1) (chk5 (w.heap.size + 1) (w.heap.size + 1 + 1 + 1) (w.heap.size + 1 + 1 + 1 + 1 + 1) (w.heap.size + 1 + 1 + 1 + 1 + 1 + 1 + 1 + 1))) := m4
  have HB5 := Lib.hid (below_grown HB4.out (Nat.le_refl _) (by omega) g4)
  have hsv5 : v5.heap.size = w.heap.size + 1 + 1 + 1 + 1 + 1 + 1 + 1 + 1 := by rw [s4, s3, s2, s1, s0, World.size_alloc, hb7]
  have HV5 : Hid (Blk (v5.alloc (.cells #[.int .i64 1] 3)) (w.heap.size + 1 + 1 + 1 + 1 + 1 + 1 + 1 + 1) 3 #[.int .i64 1]) := by
    have := Blk.new v5 3 #[.int .i64 1]
    rw [hsv5] at this
    exact this
  have HMx := Lib.hid (MapS.below HM5.out ((Below.refl v5.heap.size v5).alloc (Nat.le_refl _) (.cells #[.int .i64 1] 3)))
  have HBx : Hid (Below (w.heap.size + 1 + 1 + 1 + 1 + 1 + 1 + 1) W0 (v5.alloc (.cells #[.int .i64 1] 3))) := HB5.out.alloc (by have := HB5.out.size; omega) _
  obtain ⟨v6, r5, m5, g5, s5⟩ := put_new HMx.out ⟨#[118, 101, 99, 116, 111, 114]⟩ (.agg #[.slice (some ⟨w.heap.size + 1 + 1 + 1 + 1 + 1 + 1 + 1 + 1, 0, none⟩) 1 1, .int .i64 2]) (by decide) (fresh [[114, 97, 116, 101], [105, 110, 99, 114, 101, 97, 115, 101], [100, 101, 108, 116, 97], [97, 98, 115], [116, 105, 109, 101]] rfl _ (by decide))
  have HM6 : Hid (MapS v6 (w.heap.size + 1 + 1 + 1 + 1 + 1 + 1 + 1) (chk6 (w.heap.size + 1) (w.heap.size + 1 + 1 + 1) (w.heap.size + 1 + 1 + 1 + 1 + 1) (w.heap.size + 1 + 1 + 1 + 1 + 1 + 1 + 1 + 1))) := m5
  have HB6 := Lib.hid (below_grown HBx.out (Nat.le_refl _) (by omega) g5)
  have y6a : v6.cell? ⟨w.heap.size + 1 + 1 + 1 + 1, 0, none⟩ = _ := (HB6.out.cell (p := ⟨w.heap.size + 1 + 1 + 1 + 1, 0, none⟩) (by show w.heap.size + 1 + 1 + 1 + 1 < w.heap.size + 1 + 1 + 1 + 1 + 1 + 1 + 1; omega)).trans (H4.out.cell 0)
  have y6b : v6.cell? ⟨w.heap.size + 1 + 1 + 1 + 1, 1, none⟩ = _ := (HB6.out.cell (p := ⟨w.heap.size + 1 + 1 + 1 + 1, 1, none⟩) (by show w.heap.size + 1 + 1 + 1 + 1 < w.heap.size + 1 + 1 + 1 + 1 + 1 + 1 + 1; omega)).trans (H4.out.cell 1)
  simp only [List.getElem?_toArray, List.getElem?_cons_zero, List.getElem?_cons_succ] at y6a y6b
  obtain ⟨v7, r6, m6, g6, s6⟩ := put_new HM6.out ⟨#[115, 117, 109]⟩ (.agg #[.slice (some ⟨w.heap.size + 1 + 1 + 1, 0, none⟩) 1 1, .int .i64 2]) (by decide) (fresh [[114, 97, 116, 101], [105, 110, 99, 114, 101, 97, 115, 101], [100, 101, 108, 116, 97], [97, 98, 115], [116, 105, 109, 101], [118, 101, 99, 116, 111, 114]] rfl _ (by decide))
  have HM7 : Hid (MapS v7 (w.heap.size + 1 + 1 + 1 + 1 + 1 + 1 + 1) (chk7 (w.heap.size + 1) (w.heap.size + 1 + 1 + 1) (w.heap.size + 1 + 1 + 1 + 1 + 1) (w.heap.size + 1 + 1 + 1 + 1 + 1 + 1 + 1 + 1))) := m6
  have HB7 := Lib.hid (below_grown HB6.out (Nat.le_refl _) (by omega) g6)
  have y7a : v7.cell? ⟨w.heap.size + 1 + 1 + 1 + 1, 0, none⟩ = _ := (HB7.out.cell (p := ⟨w.heap.size + 1 + 1 + 1 + 1, 0, none⟩) (by show w.heap.size + 1 + 1 + 1 + 1 < w.heap.size + 1 + 1 + 1 + 1 + 1 + 1 + 1; omega)).trans (H4.out.cell 0)
  have y7b : v7.cell? ⟨w.heap.size + 1 + 1 + 1 + 1, 1, none⟩ = _ := (HB7.out.cell (p := ⟨w.heap.size + 1 + 1 + 1 + 1, 1, none⟩) (by show w.heap.size + 1 + 1 + 1 + 1 < w.heap.size + 1 + 1 + 1 + 1 + 1 + 1 + 1; omega)).trans (H4.out.cell 1)
  simp only [List.getElem?_toArray, List.getElem?_cons_zero, List.getElem?_cons_succ] at y7a y7b
  obtain ⟨v8, r7, m7, g7, s7⟩ := put_new HM7.out ⟨#[97, 118, 103]⟩ (.agg #[.slice (some ⟨w.heap.size + 1 + 1 + 1, 0, none⟩) 1 1, .int .i64 2]) (by decide) (fresh [[114, 97, 116, 101], [105, 110, 99, 114, 101, 97, 115, 101], [100, 101, 108, 116, 97], [97, 98, 115], [116, 105, 109, 101], [118, 101, 99, 116, 111, 114], [115, 117, 109]] rfl _ (by decide))
  have HM8 : Hid (MapS v8 (w.heap.size + 1 + 1 + 1 + 1 + 1 + 1 + 1) (chk8 (w.heap.size + 1) (w.heap.size + 1 + 1 + 1) (w.heap.size + 1 + 1 + 1 + 1 + 1) (w.heap.size + 1 + 1 + 1 + 1 + 1 + 1 + 1 + 1))) := m7
  have HB8 := Lib.hid (below_grown HB7.out (Nat.le_refl _) (by omega) g7)
  have y8a : v8.cell? ⟨w.heap.size + 1 + 1 + 1 + 1, 0, none⟩ = _ := (HB8.out.cell (p := ⟨w.heap.size + 1 + 1 + 1 + 1, 0, none⟩) (by show w.heap.size + 1 + 1 + 1 + 1 < w.heap.size + 1 + 1 + 1 + 1 + 1 + 1 + 1; omega)).trans (H4.out.cell 0)
  have y8b : v8.cell? ⟨w.heap.size + 1 + 1 + 1 + 1, 1, none⟩ = _ := (HB8.out.cell (p := ⟨w.heap.size + 1 + 1 + 1 + 1, 1, none⟩) (by show w.heap.size + 1 + 1 + 1 + 1 < w.heap.size + 1 + 1 + 1 + 1 + 1 + 1 + 1; omega)).trans (H4.out.cell 1)
  simp only [List.getElem?_toArray, List.getElem?_cons_zero, List.getElem?_cons_succ] at y8a y8b
  obtain ⟨v9, r8, m8, g8, s8⟩ := put_new HM8.out ⟨#[109, 105, 110]⟩ (.agg #[.slice (some ⟨w.heap.size + 1 + 1 + 1, 0, none⟩) 1 1, .int .i64 2]) (by decide) (fresh [[114, 97, 116, 101], [105, 110, 99, 114, 101, 97, 115, 101], [100, 101, 108, 116, 97], [97, 98, 115], [116, 105, 109, 101], [118, 101, 99, 116, 111, 114], [115, 117, 109], [97, 118, 103]] rfl _ (by decide))
  have HM9 : Hid (MapS v9 (w.heap.size + 1 + 1 + 1 + 1 + 1 + 1 + 1) (chk9 (w.heap.size + 1) (w.heap.size + 1 + 1 + 1) (w.heap.size + 1 + 1 + 1 + 1 + 1) (w.heap.size + 1 + 1 + 1 + 1 + 1 + 1 + 1 + 1))) := m8
  have HB9 := Lib.hid (below_grown HB8.out (Nat.le_refl _) (by omega) g8)
  have y9a : v9.cell? ⟨w.heap.size + 1 + 1 + 1 + 1, 0, none⟩ = _ := (HB9.out.cell (p := ⟨w.heap.size + 1 + 1 + 1 + 1, 0, none⟩) (by show w.heap.size + 1 + 1 + 1 + 1 < w.heap.size + 1 + 1 + 1 + 1 + 1 + 1 + 1; omega)).trans (H4.out.cell 0)
  have y9b : v9.cell? ⟨w.heap.size + 1 + 1 + 1 + 1, 1, none⟩ = _ := (HB9.out.cell (p := ⟨w.heap.size + 1 + 1 + 1 + 1, 1, none⟩) (by show w.heap.size + 1 + 1 + 1 + 1 < w.heap.size + 1 + 1 + 1 + 1 + 1 + 1 + 1; omega)).trans (H4.out.cell 1)
  simp only [List.getElem?_toArray, List.getElem?_cons_zero, List.getElem?_cons_succ] at y9a y9b
  obtain ⟨v10, r9, m9, g9, s9⟩ := put_new HM9.out ⟨#[109, 97, 120]⟩ (.agg #[.slice (some ⟨w.heap.size + 1 + 1 + 1, 0, none⟩) 1 1, .int .i64 2]) (by decide) (fresh [[114, 97, 116, 101], [105, 110, 99, 114, 101, 97, 115, 101], [100, 101, 108, 116, 97], [97, 98, 115], [116, 105, 109, 101], [118, 101, 99, 116, 111, 114], [115, 117, 109], [97, 118, 103], [109, 105, 110]] rfl _ (by decide))
  have HM10 : Hid (MapS v10 (w.heap.size + 1 + 1 + 1 + 1 + 1 + 1 + 1) (chk10 (w.heap.size + 1) (w.heap.size + 1 + 1 + 1) (w.heap.size + 1 + 1 + 1 + 1 + 1) (w.heap.size + 1 + 1 + 1 + 1 + 1 + 1 + 1 + 1))) := m9
  have HB10 := Lib.hid (below_grown HB9.out (Nat.le_refl _) (by omega) g9)
  have y10a : v10.cell? ⟨w.heap.size + 1 + 1 + 1 + 1, 0, none⟩ = _ := (HB10.out.cell (p := ⟨w.heap.size + 1 + 1 + 1 + 1, 0, none⟩) (by show w.heap.size + 1 + 1 + 1 + 1 < w.heap.size + 1 + 1 + 1 + 1 + 1 + 1 + 1; omega)).trans (H4.out.cell 0)
  have y10b : v10.cell? ⟨w.heap.size + 1 + 1 + 1 + 1, 1, none⟩ = _ := (HB10.out.cell (p := ⟨w.heap.size + 1 + 1 + 1 + 1, 1, none⟩) (by show w.heap.size + 1 + 1 + 1 + 1 < w.heap.size + 1 + 1 + 1 + 1 + 1 + 1 + 1; omega)).trans (H4.out.cell 1)
  simp only [List.getElem?_toArray, List.getElem?_cons_zero, List.getElem?_cons_succ] at y10a y10b
  obtain ⟨v11, r10, m10, g10, s10⟩ := put_new HM10.out ⟨#[99, 111, 117, 110, 116]⟩ (.agg #[.slice (some ⟨w.heap.size + 1 + 1 + 1, 0, none⟩) 1 1, .int .i64 2]) (by decide) (fresh [[114, 97, 116, 101], [105, 110, 99, 114, 101, 97, 115, 101], [100, 101, 108, 116, 97], [97, 98, 115], [116, 105, 109, 101], [118, 101, 99, 116, 111, 114], [115, 117, 109], [97, 118, 103], [109, 105, 110], [109, 97, 120]] rfl _ (by decide))
  have HM11 : Hid (MapS v11 (w.heap.size + 1 + 1 + 1 + 1 + 1 + 1 + 1) (chk11 (w.heap.size + 1) (w.heap.size + 1 + 1 + 1) (w.heap.size + 1 + 1 + 1 + 1 + 1) (w.heap.size + 1 + 1 + 1 + 1 + 1 + 1 + 1 + 1))) := m10
  have HB11 := Lib.hid (below_grown HB10.out (Nat.le_refl _) (by omega) g10)
  have y11a : v11.cell? ⟨w.heap.size + 1 + 1 + 1 + 1 + 1 + 1, 0, none⟩ = _ := (HB11.out.cell (p := ⟨w.heap.size + 1 + 1 + 1 + 1 + 1 + 1, 0, none⟩) (by show w.heap.size + 1 + 1 + 1 + 1 + 1 + 1 < w.heap.size + 1 + 1 + 1 + 1 + 1 + 1 + 1; omega)).trans (H6.out.cell 0)
  have y11b : v11.cell? ⟨w.heap.size + 1 + 1 + 1 + 1 + 1 + 1, 1, none⟩ = _ := (HB11.out.cell (p := ⟨w.heap.size + 1 + 1 + 1 + 1 + 1 + 1, 1, none⟩) (by show w.heap.size + 1 + 1 + 1 + 1 + 1 + 1 < w.heap.size + 1 + 1 + 1 + 1 + 1 + 1 + 1; omega)).trans (H6.out.cell 1)
  simp only [List.getElem?_toArray, List.getElem?_cons_zero, List.getElem?_cons_succ] at y11a y11b
  obtain ⟨v12, r11, m11, g11, s11⟩ := put_new HM11.out ⟨#[116, 111, 112, 107]⟩ (.agg #[.slice (some ⟨w.heap.size + 1 + 1 + 1 + 1 + 1, 0, none⟩) 2 2, .int .i64 2]) (by decide) (fresh [[114, 97, 116, 101], [105, 110, 99, 114, 101, 97, 115, 101], [100, 101, 108, 116, 97], [97, 98, 115], [116, 105, 109, 101], [118, 101, 99, 116, 111, 114], [115, 117, 109], [97, 118, 103], [109, 105, 110], [109, 97, 120], [99, 111, 117, 110, 116]] rfl _ (by decide))
  have HM12 : Hid (MapS v12 (w.heap.size + 1 + 1 + 1 + 1 + 1 + 1 + 1) (chk12 (w.heap.size + 1) (w.heap.size + 1 + 1 + 1) (w.heap.size + 1 + 1 + 1 + 1 + 1) (w.heap.size + 1 + 1 + 1 + 1 + 1 + 1 + 1 + 1))) := m11
  have HB12 := Lib.hid (below_grown HB11.out (Nat.le_refl _) (by omega) g11)
  have y12a : v12.cell? ⟨w.heap.size + 1 + 1 + 1 + 1 + 1 + 1, 0, none⟩ = _ := (HB12.out.cell (p := ⟨w.heap.size + 1 + 1 + 1 + 1 + 1 + 1, 0, none⟩) (by show w.heap.size + 1 + 1 + 1 + 1 + 1 + 1 < w.heap.size + 1 + 1 + 1 + 1 + 1 + 1 + 1; omega)).trans (H6.out.cell 0)
  have y12b : v12.cell? ⟨w.heap.size + 1 + 1 + 1 + 1 + 1 + 1, 1, none⟩ = _ := (HB12.out.cell (p := ⟨w.heap.size + 1 + 1 + 1 + 1 + 1 + 1, 1, none⟩) (by show w.heap.size + 1 + 1 + 1 + 1 + 1 + 1 < w.heap.size + 1 + 1 + 1 + 1 + 1 + 1 + 1; omega)).trans (H6.out.cell 1)
  simp only [List.getElem?_toArray, List.getElem?_cons_zero, List.getElem?_cons_succ] at y12a y12b
  obtain ⟨v13, r12, m12, g12, s12⟩ := put_new HM12.out ⟨#[98, 111, 116, 116, 111, 109, 107]⟩ (.agg #[.slice (some ⟨w.heap.size + 1 + 1 + 1 + 1 + 1, 0, none⟩) 2 2, .int .i64 2]) (by decide) (fresh [[114, 97, 116, 101], [105, 110, 99, 114, 101, 97, 115, 101], [100, 101, 108, 116, 97], [97, 98, 115], [116, 105, 109, 101], [118, 101, 99, 116, 111, 114], [115, 117, 109], [97, 118, 103], [109, 105, 110], [109, 97, 120], [99, 111, 117, 110, 116], [116, 111, 112, 107]] rfl _ (by decide))
  have HM13 : Hid (MapS v13 (w.heap.size + 1 + 1 + 1 + 1 + 1 + 1 + 1) (chk13 (w.heap.size + 1) (w.heap.size + 1 + 1 + 1) (w.heap.size + 1 + 1 + 1 + 1 + 1) (w.heap.size + 1 + 1 + 1 + 1 + 1 + 1 + 1 + 1))) := m12
  have HB13 := Lib.hid (below_grown HB12.out (Nat.le_refl _) (by omega) g12)
  have zz := HB13.out.cell (p := ⟨w.heap.size, 0, none⟩) (by show w.heap.size < w.heap.size + 1 + 1 + 1 + 1 + 1 + 1 + 1; omega)
  have z0 : v13.cell? ⟨w.heap.size, 0, none⟩ = some (.map none) := zz.trans (H0.out.cell 0)
  have HZ : Hid (Blk v13 w.heap.size 44 #[.map none]) := (HB13.out.block w.heap.size (by omega)).trans H0.out
  have zf := Blk.frozen HZ.out 0
  have HX1 : Hid (Blk v13 (w.heap.size + 1) 3 #[.int .i64 3]) := (HB13.out.block _ (by omega)).trans H1.out
  have HX2 : Hid (Blk v13 (w.heap.size + 1 + 1 + 1) 3 #[.int .i64 2]) := (HB13.out.block _ (by omega)).trans H3.out
  have HX3 : Hid (Blk v13 (w.heap.size + 1 + 1 + 1 + 1 + 1) 3 #[.int .i64 1, .int .i64 2]) := (HB13.out.block _ (by omega)).trans H5.out
  have HX4 : Hid (Blk v13 (w.heap.size + 1 + 1 + 1 + 1 + 1 + 1 + 1 + 1) 3 #[.int .i64 1]) := (blk_grown' (blk_grown' (blk_grown' (blk_grown' (blk_grown' (blk_grown' (blk_grown' (blk_grown' HV5.out g5 (by omega)) g6 (by omega)) g7 (by omega)) g8 (by omega)) g9 (by omega)) g10 (by omega)) g11 (by omega)) g12 (by omega))
  have HSET := Lib.hid (HZ.out.set_ 0 (.map (some (w.heap.size + 1 + 1 + 1 + 1 + 1 + 1 + 1))))
  have HBF : Hid (Below w.heap.size w (v13.setCell ⟨w.heap.size, 0, none⟩ (.map (some (w.heap.size + 1 + 1 + 1 + 1 + 1 + 1 + 1))))) := set_below (HBW.out.trans (HB13.out.mono (by omega))) (Nat.le_refl _) 0 _
  have HCH : Hid (ChkM (v13.setCell ⟨w.heap.size, 0, none⟩ (.map (some (w.heap.size + 1 + 1 + 1 + 1 + 1 + 1 + 1)))) (w.heap.size + 1 + 1 + 1 + 1 + 1 + 1 + 1) (w.heap.size + 1) (w.heap.size + 1 + 1 + 1) (w.heap.size + 1 + 1 + 1 + 1 + 1) (w.heap.size + 1 + 1 + 1 + 1 + 1 + 1 + 1 + 1)) :=
    ⟨HM13.out.kept (by rw [Below.heap_setCell]; show w.heap.size + 1 + 1 + 1 + 1 + 1 + 1 + 1 ≠ w.heap.size; omega), blk_other HX1.out (by omega) 0 _, blk_other HX2.out (by omega) 0 _, blk_other HX3.out (by omega) 0 _, blk_other HX4.out (by omega) 0 _⟩
  clear HB0 HG0 HM0 HMx HBx HM1 HM2 HM3 HM4 HM5 HM6 HM7 HM8 HM9 HM10 HM11 HM12 HM13 HB1 HB2 HB3 HB4 HB5 HB6 HB7 HB8 HB9 HB10 HB11 HB12 m0 m1 m2 m3 m4 m5 m6 m7 m8 m9 m10 m11 m12 g0 g1 g2 g3 g4 g5 g6 g7 g8 g9 g10 g11 g12 s0 s1 s2 s3 s4 s5 s6 s7 s8 s9 s10 s11 s12 zz
  go_wp2_with fail
  have cz := HSET.out.cell 0
  simp at cz
  exact bodyPost_ret (v := .agg #[.map (some (w.heap.size + 1 + 1 + 1 + 1 + 1 + 1 + 1))]) (by simp [results, Tryz.results14, go_sem, cz]) rfl ⟨_, _, _, _, _, rfl, HCH.out, HBF.out⟩
end Go.Proofs.YtmodehfedhgcbaaGreatDoor.Ck

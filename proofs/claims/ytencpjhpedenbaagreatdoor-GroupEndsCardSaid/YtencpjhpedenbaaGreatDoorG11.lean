/- The map of places, as a list; small facts for the walk of piles. No condition. -/
import Derived.Test.YtencpjhpedenbaaGreatDoorG10
import Derived.Test.YtencpjhpedenbaaGreatDoorMp
namespace Go.Proofs.YtencpjhpedenbaaGreatDoor
open Go.RowKit Lb
set_option linter.unusedVariables false

def kB (l : List Lab) : ByteArray := ⟨(keyF l).toArray⟩
theorem kB_inj {a b : List Lab} (h : kB a = kB b) : keyF a = keyF b := by
  unfold kB at h
  injection h with h
  simpa using h
def mapOf : Nat → List Pl → List (ByteArray × Value)
  | _, [] => []
  | n, p :: σ => (kB p.1, .int .i64 (n : Nat)) :: mapOf (n + 1) σ
theorem mapOf_append : ∀ (n : Nat) (σ : List Pl) (p : Pl), mapOf n (σ ++ [p]) = mapOf n σ ++ [(kB p.1, .int .i64 ((n + σ.length : Nat) : Int))]
  | n, [], p => rfl
  | n, q :: σ, p => by
    simp only [List.cons_append, mapOf, mapOf_append (n + 1) σ p, List.length_cons]
    rw [show n + 1 + σ.length = n + (σ.length + 1) by omega]
theorem mapOf_set : ∀ (n : Nat) (σ : List Pl) (i : Nat) (e : List El), mapOf n (σ.set i ((σ.getD i q0).1, e)) = mapOf n σ
  | n, [], i, e => by simp [mapOf]
  | n, q :: σ, 0, e => by simp [mapOf]
  | n, q :: σ, i + 1, e => by
    have := mapOf_set (n + 1) σ i e
    simp only [List.set_cons_succ, mapOf, List.getD_cons_succ] at this ⊢
    rw [this]
theorem mapOf_mem : ∀ (n : Nat) (σ : List Pl) (q : ByteArray × Value), q ∈ mapOf n σ → ∃ i, i < σ.length ∧ q = (kB (σ.getD i q0).1, .int .i64 ((n + i : Nat) : Int))
  | n, [], q, h => by cases h
  | n, p :: σ, q, h => by
    rcases List.mem_cons.1 h with h | h
    · exact ⟨0, by simp, by rw [h]; rfl⟩
    · obtain ⟨i, hi, e⟩ := mapOf_mem (n + 1) σ q h
      refine ⟨i + 1, by simpa using hi, ?_⟩
      rw [e, show n + 1 + i = n + (i + 1) by omega]; rfl
theorem mapOf_key : ∀ (n : Nat) (σ : List Pl) (p : Pl), p ∈ σ → ∃ q ∈ mapOf n σ, q.1 = kB p.1
  | n, p :: σ, q, h => by
    rcases List.mem_cons.1 h with rfl | h
    · exact ⟨_, List.mem_cons_self, rfl⟩
    · obtain ⟨x, hx, e⟩ := mapOf_key (n + 1) σ q h
      exact ⟨x, List.mem_cons_of_mem _ hx, e⟩
theorem mapOf_none {σ : List Pl} {l : List Lab} (h : ∀ q ∈ mapOf 0 σ, q.1 ≠ kB l) : ∀ p ∈ σ, keyF p.1 ≠ keyF l := by
  intro p hp e
  obtain ⟨q, hq, e2⟩ := mapOf_key 0 σ p hp
  exact h q hq (by rw [e2]; unfold kB; rw [e])
/-- labels of a group are few and short -/
theorem filter_short {l : List Lab} (P : Lab → Bool) (h : ShortL l) : ShortL (l.filter P) := by
  have key : ∀ x ∈ l, x.1.size ≤ 400 ∧ x.2.size ≤ 400 := fun x hx => by
    obtain ⟨i, hi, rfl⟩ := List.getElem_of_mem hx
    have := h.2 i hi
    rwa [show l.getD i e0 = l[i] by simp [hi]] at this
  refine ⟨Nat.le_trans (List.length_filter_le _ _) h.1, fun i hi => ?_⟩
  have hm : (l.filter P)[i] ∈ l.filter P := List.getElem_mem hi
  rw [show (l.filter P).getD i e0 = (l.filter P)[i] by simp [hi]]
  exact key _ (List.mem_filter.1 hm).1
theorem labF_short (how : Int) (ns : List ByteArray) {l : List Lab} (h : ShortL l) : ShortL (labF how ns l) := by
  unfold labF
  split
  · exact filter_short _ h
  · split
    · exact filter_short _ (filter_short _ h)
    · exact ⟨by simp, fun i hi => absurd hi (by simp)⟩
theorem kB_size {l : List Lab} (h : ShortL l) : (kB l).size ≤ 1000000 := by
  have := key_len h l.length (Nat.le_refl _)
  rw [List.take_length] at this
  have h1 := h.1
  show (keyF l).toArray.size ≤ _
  rw [List.size_toArray]
  omega
theorem elem_info : (Tryz.prog.info? 36).map (fun i => (i.zero, i.size, i.bytes)) = some (some (.agg #[.slice none 0 0, .int .u64 0]), 2, 32) := by kernel_rfl
theorem pile_info : (Tryz.prog.info? 50).map (fun i => (i.zero, i.size, i.bytes)) = some (some (.agg #[.slice none 0 0, .slice none 0 0]), 2, 48) := by kernel_rfl
theorem zero3 (w : World) : (zeroValue 3).run Tryz.prog w = .ok (.int .i64 0) w := by kernel_rfl
theorem flatV_set : ∀ (r : List VV) (i : Nat) (x : VV), i < r.length → flatV (r.set i x) = ((flatV r).set (i * 2) x.1).set (i * 2 + 1) x.2
  | p :: r, 0, x, _ => rfl
  | p :: r, i + 1, x, h => by
    simp only [List.set_cons_succ, flatV]
    rw [flatV_set r i x (by simpa using h), show (i + 1) * 2 = i * 2 + 1 + 1 by omega]
    simp
theorem flatV_set2 (r : List VV) (i : Nat) (v : Value) (h : i < r.length) : flatV (r.set i ((r.getD i v0).1, v)) = (flatV r).set (i * 2 + 1) v := by
  rw [flatV_set r i _ h]
  congr 1
  have := (flatV_at r i h).1
  apply List.ext_getElem?
  intro n
  by_cases hn : i * 2 = n
  · subst hn
    rw [this]
    rw [List.getElem?_set_self (by rw [flatV_length]; omega)]
  · rw [List.getElem?_set_ne hn]
theorem two_at (W : World) (x y : Value) (g : Nat) (h : g = W.heap.size) (t : TypeId) : ∀ j u, ([x, y] : List Value)[j]? = some u → (W.alloc (.cells #[x, y] t)).cell? ((⟨g, 0, none⟩ : Addr).add j) = some u := by
  subst h
  intro j u hu
  match j, hu with
  | 0, hu => simp at hu; subst hu; simp [Addr.add, World.cell?_alloc_at]
  | 1, hu => simp at hu; subst hu; simp [Addr.add, World.cell?_alloc_at]
  | j + 2, hu => simp at hu
end Go.Proofs.YtencpjhpedenbaaGreatDoor

import Derived.Test.YtencpjhpedenbaaGreatDoorK2
namespace Go.Proofs.YtencpjhpedenbaaGreatDoor
open Go.RowKit Lb
set_option linter.unusedVariables false

/-- a slice of strings reads as a list -/
def Sts (w : World) (A : Option Addr) (l : List ByteArray) : Prop :=
  0 < l.length → ∃ b off, A = some ⟨b, off, none⟩ ∧ b < w.heap.size ∧ ∀ i, i < l.length → w.cell? ⟨b, off + i, none⟩ = some (.string (l.getD i ByteArray.empty))
theorem Sts.below {w w' : World} {A : Option Addr} {l : List ByteArray} (h : Sts w A l) (hb : Below w.heap.size w w') : Sts w' A l := by
  intro hn
  obtain ⟨b, off, rfl, hlt, hc⟩ := h hn
  exact ⟨b, off, rfl, by have := hb.size; omega, fun i hi => (hb.cell (p := ⟨b, off + i, none⟩) hlt).trans (hc i hi)⟩

def seqB (x y : ByteArray) : Bool := x.toList == y.toList
theorem seqB_iff (x y : ByteArray) : seqB x y = true ↔ x = y := by
  unfold seqB
  rw [beq_iff_eq]
  exact ⟨toList_inj, fun h => by rw [h]⟩
/-- is a name among some? -/
def inB (ns : List ByteArray) (s : ByteArray) : Bool := ns.any fun x => seqB s x
/-- where it stands first, of those from a place on -/
def idxFrom (ns : List ByteArray) (s : ByteArray) : Nat → Nat → Int
  | 0, _ => -1
  | n + 1, k => if seqB s (ns.getD k ByteArray.empty) = true then (k : Int) else idxFrom ns s n (k + 1)
theorem idx_in (ns : List ByteArray) (s : ByteArray) : ∀ n k, k + n = ns.length → decide (0 ≤ idxFrom ns s n k) = (ns.drop k).any (fun x => seqB s x)
  | 0, k, h => by
    rw [idxFrom, List.drop_eq_nil_of_le (by omega)]
    rfl
  | n + 1, k, h => by
    have e : ns.getD k ByteArray.empty = ns[k]'(by omega) := by simp [show k < ns.length by omega]
    rw [idxFrom, List.drop_eq_getElem_cons (show k < ns.length by omega), List.any_cons, e]
    by_cases hs : seqB s ns[k] = true
    · rw [if_pos hs, hs, Bool.true_or]
      simp
    · rw [if_neg hs, idx_in ns s n (k + 1) (by omega)]
      have : seqB s ns[k] = false := by simpa using hs
      rw [this, Bool.false_or]

set_option maxHeartbeats 1000000 in
theorem index_any (A : Option Addr) (cap : Nat) (ns : List ByteArray) (s : ByteArray) (w : World) (hN : Sts w A ns) (hl : ns.length ≤ 65536) :
    Calls Tryz.prog 101 #[.slice A ns.length cap, .string s] w fun e w' => e = .returned (.int .i64 (idxFrom ns s ns.length 0)) ∧ w = w' := by
  generalize hr : idxFrom ns s ns.length 0 = r
  have HN := Lib.hid hN
  clear hN
  generalize hn : ns.length = n at *
  have HL := Lib.hid hn
  have HR : Hid (idxFrom ns s (n - 0) 0 = r) := hr
  clear hn hr
  go_enter Tryz.func101, Tryz.ntmps101
  go_wp2
  go_loop [8] (fun i => ∃ k : Nat, k ≤ n ∧ i = .int .i64 k ∧ Hid (idxFrom ns s (n - k) k = r)) (fun i => n - (intOf i).toNat)
  case atStart => exact ⟨0, Nat.zero_le _, rfl, HR⟩
  case round =>
    obtain ⟨k, hk, rfl, HC⟩ := hrel
    by_cases hlt : k < n
    · have hkl : k < ns.length := by rw [HL.out]; exact hlt
      obtain ⟨b0, off, rfl, hb0, hc⟩ := HN.out (by omega)
      have hx := hc k hkl
      have hstep := HC.out
      rw [show n - k = (n - (k + 1)) + 1 by omega, idxFrom] at hstep
      have hq : seqB s (ns.getD k ByteArray.empty) = (s.toList == (ns.getD k ByteArray.empty).toList) := rfl
      rw [hq] at hstep
      clear hc hq
      generalize ns.getD k ByteArray.empty = x at *
      cases hs : (s.toList == x.toList) with
      | true =>
        rw [hs, if_pos rfl] at hstep
        subst hstep
        go_wp2
        go_ret
        exact ⟨rfl, rfl⟩
      | false =>
        rw [hs, if_neg (by decide)] at hstep
        have HS := Lib.hid hstep
        clear hstep
        go_wp2
        go_round
        case rel => exact ⟨k + 1, by omega, by go_num, HS⟩
        case measure => simp [intOf]; omega
    · have hf : r = -1 := by
        have := HC.out
        rw [show n - k = 0 by omega, idxFrom] at this
        exact this.symm
      subst hf
      go_wp2
      go_ret
      exact ⟨rfl, rfl⟩

theorem contains_any (A : Option Addr) (cap : Nat) (ns : List ByteArray) (s : ByteArray) (w : World) (hN : Sts w A ns) (hl : ns.length ≤ 65536) :
    Calls Tryz.prog 93 #[.slice A ns.length cap, .string s] w fun e w' => e = .returned (.bool (inB ns s)) ∧ w = w' := by
  have hi := idx_in ns s ns.length 0 (by omega)
  rw [List.drop_zero] at hi
  change _ = inB ns s at hi
  rw [← hi]
  have H := Lib.hid (index_any A cap ns s w hN hl)
  clear hN hi
  generalize idxFrom ns s ns.length 0 = r at *
  generalize ns.length = n at *
  go_enter Tryz.func93, Tryz.ntmps93
  go_wp2_with fail
  refine (H.out).mono ?_
  rintro e w1 ⟨rfl, rfl⟩
  go_wp2
  go_ret
  exact ⟨rfl, rfl⟩

theorem has_any (A : Option Addr) (cap : Nat) (ns : List ByteArray) (x y : ByteArray) (w : World) (hN : Sts w A ns) (hl : ns.length ≤ 65536) :
    Calls Tryz.prog 73 #[.slice A ns.length cap, .agg #[.string x, .string y]] w fun e w' => e = .returned (.bool (inB ns x)) ∧ ∃ o, w' = w.alloc o := by
  have H := Lib.hid (fun o => contains_any A cap ns x (w.alloc o) (hN.below ((Below.refl _ _).alloc (Nat.le_refl _) o)) hl)
  clear hN
  generalize inB ns x = r at *
  generalize ns.length = n at *
  go_enter Tryz.func73, Tryz.ntmps73
  go_wp2_with fail
  refine (H.out _).mono ?_
  rintro e w1 ⟨rfl, rfl⟩
  go_wp2
  go_ret
  exact ⟨rfl, _, rfl⟩

set_option maxHeartbeats 1000000 in
/-- Drop's closure: not one of them -/
theorem hasnt_any (A : Option Addr) (cap : Nat) (ns : List ByteArray) (x y : ByteArray) (g : Nat) (w : World) (hN : Sts w A ns) (hl : ns.length ≤ 65536) (hg : w.cell? ⟨g, 0, none⟩ = some (.func (.func 73) #[.slice A ns.length cap] #[])) :
    Calls Tryz.prog 74 #[.agg #[.string x, .string y], .pointer (some ⟨g, 0, none⟩)] w fun e w' => e = .returned (.bool (!inB ns x)) ∧ ∃ o o', w' = (w.alloc o).alloc o' := by
  have H := Lib.hid (fun o => has_any A cap ns x y (w.alloc o) (hN.below ((Below.refl _ _).alloc (Nat.le_refl _) o)) hl)
  have hlt := World.block_lt_of_cell? _ _ hg
  have hlt' : g < w.heap.size := hlt
  clear hN hlt
  generalize inB ns x = r at *
  generalize ns.length = n at *
  go_enter Tryz.func74, Tryz.ntmps74
  go_wp2_with fail
  refine (H.out _).mono ?_
  rintro e w1 ⟨rfl, o, rfl⟩
  go_wp2
  go_ret
  exact ⟨rfl, _, _, rfl⟩
end Go.Proofs.YtencpjhpedenbaaGreatDoor

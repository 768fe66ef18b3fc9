/- The heap of places: heap.Push, heap.Pop, offer. Conditions: at most one place is kept. -/
import Derived.Test.YtencpjhpedenbaaGreatDoorG17
namespace Go.Proofs.YtencpjhpedenbaaGreatDoor
open Go.RowKit Lb
set_option linter.unusedVariables false
set_option linter.unusedSimpArgs false
set_option maxRecDepth 100000
set_option maxHeartbeats 2000000

theorem up_zero (K : Nat) (w : World) :
    Calls Tryz.prog 89 #[.iface 77 (.pointer (some ⟨K, 0, none⟩)), .int .i64 0] w fun e w' => e = .returned (.tuple #[]) ∧ w = w' := by
  go_enter Tryz.func89, Tryz.ntmps89
  go_wp2_with fail
  go_loop [1, 4] (fun j _ => j = .int .i64 0) (fun _ _ => 0)
  case atStart => exact rfl
  case round =>
    obtain rfl := hrel
    go_wp2
    go_end0
    exact ⟨rfl, rfl⟩
def UpP_38 (K : Nat) (a b : Pc) (w : World) (e : Ending) (w' : World) : Prop := HeapP K 38 (if lessF gtI b a = true then [b, a] else [a, b]) (.tuple #[]) w e w'
theorem up_38 (K : Nat) (a b : Pc) (w : World) (h : Rk w K 38 [a, b]) (ha : Vl.Bits a.1) (hb : Vl.Bits b.1) :
    Calls Tryz.prog 89 #[.iface 77 (.pointer (some ⟨K, 0, none⟩)), .int .i64 1] w (UpP_38 K a b w) := by
  have HL := Lib.hid (less_38 K a b w h ha hb)
  have HS := Lib.hid (fun W hW => swap_any K 38 a b W hW)
  have HR := Lib.hid h
  have hK := h.lt
  have HLT := Lib.hid h.lt
  obtain ⟨q, hq⟩ : ∃ q, lessF gtI b a = q := ⟨_, rfl⟩
  have HPP : Hid (∀ e w', HeapP K 38 (if q = true then [b, a] else [a, b]) (.tuple #[]) w e w' → UpP_38 K a b w e w') := fun e w' hh => by unfold UpP_38; rw [hq]; exact hh
  rw [hq] at HL
  clear h hq ha hb
  go_enter Tryz.func89, Tryz.ntmps89
  go_wp2_with fail
  go_loopw [1, 4] (fun j i wr => (j = .int .i64 1 ∧ wr = w) ∨ (j = .int .i64 0 ∧ q = true ∧ Hid (Rk wr K 38 [b, a]) ∧ Hid (Below K w wr))) (fun j _ _ => (intOf j).toNat)
  case atStart => exact .inl ⟨rfl, rfl⟩
  case round =>
    rcases hrel with ⟨rfl, rfl⟩ | ⟨rfl, rfl, HR2, HB2⟩
    · go_wp2_with fail
      refine (HL.out).mono ?_
      rintro e w1 ⟨rfl, hb1⟩
      have HR1 := Lib.hid (HR.out.below hb1)
      have HB1 := Lib.hid (hb1.mono (Nat.le_of_lt hK))
      clear hb1
      cases q with
      | false =>
        go_wp2
        go_end0
        exact HPP.out _ _ ⟨rfl, HR1.out, HB1.out⟩
      | true =>
        go_wp2_with fail
        refine (HS.out _ HR1.out).mono ?_
        rintro e w2 ⟨rfl, hr2, hb2⟩
        have HR2 := Lib.hid hr2
        have HB2 := Lib.hid (HB1.out.trans hb2)
        clear hr2 hb2
        go_wp2
        go_roundw
        case rel => exact .inr ⟨rfl, trivial, HR2, HB2⟩
        case measure => simp [intOf]
    · go_wp2
      go_end0
      exact HPP.out _ _ ⟨rfl, HR2.out, HB2.out⟩
theorem hpush0_38 (K : Nat) (x : Pc) (w : World) (h : Rk w K 38 []) :
    Calls Tryz.prog 64 #[.iface 77 (.pointer (some ⟨K, 0, none⟩)), .iface 83 (.agg #[.int .u64 x.1, .int .i64 (x.2 : Nat)])] w (HeapP K 38 [x] (.tuple #[]) w) := by
  have HP := Lib.hid (push_any K 38 [] x w h (by simp))
  have HL := Lib.hid (fun W (hW : Rk W K 38 [x]) => len_any K 38 [x] W hW (by simp))
  have HU := Lib.hid (fun W => up_zero K W)
  rw [List.nil_append] at HP
  rw [List.length_singleton] at HL
  clear h
  go_enter Tryz.func64, Tryz.ntmps64
  go_wp2_with fail
  refine (HP.out).mono ?_
  rintro e w1 ⟨rfl, hr1, hb1⟩
  have HR1 := Lib.hid hr1
  have HB1 := Lib.hid hb1
  clear hr1 hb1
  go_wp2_with fail
  refine (HL.out _ HR1.out).mono ?_
  rintro e w2 ⟨rfl, rfl⟩
  go_wp2_with fail
  refine (HU.out _).mono ?_
  rintro e w2 ⟨rfl, rfl⟩
  go_wp2
  go_end0
  exact ⟨rfl, HR1.out, HB1.out⟩
theorem hpush1_38 (K : Nat) (a x : Pc) (w : World) (h : Rk w K 38 [a]) (ha : Vl.Bits a.1) (hx : Vl.Bits x.1) :
    Calls Tryz.prog 64 #[.iface 77 (.pointer (some ⟨K, 0, none⟩)), .iface 83 (.agg #[.int .u64 x.1, .int .i64 (x.2 : Nat)])] w (HeapP K 38 (if lessF gtI x a = true then [x, a] else [a, x]) (.tuple #[]) w) := by
  have HP := Lib.hid (push_any K 38 [a] x w h (by simp))
  have HL := Lib.hid (fun W (hW : Rk W K 38 [a, x]) => len_any K 38 [a, x] W hW (by simp))
  have HU := Lib.hid (fun W (hW : Rk W K 38 [a, x]) => up_38 K a x W hW ha hx)
  have hKl := h.lt
  rw [show [a] ++ [x] = [a, x] from rfl] at HP
  rw [show [a, x].length = 2 from rfl] at HL
  obtain ⟨q, hq⟩ : ∃ q, (if lessF gtI x a = true then [x, a] else [a, x]) = q := ⟨_, rfl⟩
  unfold UpP_38 at HU
  rw [hq] at HU ⊢
  clear h hq ha hx
  go_enter Tryz.func64, Tryz.ntmps64
  go_wp2_with fail
  refine (HP.out).mono ?_
  rintro e w1 ⟨rfl, hr1, hb1⟩
  have HR1 := Lib.hid hr1
  have HB1 := Lib.hid hb1
  clear hr1 hb1
  go_wp2_with fail
  refine (HL.out _ HR1.out).mono ?_
  rintro e w2 ⟨rfl, rfl⟩
  go_wp2_with fail
  refine (HU.out _ HR1.out).mono ?_
  rintro e w2 ⟨rfl, hr2, hb2⟩
  have HR2 := Lib.hid hr2
  have HB2 := Lib.hid (HB1.out.trans hb2)
  clear hr2 hb2
  go_wp2
  go_end0
  exact ⟨rfl, HR2.out, HB2.out⟩
def UpP_40 (K : Nat) (a b : Pc) (w : World) (e : Ending) (w' : World) : Prop := HeapP K 40 (if lessF ltI b a = true then [b, a] else [a, b]) (.tuple #[]) w e w'
theorem up_40 (K : Nat) (a b : Pc) (w : World) (h : Rk w K 40 [a, b]) (ha : Vl.Bits a.1) (hb : Vl.Bits b.1) :
    Calls Tryz.prog 89 #[.iface 77 (.pointer (some ⟨K, 0, none⟩)), .int .i64 1] w (UpP_40 K a b w) := by
  have HL := Lib.hid (less_40 K a b w h ha hb)
  have HS := Lib.hid (fun W hW => swap_any K 40 a b W hW)
  have HR := Lib.hid h
  have hK := h.lt
  have HLT := Lib.hid h.lt
  obtain ⟨q, hq⟩ : ∃ q, lessF ltI b a = q := ⟨_, rfl⟩
  have HPP : Hid (∀ e w', HeapP K 40 (if q = true then [b, a] else [a, b]) (.tuple #[]) w e w' → UpP_40 K a b w e w') := fun e w' hh => by unfold UpP_40; rw [hq]; exact hh
  rw [hq] at HL
  clear h hq ha hb
  go_enter Tryz.func89, Tryz.ntmps89
  go_wp2_with fail
  go_loopw [1, 4] (fun j i wr => (j = .int .i64 1 ∧ wr = w) ∨ (j = .int .i64 0 ∧ q = true ∧ Hid (Rk wr K 40 [b, a]) ∧ Hid (Below K w wr))) (fun j _ _ => (intOf j).toNat)
  case atStart => exact .inl ⟨rfl, rfl⟩
  case round =>
    rcases hrel with ⟨rfl, rfl⟩ | ⟨rfl, rfl, HR2, HB2⟩
    · go_wp2_with fail
      refine (HL.out).mono ?_
      rintro e w1 ⟨rfl, hb1⟩
      have HR1 := Lib.hid (HR.out.below hb1)
      have HB1 := Lib.hid (hb1.mono (Nat.le_of_lt hK))
      clear hb1
      cases q with
      | false =>
        go_wp2
        go_end0
        exact HPP.out _ _ ⟨rfl, HR1.out, HB1.out⟩
      | true =>
        go_wp2_with fail
        refine (HS.out _ HR1.out).mono ?_
        rintro e w2 ⟨rfl, hr2, hb2⟩
        have HR2 := Lib.hid hr2
        have HB2 := Lib.hid (HB1.out.trans hb2)
        clear hr2 hb2
        go_wp2
        go_roundw
        case rel => exact .inr ⟨rfl, trivial, HR2, HB2⟩
        case measure => simp [intOf]
    · go_wp2
      go_end0
      exact HPP.out _ _ ⟨rfl, HR2.out, HB2.out⟩
theorem hpush0_40 (K : Nat) (x : Pc) (w : World) (h : Rk w K 40 []) :
    Calls Tryz.prog 64 #[.iface 77 (.pointer (some ⟨K, 0, none⟩)), .iface 83 (.agg #[.int .u64 x.1, .int .i64 (x.2 : Nat)])] w (HeapP K 40 [x] (.tuple #[]) w) := by
  have HP := Lib.hid (push_any K 40 [] x w h (by simp))
  have HL := Lib.hid (fun W (hW : Rk W K 40 [x]) => len_any K 40 [x] W hW (by simp))
  have HU := Lib.hid (fun W => up_zero K W)
  rw [List.nil_append] at HP
  rw [List.length_singleton] at HL
  clear h
  go_enter Tryz.func64, Tryz.ntmps64
  go_wp2_with fail
  refine (HP.out).mono ?_
  rintro e w1 ⟨rfl, hr1, hb1⟩
  have HR1 := Lib.hid hr1
  have HB1 := Lib.hid hb1
  clear hr1 hb1
  go_wp2_with fail
  refine (HL.out _ HR1.out).mono ?_
  rintro e w2 ⟨rfl, rfl⟩
  go_wp2_with fail
  refine (HU.out _).mono ?_
  rintro e w2 ⟨rfl, rfl⟩
  go_wp2
  go_end0
  exact ⟨rfl, HR1.out, HB1.out⟩
theorem hpush1_40 (K : Nat) (a x : Pc) (w : World) (h : Rk w K 40 [a]) (ha : Vl.Bits a.1) (hx : Vl.Bits x.1) :
    Calls Tryz.prog 64 #[.iface 77 (.pointer (some ⟨K, 0, none⟩)), .iface 83 (.agg #[.int .u64 x.1, .int .i64 (x.2 : Nat)])] w (HeapP K 40 (if lessF ltI x a = true then [x, a] else [a, x]) (.tuple #[]) w) := by
  have HP := Lib.hid (push_any K 40 [a] x w h (by simp))
  have HL := Lib.hid (fun W (hW : Rk W K 40 [a, x]) => len_any K 40 [a, x] W hW (by simp))
  have HU := Lib.hid (fun W (hW : Rk W K 40 [a, x]) => up_40 K a x W hW ha hx)
  have hKl := h.lt
  rw [show [a] ++ [x] = [a, x] from rfl] at HP
  rw [show [a, x].length = 2 from rfl] at HL
  obtain ⟨q, hq⟩ : ∃ q, (if lessF ltI x a = true then [x, a] else [a, x]) = q := ⟨_, rfl⟩
  unfold UpP_40 at HU
  rw [hq] at HU ⊢
  clear h hq ha hx
  go_enter Tryz.func64, Tryz.ntmps64
  go_wp2_with fail
  refine (HP.out).mono ?_
  rintro e w1 ⟨rfl, hr1, hb1⟩
  have HR1 := Lib.hid hr1
  have HB1 := Lib.hid hb1
  clear hr1 hb1
  go_wp2_with fail
  refine (HL.out _ HR1.out).mono ?_
  rintro e w2 ⟨rfl, rfl⟩
  go_wp2_with fail
  refine (HU.out _ HR1.out).mono ?_
  rintro e w2 ⟨rfl, hr2, hb2⟩
  have HR2 := Lib.hid hr2
  have HB2 := Lib.hid (HB1.out.trans hb2)
  clear hr2 hb2
  go_wp2
  go_end0
  exact ⟨rfl, HR2.out, HB2.out⟩
theorem down_one (K : Nat) (w : World) :
    Calls Tryz.prog 90 #[.iface 77 (.pointer (some ⟨K, 0, none⟩)), .int .i64 0, .int .i64 1] w fun e w' => e = .returned (.bool false) ∧ w = w' := by
  go_enter Tryz.func90, Tryz.ntmps90
  go_wp2_with fail
  go_loop [7, 8] (fun i _ => i = .int .i64 0) (fun _ _ => 0)
  case atStart => exact rfl
  case round =>
    obtain rfl := hrel
    go_wp2
    go_ret
    exact ⟨rfl, rfl⟩
theorem hpop_any (K fn : Nat) (a b : Pc) (w : World) (h : Rk w K fn [a, b]) :
    Calls Tryz.prog 66 #[.iface 77 (.pointer (some ⟨K, 0, none⟩))] w (HeapP K fn [b] (.iface 83 (.agg #[.int .u64 a.1, .int .i64 (a.2 : Nat)])) w) := by
  have HL := Lib.hid (len_any K fn [a, b] w h (by simp))
  have HS := Lib.hid (swap_any K fn a b w h)
  have HD := Lib.hid (fun W => down_one K W)
  have HP := Lib.hid (fun W (hW : Rk W K fn [b, a]) => pop_any K fn b a W hW)
  rw [show [a, b].length = 2 from rfl] at HL
  clear h
  go_enter Tryz.func66, Tryz.ntmps66
  go_wp2_with fail
  refine (HL.out).mono ?_
  rintro e w2 ⟨rfl, rfl⟩
  go_wp2_with fail
  refine (HS.out).mono ?_
  rintro e w1 ⟨rfl, hr1, hb1⟩
  have HR1 := Lib.hid hr1
  have HB1 := Lib.hid hb1
  clear hr1 hb1
  go_wp2_with fail
  refine (HD.out _).mono ?_
  rintro e w2 ⟨rfl, rfl⟩
  go_wp2_with fail
  refine (HP.out _ HR1.out).mono ?_
  rintro e w2 ⟨rfl, hr2, hb2⟩
  have HR2 := Lib.hid hr2
  have HB2 := Lib.hid (HB1.out.trans hb2)
  clear hr2 hb2
  go_wp2
  go_ret
  exact ⟨rfl, HR2.out, HB2.out⟩
theorem offer0_38 (K : Nat) (x : Pc) (w : World) (h : Rk w K 38 []) :
    Calls Tryz.prog 51 #[.pointer (some ⟨K, 0, none⟩), .agg #[.int .u64 x.1, .int .i64 (x.2 : Nat)], .int .i64 1] w (HeapP K 38 [x] (.tuple #[]) w) := by
  have hKl := h.lt
  have hb0 : Below w.heap.size w (w.alloc (.cells #[.int .u64 x.1, .int .i64 (x.2 : Nat)] 83)) := (Below.refl _ _).alloc (Nat.le_refl _) _
  have HP := Lib.hid (hpush0_38 K x _ (h.below hb0))
  have HL := Lib.hid (fun W (hW : Rk W K 38 [x]) => len_any K 38 [x] W hW (by simp))
  have HB0 := Lib.hid (hb0.mono (Nat.le_of_lt hKl))
  rw [List.length_singleton] at HL
  clear h hb0
  go_enter Tryz.func51, Tryz.ntmps51
  go_wp2_with fail
  refine (HP.out).mono ?_
  rintro e w1 ⟨rfl, hr1, hb1⟩
  have HR1 := Lib.hid hr1
  have HB1 := Lib.hid (HB0.out.trans hb1)
  clear hr1 hb1
  go_wp2_with fail
  refine (HL.out _ HR1.out).mono ?_
  rintro e w2 ⟨rfl, rfl⟩
  go_wp2
  go_end0
  exact ⟨rfl, HR1.out, HB1.out⟩
theorem offer1_38 (K : Nat) (a x : Pc) (w : World) (h : Rk w K 38 [a]) (ha : Vl.Bits a.1) (hx : Vl.Bits x.1) :
    Calls Tryz.prog 51 #[.pointer (some ⟨K, 0, none⟩), .agg #[.int .u64 x.1, .int .i64 (x.2 : Nat)], .int .i64 1] w (HeapP K 38 [if lessF gtI x a = true then a else x] (.tuple #[]) w) := by
  have hKl := h.lt
  have hb0 : Below w.heap.size w (w.alloc (.cells #[.int .u64 x.1, .int .i64 (x.2 : Nat)] 83)) := (Below.refl _ _).alloc (Nat.le_refl _) _
  have HP := Lib.hid (hpush1_38 K a x _ (h.below hb0) ha hx)
  obtain ⟨u, v, huv, hv⟩ : ∃ u v, (if lessF gtI x a = true then [x, a] else [a, x]) = [u, v] ∧ (if lessF gtI x a = true then a else x) = v := by
    cases lessF gtI x a
    · exact ⟨a, x, rfl, rfl⟩
    · exact ⟨x, a, rfl, rfl⟩
  rw [huv] at HP
  rw [hv]
  have HL := Lib.hid (fun W (hW : Rk W K 38 [u, v]) => len_any K 38 [u, v] W hW (by simp))
  have HPO := Lib.hid (fun W (hW : Rk W K 38 [u, v]) => hpop_any K 38 u v W hW)
  have HB0 := Lib.hid (hb0.mono (Nat.le_of_lt hKl))
  rw [show [u, v].length = 2 from rfl] at HL
  clear h hb0 huv hv ha hx
  go_enter Tryz.func51, Tryz.ntmps51
  go_wp2_with fail
  refine (HP.out).mono ?_
  rintro e w1 ⟨rfl, hr1, hb1⟩
  have HR1 := Lib.hid hr1
  have HB1 := Lib.hid (HB0.out.trans hb1)
  clear hr1 hb1
  go_wp2_with fail
  refine (HL.out _ HR1.out).mono ?_
  rintro e w2 ⟨rfl, rfl⟩
  go_wp2_with fail
  refine (HPO.out _ HR1.out).mono ?_
  rintro e w2 ⟨rfl, hr2, hb2⟩
  have HR2 := Lib.hid hr2
  have HB2 := Lib.hid (HB1.out.trans hb2)
  clear hr2 hb2
  go_wp2
  go_end0
  exact ⟨rfl, HR2.out, HB2.out⟩
theorem offer0_40 (K : Nat) (x : Pc) (w : World) (h : Rk w K 40 []) :
    Calls Tryz.prog 51 #[.pointer (some ⟨K, 0, none⟩), .agg #[.int .u64 x.1, .int .i64 (x.2 : Nat)], .int .i64 1] w (HeapP K 40 [x] (.tuple #[]) w) := by
  have hKl := h.lt
  have hb0 : Below w.heap.size w (w.alloc (.cells #[.int .u64 x.1, .int .i64 (x.2 : Nat)] 83)) := (Below.refl _ _).alloc (Nat.le_refl _) _
  have HP := Lib.hid (hpush0_40 K x _ (h.below hb0))
  have HL := Lib.hid (fun W (hW : Rk W K 40 [x]) => len_any K 40 [x] W hW (by simp))
  have HB0 := Lib.hid (hb0.mono (Nat.le_of_lt hKl))
  rw [List.length_singleton] at HL
  clear h hb0
  go_enter Tryz.func51, Tryz.ntmps51
  go_wp2_with fail
  refine (HP.out).mono ?_
  rintro e w1 ⟨rfl, hr1, hb1⟩
  have HR1 := Lib.hid hr1
  have HB1 := Lib.hid (HB0.out.trans hb1)
  clear hr1 hb1
  go_wp2_with fail
  refine (HL.out _ HR1.out).mono ?_
  rintro e w2 ⟨rfl, rfl⟩
  go_wp2
  go_end0
  exact ⟨rfl, HR1.out, HB1.out⟩
theorem offer1_40 (K : Nat) (a x : Pc) (w : World) (h : Rk w K 40 [a]) (ha : Vl.Bits a.1) (hx : Vl.Bits x.1) :
    Calls Tryz.prog 51 #[.pointer (some ⟨K, 0, none⟩), .agg #[.int .u64 x.1, .int .i64 (x.2 : Nat)], .int .i64 1] w (HeapP K 40 [if lessF ltI x a = true then a else x] (.tuple #[]) w) := by
  have hKl := h.lt
  have hb0 : Below w.heap.size w (w.alloc (.cells #[.int .u64 x.1, .int .i64 (x.2 : Nat)] 83)) := (Below.refl _ _).alloc (Nat.le_refl _) _
  have HP := Lib.hid (hpush1_40 K a x _ (h.below hb0) ha hx)
  obtain ⟨u, v, huv, hv⟩ : ∃ u v, (if lessF ltI x a = true then [x, a] else [a, x]) = [u, v] ∧ (if lessF ltI x a = true then a else x) = v := by
    cases lessF ltI x a
    · exact ⟨a, x, rfl, rfl⟩
    · exact ⟨x, a, rfl, rfl⟩
  rw [huv] at HP
  rw [hv]
  have HL := Lib.hid (fun W (hW : Rk W K 40 [u, v]) => len_any K 40 [u, v] W hW (by simp))
  have HPO := Lib.hid (fun W (hW : Rk W K 40 [u, v]) => hpop_any K 40 u v W hW)
  have HB0 := Lib.hid (hb0.mono (Nat.le_of_lt hKl))
  rw [show [u, v].length = 2 from rfl] at HL
  clear h hb0 huv hv ha hx
  go_enter Tryz.func51, Tryz.ntmps51
  go_wp2_with fail
  refine (HP.out).mono ?_
  rintro e w1 ⟨rfl, hr1, hb1⟩
  have HR1 := Lib.hid hr1
  have HB1 := Lib.hid (HB0.out.trans hb1)
  clear hr1 hb1
  go_wp2_with fail
  refine (HL.out _ HR1.out).mono ?_
  rintro e w2 ⟨rfl, rfl⟩
  go_wp2_with fail
  refine (HPO.out _ HR1.out).mono ?_
  rintro e w2 ⟨rfl, hr2, hb2⟩
  have HR2 := Lib.hid hr2
  have HB2 := Lib.hid (HB1.out.trans hb2)
  clear hr2 hb2
  go_wp2
  go_end0
  exact ⟨rfl, HR2.out, HB2.out⟩
end Go.Proofs.YtencpjhpedenbaaGreatDoor

/- isHow, isPair, isGroupName: what they answer, as functions. Condition: names lie in memory. -/
import Derived.Test.YtmodehfedhgcbaaGreatDoorN5
import Derived.Test.YtmodehfedhgcbaaGreatDoorKLc
import Derived.Deep.LoopGhost
namespace Go.Proofs.YtmodehfedhgcbaaGreatDoor.Ck
open Go.RowKit
set_option linter.unusedVariables false
set_option linter.unusedSimpArgs false

def Good (l : List ByteArray) (k : Nat) : Prop := ∀ i, i < k → Lb.nameB (l.getD i n0) = true
instance (l : List ByteArray) (k : Nat) : Decidable (Good l k) := by unfold Good; infer_instance
def howF (how : Int) (l : List ByteArray) : Bool := if how = 0 then decide (l.length = 0) else decide ((how = 1 ∨ how = 2) ∧ l.length ≤ 16 ∧ Good l l.length)
theorem good_succ {l : List ByteArray} {k : Nat} (h : Good l k) (h1 : Lb.nameB (l.getD k n0) = true) : Good l (k + 1) := by
  intro i hi
  by_cases e : i = k
  · subst e; exact h1
  · exact h i (by omega)
theorem name_is (s : ByteArray) (r : Bool) (h : Lb.nameB s = r) (w : World) : Calls Tryz.prog 69 #[.string s] w fun e w' => e = .returned (.bool r) ∧ w = w' := Rg.name_is s r h w
set_option maxRecDepth 100000 in
set_option maxHeartbeats 4000000 in
theorem how_any (h : Hd) (ks : List Tr) (w : World) (hN : Nms w h.na h.ns) : Calls Tryz.prog 60 #[valT (.mk h ks)] w fun e w' => e = .returned (.bool (howF h.how h.ns)) ∧ Below w.heap.size w w' := by
  obtain ⟨k0, o, v, s0, ma, mc, ms, wd, off0, ha, tm, how, na, nc, ns, bo, ka, kc⟩ := h
  obtain ⟨r, hr⟩ : ∃ r, howF how ns = r := ⟨_, rfl⟩
  rw [valT_arr]
  dsimp only at hN ⊢
  rw [hr]
  have hB : ∀ o, Below w.heap.size w (w.alloc o) := fun o => (Below.refl _ _).alloc (Nat.le_refl _) _
  have HB := Lib.hid hB
  have HR := Lib.hid hr
  have HN := Lib.hid hN
  clear hB hr hN
  obtain ⟨n, hn⟩ : ∃ n, ns.length = n := ⟨_, rfl⟩
  unfold arr
  dsimp only
  rw [hn]
  have HL := Lib.hid hn
  clear hn
  by_cases h0 : how = 0
  · have e0 : (how == 0) = true := by simp; omega
    have hr2 : decide (n = 0) = r := by have := HR.out; unfold howF at this; rwa [if_pos h0, HL.out] at this
    have hd : ((n : Int) == 0) = r := by rw [← hr2, Bool.eq_iff_iff, beq_iff_eq, decide_eq_true_eq]; omega
    have hz : (((0 : Int)) == 0) = true := rfl
    clear h0 hr2 HR
    go_enter Tryz.func60, Tryz.ntmps60
    go_wp2_with fail
    go_ret
    exact ⟨rfl, HB.out _⟩
  · have e0 : (how == 0) = false := by simp; omega
    by_cases hk : (how = 1 ∨ how = 2) ∧ n ≤ 16
    · have hr2 : decide (Good ns n) = r := by
        rw [← HR.out]; unfold howF
        rw [if_neg h0, HL.out, Bool.eq_iff_iff, decide_eq_true_eq, decide_eq_true_eq]
        exact ⟨fun g => ⟨hk.1, hk.2, g⟩, fun g => g.2.2⟩
      have e16 : ¬ (16 : Int) < (n : Int) := by omega
      have HR2 := Lib.hid hr2
      clear HR hr2
      rcases hk with ⟨h12, hn16⟩
      have go : ∀ x1 x2 : Bool, (how != 1) = x1 → (how != 2) = x2 → (x1 && x2) = false → Calls Tryz.prog 60 #[.agg #[.int .i64 k0, .int .i64 o, .int .u64 (v : Int), .string s0, .slice ma ms.length mc, .int .i64 wd, .int .i64 off0, .bool ha, .int .i64 tm, .int .i64 how, .slice na n nc, .bool bo, .slice ka ks.length kc]] w fun e w' => e = .returned (.bool r) ∧ Below w.heap.size w w' := by
        intro x1 x2 hx1 hx2 hxx
        clear h0 h12
        cases x1 <;> cases x2 <;> simp at hxx <;> clear hxx
        all_goals
          go_enter Tryz.func60, Tryz.ntmps60
          go_wp2_with fail
          go_loopw [35] (fun s5 wx => ∃ k : Nat, k ≤ n ∧ s5 = .int .i64 (k : Int) ∧ Hid (Good ns k) ∧ Hid (Below w.heap.size w wx)) (fun i _ => n - (intOf i).toNat)
          case atStart => exact ⟨0, Nat.zero_le _, rfl, fun i hi => absurd hi (Nat.not_lt_zero _), HB.out _⟩
          case round =>
            obtain ⟨k, hkn, rfl, HG, HBX⟩ := hrel
            by_cases hlt : k < n
            · obtain ⟨b, off, rfl, hb, hc⟩ := HN.out (by rw [HL.out]; omega)
              have hx := (HBX.out.cell (p := ⟨b, off + k, none⟩) hb).trans (hc k (by rw [HL.out]; exact hlt))
              have hki : (k : Int) < (n : Int) := by omega
              have HB0 := Lib.hid hb
              clear hc
              obtain ⟨s, hs⟩ : ∃ s, ns.getD k n0 = s := ⟨_, rfl⟩
              rw [hs] at hx
              obtain ⟨q, hq⟩ : ∃ q, Lb.nameB s = q := ⟨_, rfl⟩
              have HNM := Lib.hid (fun W => name_is s q hq W)
              have HQ : Hid (Lb.nameB (ns.getD k n0) = q) := by rw [hs]; exact hq
              clear hs hq
              cases q with
              | true =>
                go_wp2_with fail
                refine (HNM.out _).mono ?_
                rintro e w3 ⟨rfl, rfl⟩
                go_wp2_with fail
                go_roundw
                case rel => exact ⟨k + 1, by omega, by go_num, good_succ HG.out HQ.out, HBX⟩
                case measure => (first | omega | (simp only [intOf]; omega))
              | false =>
                have hf : r = false := by
                  rw [← HR2.out, decide_eq_false]
                  intro g
                  have := g k hlt
                  rw [HQ.out] at this
                  cases this
                subst hf
                go_wp2_with fail
                refine (HNM.out _).mono ?_
                rintro e w3 ⟨rfl, rfl⟩
                go_wp2_with fail
                go_ret
                exact ⟨rfl, HBX.out⟩
            · have hf : r = true := by
                have : k = n := by omega
                subst this
                rw [← HR2.out, decide_eq_true HG.out]
              subst hf
              go_wp2_with fail
              go_ret
              exact ⟨rfl, HBX.out⟩
      exact go _ _ rfl rfl (by rcases h12 with h | h <;> rw [h] <;> rfl)
    · have hf : r = false := by
        rw [← HR.out]; unfold howF
        rw [if_neg h0, HL.out, decide_eq_false]
        exact fun g => hk ⟨g.1, g.2.1⟩
      subst hf
      clear HR
      by_cases h12 : how = 1 ∨ how = 2
      · have hn16 : (16 : Int) < (n : Int) := by omega
        have go : ∀ x1 x2 : Bool, (how != 1) = x1 → (how != 2) = x2 → (x1 && x2) = false → Calls Tryz.prog 60 #[.agg #[.int .i64 k0, .int .i64 o, .int .u64 (v : Int), .string s0, .slice ma ms.length mc, .int .i64 wd, .int .i64 off0, .bool ha, .int .i64 tm, .int .i64 how, .slice na n nc, .bool bo, .slice ka ks.length kc]] w fun e w' => e = .returned (.bool false) ∧ Below w.heap.size w w' := by
          intro x1 x2 hx1 hx2 hxx
          clear h0 h12 hk
          cases x1 <;> cases x2 <;> simp at hxx <;> clear hxx
          all_goals
            go_enter Tryz.func60, Tryz.ntmps60
            go_wp2_with fail
            go_ret
            exact ⟨rfl, HB.out _⟩
        exact go _ _ rfl rfl (by rcases h12 with h | h <;> rw [h] <;> rfl)
      · have e1 : (how != 1) = true := by simp; omega
        have e2 : (how != 2) = true := by simp; omega
        clear h0 h12 hk
        go_enter Tryz.func60, Tryz.ntmps60
        go_wp2_with fail
        go_ret
        exact ⟨rfl, HB.out _⟩
end Go.Proofs.YtmodehfedhgcbaaGreatDoor.Ck

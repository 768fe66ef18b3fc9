/- Whether a matcher of any way holds, whether all of some do; matchers that are not too much for a look; a name's value by the document. Condition: the variables as they are laid. -/
import Derived.Test.YtahphjaelpgjdaaDoorLd
import Derived.Test.YtahphjaelpgjdaaDoorQb
namespace Go.Proofs.YtahphjaelpgjdaaDoor
open Go.RowKit Rx
set_option linter.unusedVariables false

theorem way_0 {op : Int} (h1 : op ≠ 1) (h2 : op ≠ 2) (h3 : op ≠ 3) (h4 : op ≠ 4) (v s : ByteArray) : wayF op v s = false := by
  unfold wayF; rw [if_neg h2, if_neg h1, if_neg h4, if_neg h3]
set_option maxRecDepth 100000 in
set_option maxHeartbeats 4000000 in
theorem holds_0 (op : Int) (nm v : ByteArray) (A : Option Addr) (cap : Nat) (l : List Lb.Lab) (w : World) (hU : Tabs w) (h5 : 5 ≤ w.heap.size) (h1 : op ≠ 1) (h2 : op ≠ 2) (h3 : op ≠ 3) (h4 : op ≠ 4) :
    Calls Tryd.prog 14 #[.agg #[.int .i64 op, .string nm, .string v], .slice A l.length cap] w fun e w' => e = .returned (.bool (holdsF op nm v l)) ∧ Below w.heap.size w w' := by
  have hb0 : Below w.heap.size w (w.alloc (.cells #[.int .i64 op, .string nm, .string v] 37)) := (Below.refl _ _).alloc (Nat.le_refl _) _
  have HN := Lib.hid (named_any op nm v (w.alloc (.cells #[.int .i64 op, .string nm, .string v] 37)) (hU.below (by omega) hb0))
  have HX := Lib.hid (Blk.new w 37 #[.int .i64 op, .string nm, .string v])
  have HB := Lib.hid hb0
  have hr : holdsF op nm v l = false := by unfold holdsF; rw [way_0 h1 h2 h3 h4, Bool.and_false]
  rw [hr]
  have d1 : (op == 1) = false := by simpa using h1
  have d2 : (op == 2) = false := by simpa using h2
  have d3 : (op == 3) = false := by simpa using h3
  have d4 : (op == 4) = false := by simpa using h4
  clear hr hU hb0
  generalize namedB nm v = q at *
  go_enter Tryd.func14, Tryd.ntmps14
  go_wp2_with fail
  refine (HN.out).mono ?_
  rintro e w1 ⟨rfl, hb⟩
  have HB1 : Hid (Below w.heap.size w w1) := HB.out.trans (hb.mono (by simp))
  have HX1 := Lib.hid (HX.out.below hb)
  clear hb HN HX HB
  obtain ⟨y0, y1, y2⟩ := cellsT3 HX1.out
  cases q with
  | false =>
    go_wp2
    go_ret
    exact ⟨rfl, HB1.out⟩
  | true =>
    go_wp2
    go_ret
    exact ⟨rfl, HB1.out⟩
theorem holds_any (op : Int) (nm v : ByteArray) (A : Option Addr) (cap : Nat) (l : List Lb.Lab) (w : World) (h5 : 5 ≤ w.heap.size) (hT : TzT w) (hU : Tabs w) (hL : Lbs w A l) (hl : l.length ≤ 65536) :
    Calls Tryd.prog 14 #[.agg #[.int .i64 op, .string nm, .string v], .slice A l.length cap] w fun e w' => e = .returned (.bool (holdsF op nm v l)) ∧ Below w.heap.size w w' := by
  by_cases h1 : op = 1
  · subst h1; exact holds_1 nm v A cap l w h5 hT hU hL hl
  by_cases h2 : op = 2
  · subst h2; exact holds_2 nm v A cap l w h5 hT hU hL hl
  by_cases h3 : op = 3
  · subst h3; exact holds_3 nm v A cap l w h5 hT hU hL hl
  by_cases h4 : op = 4
  · subst h4; exact holds_4 nm v A cap l w h5 hT hU hL hl
  exact holds_0 op nm v A cap l w hU h5 h1 h2 h3 h4

/-! all of some -/
def hldB (l : List Lb.Lab) (m : Mt) : Bool := holdsF m.1 m.2.1 m.2.2 l
def allTo (ms : List Mt) (l : List Lb.Lab) (k : Nat) : Prop := ∀ i, i < k → hldB l (ms.getD i m0) = true
def allB (ms : List Mt) (l : List Lb.Lab) : Bool := ms.all (hldB l)
theorem all_succ {ms : List Mt} {l : List Lb.Lab} {k : Nat} (h : allTo ms l k) (h1 : hldB l (ms.getD k m0) = true) : allTo ms l (k + 1) := by
  intro i hi
  by_cases e : i = k
  · subst e; exact h1
  · exact h i (by omega)
theorem all_bad {ms : List Mt} {l : List Lb.Lab} {k : Nat} (hk : k < ms.length) (h : hldB l (ms.getD k m0) = false) : allB ms l = false := by
  unfold allB
  rw [List.all_eq_false]
  refine ⟨ms.getD k m0, ?_, by rw [h]; simp⟩
  rw [List.getD_eq_getElem?_getD, List.getElem?_eq_getElem hk]
  exact List.getElem_mem _
theorem all_good {ms : List Mt} {l : List Lb.Lab} (h : allTo ms l ms.length) : allB ms l = true := by
  unfold allB
  rw [List.all_eq_true]
  intro m hm
  obtain ⟨i, hi, rfl⟩ := List.mem_iff_getElem.1 hm
  have := h i hi
  rwa [List.getD_eq_getElem?_getD, List.getElem?_eq_getElem hi] at this
set_option maxRecDepth 100000 in
set_option maxHeartbeats 8000000 in
theorem all_any (C : Option Addr) (cc : Nat) (ms : List Mt) (A : Option Addr) (cap : Nat) (l : List Lb.Lab) (w : World) (h5 : 5 ≤ w.heap.size) (hT : TzT w) (hU : Tabs w) (hM : Mts w C ms) (hL : Lbs w A l) (hm : ms.length ≤ 65536) (hl : l.length ≤ 65536) :
    Calls Tryd.prog 16 #[.slice C ms.length cc, .slice A l.length cap] w fun e w' => e = .returned (.bool (allB ms l)) ∧ Below w.heap.size w w' := by
  generalize hr : allB ms l = r
  have HR := Lib.hid hr
  have HM := Lib.hid hM
  have H : Hid (∀ (m : Mt) W, Below w.heap.size w W → Calls Tryd.prog 14 #[.agg #[.int .i64 m.1, .string m.2.1, .string m.2.2], .slice A l.length cap] W fun e w' => e = .returned (.bool (hldB l m)) ∧ Below W.heap.size W w') := fun m W hW =>
    holds_any m.1 m.2.1 m.2.2 A cap l W (by have := hW.size; omega) (hT.below hW) (hU.below (by omega) hW) (hL.below hW) hl
  clear hr hM hT hU hL
  generalize hn : ms.length = n at *
  have HN := Lib.hid hn
  clear hn
  generalize hnl : l.length = nl at *
  clear hnl
  go_enter Tryd.func16, Tryd.ntmps16
  go_wp2
  go_loopw [9] (fun i wr => ∃ k : Nat, k ≤ n ∧ i = .int .i64 k ∧ Hid (allTo ms l k) ∧ Hid (Below w.heap.size w wr)) (fun i _ => n - (intOf i).toNat)
  case atStart => exact ⟨0, Nat.zero_le _, rfl, fun i hi => absurd hi (Nat.not_lt_zero _), Below.refl _ _⟩
  case round =>
    obtain ⟨k, hk, rfl, HC, HB⟩ := hrel
    by_cases hlt : k < n
    · obtain ⟨b0, off, rfl, hb0, hc⟩ := HM.out (by have := HN.out; omega)
      have hkl : k < ms.length := by rw [HN.out]; exact hlt
      have hx : wr.cell? ⟨b0, off + k * 3, none⟩ = some (.int .i64 (ms.getD k m0).1) := (HB.out.cell (p := ⟨b0, off + k * 3, none⟩) hb0).trans (hc k hkl).1
      have hy : wr.cell? ⟨b0, off + k * 3 + 1, none⟩ = some (.string (ms.getD k m0).2.1) := (HB.out.cell (p := ⟨b0, off + k * 3 + 1, none⟩) hb0).trans (hc k hkl).2.1
      have hz : wr.cell? ⟨b0, off + k * 3 + 2, none⟩ = some (.string (ms.getD k m0).2.2) := (HB.out.cell (p := ⟨b0, off + k * 3 + 2, none⟩) hb0).trans (hc k hkl).2.2
      have hsz := HB.out.size
      have HBAD := Lib.hid (@all_bad ms l k hkl)
      have HGO := Lib.hid (@all_succ ms l k HC.out)
      have HH := Lib.hid (H.out (ms.getD k m0) (wr.alloc (.cells #[.int .i64 (ms.getD k m0).1, .string (ms.getD k m0).2.1, .string (ms.getD k m0).2.2] 37)) (HB.out.alloc hsz _))
      clear hc HC
      generalize hq : hldB l (ms.getD k m0) = q at *
      clear hq
      generalize (ms.getD k m0).1 = x at *
      generalize (ms.getD k m0).2.1 = y at *
      generalize (ms.getD k m0).2.2 = z at *
      go_wp2_with fail
      refine (HH.out).mono ?_
      rintro e w2 ⟨rfl, hb2⟩
      have HB2 : Hid (Below w.heap.size w w2) := (HB.out.alloc hsz _).trans (hb2.mono (by simp; omega))
      clear hb2 HH hx hy hz
      cases q with
      | false =>
        have hf : r = false := HR.out.symm.trans (HBAD.out rfl)
        subst hf
        clear HBAD HGO
        go_wp2
        go_ret
        exact ⟨rfl, HB2.out⟩
      | true =>
        have HE := Lib.hid (HGO.out rfl)
        clear HBAD HGO
        go_wp2
        refine ⟨⟨k + 1, by omega, ?_, HE, HB2⟩, ?_⟩
        · rw [Int.natCast_add]; rfl
        · simp only [intOf]; omega
    · have hf : r = true := HR.out.symm.trans (all_good (by rw [HN.out, show n = k by omega]; exact HC.out))
      subst hf
      go_wp2
      go_ret
      exact ⟨rfl, HB.out⟩

/-! matchers that are not too much for a look -/
def shM (x : Mt) : Bool := decide (x.2.2.size ≤ 250) && decide (x.2.1.size ≤ 400)
def ShM (l : List Mt) (k : Nat) : Prop := ∀ i, i < k → shM (l.getD i m0) = true
instance (l : List Mt) (k : Nat) : Decidable (ShM l k) := by unfold ShM; infer_instance
def shortM (l : List Mt) : Bool := decide (ShM l l.length) && decide (l.length ≤ 10)
theorem shm_succ {l : List Mt} {k : Nat} (h : ShM l k) (h1 : (l.getD k m0).2.2.size ≤ 250) (h2 : (l.getD k m0).2.1.size ≤ 400) : ShM l (k + 1) := by
  intro i hi
  by_cases e : i = k
  · subst e; simp [shM] at *; omega
  · exact h i (by omega)
theorem shm_bad {l : List Mt} {k : Nat} (h : k < l.length) (h1 : 250 < (l.getD k m0).2.2.size ∨ 400 < (l.getD k m0).2.1.size) : shortM l = false := by
  unfold shortM
  rw [decide_eq_false, Bool.false_and]
  intro h2
  have := h2 k h
  simp only [shM, Bool.and_eq_true, decide_eq_true_eq] at this
  omega
theorem shm_good {l : List Mt} (h : ShM l l.length) : shortM l = decide (l.length ≤ 10) := by
  unfold shortM
  rw [decide_eq_true h, Bool.true_and]
set_option maxHeartbeats 1000000 in
theorem shortm_any (A : Option Addr) (cap : Nat) (l : List Mt) (w : World) (hL : Mts w A l) (hl : l.length ≤ 9223372036854775807) :
    Calls Tryd.prog 15 #[.slice A l.length cap] w fun e w' => e = .returned (.bool (shortM l)) ∧ w = w' := by
  generalize hr : shortM l = r
  have HR := Lib.hid hr
  have HL := Lib.hid hL
  clear hr hL
  generalize hn : l.length = n at *
  have HN := Lib.hid hn
  clear hn
  go_enter Tryd.func15, Tryd.ntmps15
  go_wp2
  go_loop [3] (fun i => ∃ k : Nat, k ≤ n ∧ i = .int .i64 k ∧ Hid (ShM l k)) (fun i => n - (intOf i).toNat)
  case atStart => exact ⟨0, Nat.zero_le _, rfl, fun i hi => absurd hi (Nat.not_lt_zero _)⟩
  case round =>
    obtain ⟨k, hk, rfl, hs⟩ := hrel
    by_cases hlt : k < n
    · have hkl : k < l.length := by rw [HN.out]; exact hlt
      obtain ⟨b0, off, rfl, hb0, hc⟩ := HL.out (by omega)
      have hx := (hc k hkl).2.2
      have hy := (hc k hkl).2.1
      have HBAD := Lib.hid (@shm_bad l k hkl)
      have HGO := Lib.hid (@shm_succ l k hs.out)
      clear hc
      generalize (l.getD k m0).2.2 = x at *
      generalize (l.getD k m0).2.1 = y at *
      by_cases h1 : 250 < x.size
      · have hf : r = false := by rw [← HR.out]; exact HBAD.out (.inl h1)
        subst hf
        have h1' : (250 : Int) < (x.size : Int) := by omega
        go_wp2
        go_ret
        exact ⟨rfl, rfl⟩
      · have d1 : decide (250 < x.size) = false := by simpa using h1
        by_cases h2 : 400 < y.size
        · have hf : r = false := by rw [← HR.out]; exact HBAD.out (.inr h2)
          subst hf
          have h2' : (400 : Int) < (y.size : Int) := by omega
          go_wp2
          go_ret
          exact ⟨rfl, rfl⟩
        · have d2 : decide (400 < y.size) = false := by simpa using h2
          have HS : Hid (ShM l (k + 1)) := HGO.out (by omega) (by omega)
          go_wp2
          go_round
          case rel => exact ⟨k + 1, by omega, by go_num, HS⟩
          case measure => simp [intOf]; omega
    · have hf : r = decide (n ≤ 10) := by
        rw [← HR.out, shm_good (by rw [HN.out, show n = k by omega]; exact hs.out), HN.out]
      subst hf
      clear HR
      go_wp2
      go_ret
      exact ⟨by simp; omega, rfl⟩

/-! the value of a name, by the document -/
set_option maxRecDepth 100000 in
set_option maxHeartbeats 4000000 in
theorem rget_any (A : Option Addr) (cap : Nat) (l : List Lb.Lab) (nm : ByteArray) (w : World) (hL : Lbs w A l) (hl : l.length ≤ 65536) :
    Calls Tryd.prog 17 #[.slice A l.length cap, .string nm] w fun e w' => e = .returned (.string (getF l nm)) ∧ w = w' := by
  generalize hr : getF l nm = r
  have HR := Lib.hid (show getFrom l nm l.length 0 = r from hr)
  have HL := Lib.hid hL
  clear hr hL
  generalize hn : l.length = n at *
  have HN := Lib.hid hn
  clear hn
  go_enter Tryd.func17, Tryd.ntmps17
  go_wp2
  go_loop [5] (fun i => ∃ k : Nat, k ≤ n ∧ i = .int .i64 k ∧ Hid (getFrom l nm (n - k) k = r)) (fun i => n - (intOf i).toNat)
  case atStart => exact ⟨0, Nat.zero_le _, rfl, HR⟩
  case round =>
    obtain ⟨k, hk, rfl, HC⟩ := hrel
    by_cases hlt : k < n
    · obtain ⟨rest, hrest⟩ : ∃ rest, n - k = rest + 1 := ⟨n - k - 1, by omega⟩
      rw [hrest] at HC
      obtain ⟨b0, off, rfl, hb0, hc⟩ := HL.out (by have := HN.out; omega)
      have hkl : k < l.length := by rw [HN.out]; exact hlt
      have hx := (hc k hkl).1
      have hy := (hc k hkl).2
      have HHERE := Lib.hid (@get_here l nm rest k)
      have HON := Lib.hid (@get_on l nm rest k)
      clear hc
      generalize (l.getD k Lb.e0).1 = x at *
      generalize (l.getD k Lb.e0).2 = y at *
      cases hq : (x.toList == nm.toList) with
      | true =>
        have HE := Lib.hid ((HHERE.out hq).symm.trans HC.out)
        clear HHERE HON HC
        go_wp2
        go_ret
        exact ⟨by rw [HE.out]; rfl, rfl⟩
      | false =>
        have HE := Lib.hid ((HON.out hq).symm.trans HC.out)
        clear HHERE HON HC
        go_wp2
        go_round
        case rel => exact ⟨k + 1, by omega, by go_num, by rw [show n - (k + 1) = rest by omega]; exact HE⟩
        case measure => simp [intOf]; omega
    · have hz : n - k = 0 := by omega
      rw [hz] at HC
      have HE := Lib.hid (show (⟨#[]⟩ : ByteArray) = r from HC.out)
      clear HC
      go_wp2
      go_ret
      exact ⟨by rw [← HE.out]; rfl, rfl⟩
end Go.Proofs.YtahphjaelpgjdaaDoor

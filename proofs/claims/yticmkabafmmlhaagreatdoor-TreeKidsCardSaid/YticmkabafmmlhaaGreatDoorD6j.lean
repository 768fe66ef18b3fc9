/- The document's Free: whether a text is a free word. Condition: a text of at most 65536 bytes. -/
import Derived.Test.YticmkabafmmlhaaGreatDoorD7j
set_option linter.unusedVariables false
set_option linter.unusedSimpArgs false
set_option maxRecDepth 100000
set_option maxHeartbeats 8000000
namespace Go.Proofs.YticmkabafmmlhaaGreatDoor.Ck
open Go.RowKit
open Lib (hid)
def CharsTo (l : List UInt8) (k : Nat) : Prop := ∀ i, i < k → (Lx.isL (l.getD i 0) || (decide (i ≠ 0) && Lx.isD (l.getD i 0))) = true
def charsB (l : List UInt8) : Bool := decide (∀ i, i < l.length → (Lx.isL (l.getD i 0) || (decide (i ≠ 0) && Lx.isD (l.getD i 0))) = true)
theorem chars_all {l : List UInt8} : charsB l = true ↔ CharsTo l l.length := by unfold charsB CharsTo; rw [decide_eq_true_eq]
theorem chars_bad {l : List UInt8} {k : Nat} (hk : k < l.length) (h : (Lx.isL (l.getD k 0) || (decide (k ≠ 0) && Lx.isD (l.getD k 0))) = false) : charsB l = false := by
 rw [Bool.eq_false_iff]
 intro hh
 have := chars_all.1 hh k hk
 rw [h] at this
 cases this
theorem chars_succ {l : List UInt8} {k : Nat} (h : CharsTo l k) (h1 : (Lx.isL (l.getD k 0) || (decide (k ≠ 0) && Lx.isD (l.getD k 0))) = true) : CharsTo l (k + 1) := fun i hi => by
 by_cases e : i = k
 · subst e; exact h1
 · exact h i (by omega)
theorem isL_is (c : UInt8) : Lx.isL c = decide ((97 ≤ c.toNat ∧ c.toNat ≤ 122) ∨ (65 ≤ c.toNat ∧ c.toNat ≤ 90) ∨ c.toNat = 95 ∨ c.toNat = 58) := by
 unfold Lx.isL
 rw [Bool.eq_iff_iff]
 have e95 : c = 95 ↔ c.toNat = 95 := ⟨fun h => by rw [h]; rfl, fun h => UInt8.toNat_inj.1 h⟩
 have e58 : c = 58 ↔ c.toNat = 58 := ⟨fun h => by rw [h]; rfl, fun h => UInt8.toNat_inj.1 h⟩
 simp only [Bool.or_eq_true, Bool.and_eq_true, decide_eq_true_eq, beq_iff_eq, e95, e58, or_assoc]
theorem let_of {c : UInt8} (h : (97 ≤ c.toNat ∧ c.toNat ≤ 122) ∨ (65 ≤ c.toNat ∧ c.toNat ≤ 90) ∨ c.toNat = 95 ∨ c.toNat = 58) : Lx.isL c = true := by rw [isL_is]; exact decide_eq_true h
theorem let_not {c : UInt8} (h : ¬ ((97 ≤ c.toNat ∧ c.toNat ≤ 122) ∨ (65 ≤ c.toNat ∧ c.toNat ≤ 90) ∨ c.toNat = 95 ∨ c.toNat = 58)) : Lx.isL c = false := by rw [isL_is]; exact decide_eq_false h
theorem dig_of {c : UInt8} (h : 48 ≤ c.toNat ∧ c.toNat ≤ 57) : Lx.isD c = true := by unfold Lx.isD; rw [decide_eq_true h.1, decide_eq_true h.2]; rfl
theorem bad_of {c : UInt8} {k : Nat} (h : ¬ ((97 ≤ c.toNat ∧ c.toNat ≤ 122) ∨ (65 ≤ c.toNat ∧ c.toNat ≤ 90) ∨ c.toNat = 95 ∨ c.toNat = 58) ∧ ¬ (48 ≤ c.toNat ∧ c.toNat ≤ 57)) : (Lx.isL c || (decide (k ≠ 0) && Lx.isD c)) = false := by
 rw [let_not h.1]
 have : Lx.isD c = false := by
  unfold Lx.isD
  rw [Bool.and_eq_false_iff, decide_eq_false_iff_not, decide_eq_false_iff_not]
  omega
 rw [this]; simp
def freeD (s : ByteArray) : Bool := decide (0 < s.size) && (decide (s.size ≤ 200) && (!groupB s.toList && (!keyB s.toList && charsB s.data.toList)))
theorem dfree_any (s : ByteArray) (hs : s.size ≤ 65536) (w : World) : Calls Tryz.prog 23 #[.string s] w fun e w' => e = .returned (.bool (freeD s)) ∧ Below w.heap.size w w' := by
 obtain ⟨r, hr⟩ : ∃ r, freeD s = r := ⟨_, rfl⟩
 rw [hr]
 unfold freeD at hr
 by_cases h0 : s.size = 0
 · obtain rfl : false = r := by rw [← hr, decide_eq_false (by omega), Bool.false_and]
   have hz : ((s.size : Int) == 0) = true := by rw [beq_iff_eq]; omega
   clear hr h0
   go_enter Tryz.func23, Tryz.ntmps23
   go_wp2_with fail
   go_ret
   exact ⟨rfl, Below.refl _ _⟩
 have hz : ((s.size : Int) == 0) = false := by rw [beq_eq_false_iff_ne]; omega
 rw [decide_eq_true (show 0 < s.size by omega), Bool.true_and] at hr
 by_cases h2 : 200 < s.size
 · obtain rfl : false = r := by rw [← hr, decide_eq_false (by omega), Bool.false_and]
   have h2i : (200 : Int) < (s.size : Int) := by omega
   clear hr h0 h2
   go_enter Tryz.func23, Tryz.ntmps23
   go_wp2_with fail
   go_ret
   exact ⟨rfl, Below.refl _ _⟩
 have h2i : ¬ (200 : Int) < (s.size : Int) := by omega
 rw [decide_eq_true (show s.size ≤ 200 by omega), Bool.true_and] at hr
 obtain ⟨g, hg⟩ : ∃ g, groupB s.toList = g := ⟨_, rfl⟩
 obtain ⟨q, hq⟩ : ∃ q, keyB s.toList = q := ⟨_, rfl⟩
 rw [hg, hq] at hr
 have HR := hid hr
 have HGR := hid (fun W => groups_any W)
 have h44 : ∀ W : World, Calls Tryz.prog 25 #[.string s, .slice (some ⟨W.heap.size, 0, none⟩) 7 7] (W.alloc (.cells (groupsL.map Value.string).toArray 9)) fun e w' => e = .returned (.bool g) ∧ (W.alloc (.cells (groupsL.map Value.string).toArray 9)) = w' := fun W =>
  in_is s _ groupsL 7 7 _ g rfl (by rw [in_groups, hg]) (nms_new (Blk.new W 9 _)) (by decide)
 have h45 : ∀ W : World, Calls Tryz.prog 25 #[.string s, .slice (some ⟨W.heap.size, 0, none⟩) 8 8] (W.alloc (.cells (keysL.map Value.string).toArray 9)) fun e w' => e = .returned (.bool q) ∧ (W.alloc (.cells (keysL.map Value.string).toArray 9)) = w' := fun W =>
  in_is s _ keysL 8 8 _ q rfl (by rw [in_keys, hq]) (nms_new (Blk.new W 9 _)) (by decide)
 have HI1 := hid h44
 have h46 := h45 (w.alloc (.cells (groupsL.map Value.string).toArray 9))
 rw [World.size_alloc] at h46
 have HI2 := hid h46
 have HBA := hid (fun W o (hW : Below w.heap.size w W) => (hW.alloc hW.size o : Below w.heap.size w (W.alloc o)))
 clear hr hg hq h44 h45 h46 h0 h2
 go_enter Tryz.func23, Tryz.ntmps23
 go_wp2_with fail
 refine (HGR.out _).mono ?_
 rintro e w1 ⟨rfl, rfl⟩
 go_wp2_with fail
 refine (HI1.out _).mono ?_
 rintro e w2 ⟨rfl, rfl⟩
 have HB2 := hid (HBA.out _ (.cells (groupsL.map Value.string).toArray 9) (Below.refl _ _))
 cases g with
 | true =>
   obtain rfl : false = r := HR.out
   go_wp2_with fail
   go_ret
   exact ⟨rfl, HB2.out⟩
 | false =>
   go_wp2_with fail
   refine (HI2.out).mono ?_
   rintro e w3 ⟨rfl, rfl⟩
   have HB3 := hid (HBA.out _ (.cells (keysL.map Value.string).toArray 9) HB2.out)
   clear HI1 HI2 HGR HBA HB2
   cases q with
   | true =>
     obtain rfl : false = r := HR.out
     go_wp2_with fail
     go_ret
     exact ⟨rfl, HB3.out⟩
   | false =>
     have HR2 : Hid (charsB s.data.toList = r) := HR.out
     clear HR
     go_wp2_with fail
     generalize ((w.alloc (.cells (groupsL.map Value.string).toArray 9)).alloc (.cells (keysL.map Value.string).toArray 9)) = W3 at *
     go_loopg [3] s.size (fun gq s3 wx => ∃ k : Nat, k ≤ s.size ∧ s.size ≤ gq + k ∧ s3 = .int .i64 (k : Int) ∧ Hid (CharsTo s.data.toList k) ∧ Hid (Below w.heap.size w wx))
     case atStart => exact ⟨0, Nat.zero_le _, Nat.le_refl _, rfl, fun i hi => absurd hi (Nat.not_lt_zero _), HB3⟩
     case round =>
      obtain ⟨k, hkn, hg, rfl, HG, HBX⟩ := hrel
      have hll : s.data.toList.length = s.size := rfl
      by_cases hlt : k < s.size
      · have hki : (k : Int) < (s.size : Int) := by omega
        have hgd : s.data.toList.getD k 0 = s[k]'hlt := by
         rw [List.getD_eq_getElem?_getD, List.getElem?_eq_getElem (by rw [hll]; exact hlt)]
         rfl
        obtain ⟨c, hcc⟩ : ∃ c, (s[k]'hlt).toNat = c := ⟨_, rfl⟩
        obtain ⟨g', rfl⟩ : ∃ g', gk = g' + 1 := ⟨gk - 1, by omega⟩
        by_cases q0 : c < 48
        · have t0 : ¬ (97 : Int) ≤ (((s[k]'hlt).toNat : Nat) : Int) := by omega
          have t1 : (((s[k]'hlt).toNat : Nat) : Int) ≤ 122 := by omega
          have t2 : ¬ (65 : Int) ≤ (((s[k]'hlt).toNat : Nat) : Int) := by omega
          have t3 : (((s[k]'hlt).toNat : Nat) : Int) ≤ 90 := by omega
          have t4 : ((((s[k]'hlt).toNat : Nat) : Int) == 95) = false := by rw [beq_eq_false_iff_ne]; omega
          have t5 : ((((s[k]'hlt).toNat : Nat) : Int) == 58) = false := by rw [beq_eq_false_iff_ne]; omega
          have t6 : (((s[k]'hlt).toNat : Nat) : Int) < 48 := by omega
          have t7 : ¬ (57 : Int) < (((s[k]'hlt).toNat : Nat) : Int) := by omega
          obtain rfl : false = r := by rw [← HR2.out]; exact (chars_bad (k := k) (by rw [hll]; exact hlt) (by rw [hgd]; exact bad_of (by omega))).symm
          clear hcc hgd hll q0
          go_wp2_with fail
          all_goals (go_ret; exact ⟨rfl, HBX.out⟩)
        by_cases q1 : c ≤ 57
        · have t0 : ¬ (97 : Int) ≤ (((s[k]'hlt).toNat : Nat) : Int) := by omega
          have t1 : (((s[k]'hlt).toNat : Nat) : Int) ≤ 122 := by omega
          have t2 : ¬ (65 : Int) ≤ (((s[k]'hlt).toNat : Nat) : Int) := by omega
          have t3 : (((s[k]'hlt).toNat : Nat) : Int) ≤ 90 := by omega
          have t4 : ((((s[k]'hlt).toNat : Nat) : Int) == 95) = false := by rw [beq_eq_false_iff_ne]; omega
          have t5 : ((((s[k]'hlt).toNat : Nat) : Int) == 58) = false := by rw [beq_eq_false_iff_ne]; omega
          have t6 : ¬ (((s[k]'hlt).toNat : Nat) : Int) < 48 := by omega
          have t7 : ¬ (57 : Int) < (((s[k]'hlt).toNat : Nat) : Int) := by omega
          by_cases hk0 : k = 0
          · have z : ((k : Int) == 0) = true := by simp; omega
            obtain rfl : false = r := by rw [← HR2.out]; exact (chars_bad (k := k) (by rw [hll]; exact hlt) (by rw [hgd, let_not (by omega)]; simp [hk0])).symm
            clear hcc hgd hll hk0 q0 q1
            go_wp2_with fail
            go_ret
            exact ⟨rfl, HBX.out⟩
          · have z : ((k : Int) == 0) = false := by simp; omega
            have HG2 : Hid (CharsTo s.data.toList (k + 1)) := chars_succ HG.out (by rw [hgd, let_not (by omega), dig_of (by omega), decide_eq_true hk0]; rfl)
            clear hcc hgd hll hk0 q0 q1
            go_wp2_with fail
            go_roundg g'
            case measure => omega
            case rel => exact ⟨k + 1, by omega, by omega, by go_num, HG2, HBX⟩
        by_cases q2 : c = 58
        · have t0 : ¬ (97 : Int) ≤ (((s[k]'hlt).toNat : Nat) : Int) := by omega
          have t1 : (((s[k]'hlt).toNat : Nat) : Int) ≤ 122 := by omega
          have t2 : ¬ (65 : Int) ≤ (((s[k]'hlt).toNat : Nat) : Int) := by omega
          have t3 : (((s[k]'hlt).toNat : Nat) : Int) ≤ 90 := by omega
          have t4 : ((((s[k]'hlt).toNat : Nat) : Int) == 95) = false := by rw [beq_eq_false_iff_ne]; omega
          have t5 : ((((s[k]'hlt).toNat : Nat) : Int) == 58) = true := by rw [beq_iff_eq]; omega
          have t6 : ¬ (((s[k]'hlt).toNat : Nat) : Int) < 48 := by omega
          have t7 : (57 : Int) < (((s[k]'hlt).toNat : Nat) : Int) := by omega
          have HG2 : Hid (CharsTo s.data.toList (k + 1)) := chars_succ HG.out (by rw [hgd, let_of (by omega)]; rfl)
          clear hcc hgd hll q0 q1 q2
          go_wp2_with fail
          go_roundg g'
          case measure => omega
          case rel => exact ⟨k + 1, by omega, by omega, by go_num, HG2, HBX⟩
        by_cases q3 : c < 65
        · have t0 : ¬ (97 : Int) ≤ (((s[k]'hlt).toNat : Nat) : Int) := by omega
          have t1 : (((s[k]'hlt).toNat : Nat) : Int) ≤ 122 := by omega
          have t2 : ¬ (65 : Int) ≤ (((s[k]'hlt).toNat : Nat) : Int) := by omega
          have t3 : (((s[k]'hlt).toNat : Nat) : Int) ≤ 90 := by omega
          have t4 : ((((s[k]'hlt).toNat : Nat) : Int) == 95) = false := by rw [beq_eq_false_iff_ne]; omega
          have t5 : ((((s[k]'hlt).toNat : Nat) : Int) == 58) = false := by rw [beq_eq_false_iff_ne]; omega
          have t6 : ¬ (((s[k]'hlt).toNat : Nat) : Int) < 48 := by omega
          have t7 : (57 : Int) < (((s[k]'hlt).toNat : Nat) : Int) := by omega
          obtain rfl : false = r := by rw [← HR2.out]; exact (chars_bad (k := k) (by rw [hll]; exact hlt) (by rw [hgd]; exact bad_of (by omega))).symm
          clear hcc hgd hll q0 q1 q2 q3
          go_wp2_with fail
          all_goals (go_ret; exact ⟨rfl, HBX.out⟩)
        by_cases q4 : c ≤ 90
        · have t0 : ¬ (97 : Int) ≤ (((s[k]'hlt).toNat : Nat) : Int) := by omega
          have t1 : (((s[k]'hlt).toNat : Nat) : Int) ≤ 122 := by omega
          have t2 : (65 : Int) ≤ (((s[k]'hlt).toNat : Nat) : Int) := by omega
          have t3 : (((s[k]'hlt).toNat : Nat) : Int) ≤ 90 := by omega
          have t4 : ((((s[k]'hlt).toNat : Nat) : Int) == 95) = false := by rw [beq_eq_false_iff_ne]; omega
          have t5 : ((((s[k]'hlt).toNat : Nat) : Int) == 58) = false := by rw [beq_eq_false_iff_ne]; omega
          have t6 : ¬ (((s[k]'hlt).toNat : Nat) : Int) < 48 := by omega
          have t7 : (57 : Int) < (((s[k]'hlt).toNat : Nat) : Int) := by omega
          have HG2 : Hid (CharsTo s.data.toList (k + 1)) := chars_succ HG.out (by rw [hgd, let_of (by omega)]; rfl)
          clear hcc hgd hll q0 q1 q2 q3 q4
          go_wp2_with fail
          go_roundg g'
          case measure => omega
          case rel => exact ⟨k + 1, by omega, by omega, by go_num, HG2, HBX⟩
        by_cases q5 : c < 95
        · have t0 : ¬ (97 : Int) ≤ (((s[k]'hlt).toNat : Nat) : Int) := by omega
          have t1 : (((s[k]'hlt).toNat : Nat) : Int) ≤ 122 := by omega
          have t2 : (65 : Int) ≤ (((s[k]'hlt).toNat : Nat) : Int) := by omega
          have t3 : ¬ (((s[k]'hlt).toNat : Nat) : Int) ≤ 90 := by omega
          have t4 : ((((s[k]'hlt).toNat : Nat) : Int) == 95) = false := by rw [beq_eq_false_iff_ne]; omega
          have t5 : ((((s[k]'hlt).toNat : Nat) : Int) == 58) = false := by rw [beq_eq_false_iff_ne]; omega
          have t6 : ¬ (((s[k]'hlt).toNat : Nat) : Int) < 48 := by omega
          have t7 : (57 : Int) < (((s[k]'hlt).toNat : Nat) : Int) := by omega
          obtain rfl : false = r := by rw [← HR2.out]; exact (chars_bad (k := k) (by rw [hll]; exact hlt) (by rw [hgd]; exact bad_of (by omega))).symm
          clear hcc hgd hll q0 q1 q2 q3 q4 q5
          go_wp2_with fail
          all_goals (go_ret; exact ⟨rfl, HBX.out⟩)
        by_cases q6 : c = 95
        · have t0 : ¬ (97 : Int) ≤ (((s[k]'hlt).toNat : Nat) : Int) := by omega
          have t1 : (((s[k]'hlt).toNat : Nat) : Int) ≤ 122 := by omega
          have t2 : (65 : Int) ≤ (((s[k]'hlt).toNat : Nat) : Int) := by omega
          have t3 : ¬ (((s[k]'hlt).toNat : Nat) : Int) ≤ 90 := by omega
          have t4 : ((((s[k]'hlt).toNat : Nat) : Int) == 95) = true := by rw [beq_iff_eq]; omega
          have t5 : ((((s[k]'hlt).toNat : Nat) : Int) == 58) = false := by rw [beq_eq_false_iff_ne]; omega
          have t6 : ¬ (((s[k]'hlt).toNat : Nat) : Int) < 48 := by omega
          have t7 : (57 : Int) < (((s[k]'hlt).toNat : Nat) : Int) := by omega
          have HG2 : Hid (CharsTo s.data.toList (k + 1)) := chars_succ HG.out (by rw [hgd, let_of (by omega)]; rfl)
          clear hcc hgd hll q0 q1 q2 q3 q4 q5 q6
          go_wp2_with fail
          go_roundg g'
          case measure => omega
          case rel => exact ⟨k + 1, by omega, by omega, by go_num, HG2, HBX⟩
        by_cases q7 : c < 97
        · have t0 : ¬ (97 : Int) ≤ (((s[k]'hlt).toNat : Nat) : Int) := by omega
          have t1 : (((s[k]'hlt).toNat : Nat) : Int) ≤ 122 := by omega
          have t2 : (65 : Int) ≤ (((s[k]'hlt).toNat : Nat) : Int) := by omega
          have t3 : ¬ (((s[k]'hlt).toNat : Nat) : Int) ≤ 90 := by omega
          have t4 : ((((s[k]'hlt).toNat : Nat) : Int) == 95) = false := by rw [beq_eq_false_iff_ne]; omega
          have t5 : ((((s[k]'hlt).toNat : Nat) : Int) == 58) = false := by rw [beq_eq_false_iff_ne]; omega
          have t6 : ¬ (((s[k]'hlt).toNat : Nat) : Int) < 48 := by omega
          have t7 : (57 : Int) < (((s[k]'hlt).toNat : Nat) : Int) := by omega
          obtain rfl : false = r := by rw [← HR2.out]; exact (chars_bad (k := k) (by rw [hll]; exact hlt) (by rw [hgd]; exact bad_of (by omega))).symm
          clear hcc hgd hll q0 q1 q2 q3 q4 q5 q6 q7
          go_wp2_with fail
          all_goals (go_ret; exact ⟨rfl, HBX.out⟩)
        by_cases q8 : c ≤ 122
        · have t0 : (97 : Int) ≤ (((s[k]'hlt).toNat : Nat) : Int) := by omega
          have t1 : (((s[k]'hlt).toNat : Nat) : Int) ≤ 122 := by omega
          have t2 : (65 : Int) ≤ (((s[k]'hlt).toNat : Nat) : Int) := by omega
          have t3 : ¬ (((s[k]'hlt).toNat : Nat) : Int) ≤ 90 := by omega
          have t4 : ((((s[k]'hlt).toNat : Nat) : Int) == 95) = false := by rw [beq_eq_false_iff_ne]; omega
          have t5 : ((((s[k]'hlt).toNat : Nat) : Int) == 58) = false := by rw [beq_eq_false_iff_ne]; omega
          have t6 : ¬ (((s[k]'hlt).toNat : Nat) : Int) < 48 := by omega
          have t7 : (57 : Int) < (((s[k]'hlt).toNat : Nat) : Int) := by omega
          have HG2 : Hid (CharsTo s.data.toList (k + 1)) := chars_succ HG.out (by rw [hgd, let_of (by omega)]; rfl)
          clear hcc hgd hll q0 q1 q2 q3 q4 q5 q6 q7 q8
          go_wp2_with fail
          go_roundg g'
          case measure => omega
          case rel => exact ⟨k + 1, by omega, by omega, by go_num, HG2, HBX⟩
        have t0 : (97 : Int) ≤ (((s[k]'hlt).toNat : Nat) : Int) := by omega
        have t1 : ¬ (((s[k]'hlt).toNat : Nat) : Int) ≤ 122 := by omega
        have t2 : (65 : Int) ≤ (((s[k]'hlt).toNat : Nat) : Int) := by omega
        have t3 : ¬ (((s[k]'hlt).toNat : Nat) : Int) ≤ 90 := by omega
        have t4 : ((((s[k]'hlt).toNat : Nat) : Int) == 95) = false := by rw [beq_eq_false_iff_ne]; omega
        have t5 : ((((s[k]'hlt).toNat : Nat) : Int) == 58) = false := by rw [beq_eq_false_iff_ne]; omega
        have t6 : ¬ (((s[k]'hlt).toNat : Nat) : Int) < 48 := by omega
        have t7 : (57 : Int) < (((s[k]'hlt).toNat : Nat) : Int) := by omega
        obtain rfl : false = r := by rw [← HR2.out]; exact (chars_bad (k := k) (by rw [hll]; exact hlt) (by rw [hgd]; exact bad_of (by omega))).symm
        clear hcc hgd hll q0 q1 q2 q3 q4 q5 q6 q7 q8
        go_wp2_with fail
        all_goals (go_ret; exact ⟨rfl, HBX.out⟩)
      · obtain rfl : true = r := by
         rw [← HR2.out]
         have hkk : k = s.data.toList.length := by rw [hll]; omega
         exact (chars_all.2 (hkk ▸ HG.out)).symm
        have hki : ¬ (k : Int) < (s.size : Int) := by omega
        go_wp2_with fail
        go_ret
        exact ⟨rfl, HBX.out⟩
end Go.Proofs.YticmkabafmmlhaaGreatDoor.Ck

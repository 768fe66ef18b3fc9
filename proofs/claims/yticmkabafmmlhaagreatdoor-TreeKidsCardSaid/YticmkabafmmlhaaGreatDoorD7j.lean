/- The document's values and names; its right matchers. Condition: a name of at most 65536 bytes. -/
import Derived.Test.YticmkabafmmlhaaGreatDoorKLcj
import Derived.Test.YticmkabafmmlhaaGreatDoorU1j
import Derived.Test.YticmkabafmmlhaaGreatDoorN26j
set_option linter.unusedVariables false
set_option maxRecDepth 100000
set_option maxHeartbeats 4000000
namespace Go.Proofs.YticmkabafmmlhaaGreatDoor.Dn
open Go.RowKit Lb
theorem refvalue_any (s : ByteArray) (w : World) : Calls Tryz.prog 22 #[.string s] w fun e w' => e = .returned (.bool (Rg.valB s)) ∧ w = w' := by
 unfold Rg.valB
 by_cases h : s.size ≤ 200
 · rw [show decide (s.size ≤ 200) = true by simpa using h, Bool.true_and]
   have h' : (s.size : Int) ≤ 200 := by omega
   have HT := Lib.hid (fun W => Ut.text_any s (by omega) W)
   generalize Lib.validD s.data.toList = r at *
   go_enter Tryz.func22, Tryz.ntmps22
   go_wp2_with (go_at_call 49; refine (HT.out _).mono ?_; rintro e w' ⟨rfl, rfl⟩)
   go_ret
   exact ⟨rfl, rfl⟩
 · rw [show decide (s.size ≤ 200) = false by simpa using h, Bool.false_and]
   have h' : ¬ (s.size : Int) ≤ 200 := by omega
   have d : decide (s.size ≤ 200) = false := by simpa using h
   go_enter Tryz.func22, Tryz.ntmps22
   go_wp2
   go_ret
   exact ⟨rfl, rfl⟩
theorem isDig_of {c : Nat} (h : 48 ≤ c) (h' : c ≤ 57) : isDig (c : Int) = true := by simp [isDig]; omega
theorem isDig_not {c : Nat} (h : c < 48 ∨ 57 < c) : isDig (c : Int) = false := by simp [isDig]; omega
theorem isLet_of {c : Nat} (h : (97 ≤ c ∧ c ≤ 122) ∨ (65 ≤ c ∧ c ≤ 90) ∨ c = 95) : isLet (c : Int) = true := by simp [isLet]; omega
theorem isLet_not {c : Nat} (h : (c < 97 ∨ 122 < c) ∧ (c < 65 ∨ 90 < c) ∧ c ≠ 95) : isLet (c : Int) = false := by simp [isLet]; omega
theorem refname_any (s : ByteArray) (hs : s.size ≤ 65536) (w : World) : Calls Tryz.prog 51 #[.string s] w fun e w' => e = .returned (.bool (nameB s)) ∧ w = w' := by
 generalize hr : nameB s = r
 have HR := Lib.hid hr
 clear hr
 go_enter Tryz.func51, Tryz.ntmps51
 go_wp2
 go_loop [3] (fun i => ∃ k : Nat, k ≤ s.size ∧ i = .int .i64 k ∧ Hid (Named s k ∧ (0 < k → isDig (by_ s 0) = false))) (fun i => s.size - (intOf i).toNat)
 case atStart => exact ⟨0, Nat.zero_le _, rfl, ⟨named_zero s, fun h => absurd h (Nat.lt_irrefl _)⟩⟩
 case round =>
  obtain ⟨k, hk, rfl, hn⟩ := hrel
  by_cases hlt : k < s.size
  · have hbk := by_eq s k hlt
    have d : decide (k < s.size) = true := by simpa using hlt
    by_cases c0 : (s[k]'hlt).toNat < 48
    · have t0 : decide (48 ≤ (s[k]'hlt).toNat) = false := by simp; omega
      have t1 : decide ((s[k]'hlt).toNat ≤ 57) = true := by simp; omega
      have t2 : decide ((s[k]'hlt).toNat < 97) = true := by simp; omega
      have t3 : decide (122 < (s[k]'hlt).toNat) = false := by simp; omega
      have t4 : decide ((s[k]'hlt).toNat < 65) = true := by simp; omega
      have t5 : decide (90 < (s[k]'hlt).toNat) = false := by simp; omega
      have t6 : (((s[k]'hlt).toNat : Int) == 95) = false := by simp; omega
      have t7 : (((s[k]'hlt).toNat : Int) != 95) = true := by simp; omega
      have hf : r = false := by rw [← HR.out]; exact name_no (.inr (.inr (.inr ⟨k, hlt, by rw [← hbk, isLet_not (by omega), isDig_not (by omega)]; rfl⟩)))
      subst hf
      clear hbk
      go_wp2
      go_ret
      exact ⟨rfl, rfl⟩
    by_cases c1 : (s[k]'hlt).toNat ≤ 57
    · have t0 : decide (48 ≤ (s[k]'hlt).toNat) = true := by simp; omega
      have t1 : decide ((s[k]'hlt).toNat ≤ 57) = true := by simp; omega
      have t2 : decide ((s[k]'hlt).toNat < 97) = true := by simp; omega
      have t3 : decide (122 < (s[k]'hlt).toNat) = false := by simp; omega
      have t4 : decide ((s[k]'hlt).toNat < 65) = true := by simp; omega
      have t5 : decide (90 < (s[k]'hlt).toNat) = false := by simp; omega
      have t6 : (((s[k]'hlt).toNat : Int) == 95) = false := by simp; omega
      have t7 : (((s[k]'hlt).toNat : Int) != 95) = true := by simp; omega
      by_cases hk0 : k = 0
      · subst hk0
        have hf : r = false := by rw [← HR.out]; exact name_no (.inr (.inr (.inl (by rw [← hbk]; exact isDig_of (by omega) (by omega)))))
        subst hf
        clear hbk
        go_wp2
        go_ret
        exact ⟨rfl, rfl⟩
      · have z : ((k : Int) == 0) = false := by simp; omega
        have HN : Hid (Named s (k + 1) ∧ (0 < k + 1 → isDig (by_ s 0) = false)) := ⟨named_succ hn.out.1 (by rw [← hbk, isDig_of (by omega) (by omega), Bool.or_true]), fun _ => hn.out.2 (by omega)⟩
        clear hbk
        go_wp2
        go_round
        case rel => exact ⟨k + 1, by omega, by go_num, HN⟩
        case measure => simp [intOf]; omega
    by_cases c2 : (s[k]'hlt).toNat < 65
    · have t0 : decide (48 ≤ (s[k]'hlt).toNat) = true := by simp; omega
      have t1 : decide ((s[k]'hlt).toNat ≤ 57) = false := by simp; omega
      have t2 : decide ((s[k]'hlt).toNat < 97) = true := by simp; omega
      have t3 : decide (122 < (s[k]'hlt).toNat) = false := by simp; omega
      have t4 : decide ((s[k]'hlt).toNat < 65) = true := by simp; omega
      have t5 : decide (90 < (s[k]'hlt).toNat) = false := by simp; omega
      have t6 : (((s[k]'hlt).toNat : Int) == 95) = false := by simp; omega
      have t7 : (((s[k]'hlt).toNat : Int) != 95) = true := by simp; omega
      have hf : r = false := by rw [← HR.out]; exact name_no (.inr (.inr (.inr ⟨k, hlt, by rw [← hbk, isLet_not (by omega), isDig_not (by omega)]; rfl⟩)))
      subst hf
      clear hbk
      go_wp2
      go_ret
      exact ⟨rfl, rfl⟩
    by_cases c3 : (s[k]'hlt).toNat ≤ 90
    · have t0 : decide (48 ≤ (s[k]'hlt).toNat) = true := by simp; omega
      have t1 : decide ((s[k]'hlt).toNat ≤ 57) = false := by simp; omega
      have t2 : decide ((s[k]'hlt).toNat < 97) = true := by simp; omega
      have t3 : decide (122 < (s[k]'hlt).toNat) = false := by simp; omega
      have t4 : decide ((s[k]'hlt).toNat < 65) = false := by simp; omega
      have t5 : decide (90 < (s[k]'hlt).toNat) = false := by simp; omega
      have t6 : (((s[k]'hlt).toNat : Int) == 95) = false := by simp; omega
      have t7 : (((s[k]'hlt).toNat : Int) != 95) = true := by simp; omega
      have HN : Hid (Named s (k + 1) ∧ (0 < k + 1 → isDig (by_ s 0) = false)) := ⟨named_succ hn.out.1 (by rw [← hbk, isLet_of (by omega)]; rfl), fun _ => by
       by_cases hk0 : k = 0
       · subst hk0; rw [← hbk]; exact isDig_not (by omega)
       · exact hn.out.2 (by omega)⟩
      clear hbk
      go_wp2
      go_round
      case rel => exact ⟨k + 1, by omega, by go_num, HN⟩
      case measure => simp [intOf]; omega
    by_cases c4 : (s[k]'hlt).toNat < 95
    · have t0 : decide (48 ≤ (s[k]'hlt).toNat) = true := by simp; omega
      have t1 : decide ((s[k]'hlt).toNat ≤ 57) = false := by simp; omega
      have t2 : decide ((s[k]'hlt).toNat < 97) = true := by simp; omega
      have t3 : decide (122 < (s[k]'hlt).toNat) = false := by simp; omega
      have t4 : decide ((s[k]'hlt).toNat < 65) = false := by simp; omega
      have t5 : decide (90 < (s[k]'hlt).toNat) = true := by simp; omega
      have t6 : (((s[k]'hlt).toNat : Int) == 95) = false := by simp; omega
      have t7 : (((s[k]'hlt).toNat : Int) != 95) = true := by simp; omega
      have hf : r = false := by rw [← HR.out]; exact name_no (.inr (.inr (.inr ⟨k, hlt, by rw [← hbk, isLet_not (by omega), isDig_not (by omega)]; rfl⟩)))
      subst hf
      clear hbk
      go_wp2
      go_ret
      exact ⟨rfl, rfl⟩
    by_cases c5 : (s[k]'hlt).toNat = 95
    · have t0 : decide (48 ≤ (s[k]'hlt).toNat) = true := by simp; omega
      have t1 : decide ((s[k]'hlt).toNat ≤ 57) = false := by simp; omega
      have t2 : decide ((s[k]'hlt).toNat < 97) = true := by simp; omega
      have t3 : decide (122 < (s[k]'hlt).toNat) = false := by simp; omega
      have t4 : decide ((s[k]'hlt).toNat < 65) = false := by simp; omega
      have t5 : decide (90 < (s[k]'hlt).toNat) = true := by simp; omega
      have t6 : (((s[k]'hlt).toNat : Int) == 95) = true := by simp; omega
      have t7 : (((s[k]'hlt).toNat : Int) != 95) = false := by simp; omega
      have HN : Hid (Named s (k + 1) ∧ (0 < k + 1 → isDig (by_ s 0) = false)) := ⟨named_succ hn.out.1 (by rw [← hbk, isLet_of (by omega)]; rfl), fun _ => by
       by_cases hk0 : k = 0
       · subst hk0; rw [← hbk]; exact isDig_not (by omega)
       · exact hn.out.2 (by omega)⟩
      clear hbk
      go_wp2
      go_round
      case rel => exact ⟨k + 1, by omega, by go_num, HN⟩
      case measure => simp [intOf]; omega
    by_cases c6 : (s[k]'hlt).toNat < 97
    · have t0 : decide (48 ≤ (s[k]'hlt).toNat) = true := by simp; omega
      have t1 : decide ((s[k]'hlt).toNat ≤ 57) = false := by simp; omega
      have t2 : decide ((s[k]'hlt).toNat < 97) = true := by simp; omega
      have t3 : decide (122 < (s[k]'hlt).toNat) = false := by simp; omega
      have t4 : decide ((s[k]'hlt).toNat < 65) = false := by simp; omega
      have t5 : decide (90 < (s[k]'hlt).toNat) = true := by simp; omega
      have t6 : (((s[k]'hlt).toNat : Int) == 95) = false := by simp; omega
      have t7 : (((s[k]'hlt).toNat : Int) != 95) = true := by simp; omega
      have hf : r = false := by rw [← HR.out]; exact name_no (.inr (.inr (.inr ⟨k, hlt, by rw [← hbk, isLet_not (by omega), isDig_not (by omega)]; rfl⟩)))
      subst hf
      clear hbk
      go_wp2
      go_ret
      exact ⟨rfl, rfl⟩
    by_cases c7 : (s[k]'hlt).toNat ≤ 122
    · have t0 : decide (48 ≤ (s[k]'hlt).toNat) = true := by simp; omega
      have t1 : decide ((s[k]'hlt).toNat ≤ 57) = false := by simp; omega
      have t2 : decide ((s[k]'hlt).toNat < 97) = false := by simp; omega
      have t3 : decide (122 < (s[k]'hlt).toNat) = false := by simp; omega
      have t4 : decide ((s[k]'hlt).toNat < 65) = false := by simp; omega
      have t5 : decide (90 < (s[k]'hlt).toNat) = true := by simp; omega
      have t6 : (((s[k]'hlt).toNat : Int) == 95) = false := by simp; omega
      have t7 : (((s[k]'hlt).toNat : Int) != 95) = true := by simp; omega
      have HN : Hid (Named s (k + 1) ∧ (0 < k + 1 → isDig (by_ s 0) = false)) := ⟨named_succ hn.out.1 (by rw [← hbk, isLet_of (by omega)]; rfl), fun _ => by
       by_cases hk0 : k = 0
       · subst hk0; rw [← hbk]; exact isDig_not (by omega)
       · exact hn.out.2 (by omega)⟩
      clear hbk
      go_wp2
      go_round
      case rel => exact ⟨k + 1, by omega, by go_num, HN⟩
      case measure => simp [intOf]; omega
    · have t0 : decide (48 ≤ (s[k]'hlt).toNat) = true := by simp; omega
      have t1 : decide ((s[k]'hlt).toNat ≤ 57) = false := by simp; omega
      have t2 : decide ((s[k]'hlt).toNat < 97) = false := by simp; omega
      have t3 : decide (122 < (s[k]'hlt).toNat) = true := by simp; omega
      have t4 : decide ((s[k]'hlt).toNat < 65) = false := by simp; omega
      have t5 : decide (90 < (s[k]'hlt).toNat) = true := by simp; omega
      have t6 : (((s[k]'hlt).toNat : Int) == 95) = false := by simp; omega
      have t7 : (((s[k]'hlt).toNat : Int) != 95) = true := by simp; omega
      have hf : r = false := by rw [← HR.out]; exact name_no (.inr (.inr (.inr ⟨k, hlt, by rw [← hbk, isLet_not (by omega), isDig_not (by omega)]; rfl⟩)))
      subst hf
      clear hbk
      go_wp2
      go_ret
      exact ⟨rfl, rfl⟩
  · have d : decide (k < s.size) = false := by simpa using hlt
    have hkn : s.size = k := by omega
    by_cases h0 : 0 < s.size
    · by_cases h2 : s.size ≤ 200
      · have hf : r = true := by
         rw [← HR.out]
         exact name_yes h0 h2 (hn.out.2 (by omega)) (by rw [hkn]; exact hn.out.1)
        subst hf
        have z1 : decide (0 < s.size) = true := by simpa using h0
        have z2 : decide (s.size ≤ 200) = true := by simpa using h2
        clear hkn
        go_wp2
        go_ret
        exact ⟨by simp; omega, rfl⟩
      · have hf : r = false := by rw [← HR.out]; exact name_no (.inr (.inl (by omega)))
        subst hf
        have z1 : decide (0 < s.size) = true := by simpa using h0
        have z2 : decide (s.size ≤ 200) = false := by simpa using h2
        clear hkn
        go_wp2
        go_ret
        exact ⟨by simp; omega, rfl⟩
    · have hf : r = false := by rw [← HR.out]; exact name_no (.inl (by omega))
      subst hf
      have z1 : decide (0 < s.size) = false := by simpa using h0
      clear hkn
      go_wp2
      go_ret
      exact ⟨rfl, rfl⟩
end Go.Proofs.YticmkabafmmlhaaGreatDoor.Dn

set_option linter.unusedVariables false
set_option linter.unusedSimpArgs false
set_option maxRecDepth 100000
set_option maxHeartbeats 4000000
namespace Go.Proofs.YticmkabafmmlhaaGreatDoor.Ck
open Go.RowKit
def inF (s : ByteArray) (l : List ByteArray) : Bool := l.any fun x => x.toList == s.toList
def NotIn (s : ByteArray) (l : List ByteArray) (k : Nat) : Prop := ∀ i, i < k → ((l.getD i n0).toList == s.toList) = false
theorem in_hit {s : ByteArray} {l : List ByteArray} {k : Nat} (hk : k < l.length) (h : ((l.getD k n0).toList == s.toList) = true) : inF s l = true := by
 unfold inF
 rw [List.any_eq_true]
 refine ⟨l.getD k n0, ?_, h⟩
 rw [List.getD_eq_getElem?_getD, List.getElem?_eq_getElem hk]
 exact List.getElem_mem hk
theorem in_miss {s : ByteArray} {l : List ByteArray} (h : NotIn s l l.length) : inF s l = false := by
 unfold inF
 rw [List.any_eq_false]
 intro x hx
 obtain ⟨i, hi, rfl⟩ := List.getElem_of_mem hx
 have := h i hi
 rw [List.getD_eq_getElem?_getD, List.getElem?_eq_getElem hi] at this
 rw [show (some l[i]).getD n0 = l[i] from rfl] at this
 rw [this]
 simp
theorem in_any (s : ByteArray) (A : Option Addr) (l : List ByteArray) (c : Nat) (w : World) (hN : Nms w A l) (hl : l.length ≤ 140737488355328) :
 Calls Tryz.prog 25 #[.string s, .slice A l.length c] w fun e w' => e = .returned (.bool (inF s l)) ∧ w = w' := by
 obtain ⟨r, hr⟩ : ∃ r, inF s l = r := ⟨_, rfl⟩
 rw [hr]
 have HR := Lib.hid hr
 have HN := Lib.hid hN
 clear hr hN
 obtain ⟨n, hn⟩ : ∃ n, l.length = n := ⟨_, rfl⟩
 rw [hn] at hl ⊢
 have HL := Lib.hid hn
 clear hn
 go_enter Tryz.func25, Tryz.ntmps25
 go_wp2_with fail
 go_loopg [5] n (fun gq s5 wx => ∃ k : Nat, k ≤ n ∧ n ≤ gq + k ∧ s5 = .int .i64 (k : Int) ∧ Hid (NotIn s l k) ∧ w = wx)
 case atStart => exact ⟨0, Nat.zero_le _, Nat.le_refl _, rfl, fun i hi => absurd hi (Nat.not_lt_zero _), rfl⟩
 case round =>
  obtain ⟨k, hkn, hg, rfl, HG, rfl⟩ := hrel
  by_cases hlt : k < n
  · obtain ⟨b, off, hA, hb, hc⟩ := HN.out (by rw [HL.out]; omega)
    have hix := fun W => index_nm A n c k b off hA hlt W
    have y1 := hc k (by rw [HL.out]; exact hlt)
    have hki : (k : Int) < (n : Int) := by omega
    clear hc hA
    obtain ⟨m, hm⟩ : ∃ m, l.getD k n0 = m := ⟨_, rfl⟩
    rw [hm] at y1
    have HMK := Lib.hid hm
    clear hm
    obtain ⟨g', rfl⟩ : ∃ g', gk = g' + 1 := ⟨gk - 1, by omega⟩
    cases he : (m.toList == s.toList) with
    | true =>
      obtain rfl : true = r := by rw [← HR.out]; exact (in_hit (k := k) (by rw [HL.out]; exact hlt) (by rw [HMK.out]; exact he)).symm
      go_wp2_with fail
      all_goals (go_ret; exact ⟨rfl, rfl⟩)
    | false =>
      have HG2 : Hid (NotIn s l (k + 1)) := fun i hi => by
       by_cases e : i = k
       · rw [e, HMK.out]; exact he
       · exact HG.out i (by omega)
      go_wp2_with fail
      go_roundg g'
      case measure => omega
      case rel => exact ⟨k + 1, by omega, by omega, by go_num, HG2, rfl⟩
  · obtain rfl : false = r := by
     have hkn2 : k = n := by omega
     have := HG.out
     rw [hkn2, ← HL.out] at this
     rw [← HR.out, in_miss this]
    go_wp2_with fail
    go_ret
    exact ⟨rfl, rfl⟩
theorem in_is (s : ByteArray) (A : Option Addr) (l : List ByteArray) (n c : Nat) (w : World) (r : Bool) (hn : l.length = n) (hr : inF s l = r) (hN : Nms w A l) (hl : n ≤ 140737488355328) :
 Calls Tryz.prog 25 #[.string s, .slice A n c] w fun e w' => e = .returned (.bool r) ∧ w = w' := by
 subst hn hr; exact in_any s A l c w hN hl
theorem nms_new {w : World} {b : Nat} {t : TypeId} {l : List ByteArray} (h : Blk w b t (l.map Value.string).toArray) : Nms w (some ⟨b, 0, none⟩) l := by
 intro _
 refine ⟨b, 0, rfl, h.lt, fun i hi => ?_⟩
 rw [h.cell, List.getElem?_toArray, Nat.zero_add, List.getElem?_map, List.getElem?_eq_getElem hi, List.getD_eq_getElem?_getD, List.getElem?_eq_getElem hi]
 rfl
def groupsL : List ByteArray := [⟨#[115, 117, 109]⟩, ⟨#[97, 118, 103]⟩, ⟨#[109, 105, 110]⟩, ⟨#[109, 97, 120]⟩, ⟨#[99, 111, 117, 110, 116]⟩, ⟨#[116, 111, 112, 107]⟩, ⟨#[98, 111, 116, 116, 111, 109, 107]⟩]
def keysL : List ByteArray := [⟨#[98, 121]⟩, ⟨#[119, 105, 116, 104, 111, 117, 116]⟩, ⟨#[111, 110]⟩, ⟨#[105, 103, 110, 111, 114, 105, 110, 103]⟩, ⟨#[98, 111, 111, 108]⟩, ⟨#[111, 102, 102, 115, 101, 116]⟩, ⟨#[73, 110, 102]⟩, ⟨#[78, 97, 78]⟩]
theorem beq_comm' (a b : List UInt8) : (a == b) = (b == a) := by
 rw [Bool.eq_iff_iff, beq_iff_eq, beq_iff_eq]; exact eq_comm
theorem in_groups (s : ByteArray) : inF s groupsL = groupB s.toList := by
 have e : groupsL.map ByteArray.toList = [[115, 117, 109], [97, 118, 103], [109, 105, 110], [109, 97, 120], [99, 111, 117, 110, 116], [116, 111, 112, 107], [98, 111, 116, 116, 111, 109, 107]] := by decide +kernel
 have : inF s groupsL = (groupsL.map ByteArray.toList).any (fun x => x == s.toList) := by unfold inF; rw [List.any_map]; rfl
 rw [this, e]
 unfold groupB
 simp only [List.any_cons, List.any_nil, Bool.or_false, beq_comm' _ s.toList]
theorem in_keys (s : ByteArray) : inF s keysL = keyB s.toList := by
 have e : keysL.map ByteArray.toList = [[98, 121], [119, 105, 116, 104, 111, 117, 116], [111, 110], [105, 103, 110, 111, 114, 105, 110, 103], [98, 111, 111, 108], [111, 102, 102, 115, 101, 116], [73, 110, 102], [78, 97, 78]] := by decide +kernel
 have : inF s keysL = (keysL.map ByteArray.toList).any (fun x => x == s.toList) := by unfold inF; rw [List.any_map]; rfl
 rw [this, e]
 unfold keyB
 simp only [List.any_cons, List.any_nil, Bool.or_false, beq_comm' _ s.toList]
theorem groups_any (w : World) : Calls Tryz.prog 26 #[] w fun e w' => e = .returned (.slice (some ⟨w.heap.size, 0, none⟩) 7 7) ∧ w.alloc (.cells (groupsL.map Value.string).toArray 9) = w' := by
 go_enter Tryz.func26, Tryz.ntmps26
 go_wp2_with fail
 go_ret
 exact ⟨rfl, rfl⟩
def dhowF (how : Int) (l : List ByteArray) : Bool := l.all Lb.nameB && ((decide (how = 0) && decide (l.length = 0) || (decide (how = 1) || decide (how = 2))) && decide (l.length ≤ 16))
end Go.Proofs.YticmkabafmmlhaaGreatDoor.Ck

set_option linter.unusedVariables false
set_option linter.unusedSimpArgs false
set_option maxRecDepth 100000
set_option maxHeartbeats 4000000
namespace Go.Proofs.YticmkabafmmlhaaGreatDoor.Ck
open Go.RowKit
open Lib (hid)
def GoodTo (l : List ByteArray) (k : Nat) : Prop := ∀ i, i < k → Lb.nameB (l.getD i n0) = true
theorem good_all {l : List ByteArray} : l.all Lb.nameB = true ↔ GoodTo l l.length := by
 rw [List.all_eq_true]
 constructor
 · intro h i hi
   rw [List.getD_eq_getElem?_getD, List.getElem?_eq_getElem hi]
   exact h _ (List.getElem_mem hi)
 · intro h x hx
   obtain ⟨i, hi, rfl⟩ := List.getElem_of_mem hx
   have := h i hi
   rwa [List.getD_eq_getElem?_getD, List.getElem?_eq_getElem hi] at this
theorem good_bad {l : List ByteArray} {k : Nat} (hk : k < l.length) (h : Lb.nameB (l.getD k n0) = false) : l.all Lb.nameB = false := by
 rw [Bool.eq_false_iff]
 intro hh
 have := good_all.1 hh k hk
 rw [h] at this
 cases this
theorem dhow_is (how : Int) (l : List ByteArray) : dhowF how l = howF how l := by
 unfold dhowF howF
 have hg : (l.all Lb.nameB = true) = Good l l.length := propext good_all
 by_cases h0 : how = 0
 · rw [if_pos h0]
   cases l with
   | nil => rw [h0]; rfl
   | cons x l =>
     have h1 : decide ((x :: l).length = 0) = false := rfl
     rw [h1, h0]; simp
 · rw [if_neg h0, Bool.eq_iff_iff, decide_eq_true_eq, Bool.and_eq_true, Bool.and_eq_true, Bool.or_eq_true, Bool.or_eq_true, Bool.and_eq_true, decide_eq_true_eq, decide_eq_true_eq, decide_eq_true_eq, decide_eq_true_eq, decide_eq_true_eq, hg]
   constructor
   · rintro ⟨a, b, c⟩; exact ⟨by omega, c, a⟩
   · rintro ⟨a, b, c⟩; exact ⟨c, by omega, b⟩
theorem dnamed_any (h : Hd) (n : Nat) (w : World) (hN : Nms w h.na h.ns) (hl : h.ns.length ≤ 140737488355328) (hs : ∀ x, x ∈ h.ns → x.size ≤ 65536) :
 Calls Tryz.prog 27 #[.agg (arr h n)] w fun e w' => e = .returned (.bool (howF h.how h.ns)) ∧ Below w.heap.size w w' := by
 obtain ⟨r, hr⟩ : ∃ r, dhowF h.how h.ns = r := ⟨_, rfl⟩
 rw [← dhow_is, hr]
 have hb0 : Below w.heap.size w (w.alloc (.cells (arr h n) 27)) := (Below.refl _ _).alloc (Nat.le_refl _) _
 have HB0 := hid hb0
 have HN := hid (hN.below hb0)
 have HK := hid (Blk.new w 27 (arr h n))
 have HR := hid hr
 have HSZ := hid hs
 clear hr hN hs hb0
 unfold arr at *
 go_enter Tryz.func27, Tryz.ntmps27
 go_wp2_with fail
 generalize (w.alloc (.cells _ 27)) = W1 at *
 go_loopg [3] h.ns.length (fun gq s3 wx => ∃ k : Nat, k ≤ h.ns.length ∧ h.ns.length ≤ gq + k ∧ s3 = .int .i64 (k : Int) ∧ Hid (GoodTo h.ns k) ∧ W1 = wx)
 case atStart => exact ⟨0, Nat.zero_le _, Nat.le_refl _, rfl, fun i hi => absurd hi (Nat.not_lt_zero _), rfl⟩
 case round =>
  obtain ⟨k, hkn, hg, rfl, HG, rfl⟩ := hrel
  have c10 := HK.out.cell 10
  have c9 := HK.out.cell 9
  simp at c9 c10
  by_cases hlt : k < h.ns.length
  · have hki : (k : Int) < (h.ns.length : Int) := by omega
    obtain ⟨b, off, hA, hb, hc⟩ := HN.out (by omega)
    have hix := fun W => index_nm h.na h.ns.length h.nc k b off hA hlt W
    have y1 := hc k hlt
    clear hc hA
    obtain ⟨m, hm⟩ : ∃ m, h.ns.getD k n0 = m := ⟨_, rfl⟩
    rw [hm] at y1
    have hmem : m ∈ h.ns := by
     rw [← hm, List.getD_eq_getElem?_getD, List.getElem?_eq_getElem hlt]
     exact List.getElem_mem hlt
    have hcl := fun W => Dn.refname_any m (HSZ.out m hmem) W
    obtain ⟨q, hq⟩ : ∃ q, Lb.nameB m = q := ⟨_, rfl⟩
    rw [hq] at hcl
    have HCL := hid hcl
    have HMK := hid hm
    have HQ := hid hq
    clear hm hcl hq hmem
    obtain ⟨g', rfl⟩ : ∃ g', gk = g' + 1 := ⟨gk - 1, by omega⟩
    go_wp2_with fail
    refine (HCL.out _).mono ?_
    rintro e w6 ⟨rfl, rfl⟩
    cases q with
    | false =>
      obtain rfl : false = r := by
       rw [← HR.out]; unfold dhowF
       rw [good_bad (k := k) hlt (by rw [HMK.out]; exact HQ.out), Bool.false_and]
      go_wp2_with fail
      go_ret
      exact ⟨rfl, HB0.out⟩
    | true =>
      have HG2 : Hid (GoodTo h.ns (k + 1)) := fun i hi => by
       by_cases e : i = k
       · rw [e, HMK.out]; exact HQ.out
       · exact HG.out i (by omega)
      go_wp2_with fail
      go_roundg g'
      case measure => omega
      case rel => exact ⟨k + 1, by omega, by omega, by go_num, HG2, rfl⟩
  · have hall : h.ns.all Lb.nameB = true := good_all.2 (by have := HG.out; rwa [show k = h.ns.length by omega] at this)
    have hr2 : ((decide (h.how = 0) && decide (h.ns.length = 0) || (decide (h.how = 1) || decide (h.how = 2))) && decide (h.ns.length ≤ 16)) = r := by
     have := HR.out
     unfold dhowF at this
     rwa [hall, Bool.true_and] at this
    have hki : ¬ (k : Int) < (h.ns.length : Int) := by omega
    have hr3 : ((h.how == 0 && ((h.ns.length : Int) == 0) || (h.how == 1 || h.how == 2)) && decide ((h.ns.length : Int) ≤ 16)) = r := by
     rw [← hr2]
     have e1 : ((h.ns.length : Int) == 0) = decide (h.ns.length = 0) := by rw [Bool.eq_iff_iff, beq_iff_eq, decide_eq_true_eq]; omega
     have e2 : decide ((h.ns.length : Int) ≤ 16) = decide (h.ns.length ≤ 16) := by rw [Bool.eq_iff_iff, decide_eq_true_eq, decide_eq_true_eq]; omega
     rw [e1, e2]
     rfl
    have HR3 := hid hr3
    clear hr2 hr3 hall HR HG HSZ HN
    cases e1 : (h.how == 0) <;> cases e2 : (h.how == 1) <;> cases e3 : (h.how == 2) <;> cases e4 : ((h.ns.length : Int) == 0) <;> cases e5 : decide ((h.ns.length : Int) ≤ 16)
    all_goals (
     have hr4 := HR3.out
     rw [e1, e2, e3, e4, e5] at hr4
     have hr5 := hr4.symm
     simp at hr5
     subst hr5
     clear hr4
     go_wp2_with fail
     all_goals (go_ret; exact ⟨rfl, HB0.out⟩))
end Go.Proofs.YticmkabafmmlhaaGreatDoor.Ck

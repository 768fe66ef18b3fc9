/-
 DERIVED: THE SHELF's CONTRACTS AT THIS DUMP, IN PLAIN WORDS (tools/lay-plain.mjs out of 'TryzShelf.lean', which tools/lay-shelf.mjs wrote): THE SAME DECLARATIONS UNDER THE SAME NAMES: 'import', 'namespace', 'open', 'def', 'theorem' AND NOTHING ELSE: no command of the shelf's: FOR A HAND-IN. Each laying: the table of numbers ('.._ren') and one theorem, a field a fact of the dump's own or the kernel's comparison; each contract: ONE APPLICATION.
-/
import Derived.Shelf.Small.Strs
import Derived.Shelf.Strings.Search1
import Derived.Shelf.Unicode.ValidAny
import Derived.Ground.SlsfProg
import Derived.Ground.NamesProg
import Derived.Test.YticmkabafmmlhaaGreatDoorProg
import GoSem.Op.String
import Derived.Laws.Strings
import Derived.Test.YticmkabafmmlhaaGreatDoorRows
import Derived.WalkKit
import Derived.WalkLawsBesides
import Derived.WalkSpells
import Derived.RegionTactic
import Derived.Deep.QuietTactic
import Derived.BigQuiet
import Derived.Deep.LoopGhost
import Derived.Lib.Hide
import Derived.Handy
import Derived.StillTailTactics
namespace Go.Proofs
open Go.Shelf
def Tryz.laysValid_ren : Go.Shelf.Ren := ⟨fun | 196 => 184 | 259 => 203 | n => n, fun | 9 => 9 | 4 => 4 | 3 => 3 | 5 => 5 | 12 => 12 | 119 => 232 | 0 => 0 | 46 => 163 | 139 => 235 | 138 => 234 | 53 => 22 | n => n, fun | 3 => 6 | 4 => 7 | n => n⟩
theorem Tryz.laysValid : Go.Proofs.Lays.n196 Tryz.prog Tryz.laysValid_ren := {
 mixed := by kernel_rfl
 f196 := Tryz.func184.trans (congrArg some (by kernel_rfl))
 f259 := Tryz.func203.trans (congrArg some (by kernel_rfl))
 t0 := Tryz.underlying0
 a0 := Tryz.isAgg0
 z0 := Tryz.sizeOf0
 v0 := Tryz.zeroValue0
 t3 := Tryz.underlying3
 a3 := Tryz.isAgg3
 z3 := Tryz.sizeOf3
 v3 := Tryz.zeroValue3
 t4 := Tryz.underlying4
 a4 := Tryz.isAgg4
 z4 := Tryz.sizeOf4
 v4 := Tryz.zeroValue4
 t5 := Tryz.underlying5
 a5 := Tryz.isAgg5
 z5 := Tryz.sizeOf5
 v5 := Tryz.zeroValue5
 t9 := Tryz.underlying9
 a9 := Tryz.isAgg9
 z9 := Tryz.sizeOf9
 v9 := Tryz.zeroValue9
 t12 := Tryz.underlying12
 a12 := Tryz.isAgg12
 z12 := Tryz.sizeOf12
 v12 := Tryz.zeroValue12
 t46 := Tryz.underlying163
 a46 := Tryz.isAgg163
 z46 := Tryz.sizeOf163
 v46 := Tryz.zeroValue163
 t53 := Tryz.underlying22
 a53 := Tryz.isAgg22
 z53 := Tryz.sizeOf22
 v53 := Tryz.zeroValue22
 t119 := Tryz.underlying232
 a119 := Tryz.isAgg232
 z119 := Tryz.sizeOf232
 t138 := Tryz.underlying234
 a138 := Tryz.isAgg234
 z138 := Tryz.sizeOf234
 v138 := Tryz.zeroValue234
 t139 := Tryz.underlying235
 a139 := Tryz.isAgg235
 z139 := Tryz.sizeOf235
 v139 := Tryz.zeroValue235
 g3 := by kernel_rfl
 g4 := by kernel_rfl }
end Go.Proofs

set_option linter.unusedVariables false
set_option maxHeartbeats 1000000
namespace Go.Proofs.YticmkabafmmlhaaGreatDoor.Lb
open Go
abbrev Lab := ByteArray × ByteArray
def e0 : Lab := (ByteArray.empty, ByteArray.empty)
def isDig (c : Int) : Bool := decide (48 ≤ c) && decide (c ≤ 57)
def isLet (c : Int) : Bool := (decide (97 ≤ c) && decide (c ≤ 122)) || (decide (65 ≤ c) && decide (c ≤ 90)) || c == 95
def by_ (s : ByteArray) (k : Nat) : Int := if h : k < s.size then ((s[k]'h).toNat : Int) else 0
theorem by_eq (s : ByteArray) (k : Nat) (h : k < s.size) : ((s[k]'h).toNat : Int) = by_ s k := by unfold by_; rw [dif_pos h]
def Named (s : ByteArray) (k : Nat) : Prop := ∀ i, i < k → (isLet (by_ s i) || isDig (by_ s i)) = true
instance (s : ByteArray) (k : Nat) : Decidable (Named s k) := by unfold Named; infer_instance
def nameB (s : ByteArray) : Bool := decide (0 < s.size) && (decide (s.size ≤ 200) && (!isDig (by_ s 0) && decide (Named s s.size)))
theorem named_zero (s : ByteArray) : Named s 0 := fun _ h => absurd h (Nat.not_lt_zero _)
theorem named_succ {s : ByteArray} {k : Nat} (h : Named s k) (h1 : (isLet (by_ s k) || isDig (by_ s k)) = true) : Named s (k + 1) := by
 intro i hi
 by_cases e : i = k
 · subst e; exact h1
 · exact h i (by omega)
theorem name_yes {s : ByteArray} (h1 : 0 < s.size) (h2 : s.size ≤ 200) (h3 : isDig (by_ s 0) = false) (h4 : Named s s.size) : nameB s = true := by
 simp [nameB, h1, h2, h3, h4]
theorem name_no {s : ByteArray} (h : s.size = 0 ∨ 200 < s.size ∨ isDig (by_ s 0) = true ∨ ∃ i, i < s.size ∧ (isLet (by_ s i) || isDig (by_ s i)) = false) : nameB s = false := by
 cases hn : nameB s with
 | false => rfl
 | true =>
   simp only [nameB, Bool.and_eq_true, decide_eq_true_eq, Bool.not_eq_true'] at hn
   obtain ⟨h1, h2, h3, h4⟩ := hn
   rcases h with h | h | h | ⟨i, hi, h⟩
   · omega
   · omega
   · rw [h3] at h; cases h
   · rw [h4 i hi] at h; cases h
def sl (x y : ByteArray) : Bool := Op.bytesLess x.toList y.toList
theorem toList_inj {x y : ByteArray} (h : x.toList = y.toList) : x = y := by
 rw [ByteArray.toList_eq, ByteArray.toList_eq] at h
 cases x; cases y
 simp only [ByteArray.mk.injEq]
 exact Array.toList_inj.1 h
def cmpS (x y : ByteArray) : Int := if sl x y = true then -1 else if x.toList = y.toList then 0 else 1
end Go.Proofs.YticmkabafmmlhaaGreatDoor.Lb
namespace Go.Proofs.YticmkabafmmlhaaGreatDoor.Rg
open Go.RowKit Lb
theorem digit_any (c : Int) (w : World) : Calls Tryz.prog 106 #[.int .u8 c] w fun e w' => e = .returned (.bool (isDig c)) ∧ w = w' := by
 unfold isDig
 by_cases h1 : 48 ≤ c
 · go_enter Tryz.func106, Tryz.ntmps106
   go_wp2
   go_ret
   exact ⟨by simp [h1], rfl⟩
 · go_enter Tryz.func106, Tryz.ntmps106
   go_wp2
   go_ret
   exact ⟨by simp; omega, rfl⟩
theorem islet_any (c : Int) (w : World) : Calls Tryz.prog 107 #[.int .u8 c] w fun e w' => e = .returned (.bool (isLet c)) ∧ w = w' := by
 generalize hr : isLet c = r
 have HR := Lib.hid hr
 clear hr
 by_cases h1 : 97 ≤ c ∧ c ≤ 122
 · have hf : r = true := by rw [← HR.out]; simp [isLet, h1]
   subst hf
   obtain ⟨h1, h2⟩ := h1
   go_enter Tryz.func107, Tryz.ntmps107
   go_wp2
   go_ret
   exact ⟨rfl, rfl⟩
 · by_cases h2 : 65 ≤ c ∧ c ≤ 90
   · have hf : r = true := by rw [← HR.out]; simp [isLet, h2]
     subst hf
     have d1 : decide (97 ≤ c) = false := by simp; omega
     obtain ⟨h2, h3⟩ := h2
     go_enter Tryz.func107, Tryz.ntmps107
     go_wp2
     go_ret
     exact ⟨rfl, rfl⟩
   · have hf : r = (c == 95) := by
      rw [← HR.out]; unfold isLet
      have e1 : (decide (97 ≤ c) && decide (c ≤ 122)) = false := by
       by_cases k : 97 ≤ c
       · rw [decide_eq_false (p := c ≤ 122) (by omega), Bool.and_false]
       · rw [decide_eq_false k, Bool.false_and]
      have e2 : (decide (65 ≤ c) && decide (c ≤ 90)) = false := by
       by_cases k : 65 ≤ c
       · rw [decide_eq_false (p := c ≤ 90) (by omega), Bool.and_false]
       · rw [decide_eq_false k, Bool.false_and]
      rw [e1, e2]; simp
     subst hf
     clear HR
     by_cases k1 : 97 ≤ c
     · have k2 : ¬ c ≤ 122 := by omega
       have k3 : ¬ c ≤ 90 := by omega
       have k4 : 65 ≤ c := by omega
       go_enter Tryz.func107, Tryz.ntmps107
       go_wp2
       go_ret
       exact ⟨rfl, rfl⟩
     · by_cases k2 : 65 ≤ c
       · have k3 : ¬ c ≤ 90 := by omega
         go_enter Tryz.func107, Tryz.ntmps107
         go_wp2
         go_ret
         exact ⟨rfl, rfl⟩
       · go_enter Tryz.func107, Tryz.ntmps107
         go_wp2
         go_ret
         exact ⟨rfl, rfl⟩
theorem digit_is (c : Int) (r : Bool) (h : isDig c = r) (w : World) : Calls Tryz.prog 106 #[.int .u8 c] w fun e w' => e = .returned (.bool r) ∧ w = w' := by
 subst h; exact digit_any c w
theorem letter_is (c : Int) (r : Bool) (h : isLet c = r) (w : World) : Calls Tryz.prog 107 #[.int .u8 c] w fun e w' => e = .returned (.bool r) ∧ w = w' := by
 subst h; exact islet_any c w
theorem name_any (s : ByteArray) (w : World) : Calls Tryz.prog 90 #[.string s] w fun e w' => e = .returned (.bool (nameB s)) ∧ w = w' := by
 generalize hr : nameB s = r
 have HR := Lib.hid hr
 clear hr
 by_cases h0 : s.size = 0
 · have hf : r = false := by rw [← HR.out]; exact name_no (.inl h0)
   subst hf
   have he : s.toList.isEmpty = true := by
    rw [ByteArray.toList_eq]
    have : s.data.size = 0 := h0
    simp [Array.eq_empty_of_size_eq_zero this]
   clear h0 HR
   go_enter Tryz.func90, Tryz.ntmps90
   go_wp2
   go_ret
   exact ⟨rfl, rfl⟩
 · have he : s.toList.isEmpty = false := by
    rw [ByteArray.toList_eq]
    cases hs : s.data.toList with
    | nil =>
      exfalso; apply h0
      have : s.data.toList.length = 0 := by rw [hs]; rfl
      simpa using this
    | cons => rfl
   have hp : 0 < s.size := by omega
   by_cases h1 : 200 < s.size
   · have hf : r = false := by rw [← HR.out]; exact name_no (.inr (.inl h1))
     subst hf
     have h1' : (200 : Int) < (s.size : Int) := by omega
     clear HR h0
     go_enter Tryz.func90, Tryz.ntmps90
     go_wp2
     go_ret
     exact ⟨rfl, rfl⟩
   · have d1 : decide (200 < s.size) = false := by simp; omega
     have hb := by_eq s 0 hp
     cases h2 : isDig (by_ s 0) with
     | true =>
       have hf : r = false := by rw [← HR.out]; exact name_no (.inr (.inr (.inl h2)))
       subst hf
       rw [← hb] at h2
       have H2 := Lib.hid h2
       clear HR h0 h2 hb
       go_enter Tryz.func90, Tryz.ntmps90
       go_wp2_with (go_at_call 106; refine (digit_is _ true H2.out _).mono ?_; rintro e w' ⟨rfl, rfl⟩)
       go_ret
       exact ⟨rfl, rfl⟩
     | false =>
       have h2' := h2
       rw [← hb] at h2
       have H2 := Lib.hid h2
       have H2' := Lib.hid h2'
       clear h0 h2 h2' hb
       go_enter Tryz.func90, Tryz.ntmps90
       go_wp2_with (go_at_call 106; refine (digit_is _ false H2.out _).mono ?_; rintro e w' ⟨rfl, rfl⟩)
       go_loop [18] (fun i => ∃ k : Nat, k ≤ s.size ∧ i = .int .i64 k ∧ Hid (Named s k)) (fun i => s.size - (intOf i).toNat)
       case atStart => exact ⟨0, Nat.zero_le _, rfl, named_zero s⟩
       case round =>
        obtain ⟨k, hk, rfl, hn⟩ := hrel
        by_cases hlt : k < s.size
        · have hbk := by_eq s k hlt
          cases h3 : isLet (by_ s k) with
          | true =>
            have HN : Hid (Named s (k + 1)) := named_succ hn.out (by rw [h3]; rfl)
            rw [← hbk] at h3
            have H3 := Lib.hid h3
            clear h3 hbk
            go_wp2_with (go_at_call 107; refine (letter_is _ true H3.out _).mono ?_; rintro e w' ⟨rfl, rfl⟩)
            go_round
            case rel => exact ⟨k + 1, by omega, by go_num, HN⟩
            case measure => simp [intOf]; omega
          | false =>
            cases h4 : isDig (by_ s k) with
            | true =>
              have HN : Hid (Named s (k + 1)) := named_succ hn.out (by rw [h3, h4]; rfl)
              rw [← hbk] at h3 h4
              have H3 := Lib.hid h3
              have H4 := Lib.hid h4
              clear h3 h4 hbk
              go_wp2_with (first | (go_at_call 107; refine (letter_is _ false H3.out _).mono ?_; rintro e w' ⟨rfl, rfl⟩) | (go_at_call 106; refine (digit_is _ true H4.out _).mono ?_; rintro e w' ⟨rfl, rfl⟩))
              go_round
              case rel => exact ⟨k + 1, by omega, by go_num, HN⟩
              case measure => simp [intOf]; omega
            | false =>
              have hf : r = false := by rw [← HR.out]; exact name_no (.inr (.inr (.inr ⟨k, hlt, by rw [h3, h4]; rfl⟩)))
              subst hf
              rw [← hbk] at h3 h4
              have H3 := Lib.hid h3
              have H4 := Lib.hid h4
              clear h3 h4 hbk
              go_wp2_with (first | (go_at_call 107; refine (letter_is _ false H3.out _).mono ?_; rintro e w' ⟨rfl, rfl⟩) | (go_at_call 106; refine (digit_is _ false H4.out _).mono ?_; rintro e w' ⟨rfl, rfl⟩))
              go_ret
              exact ⟨rfl, rfl⟩
        · have hf : r = true := by
           rw [← HR.out]
           exact name_yes hp (by omega) H2'.out (by rw [show s.size = k by omega]; exact hn.out)
          subst hf
          go_wp2
          go_ret
          exact ⟨rfl, rfl⟩
def Tabs (w : World) : Prop := Lib.Utf8Tabs 6 7 w
theorem Tabs.below {w w' : World} {B : Nat} (h : Tabs w) (hB : 8 ≤ B) (hb : Below B w w') : Tabs w' :=
 ⟨fun c hc => (hb.cell (p := ⟨6, c, none⟩) (by show 6 < B; omega)).trans (h.1 c hc), fun i hi => ⟨(hb.cell (p := ⟨7, 2 * i, none⟩) (by show 7 < B; omega)).trans (h.2 i hi).1, (hb.cell (p := ⟨7, 2 * i + 1, none⟩) (by show 7 < B; omega)).trans (h.2 i hi).2⟩⟩
theorem Tabs.size {w : World} (h : Tabs w) : 8 ≤ w.heap.size := World.block_lt_of_cell? _ _ (h.2 0 (by omega)).1
theorem valid_any (s : ByteArray) (w : World) (hs : s.size ≤ 9223372036854775807) (hT : Tabs w) : Calls Tryz.prog 184 #[.string s] w fun e w' => e = .returned (.bool (Lib.validD s.data.toList)) ∧ Below w.heap.size w w' :=
 Any.utf8_ValidString Tryz.laysValid s w hs hT
def valB (s : ByteArray) : Bool := decide (s.size ≤ 200) && Lib.validD s.data.toList
theorem value_any (s : ByteArray) (w : World) (hT : Tabs w) : Calls Tryz.prog 148 #[.string s] w fun e w' => e = .returned (.bool (valB s)) ∧ Below w.heap.size w w' := by
 unfold valB
 by_cases h : s.size ≤ 200
 · have H := Lib.hid (valid_any s w (by omega) hT)
   clear hT
   generalize Lib.validD s.data.toList = r at *
   rw [decide_eq_true h, Bool.true_and]
   have hi : (s.size : Int) ≤ 200 := by omega
   go_enter Tryz.func148, Tryz.ntmps148
   go_wp2_with fail
   refine (H.out).mono ?_
   rintro e w1 ⟨rfl, hb⟩
   go_wp2
   go_ret
   exact ⟨rfl, hb⟩
 · rw [decide_eq_false h, Bool.false_and]
   clear hT
   have hi : ¬ (s.size : Int) ≤ 200 := by omega
   go_enter Tryz.func148, Tryz.ntmps148
   go_wp2_with fail
   go_ret
   exact ⟨rfl, Below.refl _ _⟩
end Go.Proofs.YticmkabafmmlhaaGreatDoor.Rg

set_option linter.unusedVariables false
set_option maxRecDepth 100000
set_option maxHeartbeats 4000000
namespace Go.Proofs.YticmkabafmmlhaaGreatDoor.Rg
open Go.RowKit Lb
open Lib (hid)
def Lbs (w : World) (A : Option Addr) (l : List Lab) : Prop :=
 0 < l.length → ∃ b off, A = some ⟨b, off, none⟩ ∧ b < w.heap.size ∧ ∀ i, i < l.length → w.cell? ⟨b, off + i * 2, none⟩ = some (.string (l.getD i e0).1) ∧ w.cell? ⟨b, off + i * 2 + 1, none⟩ = some (.string (l.getD i e0).2)
theorem bel_drawn {B : Nat} {w wr : World} (h : Below B w wr) (n : Nat) : Below B w (wr.drewN n) := ⟨h.os, h.tape, h.output, h.size, h.block⟩
def okB (x : Lab) : Bool := nameB x.1 && valB x.2
def fullL (x : Lab) : Bool := !x.2.toList.isEmpty
theorem name_is (s : ByteArray) (r : Bool) (h : nameB s = r) (w : World) : Calls Tryz.prog 90 #[.string s] w fun e w' => e = .returned (.bool r) ∧ w = w' := by
 subst h; exact name_any s w
theorem value_is (s : ByteArray) (r : Bool) (h : valB s = r) (w : World) (hT : Tabs w) : Calls Tryz.prog 148 #[.string s] w fun e w' => e = .returned (.bool r) ∧ Below w.heap.size w w' := by
 subst h; exact value_any s w hT
def rightAt (l : List Lab) (i : Nat) : Prop := okB (l.getD i e0) = true ∧ fullL (l.getD i e0) = true ∧ (0 < i → sl (l.getD (i - 1) e0).1 (l.getD i e0).1 = true)
def RightTo (l : List Lab) (k : Nat) : Prop := ∀ i, i < k → rightAt l i
instance (l : List Lab) (i : Nat) : Decidable (rightAt l i) := by unfold rightAt; infer_instance
instance (l : List Lab) (k : Nat) : Decidable (RightTo l k) := by unfold RightTo; infer_instance
def rightB (l : List Lab) : Bool := decide (l.length ≤ 16 ∧ RightTo l l.length)
theorem right_zero (l : List Lab) : RightTo l 0 := fun _ h => absurd h (Nat.not_lt_zero _)
theorem right_succ {l : List Lab} {k : Nat} (h : RightTo l k) (h1 : rightAt l k) : RightTo l (k + 1) := by
 intro i hi
 by_cases e : i = k
 · subst e; exact h1
 · exact h i (by omega)
theorem right_many {l : List Lab} (h : 16 < l.length) : rightB l = false := by
 unfold rightB; simp; omega
theorem right_bad {l : List Lab} {k : Nat} (hk : k < l.length) (h : ¬ rightAt l k) : rightB l = false := by
 unfold rightB
 rw [decide_eq_false_iff_not]
 rintro ⟨_, h2⟩
 exact h (h2 k hk)
theorem right_all {l : List Lab} (h : RightTo l l.length) : rightB l = decide (l.length ≤ 16) := by
 unfold rightB; simp [h]
theorem right_any (A : Option Addr) (cap : Nat) (l : List Lab) (w : World) (hL : Lbs w A l) (hT : Tabs w) (hl : l.length ≤ 65536) :
 Calls Tryz.prog 122 #[.slice A l.length cap] w fun e w' => e = .returned (.bool (rightB l)) ∧ Below w.heap.size w w' := by
 generalize hr : rightB l = r
 have HR := hid hr
 have HL := hid hL
 have HT := hid hT
 have h3 : 8 ≤ w.heap.size := hT.size
 clear hr hL hT
 generalize hn : l.length = n at *
 have HN := hid hn
 clear hn
 by_cases h16 : 16 < n
 · have hf : r = false := by rw [← HR.out]; exact right_many (by rw [HN.out]; exact h16)
   subst hf
   have h16' : (16 : Int) < (n : Int) := by omega
   go_enter Tryz.func122, Tryz.ntmps122
   go_wp2
   go_ret
   exact ⟨rfl, Below.refl _ _⟩
 have d16 : decide (16 < n) = false := by simpa using h16
 go_enter Tryz.func122, Tryz.ntmps122
 go_wp2
 go_loopw [10] (fun i wr => ∃ k : Nat, k ≤ n ∧ i = .int .i64 k ∧ Hid (RightTo l k) ∧ Hid (Below w.heap.size w wr)) (fun i _ => n - (intOf i).toNat)
 case atStart => exact ⟨0, Nat.zero_le _, rfl, right_zero l, Below.refl _ _⟩
 case round =>
  obtain ⟨k, hk, rfl, HC, HB⟩ := hrel
  by_cases hlt : k < n
  · have hkl : k < l.length := by rw [HN.out]; exact hlt
    obtain ⟨b0, off, rfl, hb0, hc⟩ := HL.out (by omega)
    have hx : wr.cell? ⟨b0, off + k * 2, none⟩ = some (.string (l.getD k e0).1) := (HB.out.cell (p := ⟨b0, off + k * 2, none⟩) hb0).trans (hc k hkl).1
    have hy : wr.cell? ⟨b0, off + k * 2 + 1, none⟩ = some (.string (l.getD k e0).2) := (HB.out.cell (p := ⟨b0, off + k * 2 + 1, none⟩) hb0).trans (hc k hkl).2
    have hsz := HB.out.size
    have HTW : Hid (Tabs wr) := HT.out.below h3 HB.out
    have HBAD := hid (@right_bad l k hkl)
    have HGO := hid (@right_succ l k HC.out)
    have hat : rightAt l k = (((nameB (l.getD k e0).1 && valB (l.getD k e0).2) = true) ∧ ((!(l.getD k e0).2.toList.isEmpty) = true) ∧ (0 < k → Op.bytesLess (l.getD (k - 1) e0).1.toList (l.getD k e0).1.toList = true)) := rfl
    rw [hat] at HBAD HGO
    have hz : 0 < k → w.cell? ⟨b0, off + (k - 1) * 2, none⟩ = some (.string (l.getD (k - 1) e0).1) := fun _ => (hc (k - 1) (by omega)).1
    clear hc hat
    generalize (l.getD k e0).1 = x at *
    generalize (l.getD k e0).2 = y at *
    generalize (l.getD (k - 1) e0).1 = z at *
    cases h1 : nameB x with
    | false =>
      have hf : r = false := by rw [← HR.out]; exact HBAD.out (by rw [h1]; rintro ⟨h, _⟩; simp at h)
      subst hf
      have H1 := hid h1
      clear h1
      go_wp2_with fail
      refine (name_is _ false H1.out _).mono ?_
      rintro e w' ⟨rfl, rfl⟩
      go_wp2
      go_ret
      exact ⟨rfl, HB.out.alloc hsz _⟩
    | true =>
      have H1 := hid h1
      cases h2 : y.toList.isEmpty with
      | true =>
        have hf : r = false := by rw [← HR.out]; exact HBAD.out (by rw [h2]; rintro ⟨_, h, _⟩; simp at h)
        subst hf
        clear h1
        go_wp2_with fail
        refine (name_is _ true H1.out _).mono ?_
        rintro e w' ⟨rfl, rfl⟩
        go_wp2
        go_ret
        exact ⟨rfl, HB.out.alloc hsz _⟩
      | false =>
        cases h4 : valB y with
        | false =>
          have hf : r = false := by rw [← HR.out]; exact HBAD.out (by rw [h4]; rintro ⟨h, _⟩; simp at h)
          subst hf
          have H4 := hid h4
          clear h1 h4
          go_wp2_with fail
          refine (name_is _ true H1.out _).mono ?_
          rintro e w' ⟨rfl, rfl⟩
          go_wp2_with fail
          refine (value_is _ false H4.out _ (HTW.out.below (B := wr.heap.size) (by omega) ((Below.refl _ _).alloc (Nat.le_refl _) _))).mono ?_
          rintro e w2 ⟨rfl, hb2⟩
          go_wp2
          go_ret
          exact ⟨rfl, (HB.out.alloc hsz _).trans (hb2.mono (by simp; omega))⟩
        | true =>
          have H4 := hid h4
          by_cases hk0 : k = 0
          · have HS : Hid (RightTo l (k + 1)) := HGO.out ⟨by rw [h1, h4]; rfl, by rw [h2]; rfl, fun h => absurd h (by omega)⟩
            have dk : decide (0 < k) = false := by simp; omega
            clear h1 h4 hk0 hz
            go_wp2_with fail
            refine (name_is _ true H1.out _).mono ?_
            rintro e w' ⟨rfl, rfl⟩
            go_wp2_with fail
            refine (value_is _ true H4.out _ (HTW.out.below (B := wr.heap.size) (by omega) ((Below.refl _ _).alloc (Nat.le_refl _) _))).mono ?_
            rintro e w2 ⟨rfl, hb2⟩
            have HB2 := hid ((HB.out.alloc hsz (.cells #[.string x, .string y] 167)).trans (hb2.mono (by simp; omega)))
            clear hb2
            go_wp2_with fail
            go_quiet (fail)
            go_wp2
            go_roundw
            case rel => exact ⟨k + 1, by omega, by go_num, HS, bel_drawn HB2.out _⟩
            case measure => simp [intOf]; omega
          · have dk : decide (0 < k) = true := by simp; omega
            have dk' : (0 : Int) < (k : Int) := by omega
            have hz' := hz (by omega)
            cases h5 : Op.bytesLess z.toList x.toList with
            | true =>
              have HS : Hid (RightTo l (k + 1)) := HGO.out ⟨by rw [h1, h4]; rfl, by rw [h2]; rfl, fun h => h5⟩
              clear h1 h4 hz
              go_wp2_with fail
              refine (name_is _ true H1.out _).mono ?_
              rintro e w' ⟨rfl, rfl⟩
              go_wp2_with fail
              refine (value_is _ true H4.out _ (HTW.out.below (B := wr.heap.size) (by omega) ((Below.refl _ _).alloc (Nat.le_refl _) _))).mono ?_
              rintro e w2 ⟨rfl, hb2⟩
              have q1 : w2.cell? ⟨wr.heap.size, 0, none⟩ = some (.string x) := by
               rw [hb2.cell (p := ⟨wr.heap.size, 0, none⟩) (by simp), World.cell?_alloc_at _ _ _ _ rfl]; rfl
              have HB2 := hid ((HB.out.alloc hsz (.cells #[.string x, .string y] 167)).trans (hb2.mono (by simp; omega)))
              have q2 : w2.cell? ⟨b0, off + (k - 1) * 2, none⟩ = some (.string z) := (HB2.out.cell (p := ⟨b0, off + (k - 1) * 2, none⟩) hb0).trans hz'
              clear hb2
              go_wp2_with fail
              go_quiet (fail)
              go_wp2
              go_roundw
              case rel => exact ⟨k + 1, by omega, by go_num, HS, bel_drawn HB2.out _⟩
              case measure => simp [intOf]; omega
            | false =>
              have hf : r = false := by rw [← HR.out]; exact HBAD.out (by rintro ⟨_, _, h⟩; rw [h5] at h; exact absurd (h (by omega)) (by decide))
              subst hf
              clear h1 h4 hz
              go_wp2_with fail
              refine (name_is _ true H1.out _).mono ?_
              rintro e w' ⟨rfl, rfl⟩
              go_wp2_with fail
              refine (value_is _ true H4.out _ (HTW.out.below (B := wr.heap.size) (by omega) ((Below.refl _ _).alloc (Nat.le_refl _) _))).mono ?_
              rintro e w2 ⟨rfl, hb2⟩
              have q1 : w2.cell? ⟨wr.heap.size, 0, none⟩ = some (.string x) := by
               rw [hb2.cell (p := ⟨wr.heap.size, 0, none⟩) (by simp), World.cell?_alloc_at _ _ _ _ rfl]; rfl
              have HB2 := hid ((HB.out.alloc hsz (.cells #[.string x, .string y] 167)).trans (hb2.mono (by simp; omega)))
              have q2 : w2.cell? ⟨b0, off + (k - 1) * 2, none⟩ = some (.string z) := (HB2.out.cell (p := ⟨b0, off + (k - 1) * 2, none⟩) hb0).trans hz'
              clear hb2
              go_wp2_with fail
              go_quiet (fail)
              go_wp2
              go_ret
              exact ⟨rfl, bel_drawn HB2.out _⟩
  · have hf : r = true := by
     rw [← HR.out, right_all (by rw [HN.out, show n = k by omega]; exact HC.out), HN.out]
     simp; omega
    subst hf
    have d : decide (k < n) = false := by simpa using hlt
    go_wp2
    go_ret
    exact ⟨rfl, HB.out⟩
def namedB (nm v : ByteArray) : Bool := nameB nm && valB v
theorem toList_nil : (⟨#[]⟩ : ByteArray).toList = [] := by decide +kernel
theorem val_empty {v : ByteArray} (h : v.toList.isEmpty = true) : valB v = true := by
 have e : v = ⟨#[]⟩ := toList_inj (by rw [toList_nil]; exact List.isEmpty_iff.1 h)
 subst e
 decide +kernel
theorem right_one {nm v : ByteArray} (h : v.toList.isEmpty = false) : rightB [(nm, v)] = namedB nm v := by
 unfold rightB namedB
 rw [Bool.eq_iff_iff]
 simp [RightTo, rightAt, okB, fullL]
 intro _ _ hh
 rw [hh] at h
 cases h
theorem lbs_one (w : World) (nm v : ByteArray) (t : TypeId) : Lbs (w.alloc (.cells #[.string nm, .string v] t)) (some ⟨w.heap.size, 0, none⟩) [(nm, v)] := by
 intro _
 refine ⟨w.heap.size, 0, rfl, by simp, fun i hi => ?_⟩
 obtain rfl : i = 0 := by simpa using hi
 constructor
 · rw [World.cell?_alloc_at _ _ _ _ (by simp)]; rfl
 · rw [World.cell?_alloc_at _ _ _ _ (by simp)]; rfl
theorem named_any (op : Int) (nm v : ByteArray) (w : World) (hT : Tabs w) : Calls Tryz.prog 103 #[.agg #[.int .i64 op, .string nm, .string v]] w fun e w' => e = .returned (.bool (namedB nm v)) ∧ Below w.heap.size w w' := by
 have h4 := hT.size
 cases he : v.toList.isEmpty with
 | true =>
   have hr : namedB nm v = nameB nm := by unfold namedB; rw [val_empty he, Bool.and_true]
   rw [hr]
   have H := hid (fun w => name_any nm w)
   clear hr hT
   generalize nameB nm = r at *
   go_enter Tryz.func103, Tryz.ntmps103
   go_wp2_with fail
   refine (H.out _).mono ?_
   rintro e w1 ⟨rfl, rfl⟩
   go_wp2
   go_ret
   exact ⟨rfl, (Below.refl _ _).alloc (Nat.le_refl _) _⟩
 | false =>
   have H := hid (right_any (some ⟨w.heap.size + 1, 0, none⟩) 1 [(nm, v)] ((w.alloc (.cells #[.int .i64 op, .string nm, .string v] 39)).alloc (.cells #[.string nm, .string v] 167)) (by have := lbs_one (w.alloc (.cells #[.int .i64 op, .string nm, .string v] 39)) nm v 167; rw [World.size_alloc] at this; exact this) (hT.below h4 (((Below.refl _ _).alloc (Nat.le_refl _) _).alloc (by simp) _)) (by simp))
   rw [right_one he] at H
   clear hT
   generalize namedB nm v = r at *
   go_enter Tryz.func103, Tryz.ntmps103
   go_wp2_with fail
   refine (H.out).mono ?_
   rintro e w1 ⟨rfl, hb⟩
   have HB : Hid (Below w.heap.size w w1) := (((Below.refl _ _).alloc (Nat.le_refl _) _).alloc (by simp) _).trans (hb.mono (by simp; omega))
   clear hb H
   go_wp2
   go_ret
   exact ⟨rfl, HB.out⟩
end Go.Proofs.YticmkabafmmlhaaGreatDoor.Rg

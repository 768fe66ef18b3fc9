/- A tree as data: its head, its kids; how it is nested, of what type it is; the plain facts of the law. No condition. -/
import Derived.Test.YtmodehfedhgcbaaGreatDoorN2
namespace Go.Proofs.YtmodehfedhgcbaaGreatDoor.Ck
open Go.RowKit
set_option linter.unusedVariables false
set_option linter.unusedSimpArgs false

abbrev Mt := Int × ByteArray × ByteArray
structure Hd where
  k : Int
  o : Int
  v : Nat
  s : ByteArray
  ma : Option Addr
  mc : Nat
  ms : List Mt
  wd : Int
  off : Int
  ha : Bool
  tm : Int
  how : Int
  na : Option Addr
  nc : Nat
  ns : List ByteArray
  bo : Bool
  ka : Option Addr
  kc : Nat
inductive Tr where
  | mk (h : Hd) (ks : List Tr)
def Tr.h : Tr → Hd
  | .mk h _ => h
def Tr.ks : Tr → List Tr
  | .mk _ ks => ks

/-- how much deeper a kid is -/
def wrapF (h : Hd) (i : Nat) (t : Tr) : Bool := if i = 0 then decide (strengthF t.h.k t.h.o < strengthF h.k h.o) else decide (strengthF t.h.k t.h.o ≤ strengthF h.k h.o)
def deepF (h : Hd) (n i : Nat) (t : Tr) : Nat := if h.k = 7 ∧ n = 1 ∧ t.h.k = 6 then 2 else if h.k = 6 ∧ n = 2 ∧ wrapF h i t = false then 0 else 1
theorem deepF_le (h : Hd) (n i : Nat) (t : Tr) : deepF h n i t ≤ 2 := by
  unfold deepF; split
  · omega
  · split <;> omega
theorem deepF_pair (h : Hd) (n i : Nat) (t : Tr) (hk : h.k = 6) : deepF h n i t ≤ 1 := by
  unfold deepF; split
  · omega
  · split <;> omega

mutual
def nestF : Tr → Nat
  | .mk h ks => if hasKidsF h.k = true then (if ks.length = 0 then 1 else nestL h ks.length 0 ks) else 0
def nestL (h : Hd) (n : Nat) : Nat → List Tr → Nat
  | _, [] => 0
  | i, t :: ts => max (deepF h n i t + nestF t) (nestL h n (i + 1) ts)
end
mutual
def szF : Tr → Nat
  | .mk h ks => 1 + h.ms.length + h.ns.length + szL ks
def szL : List Tr → Nat
  | [] => 0
  | t :: ts => szF t + szL ts
end
mutual
def allF (ok : Hd → Nat → Bool) : Tr → Bool
  | .mk h ks => ok h ks.length && allL ok ks
def allL (ok : Hd → Nat → Bool) : List Tr → Bool
  | [] => true
  | t :: ts => allF ok t && allL ok ts
end
/-- what a call takes and gives -/
def fitsF (s : List UInt8) : Option (List Int × Int) :=
  if s = [114, 97, 116, 101] ∨ s = [105, 110, 99, 114, 101, 97, 115, 101] ∨ s = [100, 101, 108, 116, 97] then some ([3], 2)
  else if s = [116, 105, 109, 101] then some ([], 1)
  else if s = [118, 101, 99, 116, 111, 114] then some ([1], 2)
  else if s = [97, 98, 115] ∨ s = [115, 117, 109] ∨ s = [97, 118, 103] ∨ s = [109, 105, 110] ∨ s = [109, 97, 120] ∨ s = [99, 111, 117, 110, 116] then some ([2], 2)
  else if s = [116, 111, 112, 107] ∨ s = [98, 111, 116, 116, 111, 109, 107] then some ([1, 2], 2)
  else none
def callF (s : List UInt8) (l : List Int) : Int :=
  match fitsF s with
  | none => 0
  | some (a, g) => if l = a then g else 0
mutual
def ofF : Tr → Int
  | .mk h ks => if h.k = 1 then 1 else if h.k = 2 then 4 else if h.k = 3 then (if h.wd = 0 then 2 else 3)
      else if h.k = 7 then numberF ((ofL ks).getD 0 0)
      else if h.k = 6 then heldF h.o h.bo h.how (numberF ((ofL ks).getD 0 0)) (numberF ((ofL ks).getD 1 0))
      else callF h.s.toList (ofL ks)
def ofL : List Tr → List Int
  | [] => []
  | t :: ts => ofF t :: ofL ts
end
theorem ofL_length : ∀ ks : List Tr, (ofL ks).length = ks.length
  | [] => rfl
  | _ :: ts => by rw [ofL, List.length_cons, List.length_cons, ofL_length ts]
theorem ofL_mem : ∀ {ks : List Tr} {t : Tr}, t ∈ ks → ofF t ∈ ofL ks
  | [], _, h => by cases h
  | x :: ts, t, h => by
    rw [ofL]
    rcases List.mem_cons.1 h with rfl | h
    · exact List.mem_cons_self
    · exact List.mem_cons_of_mem _ (ofL_mem h)
theorem allL_mem {ok : Hd → Nat → Bool} : ∀ {ks : List Tr} {t : Tr}, allL ok ks = true → t ∈ ks → allF ok t = true
  | [], _, _, h => by cases h
  | x :: ts, t, ha, h => by
    rw [allL, Bool.and_eq_true] at ha
    rcases List.mem_cons.1 h with rfl | h
    · exact ha.1
    · exact allL_mem ha.2 h
theorem nestL_mem {h : Hd} {n : Nat} : ∀ {ks : List Tr} {i : Nat} {t : Tr}, t ∈ ks → nestF t ≤ nestL h n i ks
  | [], _, _, h => by cases h
  | x :: ts, i, t, hm => by
    rw [nestL]
    rcases List.mem_cons.1 hm with rfl | hm
    · omega
    · have := nestL_mem (h := h) (n := n) (i := i + 1) hm
      omega
theorem fits_pos {s : List UInt8} {a : List Int} {g : Int} (h : fitsF s = some (a, g)) : 1 ≤ g ∧ g ≤ 2 ∧ (0 : Int) ∉ a := by
  unfold fitsF at h
  repeat' split at h
  all_goals (try cases h)
  all_goals exact ⟨by decide, by decide, by decide⟩
theorem numberF_ne {t : Int} (h : numberF t ≠ 0) : t ≠ 0 := by
  rintro rfl; exact h rfl
theorem heldF_ne {o : Int} {bo : Bool} {how a b : Int} (h : heldF o bo how a b ≠ 0) : a ≠ 0 ∧ b ≠ 0 := by
  unfold heldF at h
  split at h
  · exact absurd rfl h
  · omega
theorem heldF_in (o : Int) (bo : Bool) (how a b : Int) : 0 ≤ heldF o bo how a b ∧ heldF o bo how a b ≤ 2 := by
  unfold heldF
  repeat' split
  all_goals omega
theorem of_in : ∀ t : Tr, 0 ≤ ofF t ∧ ofF t ≤ 4
  | .mk h ks => by
    have hk : ∀ x, x ∈ ks → 0 ≤ ofF x ∧ ofF x ≤ 4 := fun x hx => of_in x
    rw [ofF]
    have hz : 0 ≤ (ofL ks).getD 0 0 ∧ (ofL ks).getD 0 0 ≤ 4 := by
      cases ks with
      | nil => rw [ofL]; decide
      | cons x ts => rw [ofL]; exact hk x List.mem_cons_self
    repeat' split
    all_goals (try omega)
    · unfold numberF; split <;> omega
    · have := heldF_in h.o h.bo h.how (numberF ((ofL ks).getD 0 0)) (numberF ((ofL ks).getD 1 0)); omega
    · unfold callF
      cases hf : fitsF h.s.toList with
      | none => dsimp only; omega
      | some p =>
        obtain ⟨a, g⟩ := p
        have := fits_pos hf
        dsimp only
        split <;> omega
/-- a part's own being right says of its kids -/
structure OkR (ok : Hd → Nat → Bool) : Prop where
  bare : ∀ h n, ok h n = true → h.k = 1 ∨ h.k = 2 ∨ h.k = 3 → n = 0
  kind : ∀ h n, ok h n = true → 1 ≤ h.k ∧ h.k ≤ 7
  pair : ∀ h n, ok h n = true → h.k = 6 → n = 2
  less : ∀ h n, ok h n = true → h.k = 7 → n = 1
def rightF (ok : Hd → Nat → Bool) (t : Tr) : Bool := decide (nestF t ≤ 64) && allF ok t
theorem kid_right {ok : Hd → Nat → Bool} (hok : OkR ok) {h : Hd} {ks : List Tr} {t : Tr} (hr : rightF ok (.mk h ks) = true) (ht : t ∈ ks) : rightF ok t = true := by
  unfold rightF at hr ⊢
  rw [Bool.and_eq_true, decide_eq_true_eq, allF, Bool.and_eq_true] at hr
  obtain ⟨h1, h2, h3⟩ := hr
  rw [Bool.and_eq_true, decide_eq_true_eq]
  refine ⟨?_, allL_mem h3 ht⟩
  have hk := hok.kind _ _ h2
  have hl : ks.length ≠ 0 := by intro h0; rw [List.length_eq_zero_iff.1 h0] at ht; cases ht
  have hh : hasKidsF h.k = true := by
    unfold hasKidsF
    rw [decide_eq_true_eq]
    have := hok.bare _ _ h2
    omega
  rw [nestF, if_pos hh, if_neg hl] at h1
  exact Nat.le_trans (nestL_mem ht) h1
theorem kid_fits {ok : Hd → Nat → Bool} (hok : OkR ok) {h : Hd} {ks : List Tr} {t : Tr} (hr : rightF ok (.mk h ks) = true) (hf : ofF (.mk h ks) ≠ 0) (ht : t ∈ ks) : ofF t ≠ 0 := by
  unfold rightF at hr
  rw [Bool.and_eq_true, allF, Bool.and_eq_true] at hr
  obtain ⟨_, h2, _⟩ := hr
  have hb := hok.bare _ _ h2
  have hl : ks.length ≠ 0 := by intro h0; rw [List.length_eq_zero_iff.1 h0] at ht; cases ht
  rw [ofF, if_neg (by omega), if_neg (by omega), if_neg (by omega)] at hf
  by_cases h7 : h.k = 7
  · rw [if_pos h7] at hf
    have hn := hok.less _ _ h2 h7
    obtain ⟨x, rfl⟩ := List.length_eq_one_iff.1 hn
    obtain rfl := List.mem_singleton.1 ht
    rw [ofL] at hf
    exact numberF_ne hf
  · rw [if_neg h7] at hf
    by_cases h6 : h.k = 6
    · rw [if_pos h6] at hf
      have hn := hok.pair _ _ h2 h6
      obtain ⟨x, y, rfl⟩ : ∃ x y, ks = [x, y] := by
        match ks, hn with
        | [x, y], _ => exact ⟨x, y, rfl⟩
      obtain ⟨ha, hb⟩ := heldF_ne hf
      rw [ofL, ofL] at ha hb
      rcases List.mem_cons.1 ht with rfl | ht
      · exact numberF_ne ha
      · obtain rfl := List.mem_singleton.1 ht
        exact numberF_ne hb
    · rw [if_neg h6] at hf
      unfold callF at hf
      cases hx : fitsF h.s.toList with
      | none => rw [hx] at hf; exact absurd rfl hf
      | some p =>
        obtain ⟨a, g⟩ := p
        rw [hx] at hf
        dsimp only at hf
        have hp := fits_pos hx
        split at hf
        · rename_i he
          intro h0
          have := ofL_mem ht
          rw [he, h0] at this
          exact hp.2.2 this
        · exact absurd rfl hf
/-- the pair of a tree with itself, with a sign of sums -/
def plusH (A : Option Addr) (c : Nat) : Hd := ⟨6, 7, 0, ⟨#[]⟩, none, 0, [], 0, 0, false, 0, 0, none, 0, [], false, A, c⟩
theorem plus_nest (A : Option Addr) (c : Nat) (t : Tr) : nestF (.mk (plusH A c) [t, t]) ≤ 1 + nestF t := by
  have a := deepF_pair (plusH A c) 2 0 t rfl
  have b := deepF_pair (plusH A c) 2 1 t rfl
  rw [nestF, if_pos (show hasKidsF (plusH A c).k = true from rfl), if_neg (by simp)]
  simp only [nestL, List.length_cons, List.length_nil]
  have a' : deepF (plusH A c) (0 + 1 + 1) 0 t ≤ 1 := a
  have b' : deepF (plusH A c) (0 + 1 + 1) (0 + 1) t ≤ 1 := b
  omega
theorem plus_of (A : Option Addr) (c : Nat) (t : Tr) (h : ofF t ≠ 0) : ofF (.mk (plusH A c) [t, t]) = if ofF t ≤ 2 then ofF t else 0 := by
  have hi := of_in t
  have hk : (plusH A c).k = 6 := rfl
  rw [ofF, hk, if_neg (by decide), if_neg (by decide), if_neg (by decide), if_neg (by decide), if_pos rfl, ofL, ofL]
  show heldF 7 false 0 (numberF (ofF t)) (numberF (ofF t)) = _
  generalize ofF t = x at *
  have hx : x = 1 ∨ x = 2 ∨ x = 3 ∨ x = 4 := by omega
  rcases hx with rfl | rfl | rfl | rfl <;> decide
end Go.Proofs.YtmodehfedhgcbaaGreatDoor.Ck

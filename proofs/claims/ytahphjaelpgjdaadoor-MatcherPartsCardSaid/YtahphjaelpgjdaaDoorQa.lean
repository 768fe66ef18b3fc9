/- A pattern without signs matches itself alone. Condition: at most 200 bytes, none of them a sign. -/
import Derived.Test.YtahphjaelpgjdaaDoorXa
import Derived.Test.YtahphjaelpgjdaaDoorLa
namespace Go.Proofs.YtahphjaelpgjdaaDoor.Rx
open Go

def signs : List Nat := [40, 91, 93, 123, 125, 94, 36, 42, 43, 63, 46, 92, 124, 41]
def Word (l : ByteArray) : Prop := ∀ a, a < l.size → signs.contains (by_ l a) = false
theorem no_sign {c : Nat} (h : signs.contains c = false) : c ≠ 40 ∧ c ≠ 91 ∧ [93, 123, 125, 94, 36, 42, 43, 63].contains c = false ∧ c ≠ 46 ∧ c ≠ 92 ∧ [124, 41].contains c = false ∧ [42, 43, 63].contains c = false := by
  unfold signs at h
  simp at h ⊢
  omega
theorem sees_no {l : ByteArray} (hw : Word l) (a : Nat) {c : Nat} (hc : signs.contains c = true) : sees l a c = false := by
  unfold sees
  by_cases h : a < l.size
  · have h1 := hw a h
    by_cases e : by_ l a = c
    · rw [e, hc] at h1; cases h1
    · simp [e]
  · simp [h]
theorem seesAny_no {l : ByteArray} (hw : Word l) (a : Nat) (cs : List Nat) (hs : ∀ c, signs.contains c = false → cs.contains c = false) : seesAny l a cs = false := by
  unfold seesAny
  by_cases h : a < l.size
  · rw [hs _ (hw a h)]; simp
  · simp [h]
theorem linkF_getD (tq : Nat) : ∀ (k : Nat) (r : List Nat) (fr i : Nat), i < r.length → (linkF tq k r fr).getD i 0 = if fr.testBit (k + i) = true then r.getD i 0 ||| tq else r.getD i 0
  | _, [], _, i, h => absurd h (Nat.not_lt_zero _)
  | k, f :: r, fr, 0, _ => by unfold linkF; simp
  | k, f :: r, fr, i + 1, h => by
    unfold linkF
    have e := linkF_getD tq (k + 1) r fr i (by simpa using h)
    rw [List.getD_cons_succ, List.getD_cons_succ, e, show k + 1 + i = k + (i + 1) by omega]
/-- the machine, and the part, of the first letters of a word -/
def wordM (l : ByteArray) : Nat → Mach × Pc
  | 0 => (⟨[], []⟩, unit)
  | k + 1 => (chainM (placeM (wordM l k).1 (2 ^ by_ l k)) (wordM l k).2 (placeP (wordM l k).1), chainP (wordM l k).2 (placeP (wordM l k).1))
def wordP (k : Nat) : Pc := ⟨decide (k = 0), if k = 0 then 0 else 1, if k = 0 then 0 else 2 ^ (k - 1)⟩
theorem getD_snoc (l : List Nat) (x i : Nat) : (l ++ [x]).getD i 0 = if i < l.length then l.getD i 0 else if i = l.length then x else 0 := by
  simp only [List.getD_eq_getElem?_getD, List.getElem?_append]
  by_cases h : i < l.length
  · simp [h]
  · simp only [h, if_false]
    by_cases e : i = l.length
    · subst e; simp
    · have : i - l.length ≠ 0 := by omega
      obtain ⟨j, hj⟩ : ∃ j, i - l.length = j + 1 := ⟨i - l.length - 1, by omega⟩
      rw [hj]; simp [e]
theorem wordM_is (l : ByteArray) : ∀ k, (wordM l k).1.takes.length = k ∧ (wordM l k).1.follow.length = k ∧ (∀ j, j < k → (wordM l k).1.takes.getD j 0 = 2 ^ by_ l j) ∧ (∀ j, j < k → (wordM l k).1.follow.getD j 0 = if j + 1 < k then 2 ^ (j + 1) else 0) ∧ (wordM l k).2 = wordP k
  | 0 => ⟨rfl, rfl, fun _ h => absurd h (Nat.not_lt_zero _), fun _ h => absurd h (Nat.not_lt_zero _), rfl⟩
  | k + 1 => by
    obtain ⟨h1, h2, h3, h4, h5⟩ := wordM_is l k
    have t : (wordM l (k + 1)).1.takes = (wordM l k).1.takes ++ [2 ^ by_ l k] := rfl
    have f : (wordM l (k + 1)).1.follow = linkF (2 ^ k) 0 ((wordM l k).1.follow ++ [0]) (wordP k).last := by
      show linkF (placeP (wordM l k).1).first 0 ((wordM l k).1.follow ++ [0]) (wordM l k).2.last = _
      rw [h5]; unfold placeP; rw [h1]
    have p : (wordM l (k + 1)).2 = chainP (wordP k) ⟨false, 2 ^ k, 2 ^ k⟩ := by
      show chainP (wordM l k).2 (placeP (wordM l k).1) = _
      rw [h5]; unfold placeP; rw [h1]
    refine ⟨by rw [t]; simp [h1], by rw [f, linkF_length]; simp [h2], fun j hj => ?_, fun j hj => ?_, ?_⟩
    · rw [t, getD_snoc, h1]
      by_cases e : j < k
      · rw [if_pos e, h3 j e]
      · rw [if_neg e, if_pos (by omega), show j = k by omega]
    · rw [f, linkF_getD _ _ _ _ _ (by simp [h2]; omega), getD_snoc, h2, Nat.zero_add]
      have hl : (wordP k).last = if k = 0 then 0 else 2 ^ (k - 1) := rfl
      rw [hl]
      by_cases e : j < k
      · rw [if_pos e, h4 j e, if_neg (show ¬ k = 0 by omega), Nat.testBit_two_pow]
        by_cases e2 : k - 1 = j
        · rw [if_pos (by simpa using e2), if_neg (show ¬ j + 1 < k by omega), if_pos (show j + 1 < k + 1 by omega), show j + 1 = k by omega]; simp
        · rw [if_neg (by simpa using e2), if_pos (show j + 1 < k by omega), if_pos (show j + 1 < k + 1 by omega)]
      · have ej : j = k := by omega
        subst ej
        rw [if_neg e, if_pos rfl, if_neg (show ¬ j + 1 < j + 1 by omega)]
        have : (if j = 0 then 0 else 2 ^ (j - 1)).testBit j = false := by
          by_cases z : j = 0
          · rw [if_pos z]; simp
          · rw [if_neg z, Nat.testBit_two_pow]; simp; omega
        rw [this]; simp
    · rw [p]
      unfold chainP wordP
      by_cases z : k = 0
      · subst z; simp
      · simp [z]
theorem atom_word {l : ByteArray} (hw : Word l) (grp : Nat → Mach → Res) {a : Nat} (ha : a < l.size) (m : Mach) : atomF l grp a m = .ok (a + 1) (placeM m (2 ^ by_ l a)) (placeP m) := by
  obtain ⟨c1, c2, c3, c4, _, _, _⟩ := no_sign (hw a ha)
  unfold atomF
  rw [if_neg c1, if_neg c2, if_neg (by rw [c3]; simp), if_neg c4]
  unfold charF
  rw [sees_no hw a rfl]
  simp [ha]
theorem rep_word {l : ByteArray} (hw : Word l) (grp : Nat → Mach → Res) {a : Nat} (ha : a < l.size) (m : Mach) : repF l grp a m = .ok (a + 1) (placeM m (2 ^ by_ l a)) (placeP m) := by
  unfold repF
  rw [atom_word hw grp ha m]
  show repL l (l.size + 1) (a + 1) _ _ = _
  unfold repL
  rw [seesAny_no hw (a + 1) _ (fun c h => (no_sign h).2.2.2.2.2.2)]
  simp
theorem cat_word {l : ByteArray} (hw : Word l) (grp : Nat → Mach → Res) : ∀ n k, k + n = l.size → catL l grp (n + 1) k (wordM l k).1 (wordM l k).2 = .ok l.size (wordM l l.size).1 (wordM l l.size).2
  | 0, k, h => by
    have e : k = l.size := h
    subst e
    unfold catL
    rw [if_neg (by simp)]
  | n + 1, k, h => by
    unfold catL
    rw [if_pos ⟨by omega, seesAny_no hw k _ (fun c h => (no_sign h).2.2.2.2.2.1)⟩, rep_word hw grp (by omega)]
    exact cat_word hw grp n (k + 1) (by omega)
theorem read_word {l : ByteArray} (hw : Word l) (h : l.size ≤ 200) : readF l = .ok l.size (wordM l l.size).1 (wordM l l.size).2 := by
  unfold readF
  rw [if_neg (by omega)]
  have e : altF l (grpF l 32) 0 ⟨[], []⟩ = .ok l.size (wordM l l.size).1 (wordM l l.size).2 := by
    unfold altF catF
    have e0 : catL l (grpF l 32) (l.size + 1) 0 ⟨[], []⟩ unit = .ok l.size (wordM l l.size).1 (wordM l l.size).2 := cat_word hw (grpF l 32) l.size 0 (by omega)
    rw [e0]
    show altL l _ (l.size + 1) l.size _ _ = _
    unfold altL
    rw [sees_no hw _ rfl]
    simp
  rw [e]
  show (if l.size = l.size then _ else _) = _
  rw [if_pos rfl]
theorem behP_pow (m : Mach) (lst j c : Nat) : ∀ i, behP m lst (2 ^ j) c i = if j < i ∧ (m.takes.getD j 0).testBit c = true then (m.follow.getD j 0, lst.testBit j) else (0, false)
  | 0 => by rw [if_neg (by omega)]; rfl
  | i + 1 => by
    have ih := behP_pow m lst j c i
    by_cases e : i = j
    · subst e
      rw [if_neg (by omega)] at ih
      have hb : (2 ^ i).testBit i = true := by simp
      by_cases ht : (m.takes.getD i 0).testBit c = true
      · rw [behP_in hb ht, ih, if_pos ⟨by omega, ht⟩]; simp
      · rw [behP_out (Bool.eq_false_iff.2 ht), ih, if_neg (fun x => ht x.2)]
    · have hb : (2 ^ j).testBit i = false := by rw [Nat.testBit_two_pow]; simp; omega
      rw [behP_skip hb, ih]
      by_cases hj : j < i
      · by_cases ht : (m.takes.getD j 0).testBit c = true
        · rw [if_pos ⟨hj, ht⟩, if_pos ⟨by omega, ht⟩]
        · rw [if_neg (fun x => ht x.2), if_neg (fun x => ht x.2)]
      · rw [if_neg (by omega), if_neg (by omega)]
theorem run_dead (m : Mach) (lst : Nat) (s : ByteArray) : ∀ n k, runL m lst s n k (0, false) = false
  | 0, _ => rfl
  | n + 1, k => by unfold runL; rw [if_pos rfl]
def stW (S k : Nat) : Nat × Bool := (if k < S then 2 ^ k else 0, decide (k = S))
theorem beh_word {l : ByteArray} (h : l.size ≤ 200) {k : Nat} (hk : k < l.size) (c : Nat) : behF (wordM l l.size).1 (wordP l.size).last (2 ^ k) c = if by_ l k = c then stW l.size (k + 1) else (0, false) := by
  obtain ⟨_, _, h3, h4, _⟩ := wordM_is l l.size
  unfold behF
  rw [behP_pow, h3 k hk, h4 k hk, Nat.testBit_two_pow]
  have hl : (wordP l.size).last = 2 ^ (l.size - 1) := if_neg (by omega)
  rw [hl, Nat.testBit_two_pow]
  by_cases e : by_ l k = c
  · rw [if_pos ⟨by omega, by simpa using e⟩, if_pos e]
    unfold stW
    congr 1
    simp; omega
  · rw [if_neg (by simp [e]), if_neg e]
theorem run_word {l : ByteArray} (h : l.size ≤ 200) (t : ByteArray) : ∀ n k, k ≤ l.size → k + n = t.size → (runL (wordM l l.size).1 (wordP l.size).last t n k (stW l.size k) = true ↔ (l.size = t.size ∧ ∀ i, k ≤ i → i < l.size → by_ l i = by_ t i))
  | 0, k, hk, e => by
    show decide (k = l.size) = true ↔ _
    rw [decide_eq_true_eq]
    exact ⟨fun h1 => ⟨by omega, fun i a b => by omega⟩, fun x => by have := x.1; omega⟩
  | n + 1, k, hk, e => by
    unfold runL
    by_cases h1 : k < l.size
    · have e1 : (stW l.size k).1 = 2 ^ k := if_pos h1
      rw [e1, if_neg (by have := two_pos k; omega), beh_word h h1]
      by_cases h2 : by_ l k = by_ t k
      · rw [if_pos h2, run_word h t n (k + 1) h1 (by omega)]
        refine ⟨fun ⟨a, b⟩ => ⟨a, fun i c d => ?_⟩, fun ⟨a, b⟩ => ⟨a, fun i c d => b i (by omega) d⟩⟩
        by_cases ei : i = k
        · rw [ei]; exact h2
        · exact b i (by omega) d
      · rw [if_neg h2, run_dead]
        exact ⟨(fun x => by cases x), fun x => absurd (x.2 k (Nat.le_refl _) h1) h2⟩
    · have e1 : (stW l.size k).1 = 0 := if_neg h1
      rw [e1, if_pos rfl]
      exact ⟨(fun x => by cases x), fun x => by have := x.1; omega⟩
theorem run_whole {l : ByteArray} (h : l.size ≤ 200) (t : ByteArray) : runF (wordM l l.size).1 (wordM l l.size).2 t = true ↔ (l.size = t.size ∧ ∀ i, 0 ≤ i → i < l.size → by_ l i = by_ t i) := by
  obtain ⟨_, _, _, _, h5⟩ := wordM_is l l.size
  rw [h5]
  have e : ((wordP l.size).first, (wordP l.size).empty) = stW l.size 0 := by
    unfold wordP stW
    by_cases z : l.size = 0
    · rw [z]; rfl
    · simp only [if_neg z, if_pos (show 0 < l.size by omega), decide_eq_false z, decide_eq_false (show ¬ 0 = l.size by omega)]
  unfold runF
  rw [e]
  exact run_word h t t.size 0 (Nat.zero_le _) (by omega)
theorem same_text {l t : ByteArray} (h : l.size = t.size) (hb : ∀ i, i < l.size → by_ l i = by_ t i) : l = t := by
  apply ByteArray.ext
  apply Array.ext
  · simpa using h
  · intro i h1 h2
    have a1 : i < l.size := by simpa using h1
    have a2 : i < t.size := by simpa using h2
    have := hb i a1
    rw [by_eq l i a1, by_eq t i a2] at this
    exact UInt8.toNat_inj.1 this
theorem run_same {l : ByteArray} (h : l.size ≤ 200) (t : ByteArray) : runF (wordM l l.size).1 (wordM l l.size).2 t = (l.toList == t.toList) := by
  rw [Bool.eq_iff_iff, run_whole h t, beq_iff_eq]
  exact ⟨fun ⟨a, b⟩ => by rw [same_text a fun i c => b i (Nat.zero_le _) c], fun e => by
    have e2 : l = t := Lb.toList_inj e
    subst e2
    exact ⟨rfl, fun _ _ _ => rfl⟩⟩
end Go.Proofs.YtahphjaelpgjdaaDoor.Rx

namespace Go.Proofs.YtahphjaelpgjdaaDoor
open Go.RowKit Rx
set_option linter.unusedVariables false

def let6 : Nat → UInt8
  | 0 => 97
  | 1 => 98
  | 2 => 99
  | 3 => 95
  | 4 => 49
  | _ => 50
def WordL (s : List UInt8) : Prop := ∀ c ∈ s, signs.contains c.toNat = false
theorem let6_ok (d : Nat) : signs.contains (let6 d).toNat = false := by
  unfold let6
  split <;> decide
theorem wordl_snoc {s : List UInt8} (h : WordL s) (d : Nat) : WordL (s ++ [let6 d]) := by
  intro c hc
  rcases List.mem_append.1 hc with hc | hc
  · exact h c hc
  · rw [List.mem_singleton.1 hc]; exact let6_ok d
theorem size_of0 (s : List UInt8) : (⟨s.toArray⟩ : ByteArray).size = s.length := by show s.toArray.size = _; simp
theorem word_of {s : List UInt8} (h : WordL s) : Word ⟨s.toArray⟩ := by
  intro a ha
  rw [by_eq _ _ ha]
  exact h _ (by
    have h2 : a < s.length := by rw [← size_of0 s]; exact ha
    have e : ((⟨s.toArray⟩ : ByteArray)[a]'ha) = s[a]'h2 := rfl
    rw [e]; exact List.getElem_mem _)
def Spell (k : Nat) (s : List UInt8) : Prop := ∃ n, k < 6 ^ n ∧ s.length + n ≤ 13 ∧ WordL s
theorem spell_start {k : Nat} (h : k < 4294967296) : Spell k [] := ⟨13, Nat.lt_trans h (by decide), by simp, fun _ h => by cases h⟩
theorem spell_step {k : Nat} {s : List UInt8} (h : Spell k s) (h0 : 0 < k) : Spell (k / 6) (s ++ [let6 (k % 6)]) := by
  obtain ⟨n, h1, h2, h3⟩ := h
  match n, h1, h2 with
  | 0, h1, _ => simp at h1; omega
  | n + 1, h1, h2 =>
    refine ⟨n, ?_, ?_, wordl_snoc h3 _⟩
    · rw [Nat.pow_succ] at h1
      exact Nat.div_lt_of_lt_mul (by omega)
    · rw [List.length_append, List.length_singleton]; omega
theorem spell_len {k : Nat} {s : List UInt8} (h : Spell k s) : s.length ≤ 13 := by
  obtain ⟨n, _, h2, _⟩ := h; omega
theorem spell_word {k : Nat} {s : List UInt8} (h : Spell k s) : WordL s := by
  obtain ⟨_, _, _, h⟩ := h; exact h
theorem lit_sl (d : Nat) (hd : d < 6) (w : World) : (Instr.slice 9 (.string ⟨#[97, 98, 99, 95, 49, 50]⟩) (some (.int .u32 (d : Nat))) (some (.int .u32 ((d : Nat) + 1))) none).run Tryd.prog w = .ok (.string ⟨[let6 d].toArray⟩) w := by
  rw [run_slice_string (P := Tryd.prog) w 9 _ .u32 .u32 _ _ Tryd.underlying9 (by omega) (by omega) (by show ((d : Int) + 1) ≤ 6; omega)]
  congr 2
  match d, hd with
  | 0, _ => decide +kernel
  | 1, _ => decide +kernel
  | 2, _ => decide +kernel
  | 3, _ => decide +kernel
  | 4, _ => decide +kernel
  | 5, _ => decide +kernel
theorem add_lit (a b : List UInt8) (h : a.length + b.length ≤ 65536) (w : World) : (Op.stringOp .add ⟨a.toArray⟩ ⟨b.toArray⟩).run Tryd.prog w = .ok (.string ⟨(a ++ b).toArray⟩) w := by
  rw [run_string_add_sum _ _ _ (by rw [size_of0, size_of0]; omega)]
  congr 2
end Go.Proofs.YtahphjaelpgjdaaDoor

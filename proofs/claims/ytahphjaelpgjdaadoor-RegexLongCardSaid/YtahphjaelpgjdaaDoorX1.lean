/- What the reader of patterns makes, as functions over a text: sets as numbers of 256 bits, places, parts, machines. No condition. -/
import Derived.Test.YtahphjaelpgjdaaDoorRows
namespace Go.Proofs.YtahphjaelpgjdaaDoor.Rx
open Go

theorem two_pos (t : Nat) : 0 < 2 ^ t := Nat.two_pow_pos t
theorem two_le {a b : Nat} (h : a ≤ b) : 2 ^ a ≤ 2 ^ b := Nat.pow_le_pow_right (by decide) h
theorem two_lt {a b : Nat} (h : a < b) : 2 ^ a < 2 ^ b := Nat.pow_lt_pow_right (by decide) h

/-! sets -/
def full : Nat := 2 ^ 256 - 1
def notS (n : Nat) : Nat := full - n

/-! a text -/
def by_ (l : ByteArray) (a : Nat) : Nat := if h : a < l.size then l[a].toNat else 0
theorem by_eq (l : ByteArray) (a : Nat) (h : a < l.size) : by_ l a = l[a].toNat := dif_pos h
theorem by_lt (l : ByteArray) (a : Nat) : by_ l a < 256 := by
  unfold by_
  split
  · exact UInt8.toNat_lt _
  · decide
def sees (l : ByteArray) (a c : Nat) : Bool := decide (a < l.size) && by_ l a == c
def seesAny (l : ByteArray) (a : Nat) (cs : List Nat) : Bool := decide (a < l.size) && cs.contains (by_ l a)
theorem sees_lt {l : ByteArray} {a c : Nat} (h : sees l a c = true) : a < l.size := by
  unfold sees at h; simp at h; exact h.1
theorem seesAny_lt {l : ByteArray} {a : Nat} {cs : List Nat} (h : seesAny l a cs = true) : a < l.size := by
  unfold seesAny at h; rw [Bool.and_eq_true, decide_eq_true_eq] at h; exact h.1

/-! bytes of a pattern -/
inductive CR where
  | bad (pl : Nat)
  | ok (a c : Nat)
def charF (l : ByteArray) (a : Nat) : CR :=
  if (if sees l a 92 = true then a + 1 else a) < l.size then .ok ((if sees l a 92 = true then a + 1 else a) + 1) (by_ l (if sees l a 92 = true then a + 1 else a)) else .bad (if sees l a 92 = true then a + 1 else a)
def ccharF (l : ByteArray) (a : Nat) : CR := if seesAny l a [93, 91, 94, 45] = true then .bad a else charF l a
theorem charF_ok {l : ByteArray} {a a1 c : Nat} (h : charF l a = .ok a1 c) : a < a1 ∧ a1 ≤ l.size ∧ c < 256 := by
  unfold charF at h
  generalize hq : (if sees l a 92 = true then a + 1 else a) = q at h
  have : a ≤ q := by rw [← hq]; split <;> omega
  split at h
  · injection h with h1 h2
    subst h1; subst h2
    exact ⟨by omega, by omega, by_lt _ _⟩
  · cases h
theorem ccharF_ok {l : ByteArray} {a a1 c : Nat} (h : ccharF l a = .ok a1 c) : a < a1 ∧ a1 ≤ l.size ∧ c < 256 := by
  unfold ccharF at h
  split at h
  · cases h
  · exact charF_ok h
/-- some numbers in a row, put into a set -/
def addR (t lo : Nat) : Nat → Nat
  | 0 => t
  | n + 1 => addR t lo n ||| 2 ^ (lo + n)
theorem addR_lt {t lo : Nat} (ht : t < 2 ^ 256) : ∀ n, lo + n ≤ 256 → addR t lo n < 2 ^ 256
  | 0, _ => ht
  | n + 1, h => Nat.or_lt_two_pow (addR_lt ht n (by omega)) (two_lt (by omega))
def itemF (l : ByteArray) (a t : Nat) : CR :=
  match ccharF l a with
  | .bad pl => .bad pl
  | .ok a1 lo =>
    if sees l a1 45 = true then
      match ccharF l (a1 + 1) with
      | .bad pl => .bad pl
      | .ok a2 hi => if hi < lo then .bad (a2 - 1) else .ok a2 (addR t lo (hi + 1 - lo))
    else .ok a1 (addR t lo 1)
theorem itemF_ok {l : ByteArray} {a t a1 t1 : Nat} (ht : t < 2 ^ 256) (h : itemF l a t = .ok a1 t1) : a < a1 ∧ a1 ≤ l.size ∧ t1 < 2 ^ 256 := by
  unfold itemF at h
  cases hc : ccharF l a with
  | bad pl => rw [hc] at h; cases h
  | ok a2 lo =>
    rw [hc] at h
    have k := ccharF_ok hc
    dsimp only at h
    split at h
    · cases hd : ccharF l (a2 + 1) with
      | bad pl => rw [hd] at h; cases h
      | ok a3 hi =>
        rw [hd] at h
        have k2 := ccharF_ok hd
        dsimp only at h
        split at h
        · cases h
        · injection h with h1 h2
          subst h1; subst h2
          exact ⟨by omega, k2.2.1, addR_lt ht _ (by omega)⟩
    · injection h with h1 h2
      subst h1; subst h2
      exact ⟨k.1, k.2.1, addR_lt ht _ (by omega)⟩
def itemsF (l : ByteArray) : Nat → Nat → Nat → CR
  | 0, a, _ => .bad a
  | k + 1, a, t =>
    match itemF l a t with
    | .bad pl => .bad pl
    | .ok a1 t1 => if sees l a1 93 = true then .ok a1 t1 else itemsF l k a1 t1
theorem itemsF_ok {l : ByteArray} : ∀ {k a t a1 t1 : Nat}, t < 2 ^ 256 → itemsF l k a t = .ok a1 t1 → a < a1 ∧ a1 < l.size ∧ t1 < 2 ^ 256
  | 0, a, t, a1, t1, _, h => by cases h
  | k + 1, a, t, a1, t1, ht, h => by
    unfold itemsF at h
    cases hi : itemF l a t with
    | bad pl => rw [hi] at h; cases h
    | ok a2 t2 =>
      rw [hi] at h
      have q := itemF_ok ht hi
      dsimp only at h
      split at h
      · rename_i hs
        injection h with h1 h2
        subst h1; subst h2
        exact ⟨q.1, sees_lt hs, q.2.2⟩
      · have := itemsF_ok q.2.2 h
        exact ⟨by omega, this.2.1, this.2.2⟩

/-! parts and machines -/
structure Pc where
  empty : Bool
  first : Nat
  last : Nat
structure Mach where
  takes : List Nat
  follow : List Nat
inductive Res where
  | bad (pl c : Nat)
  | ok (a : Nat) (m : Mach) (p : Pc)
def unit : Pc := ⟨true, 0, 0⟩
def placeP (m : Mach) : Pc := ⟨false, 2 ^ m.takes.length, 2 ^ m.takes.length⟩
def placeM (m : Mach) (t : Nat) : Mach := ⟨m.takes ++ [t], m.follow ++ [0]⟩
def linkF (to : Nat) : Nat → List Nat → Nat → List Nat
  | _, [], _ => []
  | k, f :: r, fr => (if fr.testBit k then f ||| to else f) :: linkF to (k + 1) r fr
theorem linkF_length (to : Nat) : ∀ (k : Nat) (r : List Nat) (fr : Nat), (linkF to k r fr).length = r.length
  | _, [], _ => rfl
  | k, f :: r, fr => by simp [linkF, linkF_length to (k + 1) r fr]
def linkM (m : Mach) (fr to : Nat) : Mach := ⟨m.takes, linkF to 0 m.follow fr⟩
def chainM (m : Mach) (p q : Pc) : Mach := linkM m p.last q.first
def chainP (p q : Pc) : Pc := ⟨p.empty && q.empty, if p.empty then p.first ||| q.first else p.first, if q.empty then q.last ||| p.last else q.last⟩
def eitherP (p q : Pc) : Pc := ⟨p.empty || q.empty, p.first ||| q.first, p.last ||| q.last⟩
def repM (m : Mach) (p : Pc) (c : Nat) : Mach := if c = 63 then m else linkM m p.last p.first
def repP (p : Pc) (c : Nat) : Pc := if c = 43 then p else ⟨true, p.first, p.last⟩

/-! the reader; of a group it is told what it does -/
def classF (l : ByteArray) (a : Nat) (m : Mach) : Res :=
  match itemsF l (l.size + 1) (if sees l (a + 1) 94 = true then a + 2 else a + 1) 0 with
  | .bad pl => .bad pl 2
  | .ok a1 t => .ok (a1 + 1) (placeM m (if sees l (a + 1) 94 = true then notS t else t)) (placeP m)
def atomF (l : ByteArray) (grp : Nat → Mach → Res) (a : Nat) (m : Mach) : Res :=
  if by_ l a = 40 then grp a m
  else if by_ l a = 91 then classF l a m
  else if [93, 123, 125, 94, 36, 42, 43, 63].contains (by_ l a) = true then .bad a 2
  else if by_ l a = 46 then .ok (a + 1) (placeM m full) (placeP m)
  else match charF l a with
    | .bad pl => .bad pl 2
    | .ok a1 c => .ok a1 (placeM m (2 ^ c)) (placeP m)
def repL (l : ByteArray) : Nat → Nat → Mach → Pc → Res
  | 0, a, m, p => .ok a m p
  | k + 1, a, m, p => if seesAny l a [42, 43, 63] = true then repL l k (a + 1) (repM m p (by_ l a)) (repP p (by_ l a)) else .ok a m p
def repF (l : ByteArray) (grp : Nat → Mach → Res) (a : Nat) (m : Mach) : Res :=
  match atomF l grp a m with
  | .bad pl c => .bad pl c
  | .ok a1 m1 p => repL l (l.size + 1) a1 m1 p
def catL (l : ByteArray) (grp : Nat → Mach → Res) : Nat → Nat → Mach → Pc → Res
  | 0, a, m, p => .ok a m p
  | k + 1, a, m, p =>
    if a < l.size ∧ seesAny l a [124, 41] = false then
      match repF l grp a m with
      | .bad pl c => .bad pl c
      | .ok a1 m1 q => catL l grp k a1 (chainM m1 p q) (chainP p q)
    else .ok a m p
def catF (l : ByteArray) (grp : Nat → Mach → Res) (a : Nat) (m : Mach) : Res := catL l grp (l.size + 1) a m unit
def altL (l : ByteArray) (grp : Nat → Mach → Res) : Nat → Nat → Mach → Pc → Res
  | 0, a, m, p => .ok a m p
  | k + 1, a, m, p =>
    if sees l a 124 = true then
      match catF l grp (a + 1) m with
      | .bad pl c => .bad pl c
      | .ok a1 m1 q => altL l grp k a1 m1 (eitherP p q)
    else .ok a m p
def altF (l : ByteArray) (grp : Nat → Mach → Res) (a : Nat) (m : Mach) : Res :=
  match catF l grp a m with
  | .bad pl c => .bad pl c
  | .ok a1 m1 p => altL l grp (l.size + 1) a1 m1 p
/-- a group, where so many more may be opened -/
def grpF (l : ByteArray) : Nat → Nat → Mach → Res
  | 0, a, _ => .bad a 12
  | d + 1, a, m =>
    match altF l (grpF l d) (a + 1) m with
    | .bad pl c => .bad pl c
    | .ok a1 m1 p => if sees l a1 41 = true then .ok (a1 + 1) m1 p else .bad a1 2
/-- a whole pattern -/
def readF (l : ByteArray) : Res :=
  if 200 < l.size then .bad 0 2
  else match altF l (grpF l 32) 0 ⟨[], []⟩ with
    | .bad pl c => .bad pl c
    | .ok a m p => if a = l.size then .ok a m p else .bad a 2
end Go.Proofs.YtahphjaelpgjdaaDoor.Rx

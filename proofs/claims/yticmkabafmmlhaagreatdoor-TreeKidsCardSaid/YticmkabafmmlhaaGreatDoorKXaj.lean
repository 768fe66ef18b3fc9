/- What the reader of patterns makes, as functions over a text: sets as numbers of 256 bits, places, parts, machines. No condition. -/
import Derived.Test.YticmkabafmmlhaaGreatDoorRows
namespace Go.Proofs.YticmkabafmmlhaaGreatDoor.Rx
open Go
theorem two_pos (t : Nat) : 0 < 2 ^ t := Nat.two_pow_pos t
theorem two_le {a b : Nat} (h : a ≤ b) : 2 ^ a ≤ 2 ^ b := Nat.pow_le_pow_right (by decide) h
theorem two_lt {a b : Nat} (h : a < b) : 2 ^ a < 2 ^ b := Nat.pow_lt_pow_right (by decide) h
def full : Nat := 2 ^ 256 - 1
def notS (n : Nat) : Nat := full - n
def by_ (l : ByteArray) (a : Nat) : Nat := if h : a < l.size then l[a].toNat else 0
theorem by_eq (l : ByteArray) (a : Nat) (h : a < l.size) : by_ l a = l[a].toNat := dif_pos h
theorem by_lt (l : ByteArray) (a : Nat) : by_ l a < 256 := by
 unfold by_
 split
 · exact UInt8.toNat_lt _
 · decide
def sees (l : ByteArray) (a c : Nat) : Bool := decide (a < l.size) && by_ l a == c
def seesAny (l : ByteArray) (a : Nat) (cs : List Nat) : Bool := decide (a < l.size) && cs.contains (by_ l a)
theorem sees_lt {l : ByteArray} {a c : Nat} (h : sees l a c = true) : a < l.size := by
 unfold sees at h; simp at h; exact h.1
theorem seesAny_lt {l : ByteArray} {a : Nat} {cs : List Nat} (h : seesAny l a cs = true) : a < l.size := by
 unfold seesAny at h; rw [Bool.and_eq_true, decide_eq_true_eq] at h; exact h.1
inductive CR where
 | bad (pl : Nat)
 | ok (a c : Nat)
def charF (l : ByteArray) (a : Nat) : CR :=
 if (if sees l a 92 = true then a + 1 else a) < l.size then .ok ((if sees l a 92 = true then a + 1 else a) + 1) (by_ l (if sees l a 92 = true then a + 1 else a)) else .bad (if sees l a 92 = true then a + 1 else a)
def ccharF (l : ByteArray) (a : Nat) : CR := if seesAny l a [93, 91, 94, 45] = true then .bad a else charF l a
theorem charF_ok {l : ByteArray} {a a1 c : Nat} (h : charF l a = .ok a1 c) : a < a1 ∧ a1 ≤ l.size ∧ c < 256 := by
 unfold charF at h
 generalize hq : (if sees l a 92 = true then a + 1 else a) = q at h
 have : a ≤ q := by rw [← hq]; split <;> omega
 split at h
 · injection h with h1 h2
   subst h1; subst h2
   exact ⟨by omega, by omega, by_lt _ _⟩
 · cases h
theorem ccharF_ok {l : ByteArray} {a a1 c : Nat} (h : ccharF l a = .ok a1 c) : a < a1 ∧ a1 ≤ l.size ∧ c < 256 := by
 unfold ccharF at h
 split at h
 · cases h
 · exact charF_ok h
def addR (t lo : Nat) : Nat → Nat
 | 0 => t
 | n + 1 => addR t lo n ||| 2 ^ (lo + n)
theorem addR_lt {t lo : Nat} (ht : t < 2 ^ 256) : ∀ n, lo + n ≤ 256 → addR t lo n < 2 ^ 256
 | 0, _ => ht
 | n + 1, h => Nat.or_lt_two_pow (addR_lt ht n (by omega)) (two_lt (by omega))
def itemF (l : ByteArray) (a t : Nat) : CR :=
 match ccharF l a with
 | .bad pl => .bad pl
 | .ok a1 lo =>
   if sees l a1 45 = true then
    match ccharF l (a1 + 1) with
    | .bad pl => .bad pl
    | .ok a2 hi => if hi < lo then .bad (a2 - 1) else .ok a2 (addR t lo (hi + 1 - lo))
   else .ok a1 (addR t lo 1)
theorem itemF_ok {l : ByteArray} {a t a1 t1 : Nat} (ht : t < 2 ^ 256) (h : itemF l a t = .ok a1 t1) : a < a1 ∧ a1 ≤ l.size ∧ t1 < 2 ^ 256 := by
 unfold itemF at h
 cases hc : ccharF l a with
 | bad pl => rw [hc] at h; cases h
 | ok a2 lo =>
   rw [hc] at h
   have k := ccharF_ok hc
   dsimp only at h
   split at h
   · cases hd : ccharF l (a2 + 1) with
     | bad pl => rw [hd] at h; cases h
     | ok a3 hi =>
       rw [hd] at h
       have k2 := ccharF_ok hd
       dsimp only at h
       split at h
       · cases h
       · injection h with h1 h2
         subst h1; subst h2
         exact ⟨by omega, k2.2.1, addR_lt ht _ (by omega)⟩
   · injection h with h1 h2
     subst h1; subst h2
     exact ⟨k.1, k.2.1, addR_lt ht _ (by omega)⟩
def itemsF (l : ByteArray) : Nat → Nat → Nat → CR
 | 0, a, _ => .bad a
 | k + 1, a, t =>
   match itemF l a t with
   | .bad pl => .bad pl
   | .ok a1 t1 => if sees l a1 93 = true then .ok a1 t1 else itemsF l k a1 t1
theorem itemsF_ok {l : ByteArray} : ∀ {k a t a1 t1 : Nat}, t < 2 ^ 256 → itemsF l k a t = .ok a1 t1 → a < a1 ∧ a1 < l.size ∧ t1 < 2 ^ 256
 | 0, a, t, a1, t1, _, h => by cases h
 | k + 1, a, t, a1, t1, ht, h => by
   unfold itemsF at h
   cases hi : itemF l a t with
   | bad pl => rw [hi] at h; cases h
   | ok a2 t2 =>
     rw [hi] at h
     have q := itemF_ok ht hi
     dsimp only at h
     split at h
     · rename_i hs
       injection h with h1 h2
       subst h1; subst h2
       exact ⟨q.1, sees_lt hs, q.2.2⟩
     · have := itemsF_ok q.2.2 h
       exact ⟨by omega, this.2.1, this.2.2⟩
structure Pc where
 empty : Bool
 first : Nat
 last : Nat
structure Mach where
 takes : List Nat
 follow : List Nat
inductive Res where
 | bad (pl c : Nat)
 | ok (a : Nat) (m : Mach) (p : Pc)
def unit : Pc := ⟨true, 0, 0⟩
def placeP (m : Mach) : Pc := ⟨false, 2 ^ m.takes.length, 2 ^ m.takes.length⟩
def placeM (m : Mach) (t : Nat) : Mach := ⟨m.takes ++ [t], m.follow ++ [0]⟩
def linkF (to : Nat) : Nat → List Nat → Nat → List Nat
 | _, [], _ => []
 | k, f :: r, fr => (if fr.testBit k then f ||| to else f) :: linkF to (k + 1) r fr
theorem linkF_length (to : Nat) : ∀ (k : Nat) (r : List Nat) (fr : Nat), (linkF to k r fr).length = r.length
 | _, [], _ => rfl
 | k, f :: r, fr => by simp [linkF, linkF_length to (k + 1) r fr]
def linkM (m : Mach) (fr to : Nat) : Mach := ⟨m.takes, linkF to 0 m.follow fr⟩
def chainM (m : Mach) (p q : Pc) : Mach := linkM m p.last q.first
def chainP (p q : Pc) : Pc := ⟨p.empty && q.empty, if p.empty then p.first ||| q.first else p.first, if q.empty then q.last ||| p.last else q.last⟩
def eitherP (p q : Pc) : Pc := ⟨p.empty || q.empty, p.first ||| q.first, p.last ||| q.last⟩
def repM (m : Mach) (p : Pc) (c : Nat) : Mach := if c = 63 then m else linkM m p.last p.first
def repP (p : Pc) (c : Nat) : Pc := if c = 43 then p else ⟨true, p.first, p.last⟩
def classF (l : ByteArray) (a : Nat) (m : Mach) : Res :=
 match itemsF l (l.size + 1) (if sees l (a + 1) 94 = true then a + 2 else a + 1) 0 with
 | .bad pl => .bad pl 2
 | .ok a1 t => .ok (a1 + 1) (placeM m (if sees l (a + 1) 94 = true then notS t else t)) (placeP m)
def atomF (l : ByteArray) (grp : Nat → Mach → Res) (a : Nat) (m : Mach) : Res :=
 if by_ l a = 40 then grp a m
 else if by_ l a = 91 then classF l a m
 else if [93, 123, 125, 94, 36, 42, 43, 63].contains (by_ l a) = true then .bad a 2
 else if by_ l a = 46 then .ok (a + 1) (placeM m full) (placeP m)
 else match charF l a with
  | .bad pl => .bad pl 2
  | .ok a1 c => .ok a1 (placeM m (2 ^ c)) (placeP m)
def repL (l : ByteArray) : Nat → Nat → Mach → Pc → Res
 | 0, a, m, p => .ok a m p
 | k + 1, a, m, p => if seesAny l a [42, 43, 63] = true then repL l k (a + 1) (repM m p (by_ l a)) (repP p (by_ l a)) else .ok a m p
def repF (l : ByteArray) (grp : Nat → Mach → Res) (a : Nat) (m : Mach) : Res :=
 match atomF l grp a m with
 | .bad pl c => .bad pl c
 | .ok a1 m1 p => repL l (l.size + 1) a1 m1 p
def catL (l : ByteArray) (grp : Nat → Mach → Res) : Nat → Nat → Mach → Pc → Res
 | 0, a, m, p => .ok a m p
 | k + 1, a, m, p =>
   if a < l.size ∧ seesAny l a [124, 41] = false then
    match repF l grp a m with
    | .bad pl c => .bad pl c
    | .ok a1 m1 q => catL l grp k a1 (chainM m1 p q) (chainP p q)
   else .ok a m p
def catF (l : ByteArray) (grp : Nat → Mach → Res) (a : Nat) (m : Mach) : Res := catL l grp (l.size + 1) a m unit
def altL (l : ByteArray) (grp : Nat → Mach → Res) : Nat → Nat → Mach → Pc → Res
 | 0, a, m, p => .ok a m p
 | k + 1, a, m, p =>
   if sees l a 124 = true then
    match catF l grp (a + 1) m with
    | .bad pl c => .bad pl c
    | .ok a1 m1 q => altL l grp k a1 m1 (eitherP p q)
   else .ok a m p
def altF (l : ByteArray) (grp : Nat → Mach → Res) (a : Nat) (m : Mach) : Res :=
 match catF l grp a m with
 | .bad pl c => .bad pl c
 | .ok a1 m1 p => altL l grp (l.size + 1) a1 m1 p
def grpF (l : ByteArray) : Nat → Nat → Mach → Res
 | 0, a, _ => .bad a 12
 | d + 1, a, m =>
   match altF l (grpF l d) (a + 1) m with
   | .bad pl c => .bad pl c
   | .ok a1 m1 p => if sees l a1 41 = true then .ok (a1 + 1) m1 p else .bad a1 2
def readF (l : ByteArray) : Res :=
 if 200 < l.size then .bad 0 2
 else match altF l (grpF l 32) 0 ⟨[], []⟩ with
  | .bad pl c => .bad pl c
  | .ok a m p => if a = l.size then .ok a m p else .bad a 2
def PcIn (n : Nat) (p : Pc) : Prop := p.first < 2 ^ n ∧ p.last < 2 ^ n
theorem PcIn.mono {n k : Nat} {p : Pc} (h : PcIn n p) (hk : n ≤ k) : PcIn k p := ⟨Nat.lt_of_lt_of_le h.1 (two_le hk), Nat.lt_of_lt_of_le h.2 (two_le hk)⟩
theorem unit_in (n : Nat) : PcIn n unit := ⟨two_pos n, two_pos n⟩
theorem either_in {n : Nat} {p q : Pc} (hp : PcIn n p) (hq : PcIn n q) : PcIn n (eitherP p q) := ⟨Nat.or_lt_two_pow hp.1 hq.1, Nat.or_lt_two_pow hp.2 hq.2⟩
theorem chain_in {n : Nat} {p q : Pc} (hp : PcIn n p) (hq : PcIn n q) : PcIn n (chainP p q) := by
 refine ⟨?_, ?_⟩
 · show (if p.empty then p.first ||| q.first else p.first) < _
   split
   · exact Nat.or_lt_two_pow hp.1 hq.1
   · exact hp.1
 · show (if q.empty then q.last ||| p.last else q.last) < _
   split
   · exact Nat.or_lt_two_pow hq.2 hp.2
   · exact hq.2
theorem rep_in {n : Nat} {p : Pc} (hp : PcIn n p) (c : Nat) : PcIn n (repP p c) := by
 unfold repP
 split
 · exact hp
 · exact hp
def Good (m : Mach) : Prop := m.follow.length = m.takes.length ∧ (∀ f ∈ m.follow, f < 2 ^ m.takes.length) ∧ ∀ t ∈ m.takes, t < 2 ^ 256
theorem linkF_lt {n to : Nat} (ht : to < 2 ^ n) : ∀ (k : Nat) (r : List Nat) (fr : Nat), (∀ f ∈ r, f < 2 ^ n) → ∀ f ∈ linkF to k r fr, f < 2 ^ n
 | _, [], _, _, f, hf => by simp [linkF] at hf
 | k, g :: r, fr, h, f, hf => by
   simp only [linkF, List.mem_cons] at hf
   rcases hf with rfl | hf
   · split
     · exact Nat.or_lt_two_pow (h g (by simp)) ht
     · exact h g (by simp)
   · exact linkF_lt ht (k + 1) r fr (fun f hf => h f (by simp [hf])) f hf
theorem Good.link {m : Mach} (h : Good m) {to : Nat} (ht : to < 2 ^ m.takes.length) (fr : Nat) : Good (linkM m fr to) :=
 ⟨by show (linkF to 0 m.follow fr).length = _; rw [linkF_length]; exact h.1, linkF_lt ht 0 m.follow fr h.2.1, h.2.2⟩
theorem Good.chain {m : Mach} (h : Good m) {p q : Pc} (hp : PcIn m.takes.length p) (hq : PcIn m.takes.length q) : Good (chainM m p q) ∧ PcIn (chainM m p q).takes.length (chainP p q) := ⟨h.link hq.1 _, chain_in hp hq⟩
theorem Good.rep {m : Mach} (h : Good m) {p : Pc} (hp : PcIn m.takes.length p) (c : Nat) : Good (repM m p c) ∧ PcIn m.takes.length (repP p c) ∧ (repM m p c).takes.length = m.takes.length := by
 refine ⟨?_, rep_in hp c, ?_⟩
 · unfold repM
   split
   · exact h
   · exact h.link hp.1 _
 · unfold repM
   split <;> rfl
theorem Good.place {m : Mach} (h : Good m) {t : Nat} (ht : t < 2 ^ 256) : Good (placeM m t) ∧ PcIn (placeM m t).takes.length (placeP m) := by
 have e : (placeM m t).takes.length = m.takes.length + 1 := by simp [placeM]
 refine ⟨⟨?_, ?_, ?_⟩, ?_⟩
 · rw [e]; simp [placeM, h.1]
 · intro f hf
   rw [e]
   simp only [placeM, List.mem_append, List.mem_singleton] at hf
   rcases hf with hf | rfl
   · exact Nat.lt_of_lt_of_le (h.2.1 f hf) (two_le (by omega))
   · exact two_pos _
 · intro u hu
   simp only [placeM, List.mem_append, List.mem_singleton] at hu
   rcases hu with hu | rfl
   · exact h.2.2 u hu
   · exact ht
 · rw [e]; exact ⟨two_lt (by omega), two_lt (by omega)⟩
theorem good_nil : Good ⟨[], []⟩ := by
 refine ⟨rfl, ?_, ?_⟩ <;> intro f hf <;> simp at hf
def Fine (l : ByteArray) (a : Nat) (m : Mach) (a1 : Nat) (m1 : Mach) (p : Pc) : Prop :=
 a < a1 ∧ a1 ≤ l.size ∧ Good m1 ∧ PcIn m1.takes.length p ∧ m.takes.length ≤ m1.takes.length ∧ m1.takes.length + a ≤ a1 + m.takes.length
def FineW (l : ByteArray) (a : Nat) (m : Mach) (a1 : Nat) (m1 : Mach) (p : Pc) : Prop :=
 a ≤ a1 ∧ a1 ≤ l.size ∧ Good m1 ∧ PcIn m1.takes.length p ∧ m.takes.length ≤ m1.takes.length ∧ m1.takes.length + a ≤ a1 + m.takes.length
def FineG (l : ByteArray) (grp : Nat → Mach → Res) : Prop := ∀ a m, a < l.size → Good m → ∀ a1 m1 p, grp a m = .ok a1 m1 p → Fine l a m a1 m1 p
theorem notS_lt (t : Nat) : notS t < 2 ^ 256 := by
 unfold notS full; have := two_pos 256; omega
theorem place_fine {l : ByteArray} {a a1 t : Nat} {m : Mach} (hm : Good m) (ht : t < 2 ^ 256) (h1 : a < a1) (h2 : a1 ≤ l.size) : Fine l a m a1 (placeM m t) (placeP m) := by
 have g := hm.place ht
 have e : (placeM m t).takes.length = m.takes.length + 1 := by simp [placeM]
 exact ⟨h1, h2, g.1, g.2, by omega, by omega⟩
theorem class_fine {l : ByteArray} {a : Nat} {m : Mach} (hm : Good m) : ∀ a1 m1 p, classF l a m = .ok a1 m1 p → Fine l a m a1 m1 p := by
 intro a1 m1 p h
 unfold classF at h
 generalize hq : (if sees l (a + 1) 94 = true then a + 2 else a + 1) = q at h
 have hq' : a < q := by rw [← hq]; split <;> omega
 cases hi : itemsF l (l.size + 1) q 0 with
 | bad pl => rw [hi] at h; cases h
 | ok a2 t =>
   rw [hi] at h
   have k := itemsF_ok (two_pos 256) hi
   dsimp only at h
   injection h with h1 h2 h3
   subst h1; subst h2; subst h3
   refine place_fine hm ?_ (by omega) (by omega)
   split
   · exact notS_lt _
   · exact k.2.2
theorem atom_fine {l : ByteArray} {grp : Nat → Mach → Res} {a : Nat} {m : Mach} (hf : FineG l grp) (ha : a < l.size) (hm : Good m) : ∀ a1 m1 p, atomF l grp a m = .ok a1 m1 p → Fine l a m a1 m1 p := by
 intro a1 m1 p h
 unfold atomF at h
 split at h
 · exact hf a m ha hm a1 m1 p h
 · split at h
   · exact class_fine hm a1 m1 p h
   · split at h
     · cases h
     · split at h
       · injection h with h1 h2 h3
         subst h1; subst h2; subst h3
         exact place_fine hm (show full < 2 ^ 256 by unfold full; have := two_pos 256; omega) (by omega) (by omega)
       · cases hc : charF l a with
         | bad pl => rw [hc] at h; cases h
         | ok a2 c =>
           rw [hc] at h
           have k := charF_ok hc
           dsimp only at h
           injection h with h1 h2 h3
           subst h1; subst h2; subst h3
           exact place_fine hm (two_lt k.2.2) k.1 k.2.1
theorem repL_fine {l : ByteArray} : ∀ (k a : Nat) (m : Mach) (p : Pc), a ≤ l.size → Good m → PcIn m.takes.length p → ∀ a1 m1 q, repL l k a m p = .ok a1 m1 q → a ≤ a1 ∧ a1 ≤ l.size ∧ Good m1 ∧ PcIn m1.takes.length q ∧ m1.takes.length = m.takes.length
 | 0, a, m, p, ha, hm, hp, a1, m1, q, h => by
   unfold repL at h
   injection h with h1 h2 h3
   subst h1; subst h2; subst h3
   exact ⟨Nat.le_refl _, ha, hm, hp, rfl⟩
 | k + 1, a, m, p, ha, hm, hp, a1, m1, q, h => by
   unfold repL at h
   split at h
   · rename_i hs
     have g := hm.rep hp (by_ l a)
     have r := repL_fine k (a + 1) _ _ (seesAny_lt hs) g.1 (by rw [g.2.2]; exact g.2.1) a1 m1 q h
     exact ⟨by omega, r.2.1, r.2.2.1, r.2.2.2.1, r.2.2.2.2.trans g.2.2⟩
   · injection h with h1 h2 h3
     subst h1; subst h2; subst h3
     exact ⟨Nat.le_refl _, ha, hm, hp, rfl⟩
theorem rep_fine {l : ByteArray} {grp : Nat → Mach → Res} {a : Nat} {m : Mach} (hf : FineG l grp) (ha : a < l.size) (hm : Good m) : ∀ a1 m1 p, repF l grp a m = .ok a1 m1 p → Fine l a m a1 m1 p := by
 intro a1 m1 p h
 unfold repF at h
 cases hA : atomF l grp a m with
 | bad pl c => rw [hA] at h; cases h
 | ok a2 m2 q =>
   rw [hA] at h
   obtain ⟨f1, f2, f3, f4, f5, f6⟩ := atom_fine hf ha hm a2 m2 q hA
   dsimp only at h
   obtain ⟨r1, r2, r3, r4, r5⟩ := repL_fine _ a2 m2 q f2 f3 f4 a1 m1 p h
   exact ⟨by omega, r2, r3, r4, by omega, by omega⟩
theorem catL_fine {l : ByteArray} {grp : Nat → Mach → Res} (hf : FineG l grp) : ∀ (k a : Nat) (m : Mach) (p : Pc), a ≤ l.size → Good m → PcIn m.takes.length p → ∀ a1 m1 q, catL l grp k a m p = .ok a1 m1 q → FineW l a m a1 m1 q
 | 0, a, m, p, ha, hm, hp, a1, m1, q, h => by
   unfold catL at h
   injection h with h1 h2 h3
   subst h1; subst h2; subst h3
   exact ⟨Nat.le_refl _, ha, hm, hp, Nat.le_refl _, by omega⟩
 | k + 1, a, m, p, ha, hm, hp, a1, m1, q, h => by
   unfold catL at h
   split at h
   · rename_i hs
     cases hA : repF l grp a m with
     | bad pl c => rw [hA] at h; cases h
     | ok a2 m2 r =>
       rw [hA] at h
       obtain ⟨f1, f2, f3, f4, f5, f6⟩ := rep_fine hf hs.1 hm a2 m2 r hA
       have g := f3.chain (hp.mono f5) f4
       have e : (chainM m2 p r).takes.length = m2.takes.length := rfl
       dsimp only at h
       obtain ⟨r1, r2, r3, r4, r5, r6⟩ := catL_fine hf k a2 _ _ f2 g.1 g.2 a1 m1 q h
       exact ⟨by omega, r2, r3, r4, by omega, by omega⟩
   · injection h with h1 h2 h3
     subst h1; subst h2; subst h3
     exact ⟨Nat.le_refl _, ha, hm, hp, Nat.le_refl _, by omega⟩
theorem cat_fine {l : ByteArray} {grp : Nat → Mach → Res} {a : Nat} {m : Mach} (hf : FineG l grp) (ha : a ≤ l.size) (hm : Good m) : ∀ a1 m1 p, catF l grp a m = .ok a1 m1 p → FineW l a m a1 m1 p := catL_fine hf _ a m unit ha hm (unit_in _)
theorem altL_fine {l : ByteArray} {grp : Nat → Mach → Res} (hf : FineG l grp) : ∀ (k a : Nat) (m : Mach) (p : Pc), a ≤ l.size → Good m → PcIn m.takes.length p → ∀ a1 m1 q, altL l grp k a m p = .ok a1 m1 q → FineW l a m a1 m1 q
 | 0, a, m, p, ha, hm, hp, a1, m1, q, h => by
   unfold altL at h
   injection h with h1 h2 h3
   subst h1; subst h2; subst h3
   exact ⟨Nat.le_refl _, ha, hm, hp, Nat.le_refl _, by omega⟩
 | k + 1, a, m, p, ha, hm, hp, a1, m1, q, h => by
   unfold altL at h
   split at h
   · rename_i hs
     cases hA : catF l grp (a + 1) m with
     | bad pl c => rw [hA] at h; cases h
     | ok a2 m2 r =>
       rw [hA] at h
       obtain ⟨f1, f2, f3, f4, f5, f6⟩ := cat_fine hf (sees_lt hs) hm a2 m2 r hA
       dsimp only at h
       obtain ⟨r1, r2, r3, r4, r5, r6⟩ := altL_fine hf k a2 _ _ f2 f3 (either_in (hp.mono f5) f4) a1 m1 q h
       exact ⟨by omega, r2, r3, r4, by omega, by omega⟩
   · injection h with h1 h2 h3
     subst h1; subst h2; subst h3
     exact ⟨Nat.le_refl _, ha, hm, hp, Nat.le_refl _, by omega⟩
theorem alt_fine {l : ByteArray} {grp : Nat → Mach → Res} {a : Nat} {m : Mach} (hf : FineG l grp) (ha : a ≤ l.size) (hm : Good m) : ∀ a1 m1 p, altF l grp a m = .ok a1 m1 p → FineW l a m a1 m1 p := by
 intro a1 m1 p h
 unfold altF at h
 cases hA : catF l grp a m with
 | bad pl c => rw [hA] at h; cases h
 | ok a2 m2 r =>
   rw [hA] at h
   obtain ⟨f1, f2, f3, f4, f5, f6⟩ := cat_fine hf ha hm a2 m2 r hA
   dsimp only at h
   obtain ⟨r1, r2, r3, r4, r5, r6⟩ := altL_fine hf _ a2 m2 r f2 f3 f4 a1 m1 p h
   exact ⟨by omega, r2, r3, r4, by omega, by omega⟩
theorem grp_fine (l : ByteArray) : ∀ d, FineG l (grpF l d)
 | 0 => fun a m ha hm a1 m1 p h => by cases h
 | d + 1 => fun a m ha hm a1 m1 p h => by
   unfold grpF at h
   cases hA : altF l (grpF l d) (a + 1) m with
   | bad pl c => rw [hA] at h; cases h
   | ok a2 m2 r =>
     rw [hA] at h
     obtain ⟨f1, f2, f3, f4, f5, f6⟩ := alt_fine (grp_fine l d) ha hm a2 m2 r hA
     dsimp only at h
     split at h
     · rename_i hs
       have := sees_lt hs
       injection h with h1 h2 h3
       subst h1; subst h2; subst h3
       exact ⟨by omega, by omega, f3, f4, f5, by omega⟩
     · cases h
def wd (n i : Nat) : Nat := n / 2 ^ (64 * i) % 2 ^ 64
theorem wd_lt (n i : Nat) : wd n i < 18446744073709551616 := Nat.mod_lt _ (by decide)
theorem wd_bit (n i j : Nat) : (wd n i).testBit j = (decide (j < 64) && n.testBit (64 * i + j)) := by
 unfold wd
 rw [Nat.testBit_mod_two_pow, Nat.testBit_div_two_pow, Nat.add_comm]
theorem wd_or (n m i : Nat) : wd (n ||| m) i = wd n i ||| wd m i := by
 apply Nat.eq_of_testBit_eq
 intro j
 rw [Nat.testBit_or, wd_bit, wd_bit, wd_bit, Nat.testBit_or]
 cases decide (j < 64) <;> simp
theorem wd_zero (i : Nat) : wd 0 i = 0 := by unfold wd; simp
theorem notS_bit (n k : Nat) (hn : n < 2 ^ 256) : (notS n).testBit k = (decide (k < 256) && !n.testBit k) := by
 have e : notS n = 2 ^ 256 - (n + 1) := by unfold notS full; omega
 rw [e, Nat.testBit_two_pow_sub_succ hn]
theorem wd_not (n i : Nat) (hn : n < 2 ^ 256) (hi : i < 4) : wd (notS n) i = 18446744073709551615 - wd n i := by
 have h := wd_lt n i
 have e : 18446744073709551615 - wd n i = 2 ^ 64 - (wd n i + 1) := by omega
 rw [e]
 apply Nat.eq_of_testBit_eq
 intro j
 rw [Nat.testBit_two_pow_sub_succ h, wd_bit, wd_bit, notS_bit _ _ hn]
 by_cases hj : j < 64
 · simp [hj, show 64 * i + j < 256 by omega]
 · simp [hj]
theorem wd_add (n k : Nat) : wd (n ||| 2 ^ k) (k / 64) = wd n (k / 64) ||| 2 ^ (k % 64) := by
 apply Nat.eq_of_testBit_eq
 intro j
 rw [Nat.testBit_or, wd_bit, wd_bit, Nat.testBit_or, Nat.testBit_two_pow, Nat.testBit_two_pow]
 by_cases hj : j < 64
 · have : decide (k = 64 * (k / 64) + j) = decide (k % 64 = j) := by rw [Bool.eq_iff_iff]; simp; omega
   rw [this]; simp [hj]
 · have : decide (k % 64 = j) = false := by simp; omega
   rw [this]; simp [hj]
theorem wd_add_ne (n k i : Nat) (h : i ≠ k / 64) : wd (n ||| 2 ^ k) i = wd n i := by
 apply Nat.eq_of_testBit_eq
 intro j
 rw [wd_bit, wd_bit, Nat.testBit_or, Nat.testBit_two_pow]
 by_cases hj : j < 64
 · have : decide (k = 64 * i + j) = false := by simp; omega
   rw [this]; simp
 · simp [hj]
theorem low_form : ∀ x : Nat, x ≠ 0 → ∃ t q, x = 2 ^ t * (2 * q + 1) := by
 intro x
 induction x using Nat.strongRecOn with
 | _ x ih =>
   intro hx
   by_cases h : x % 2 = 1
   · exact ⟨0, x / 2, by simp; omega⟩
   · obtain ⟨t, q, e⟩ := ih (x / 2) (by omega) (by omega)
     refine ⟨t + 1, q, ?_⟩
     rw [Nat.pow_succ, Nat.mul_right_comm, ← e]
     omega
theorem form_bit (t a j : Nat) : (2 ^ t * a).testBit j = (decide (t ≤ j) && a.testBit (j - t)) := by
 rw [Nat.testBit_two_pow_mul]
theorem pred_bit (t q j : Nat) : (2 ^ t * (2 * q + 1) - 1).testBit j = (if j < t then true else (2 * q).testBit (j - t)) := by
 have e : 2 ^ t * (2 * q + 1) - 1 = 2 ^ t * (2 * q) + (2 ^ t - 1) := by
  have := two_pos t
  rw [Nat.mul_add, Nat.mul_one]
  omega
 rw [e, Nat.testBit_two_pow_mul_add _ (by have := two_pos t; omega)]
 split
 · rename_i h
   rw [Nat.testBit_two_pow_sub_one]
   simp [h]
 · rfl
theorem odd_bit (q m : Nat) : ((2 * q + 1).testBit m && (2 * q).testBit m) = (2 * q).testBit m := by
 cases m with
 | zero => simp
 | succ m =>
   rw [Nat.testBit_succ, Nat.testBit_succ, show (2 * q + 1) / 2 = 2 * q / 2 by omega]
   simp
theorem and_pred (t q : Nat) : 2 ^ t * (2 * q + 1) &&& (2 ^ t * (2 * q + 1) - 1) = 2 ^ t * (2 * q) := by
 apply Nat.eq_of_testBit_eq
 intro j
 rw [Nat.testBit_and, form_bit, form_bit, pred_bit]
 by_cases h : j < t
 · have : decide (t ≤ j) = false := by simp; omega
   simp [this]
 · rw [if_neg h, Bool.and_assoc, odd_bit]
theorem and_neg (t q : Nat) (h : 2 ^ t * (2 * q + 1) < 18446744073709551616) : 2 ^ t * (2 * q + 1) &&& (18446744073709551616 - 2 ^ t * (2 * q + 1)) = 2 ^ t := by
 have hp : 0 < 2 ^ t * (2 * q + 1) := Nat.mul_pos (two_pos t) (by omega)
 have e : 18446744073709551616 - 2 ^ t * (2 * q + 1) = 2 ^ 64 - ((2 ^ t * (2 * q + 1) - 1) + 1) := by
  generalize 2 ^ t * (2 * q + 1) = x at *
  omega
 have ht : t < 64 := by
  rcases Nat.lt_or_ge t 64 with h1 | h1
  · exact h1
  · have : 2 ^ 64 ≤ 2 ^ t := two_le h1
    have : 2 ^ t ≤ 2 ^ t * (2 * q + 1) := Nat.le_mul_of_pos_right _ (by omega)
    omega
 apply Nat.eq_of_testBit_eq
 intro j
 rw [e, Nat.testBit_and, Nat.testBit_two_pow_sub_succ (by generalize 2 ^ t * (2 * q + 1) = x at *; omega), form_bit, pred_bit, Nat.testBit_two_pow]
 by_cases h1 : j < t
 · have : decide (t ≤ j) = false := by simp; omega
   have h2 : decide (t = j) = false := by simp; omega
   simp [this, h2]
 · rw [if_neg h1]
   by_cases h2 : t = j
   · subst h2; simp [ht]
   · have h3 : decide (t = j) = false := by simp [h2]
     obtain ⟨m, hm⟩ : ∃ m, j - t = m + 1 := ⟨j - t - 1, by omega⟩
     rw [h3, hm, Nat.testBit_succ, Nat.testBit_succ, show (2 * q + 1) / 2 = 2 * q / 2 by omega]
     cases (2 * q / 2).testBit m <;> simp
theorem low_lt (t q : Nat) (h : 2 ^ t * (2 * q + 1) < 18446744073709551616) : t < 64 := by
 rcases Nat.lt_or_ge t 64 with h1 | h1
 · exact h1
 · have : 2 ^ 64 ≤ 2 ^ t := two_le h1
   have : 2 ^ t ≤ 2 ^ t * (2 * q + 1) := Nat.le_mul_of_pos_right _ (by omega)
   omega
def from_ (n k : Nat) : Nat := n / 2 ^ k * 2 ^ k
theorem from_bit (n k j : Nat) : (from_ n k).testBit j = (decide (k ≤ j) && n.testBit j) := by
 unfold from_
 rw [Nat.testBit_mul_two_pow, Nat.testBit_div_two_pow]
 by_cases h : k ≤ j
 · simp [h]
 · simp [h]
theorem word_from (n i : Nat) : wd (from_ n (64 * i)) i = wd n i := by
 apply Nat.eq_of_testBit_eq
 intro j
 rw [wd_bit, wd_bit, from_bit]
 have : decide (64 * i ≤ 64 * i + j) = true := by simp
 rw [this, Bool.true_and]
theorem word_none (n c i : Nat) (h : wd (from_ n c) i = 0) (hc : 64 * i ≤ c) : ∀ j, c ≤ j → j < 64 * (i + 1) → n.testBit j = false := by
 intro j h1 h2
 have e := congrArg (fun x => Nat.testBit x (j - 64 * i)) h
 simp only [Nat.zero_testBit] at e
 rw [wd_bit, from_bit, show 64 * i + (j - 64 * i) = j by omega] at e
 have a1 : decide (j - 64 * i < 64) = true := by simp; omega
 have a2 : decide (c ≤ j) = true := by simp; omega
 rw [a1, a2] at e
 simpa using e
theorem word_next (n c i t q : Nat) (h : wd (from_ n c) i = 2 ^ t * (2 * q + 1)) (hc : 64 * i ≤ c) :
 t < 64 ∧ c ≤ 64 * i + t ∧ n.testBit (64 * i + t) = true ∧ (∀ j, c ≤ j → j < 64 * i + t → n.testBit j = false) ∧ 2 ^ t * (2 * q) = wd (from_ n (64 * i + t + 1)) i := by
 have hb : ∀ j, (wd (from_ n c) i).testBit j = (decide (t ≤ j) && (2 * q + 1).testBit (j - t)) := fun j => by rw [h, form_bit]
 have ht := low_lt t q (by rw [← h]; exact wd_lt _ _)
 have h0 := hb t
 rw [wd_bit, from_bit] at h0
 have e1 : (decide (t ≤ t) && (2 * q + 1).testBit (t - t)) = true := by simp
 rw [e1] at h0
 simp only [Bool.and_eq_true, decide_eq_true_eq] at h0
 refine ⟨ht, h0.2.1, h0.2.2, fun j h1 h2 => ?_, ?_⟩
 · have e := hb (j - 64 * i)
   rw [wd_bit, from_bit, show 64 * i + (j - 64 * i) = j by omega] at e
   have a1 : decide (j - 64 * i < 64) = true := by simp; omega
   have a2 : decide (c ≤ j) = true := by simp; omega
   have a3 : decide (t ≤ j - 64 * i) = false := by simp; omega
   rw [a1, a2, a3] at e
   simpa using e
 · apply Nat.eq_of_testBit_eq
   intro j
   have e := hb j
   rw [wd_bit, from_bit] at e
   rw [form_bit, wd_bit, from_bit]
   by_cases h1 : j ≤ t
   · have a1 : decide (64 * i + t + 1 ≤ 64 * i + j) = false := by simp; omega
     rw [a1]
     by_cases h2 : j = t
     · subst h2; simp
     · have a2 : decide (t ≤ j) = false := by simp; omega
       rw [a2]; simp
   · have a1 : decide (64 * i + t + 1 ≤ 64 * i + j) = true := by simp; omega
     have a2 : decide (t ≤ j) = true := by simp; omega
     have a3 : decide (c ≤ 64 * i + j) = true := by simp; omega
     obtain ⟨m, hm⟩ : ∃ m, j - t = m + 1 := ⟨j - t - 1, by omega⟩
     rw [a2, a3, hm, Nat.testBit_succ, show (2 * q + 1) / 2 = 2 * q / 2 by omega] at e
     rw [a1, a2, hm, Nat.testBit_succ]
     simpa using e.symm
theorem linkF_snoc (to : Nat) : ∀ (k : Nat) (r : List Nat) (f fr : Nat), linkF to k (r ++ [f]) fr = linkF to k r fr ++ [if fr.testBit (k + r.length) then f ||| to else f]
 | k, [], f, fr => by simp [linkF]
 | k, g :: r, f, fr => by
   simp only [List.cons_append, linkF, linkF_snoc to (k + 1) r f fr, List.length_cons]
   rw [show k + 1 + r.length = k + (r.length + 1) by omega]
def linkP (to fr : Nat) (l : List Nat) (j : Nat) : List Nat := linkF to 0 (l.take j) fr ++ l.drop j
theorem linkP_zero (to fr : Nat) (l : List Nat) : linkP to fr l 0 = l := by simp [linkP, linkF]
theorem linkP_end (to fr : Nat) (l : List Nat) (j : Nat) (h : l.length ≤ j) : linkP to fr l j = linkF to 0 l fr := by
 unfold linkP; rw [List.take_of_length_le h, List.drop_eq_nil_of_le h, List.append_nil]
theorem linkP_length (to fr : Nat) (l : List Nat) (j : Nat) : (linkP to fr l j).length = l.length := by
 unfold linkP; rw [List.length_append, linkF_length, List.length_take, List.length_drop]; omega
theorem linkP_getD (to fr : Nat) (l : List Nat) (j : Nat) (h : j < l.length) : (linkP to fr l j).getD j 0 = l.getD j 0 := by
 unfold linkP
 rw [List.getD_eq_getElem?_getD, List.getElem?_append_right (by rw [linkF_length, List.length_take]; omega), linkF_length, List.length_take, List.getElem?_drop, List.getD_eq_getElem?_getD]
 congr 2; omega
theorem linkP_skip (to fr : Nat) (l : List Nat) (j : Nat) (h : fr.testBit j = false) : linkP to fr l (j + 1) = linkP to fr l j := by
 by_cases hj : j < l.length
 · unfold linkP
   rw [List.take_succ_eq_append_getElem hj, linkF_snoc, List.length_take, show 0 + min j l.length = j by omega, h, List.append_assoc]
   congr 1
   rw [List.drop_eq_getElem_cons hj]
   rfl
 · rw [linkP_end _ _ _ _ (by omega), linkP_end _ _ _ _ (by omega)]
theorem linkP_step (to fr : Nat) (l : List Nat) (j : Nat) (h : fr.testBit j = true) (hj : j < l.length) : linkP to fr l (j + 1) = (linkP to fr l j).set j (l.getD j 0 ||| to) := by
 unfold linkP
 rw [List.take_succ_eq_append_getElem hj, linkF_snoc, List.length_take, show 0 + min j l.length = j by omega, h, List.append_assoc]
 rw [List.set_append_right _ _ (by rw [linkF_length, List.length_take]; omega), linkF_length, List.length_take, show j - min j l.length = 0 by omega]
 have e : l.getD j 0 = l[j] := by simp [hj]
 conv => rhs; rw [List.drop_eq_getElem_cons hj, List.set_cons_zero]
 rw [e]
 rfl
theorem bit_lt {n k t : Nat} (h : t < 2 ^ n) (hk : t.testBit k = true) : k < n := by
 rcases Nat.lt_or_ge k n with h1 | h1
 · exact h1
 · rw [Nat.testBit_lt_two_pow (Nat.lt_of_lt_of_le h (two_le h1))] at hk; cases hk
def behP (m : Mach) (lst nx c : Nat) : Nat → Nat × Bool
 | 0 => (0, false)
 | j + 1 => if nx.testBit j = true ∧ (m.takes.getD j 0).testBit c = true then ((behP m lst nx c j).1 ||| m.follow.getD j 0, (behP m lst nx c j).2 || lst.testBit j) else behP m lst nx c j
def behF (m : Mach) (lst nx c : Nat) : Nat × Bool := behP m lst nx c 256
def runL (m : Mach) (lst : Nat) (s : ByteArray) : Nat → Nat → Nat × Bool → Bool
 | 0, _, now => now.2
 | n + 1, k, now => if now.1 = 0 then false else runL m lst s n (k + 1) (behF m lst now.1 (by_ s k))
def runF (m : Mach) (p : Pc) (s : ByteArray) : Bool := runL m p.last s s.size 0 (p.first, p.empty)
end Go.Proofs.YticmkabafmmlhaaGreatDoor.Rx

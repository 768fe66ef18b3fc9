/- Machines that the reader makes are right ones: as many links as places, sets of no more than there are. No condition. -/
import Derived.Test.YtahphjaelpgjdaaDoorX1
namespace Go.Proofs.YtahphjaelpgjdaaDoor.Rx
open Go

def PcIn (n : Nat) (p : Pc) : Prop := p.first < 2 ^ n ∧ p.last < 2 ^ n
theorem PcIn.mono {n k : Nat} {p : Pc} (h : PcIn n p) (hk : n ≤ k) : PcIn k p := ⟨Nat.lt_of_lt_of_le h.1 (two_le hk), Nat.lt_of_lt_of_le h.2 (two_le hk)⟩
theorem unit_in (n : Nat) : PcIn n unit := ⟨two_pos n, two_pos n⟩
theorem either_in {n : Nat} {p q : Pc} (hp : PcIn n p) (hq : PcIn n q) : PcIn n (eitherP p q) := ⟨Nat.or_lt_two_pow hp.1 hq.1, Nat.or_lt_two_pow hp.2 hq.2⟩
theorem chain_in {n : Nat} {p q : Pc} (hp : PcIn n p) (hq : PcIn n q) : PcIn n (chainP p q) := by
  refine ⟨?_, ?_⟩
  · show (if p.empty then p.first ||| q.first else p.first) < _
    split
    · exact Nat.or_lt_two_pow hp.1 hq.1
    · exact hp.1
  · show (if q.empty then q.last ||| p.last else q.last) < _
    split
    · exact Nat.or_lt_two_pow hq.2 hp.2
    · exact hq.2
theorem rep_in {n : Nat} {p : Pc} (hp : PcIn n p) (c : Nat) : PcIn n (repP p c) := by
  unfold repP
  split
  · exact hp
  · exact hp
def Good (m : Mach) : Prop := m.follow.length = m.takes.length ∧ (∀ f ∈ m.follow, f < 2 ^ m.takes.length) ∧ ∀ t ∈ m.takes, t < 2 ^ 256
theorem linkF_lt {n to : Nat} (ht : to < 2 ^ n) : ∀ (k : Nat) (r : List Nat) (fr : Nat), (∀ f ∈ r, f < 2 ^ n) → ∀ f ∈ linkF to k r fr, f < 2 ^ n
  | _, [], _, _, f, hf => by simp [linkF] at hf
  | k, g :: r, fr, h, f, hf => by
    simp only [linkF, List.mem_cons] at hf
    rcases hf with rfl | hf
    · split
      · exact Nat.or_lt_two_pow (h g (by simp)) ht
      · exact h g (by simp)
    · exact linkF_lt ht (k + 1) r fr (fun f hf => h f (by simp [hf])) f hf
theorem Good.link {m : Mach} (h : Good m) {to : Nat} (ht : to < 2 ^ m.takes.length) (fr : Nat) : Good (linkM m fr to) :=
  ⟨by show (linkF to 0 m.follow fr).length = _; rw [linkF_length]; exact h.1, linkF_lt ht 0 m.follow fr h.2.1, h.2.2⟩
theorem Good.chain {m : Mach} (h : Good m) {p q : Pc} (hp : PcIn m.takes.length p) (hq : PcIn m.takes.length q) : Good (chainM m p q) ∧ PcIn (chainM m p q).takes.length (chainP p q) := ⟨h.link hq.1 _, chain_in hp hq⟩
theorem Good.rep {m : Mach} (h : Good m) {p : Pc} (hp : PcIn m.takes.length p) (c : Nat) : Good (repM m p c) ∧ PcIn m.takes.length (repP p c) ∧ (repM m p c).takes.length = m.takes.length := by
  refine ⟨?_, rep_in hp c, ?_⟩
  · unfold repM
    split
    · exact h
    · exact h.link hp.1 _
  · unfold repM
    split <;> rfl
theorem Good.place {m : Mach} (h : Good m) {t : Nat} (ht : t < 2 ^ 256) : Good (placeM m t) ∧ PcIn (placeM m t).takes.length (placeP m) := by
  have e : (placeM m t).takes.length = m.takes.length + 1 := by simp [placeM]
  refine ⟨⟨?_, ?_, ?_⟩, ?_⟩
  · rw [e]; simp [placeM, h.1]
  · intro f hf
    rw [e]
    simp only [placeM, List.mem_append, List.mem_singleton] at hf
    rcases hf with hf | rfl
    · exact Nat.lt_of_lt_of_le (h.2.1 f hf) (two_le (by omega))
    · exact two_pos _
  · intro u hu
    simp only [placeM, List.mem_append, List.mem_singleton] at hu
    rcases hu with hu | rfl
    · exact h.2.2 u hu
    · exact ht
  · rw [e]; exact ⟨two_lt (by omega), two_lt (by omega)⟩
theorem good_nil : Good ⟨[], []⟩ := by
  refine ⟨rfl, ?_, ?_⟩ <;> intro f hf <;> simp at hf

/-- what a reader's answer is like: it goes on, or (weak) stays -/
def Fine (l : ByteArray) (a : Nat) (m : Mach) (a1 : Nat) (m1 : Mach) (p : Pc) : Prop :=
  a < a1 ∧ a1 ≤ l.size ∧ Good m1 ∧ PcIn m1.takes.length p ∧ m.takes.length ≤ m1.takes.length ∧ m1.takes.length + a ≤ a1 + m.takes.length
def FineW (l : ByteArray) (a : Nat) (m : Mach) (a1 : Nat) (m1 : Mach) (p : Pc) : Prop :=
  a ≤ a1 ∧ a1 ≤ l.size ∧ Good m1 ∧ PcIn m1.takes.length p ∧ m.takes.length ≤ m1.takes.length ∧ m1.takes.length + a ≤ a1 + m.takes.length
def FineG (l : ByteArray) (grp : Nat → Mach → Res) : Prop := ∀ a m, a < l.size → Good m → ∀ a1 m1 p, grp a m = .ok a1 m1 p → Fine l a m a1 m1 p
theorem notS_lt (t : Nat) : notS t < 2 ^ 256 := by
  unfold notS full; have := two_pos 256; omega
theorem place_fine {l : ByteArray} {a a1 t : Nat} {m : Mach} (hm : Good m) (ht : t < 2 ^ 256) (h1 : a < a1) (h2 : a1 ≤ l.size) : Fine l a m a1 (placeM m t) (placeP m) := by
  have g := hm.place ht
  have e : (placeM m t).takes.length = m.takes.length + 1 := by simp [placeM]
  exact ⟨h1, h2, g.1, g.2, by omega, by omega⟩
theorem class_fine {l : ByteArray} {a : Nat} {m : Mach} (hm : Good m) : ∀ a1 m1 p, classF l a m = .ok a1 m1 p → Fine l a m a1 m1 p := by
  intro a1 m1 p h
  unfold classF at h
  generalize hq : (if sees l (a + 1) 94 = true then a + 2 else a + 1) = q at h
  have hq' : a < q := by rw [← hq]; split <;> omega
  cases hi : itemsF l (l.size + 1) q 0 with
  | bad pl => rw [hi] at h; cases h
  | ok a2 t =>
    rw [hi] at h
    have k := itemsF_ok (two_pos 256) hi
    dsimp only at h
    injection h with h1 h2 h3
    subst h1; subst h2; subst h3
    refine place_fine hm ?_ (by omega) (by omega)
    split
    · exact notS_lt _
    · exact k.2.2
theorem atom_fine {l : ByteArray} {grp : Nat → Mach → Res} {a : Nat} {m : Mach} (hf : FineG l grp) (ha : a < l.size) (hm : Good m) : ∀ a1 m1 p, atomF l grp a m = .ok a1 m1 p → Fine l a m a1 m1 p := by
  intro a1 m1 p h
  unfold atomF at h
  split at h
  · exact hf a m ha hm a1 m1 p h
  · split at h
    · exact class_fine hm a1 m1 p h
    · split at h
      · cases h
      · split at h
        · injection h with h1 h2 h3
          subst h1; subst h2; subst h3
          exact place_fine hm (show full < 2 ^ 256 by unfold full; have := two_pos 256; omega) (by omega) (by omega)
        · cases hc : charF l a with
          | bad pl => rw [hc] at h; cases h
          | ok a2 c =>
            rw [hc] at h
            have k := charF_ok hc
            dsimp only at h
            injection h with h1 h2 h3
            subst h1; subst h2; subst h3
            exact place_fine hm (two_lt k.2.2) k.1 k.2.1
theorem repL_fine {l : ByteArray} : ∀ (k a : Nat) (m : Mach) (p : Pc), a ≤ l.size → Good m → PcIn m.takes.length p → ∀ a1 m1 q, repL l k a m p = .ok a1 m1 q → a ≤ a1 ∧ a1 ≤ l.size ∧ Good m1 ∧ PcIn m1.takes.length q ∧ m1.takes.length = m.takes.length
  | 0, a, m, p, ha, hm, hp, a1, m1, q, h => by
    unfold repL at h
    injection h with h1 h2 h3
    subst h1; subst h2; subst h3
    exact ⟨Nat.le_refl _, ha, hm, hp, rfl⟩
  | k + 1, a, m, p, ha, hm, hp, a1, m1, q, h => by
    unfold repL at h
    split at h
    · rename_i hs
      have g := hm.rep hp (by_ l a)
      have r := repL_fine k (a + 1) _ _ (seesAny_lt hs) g.1 (by rw [g.2.2]; exact g.2.1) a1 m1 q h
      exact ⟨by omega, r.2.1, r.2.2.1, r.2.2.2.1, r.2.2.2.2.trans g.2.2⟩
    · injection h with h1 h2 h3
      subst h1; subst h2; subst h3
      exact ⟨Nat.le_refl _, ha, hm, hp, rfl⟩
theorem rep_fine {l : ByteArray} {grp : Nat → Mach → Res} {a : Nat} {m : Mach} (hf : FineG l grp) (ha : a < l.size) (hm : Good m) : ∀ a1 m1 p, repF l grp a m = .ok a1 m1 p → Fine l a m a1 m1 p := by
  intro a1 m1 p h
  unfold repF at h
  cases hA : atomF l grp a m with
  | bad pl c => rw [hA] at h; cases h
  | ok a2 m2 q =>
    rw [hA] at h
    obtain ⟨f1, f2, f3, f4, f5, f6⟩ := atom_fine hf ha hm a2 m2 q hA
    dsimp only at h
    obtain ⟨r1, r2, r3, r4, r5⟩ := repL_fine _ a2 m2 q f2 f3 f4 a1 m1 p h
    exact ⟨by omega, r2, r3, r4, by omega, by omega⟩
theorem catL_fine {l : ByteArray} {grp : Nat → Mach → Res} (hf : FineG l grp) : ∀ (k a : Nat) (m : Mach) (p : Pc), a ≤ l.size → Good m → PcIn m.takes.length p → ∀ a1 m1 q, catL l grp k a m p = .ok a1 m1 q → FineW l a m a1 m1 q
  | 0, a, m, p, ha, hm, hp, a1, m1, q, h => by
    unfold catL at h
    injection h with h1 h2 h3
    subst h1; subst h2; subst h3
    exact ⟨Nat.le_refl _, ha, hm, hp, Nat.le_refl _, by omega⟩
  | k + 1, a, m, p, ha, hm, hp, a1, m1, q, h => by
    unfold catL at h
    split at h
    · rename_i hs
      cases hA : repF l grp a m with
      | bad pl c => rw [hA] at h; cases h
      | ok a2 m2 r =>
        rw [hA] at h
        obtain ⟨f1, f2, f3, f4, f5, f6⟩ := rep_fine hf hs.1 hm a2 m2 r hA
        have g := f3.chain (hp.mono f5) f4
        have e : (chainM m2 p r).takes.length = m2.takes.length := rfl
        dsimp only at h
        obtain ⟨r1, r2, r3, r4, r5, r6⟩ := catL_fine hf k a2 _ _ f2 g.1 g.2 a1 m1 q h
        exact ⟨by omega, r2, r3, r4, by omega, by omega⟩
    · injection h with h1 h2 h3
      subst h1; subst h2; subst h3
      exact ⟨Nat.le_refl _, ha, hm, hp, Nat.le_refl _, by omega⟩
theorem cat_fine {l : ByteArray} {grp : Nat → Mach → Res} {a : Nat} {m : Mach} (hf : FineG l grp) (ha : a ≤ l.size) (hm : Good m) : ∀ a1 m1 p, catF l grp a m = .ok a1 m1 p → FineW l a m a1 m1 p := catL_fine hf _ a m unit ha hm (unit_in _)
theorem altL_fine {l : ByteArray} {grp : Nat → Mach → Res} (hf : FineG l grp) : ∀ (k a : Nat) (m : Mach) (p : Pc), a ≤ l.size → Good m → PcIn m.takes.length p → ∀ a1 m1 q, altL l grp k a m p = .ok a1 m1 q → FineW l a m a1 m1 q
  | 0, a, m, p, ha, hm, hp, a1, m1, q, h => by
    unfold altL at h
    injection h with h1 h2 h3
    subst h1; subst h2; subst h3
    exact ⟨Nat.le_refl _, ha, hm, hp, Nat.le_refl _, by omega⟩
  | k + 1, a, m, p, ha, hm, hp, a1, m1, q, h => by
    unfold altL at h
    split at h
    · rename_i hs
      cases hA : catF l grp (a + 1) m with
      | bad pl c => rw [hA] at h; cases h
      | ok a2 m2 r =>
        rw [hA] at h
        obtain ⟨f1, f2, f3, f4, f5, f6⟩ := cat_fine hf (sees_lt hs) hm a2 m2 r hA
        dsimp only at h
        obtain ⟨r1, r2, r3, r4, r5, r6⟩ := altL_fine hf k a2 _ _ f2 f3 (either_in (hp.mono f5) f4) a1 m1 q h
        exact ⟨by omega, r2, r3, r4, by omega, by omega⟩
    · injection h with h1 h2 h3
      subst h1; subst h2; subst h3
      exact ⟨Nat.le_refl _, ha, hm, hp, Nat.le_refl _, by omega⟩
theorem alt_fine {l : ByteArray} {grp : Nat → Mach → Res} {a : Nat} {m : Mach} (hf : FineG l grp) (ha : a ≤ l.size) (hm : Good m) : ∀ a1 m1 p, altF l grp a m = .ok a1 m1 p → FineW l a m a1 m1 p := by
  intro a1 m1 p h
  unfold altF at h
  cases hA : catF l grp a m with
  | bad pl c => rw [hA] at h; cases h
  | ok a2 m2 r =>
    rw [hA] at h
    obtain ⟨f1, f2, f3, f4, f5, f6⟩ := cat_fine hf ha hm a2 m2 r hA
    dsimp only at h
    obtain ⟨r1, r2, r3, r4, r5, r6⟩ := altL_fine hf _ a2 m2 r f2 f3 f4 a1 m1 p h
    exact ⟨by omega, r2, r3, r4, by omega, by omega⟩
theorem grp_fine (l : ByteArray) : ∀ d, FineG l (grpF l d)
  | 0 => fun a m ha hm a1 m1 p h => by cases h
  | d + 1 => fun a m ha hm a1 m1 p h => by
    unfold grpF at h
    cases hA : altF l (grpF l d) (a + 1) m with
    | bad pl c => rw [hA] at h; cases h
    | ok a2 m2 r =>
      rw [hA] at h
      obtain ⟨f1, f2, f3, f4, f5, f6⟩ := alt_fine (grp_fine l d) ha hm a2 m2 r hA
      dsimp only at h
      split at h
      · rename_i hs
        have := sees_lt hs
        injection h with h1 h2 h3
        subst h1; subst h2; subst h3
        exact ⟨by omega, by omega, f3, f4, f5, by omega⟩
      · cases h
end Go.Proofs.YtahphjaelpgjdaaDoor.Rx

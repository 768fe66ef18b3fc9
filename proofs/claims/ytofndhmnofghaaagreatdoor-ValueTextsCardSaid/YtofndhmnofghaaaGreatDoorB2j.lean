/- Lemmas. No condition. -/
import Derived.Test.YtofndhmnofghaaaGreatDoorA4j
import Derived.WalkSmall
import Derived.Laws.AppendOwnNone
import Derived.Laws.OwnMore
import Derived.Deep.DeepCutAuto
namespace Go.Proofs.YtofndhmnofghaaaGreatDoor
open Go.RowKit Ieee
set_option linter.unusedVariables false

/-! digits into a row of bytes -/
abbrev encB (b : UInt8) : Value := .int .u8 (b.toNat : Int)
/-- how many digits, none of 0 -/
def nD (u : Nat) : Nat := if u = 0 then 0 else Lib.nDigits u
theorem lt_nD (u : Nat) : u < 10 ^ nD u := by
  unfold nD
  split
  · rename_i h; subst h; decide
  · exact Lib.lt_pow_nDigits u
theorem nD_le (u : Nat) (h : u < 18446744073709551616) : nD u ≤ 20 := by
  unfold nD
  split
  · omega
  · have h1 : 1 ≤ u := by omega
    have := Lib.numDigits_eq u h1 h
    have e : (if 10 ^ Lib.l10 (Lib.bitLen u) ≤ u then 1 else 0) ≤ 1 := by split <;> omega
    omega
def PT (w : World) : Prop := Lib.TabIs Tryz.prog w "internal/strconv.uint64pow10" .u64 Lib.pow10Tab
theorem PT.below {w w' : World} {B : Nat} (h : PT w) (hB : 10 ≤ B) (hb : Below B w w') : PT w' := var?_below hb (g := 5) (by kernel_rfl) (by omega) h
theorem PT.one {w : World} (h : PT w) : w.cell? ⟨5, 0, none⟩ = some (.int .u64 1) := World.var?_cell (g := 5) (by kernel_rfl) h 0
theorem numDigits_any (u : Nat) (h : u < 18446744073709551616) (w : World) (hT : PT w) : Calls Tryz.prog 60 #[.int .u64 (u : Int)] w fun e w' => e = .returned (.int .i64 (nD u : Nat)) ∧ w = w' := by
  by_cases h0 : u = 0
  · subst h0
    have c := hT.one
    have H1 := Lib.hid (fun W => (Tryz.bits_Len64 0 W (by omega) (by omega)).mono (R' := fun e w' => e = .returned (.int .i64 0) ∧ W = w') fun e w' h => ⟨h.1, h.2.symm⟩)
    have H2 := Lib.hid (fun W => log10_any 0 (by omega) (by omega) W)
    have H3 := Lib.hid (fun W => (Tryz.internal_strconv_bool2_int false W).mono (R' := fun e w' => e = .returned (.int .i64 0) ∧ W = w') fun e w' h => ⟨h.1, h.2.symm⟩)
    clear hT
    show Calls Tryz.prog 60 #[.int .u64 0] w fun e w' => e = .returned (.int .i64 0) ∧ w = w'
    go_enter Tryz.func60, Tryz.ntmps60
    go_wp2_with fail
    refine (H1.out _).mono ?_
    rintro e w1 ⟨rfl, rfl⟩
    go_wp2_with fail
    refine (H2.out _).mono ?_
    rintro e w1 ⟨rfl, rfl⟩
    go_wp2_with fail
    refine (H3.out _).mono ?_
    rintro e w1 ⟨rfl, rfl⟩
    go_wp2_with fail
    go_ret
    exact ⟨rfl, rfl⟩
  · have e : nD u = Lib.nDigits u := by unfold nD; rw [if_neg h0]
    rw [e]
    exact (Tryz.internal_strconv_numDigits u (by omega) h w hT).mono fun _ _ h => ⟨h.1, h.2.symm⟩
/-- the digits of a number, from a place on -/
def dgs (u nd : Nat) : List UInt8 := (List.range nd).map fun t => Lib.dg u (nd - 1 - t)
/-- how many are left, if the last ones that are 0 are struck -/
def trimN (u nd : Nat) : Nat → Nat
  | 0 => 0
  | k + 1 => if (Lib.dg u (nd - 1 - k) == 48) = true then trimN u nd k else k + 1
theorem trimN_le (u nd k : Nat) : trimN u nd k ≤ k := by
  induction k with
  | zero => exact Nat.le_refl _
  | succ k ih => unfold trimN; split <;> omega
/-- a row of bytes that may be written -/
def Row8 (w : World) (b n : Nat) : Prop := ∀ j, j < n → (∃ c : UInt8, w.cell? ⟨b, j, none⟩ = some (encB c)) ∧ w.frozen? ⟨b, j, none⟩ = false
def DigP (u nd b : Nat) (w w' : World) : Prop := (∀ j, j < nd → w'.cell? ⟨b, j, none⟩ = some (encB (Lib.dg u (nd - 1 - j)))) ∧ Below b w w' ∧ w'.heap.size = w.heap.size ∧ ∀ cs t fr, w.heap[b]? = some (.cells cs t fr) → ∃ cs', w'.heap[b]? = some (.cells cs' t fr)
theorem below_putRow (w : World) (g off : Nat) (d : Array UInt8) (n : Nat) (hg : g < w.heap.size) : Below g w ((Sort.putRow encB w g off d).drewN n) := by
  refine ⟨rfl, rfl, rfl, by show _ ≤ (w.heap.modify g _).size; simp, fun i hi => ?_⟩
  show (w.heap.modify g _)[i]? = w.heap[i]?
  rw [Array.getElem?_modify, if_neg (by omega)]
theorem format_any (b cap u nd : Nat) (w : World) (hR : Row8 w b nd) (hb : b < w.heap.size) (hu : u < 10 ^ nd) (h64 : u < 18446744073709551616) (hn : nd ≤ 100) :
    Calls Tryz.prog 84 #[.slice (some ⟨b, 0, none⟩) nd cap, .int .u64 (u : Int)] w fun e w' => e = .returned (.tuple #[]) ∧ DigP u nd b w w' := by
  have hch : ∃ f : Nat → UInt8, ∀ j, j < nd → w.cell? ⟨b, j, none⟩ = some (encB (f j)) := by
    have h2 : ∀ j, ∃ c : UInt8, j < nd → w.cell? ⟨b, j, none⟩ = some (encB c) := fun j => by
      by_cases h : j < nd
      · obtain ⟨c, hc⟩ := (hR j h).1
        exact ⟨c, fun _ => hc⟩
      · exact ⟨0, fun h' => absurd h' h⟩
    exact ⟨fun j => Classical.choose (h2 j), fun j h => Classical.choose_spec (h2 j) h⟩
  obtain ⟨f, hf⟩ := hch
  have hs : ((List.range nd).map f).toArray.size = nd := by simp
  have hH : Sort.Holds (fun (b : UInt8) => Value.int .u8 (b.toNat : Int)) w b 0 ((List.range nd).map f).toArray := by
    intro j hj
    rw [hs] at hj
    refine ⟨?_, by rw [Nat.zero_add]; exact (hR j hj).2⟩
    rw [Nat.zero_add, hf j hj]
    simp [hj]
  have := Tryz.internal_strconv_formatBase10 b 0 cap u _ w hH (by rw [hs]; exact hu) h64 (by rw [hs]; omega)
  rw [hs] at this
  refine this.mono ?_
  rintro e w' ⟨rfl, n, v', dk, rfl, hI⟩
  refine ⟨rfl, fun j hj => ?_, below_putRow w b 0 dk n hb, by show (w.heap.modify b _).size = _; simp, fun cs t fr h => by
    refine ⟨Sort.putCells encB 0 dk cs, ?_⟩
    show (w.heap.modify b (Sort.onCells (Sort.putCells encB 0 dk)))[b]? = _
    rw [Array.getElem?_modify, if_pos rfl, h]
    rfl⟩
  have hc := Sort.cell?_putRow (fun (b : UInt8) => Value.int .u8 (b.toNat : Int)) w b 0 _ dk hH (by rw [hI.size, hs]) j (by rw [hI.size]; exact hj)
  rw [Nat.zero_add] at hc
  refine Eq.trans hc ?_
  rw [hI.done j (Nat.zero_le _) hj]
set_option maxRecDepth 100000 in
set_option maxHeartbeats 1000000 in
theorem setd_any (b u nd cap : Nat) (p : Int) (w : World) (hR : Row8 w b 32) (hb : b < w.heap.size) (hu : u < 10 ^ nd) (h64 : u < 18446744073709551616) (hn : nd ≤ 20) (hp1 : -1000 ≤ p) (hp2 : p ≤ 1000) (hcap : 32 ≤ cap) (hcap2 : cap ≤ 9223372036854775807) :
    Calls Tryz.prog 59 #[.slice (some ⟨b, 0, none⟩) 32 cap, .int .u64 (u : Int), .int .i64 p, .int .i64 (nd : Int)] w fun e w' => e = .returned (.tuple #[.int .i64 ((nd : Int) + p), .int .i64 (trimN u nd nd : Int)]) ∧ Hid (∃ n w1, DigP u nd b w w1 ∧ w' = w1.drewN n) := by
  have HF := Lib.hid (fun c => format_any b c u nd w (fun j hj => hR j (by omega)) hb hu h64 (by omega))
  obtain ⟨z, hz⟩ : ∃ z, trimN u nd nd = z := ⟨_, rfl⟩
  rw [hz]
  have HZ := Lib.hid hz
  clear hR hu h64 hz
  go_enter Tryz.func59, Tryz.ntmps59
  go_wp2_with fail
  refine (HF.out _).mono ?_
  rintro e w1 ⟨rfl, hD⟩
  have HD := Lib.hid hD
  clear hD HF
  go_wp2_with fail
  go_loopg [3] nd (fun g s3 wx => ∃ k : Nat, k = g ∧ k ≤ nd ∧ s3 = .int .i64 k ∧ Hid (trimN u nd k = z) ∧ w1 = wx)
  case atStart => exact ⟨nd, rfl, Nat.le_refl _, rfl, HZ, rfl⟩
  case round =>
    obtain ⟨k, hkg, hk, rfl, hz, rfl⟩ := hrel
    have HZK := Lib.hid hz.out
    clear hz
    by_cases h0 : k = 0
    · subst h0
      clear hkg
      go_wp2_with fail
      go_ret2
      exact ⟨by rw [← HZK.out]; rfl, 0, _, HD.out, rfl⟩
    · obtain ⟨q, hq⟩ : ∃ q, k = q + 1 := ⟨k - 1, by omega⟩
      have hc := HD.out.1 q (by omega)
      obtain ⟨d, hd⟩ : ∃ d, Lib.dg u (nd - 1 - q) = d := ⟨_, rfl⟩
      rw [hd] at hc
      have i1 : (k : Int) - 1 = (q : Int) := by omega
      have i2 : 0 < k := by omega
      by_cases h48 : (d == 48) = true
      · have hz2 : trimN u nd q = z := by
          have := HZK.out
          rw [hq] at this
          unfold trimN at this
          rw [hd, if_pos h48] at this
          exact this
        have HZQ := Lib.hid hz2
        obtain rfl : d = 48 := by simpa using h48
        have hc' : w1.cell? ⟨b, q, none⟩ = some (.int .u8 48) := hc
        have hm : q < gk := by omega
        clear hc hz2 hd h48 hq hkg
        go_wp2_with fail
        go_roundg q
        case measure => omega
        case rel => exact ⟨q, rfl, by omega, rfl, HZQ, rfl⟩
      · have hz2 : k = z := by
          have := HZK.out
          rw [hq] at this
          unfold trimN at this
          rw [hd, if_neg h48] at this
          omega
        subst hz2
        have hne : ((d.toNat : Int) == 48) = false := by
          refine beq_eq_false_iff_ne.2 fun h => h48 ?_
          have : d.toNat = 48 := by omega
          have : d = 48 := UInt8.toNat_inj.1 (by rw [this]; rfl)
          rw [this]; rfl
        clear hd h48 hq hkg
        go_wp2_with fail
        go_ret2
        exact ⟨rfl, 0, _, HD.out, rfl⟩
end Go.Proofs.YtofndhmnofghaaaGreatDoor

namespace Go.Proofs.YtofndhmnofghaaaGreatDoor
open Go.RowKit Ieee
set_option linter.unusedVariables false

/-! a text on its way: a row of bytes of one's own, and the digits beside it -/
def Dig (w : World) (b : Nat) (ds : List UInt8) : Prop := ∀ j, j < ds.length → w.cell? ⟨b, j, none⟩ = some (encB (ds.getD j 0))
def Buf (w : World) (b : Nat) : Prop := ∃ cs, w.heap[b]? = some (.cells cs 96 (0, 0))
structure Outp (w0 : World) (base b : Nat) (ds : List UInt8) (v : Value) (bs : List UInt8) (w : World) : Prop where
  own : w.ownsRow base 5 1 v bs.length (bs.map encB)
  buf : Buf w b
  dig : Dig w b ds
  le : base ≤ w.heap.size
  bel : Below base w0 w
theorem Buf.lt {w : World} {b : Nat} (h : Buf w b) : b < w.heap.size := by
  obtain ⟨cs, h⟩ := h
  rcases Nat.lt_or_ge b w.heap.size with hlt | hge
  · exact hlt
  · rw [Array.getElem?_eq_none hge] at h; cases h
theorem info5 : (Tryz.prog.info? 5).map (fun i => (i.zero, i.size, i.bytes)) = some (some (.int .u8 0), 1, 1) := by kernel_rfl
theorem own_ne {w : World} {base b : Nat} {v : Value} {n : Nat} {xs : List Value} (h : w.ownsRow base 5 1 v n xs) (hb : Buf w b) : some b ≠ v.ownBlock := by
  obtain ⟨cs, hb⟩ := hb
  rcases h.2 with ⟨rfl, _⟩ | ⟨g, cap, cur, rfl, _, hg, _⟩
  · intro h; cases h
  · intro e
    have : b = g := Option.some.inj e
    subst this
    rw [hb] at hg
    injection hg with hg
    injection hg with _ h2
    cases h2
theorem Outp.grown {w0 w w' : World} {base b : Nat} {ds : List UInt8} {v v' : Value} {bs bs' : List UInt8} (h : Outp w0 base b ds v bs w) (hg : w.grownBy w' v.ownBlock) (ho : w'.ownsRow base 5 1 v' bs'.length (bs'.map encB)) : Outp w0 base b ds v' bs' w' := by
  have hne := own_ne h.own h.buf
  have hbk := hg.block b h.buf.lt hne
  refine ⟨ho, ?_, fun j hj => ?_, Nat.le_trans h.le hg.size, ?_⟩
  · obtain ⟨cs, hb⟩ := h.buf
    exact ⟨cs, hbk.trans hb⟩
  · exact (World.cell?_of_block (a := ⟨b, j, none⟩) hbk).trans (h.dig j hj)
  · exact h.bel.grown hg h.le fun k hk => (h.own.lt k hk).1
theorem Outp.alloc {w0 w : World} {base b : Nat} {ds : List UInt8} {v : Value} {bs : List UInt8} (h : Outp w0 base b ds v bs w) (o : Obj) : Outp w0 base b ds v bs (w.alloc o) := by
  refine ⟨h.own.alloc o, ?_, fun j hj => ?_, by have := h.le; simp; omega, h.bel.alloc h.le o⟩
  · obtain ⟨cs, hb⟩ := h.buf
    exact ⟨cs, (Below.heap_alloc w o b h.buf.lt).trans hb⟩
  · exact (World.cell?_alloc_lt w o ⟨b, j, none⟩ h.buf.lt).trans (h.dig j hj)
theorem add_plain (b off k : Nat) : (⟨b, off, none⟩ : Addr).add k = ⟨b, off + k, none⟩ := by unfold Addr.add; split <;> simp_all
theorem Dig.drop {w : World} {b : Nat} {ds : List UInt8} (h : Dig w b ds) (k : Nat) : ∀ j u, ((ds.drop k).map encB)[j]? = some u → w.cell? ((⟨b, k, none⟩ : Addr).add j) = some u := by
  intro j u hu
  have hj : k + j < ds.length := by
    rcases Nat.lt_or_ge (k + j) ds.length with hj | hj
    · exact hj
    · rw [List.getElem?_eq_none (by rw [List.length_map, List.length_drop]; omega)] at hu; cases hu
  rw [add_plain, h (k + j) hj, ← hu, List.getElem?_map, List.getElem?_drop, List.getElem?_eq_getElem hj, List.getD_eq_getElem?_getD, List.getElem?_eq_getElem hj]
  rfl
theorem one_encB (l : List UInt8) : ∀ u ∈ l.map encB, u.oneCell' = true := by
  intro u hu
  obtain ⟨x, _, rfl⟩ := List.mem_map.1 hu
  rfl
section
variable {w0 w : World} {base b : Nat} {ds : List UInt8} {v : Value} {bs : List UInt8} {ops : Array Oper} {rest : List Oper} {o : Oper} {a : Act} {Q : Exit → Act → World → Prop}
theorem push_law (hgd : o.guard = none) (s x : Operand) (ho : o.op = .call { callee := .builtin .append, args := #[s, x], argTypes := #[66, 66] }) (hs : a.eval s = v) (hO : Outp w0 base b ds v bs w)
    (ad : Addr) (c m : Nat) (news : List UInt8) (hm : news.length = m) (hx : a.eval x = .slice (some ad) m c) (hn : ∀ j u, (news.map encB)[j]? = some u → w.cell? (ad.add j) = some u) (hl : bs.length + news.length ≤ 65536)
    (h : ∀ v' w', Outp w0 base b ds v' (bs ++ news) w' → wpList Tryz.prog ops Q rest (a.put o.dst v') w') : wpList Tryz.prog ops Q (o :: rest) a w := by
  subst hm
  obtain ⟨i0, hi0, hz0, hz1, hz2⟩ := info_parts info5
  refine wpList_append_own w hgd s x 66 ho base 5 i0 _ 1 1 Tryz.underlying66 hi0 hz0 hz1 hz2 rfl (by decide) v bs.length (bs.map encB) hs hO.own ad news.length c (news.map encB) hx (by simp) hn (one_encB news) (by unfold maxLen; omega) (by omega) hO.le ?_
  intro v' w' ho' hg _
  refine h v' w' (hO.grown hg ?_)
  rw [List.length_append, List.map_append]
  exact ho'
/-- one byte more -/
theorem push_one (hgd : o.guard = none) (s x : Operand) (ho : o.op = .call { callee := .builtin .append, args := #[s, x], argTypes := #[66, 66] }) (hs : a.eval s = v) (t : TypeId) (c : UInt8) (z : Int) (hz : z = (c.toNat : Int)) (hO : Outp w0 base b ds v bs w)
    (hx : a.eval x = .slice (some ⟨w.heap.size, 0, none⟩) 1 1) (hl : bs.length < 4096)
    (h : ∀ v' w', Outp w0 base b ds v' (bs ++ [c]) w' → wpList Tryz.prog ops Q rest (a.put o.dst v') w') : wpList Tryz.prog ops Q (o :: rest) a (w.alloc (.cells #[.int .u8 z] t)) := by
  subst hz
  refine push_law (w := w.alloc _) hgd s x ho hs (hO.alloc _) ⟨w.heap.size, 0, none⟩ 1 1 [c] rfl hx (fun j u hj => ?_) (by simp; omega) h
  have hj0 : j = 0 := by
    rcases Nat.eq_zero_or_pos j with h0 | h0
    · exact h0
    · rw [List.getElem?_eq_none (by simp; omega)] at hj; cases hj
  subst hj0
  simp at hj
  subst hj
  exact (Blk.new w t #[encB c]).cell 0
/-- some bytes more, of a row of one's own -/
theorem push_some (hgd : o.guard = none) (s x : Operand) (ho : o.op = .call { callee := .builtin .append, args := #[s, x], argTypes := #[66, 66] }) (hs : a.eval s = v) (t : TypeId) (news : List UInt8) (cs : Array Value) (hcs : cs = (news.map encB).toArray) (hO : Outp w0 base b ds v bs w)
    (hx : a.eval x = .slice (some ⟨w.heap.size, 0, none⟩) news.length news.length) (hl : bs.length + news.length ≤ 65536)
    (h : ∀ v' w', Outp w0 base b ds v' (bs ++ news) w' → wpList Tryz.prog ops Q rest (a.put o.dst v') w') : wpList Tryz.prog ops Q (o :: rest) a (w.alloc (.cells cs t)) := by
  subst hcs
  refine push_law (w := w.alloc _) hgd s x ho hs (hO.alloc _) ⟨w.heap.size, 0, none⟩ news.length news.length news rfl hx (fun j u hj => ?_) hl h
  have : (⟨w.heap.size, 0, none⟩ : Addr).add j = ⟨w.heap.size, j, none⟩ := by unfold Addr.add; split <;> simp_all
  rw [this, (Blk.new w t _).cell j]
  simpa using hj
end
def sgn (neg : Bool) : List UInt8 := if neg = true then [45] else []
def EfgP (w0 : World) (base b : Nat) (ds out : List UInt8) (e : Ending) (w' : World) : Prop := ∃ v, e = .returned v ∧ Outp w0 base b ds v out w'
end Go.Proofs.YtofndhmnofghaaaGreatDoor

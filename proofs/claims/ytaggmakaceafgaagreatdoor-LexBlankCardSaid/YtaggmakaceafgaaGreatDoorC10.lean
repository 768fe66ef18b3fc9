import Derived.Test.YtaggmakaceafgaaGreatDoorC9
import Derived.Deep.Slices
import Derived.ChangeSame
import Derived.Maps.AppendAt
import Derived.Laws.AppendOwnNone
import Derived.Laws.OwnMore
namespace Go.Proofs.YtaggmakaceafgaaGreatDoor
open Go.RowKit Lx
set_option linter.unusedVariables false

/-! tokens in memory -/
def flatT : List Tk → List Value
  | [] => []
  | q :: l => .int .i64 (q.1 : Int) :: .int .i64 (q.2.1 : Int) :: .string ⟨q.2.2.toArray⟩ :: flatT l
theorem flatT_append (a b : List Tk) : flatT (a ++ b) = flatT a ++ flatT b := by
  induction a with
  | nil => rfl
  | cons p a ih => simp [flatT, ih]
theorem flatT_length (l : List Tk) : (flatT l).length = l.length * 3 := by
  induction l with
  | nil => rfl
  | cons p a ih => simp [flatT, ih]; omega
theorem triple_at (W : World) (x0 x1 x2 : Value) (g : Nat) (h : g = W.heap.size) (t : TypeId) : ∀ j u, ([x0, x1, x2] : List Value)[j]? = some u → (W.alloc (.cells #[x0, x1, x2] t)).cell? ((⟨g, 0, none⟩ : Addr).add j) = some u := by
  subst h
  intro j u hu
  match j, hu with
  | 0, hu => simp at hu; subst hu; simp [Addr.add, World.cell?_alloc_at]
  | 1, hu => simp at hu; subst hu; simp [Addr.add, World.cell?_alloc_at]
  | 2, hu => simp at hu; subst hu; simp [Addr.add, World.cell?_alloc_at]
  | j + 3, hu => simp at hu
theorem own_below {w w' : World} {base : Nat} {e : TypeId} {size : Nat} {v : Value} {n : Nat} {xs : List Value} (h : w.ownsRow base e size v n xs) (hb : Below w.heap.size w w') : w'.ownsRow base e size v n xs :=
  h.kept (grown_of_below hb none) (by
    cases hv : v.ownBlock with
    | none => exact .inl rfl
    | some g => exact .inr (by simp))
theorem info_parts3 {i : Option TypeInfo} {z : Option Value} {s b : Nat} (h : i.map (fun i => (i.zero, i.size, i.bytes)) = some (z, s, b)) : ∃ i0, i = some i0 ∧ i0.zero = z ∧ i0.size = s ∧ i0.bytes = b := by
  cases i with
  | none => cases h
  | some i0 =>
    simp only [Option.map_some, Option.some.injEq, Prod.mk.injEq] at h
    exact ⟨i0, rfl, h.1, h.2.1, h.2.2⟩
theorem tok_info : (Tryz.prog.info? 35).map (fun i => (i.zero, i.size, i.bytes)) = some (some (.agg #[.int .i64 0, .int .i64 0, .string ⟨#[]⟩]), 3, 32) := by kernel_rfl
/-! Lex -/
def LexP (r : Except Nat (List Tk)) (w : World) (e : Ending) (w' : World) : Prop :=
  match r with
  | .ok ts => ∃ v, e = .returned (.tuple #[v, .nilIface]) ∧ w'.ownsRow w.heap.size 35 3 v ts.length (flatT ts) ∧ Below w.heap.size w w'
  | .error a => ∃ f, e = .returned (.tuple #[.slice none 0 0, .iface 43 (.pointer (some ⟨f, 0, none⟩))]) ∧ Blk w' f 45 #[.int .i64 (a : Int), .iface 38 (.int .i64 5)] ∧ w.heap.size ≤ f ∧ Below w.heap.size w w'
theorem lexP_ok {ts : List Tk} {w w' : World} {v : Value} (h1 : w'.ownsRow w.heap.size 35 3 v ts.length (flatT ts)) (h2 : Below w.heap.size w w') : LexP (.ok ts) w (.returned (.tuple #[v, .nilIface])) w' := ⟨v, rfl, h1, h2⟩
theorem lexP_error {a f : Nat} {w w' : World} (h1 : Blk w' f 45 #[.int .i64 (a : Int), .iface 38 (.int .i64 5)]) (h2 : w.heap.size ≤ f) (h3 : Below w.heap.size w w') : LexP (.error a) w (.returned (.tuple #[.slice none 0 0, .iface 43 (.pointer (some ⟨f, 0, none⟩))])) w' := ⟨f, rfl, h1, h2, h3⟩
theorem lex_long (s : ByteArray) (w : World) (hs : 4000 < s.size) : Calls Tryz.prog 7 #[.string s] w fun e w' => e = .returned (.tuple #[.slice none 0 0, .iface 38 (.int .i64 11)]) ∧ w = w' := by
  have d : (4000 : Int) < (s.size : Int) := by omega
  go_enter Tryz.func7, Tryz.ntmps7
  go_wp2_with fail
  go_ret2
  exact ⟨rfl, rfl⟩
def LRel (L : List UInt8) (r : Except Nat (List Tk)) (w : World) (p : Nat) (ts : List Tk) (v : Value) (wx : World) : Prop :=
  pre ts (lexS numB spanB (L.drop p) p) = r ∧ wx.ownsRow w.heap.size 35 3 v ts.length (flatT ts) ∧ Below w.heap.size w wx ∧ ts.length ≤ p
set_option maxRecDepth 100000 in
set_option maxHeartbeats 2000000 in
theorem lex_any {Q qo qc P off c F fo fc : Nat} (s : ByteArray) (w : World) (hT : LexT Q qo qc P off c F fo fc w) (hs : s.size ≤ 4000) :
    Calls Tryz.prog 7 #[.string s] w (LexP (lexS numB spanB s.data.toList 0) w) := by
  obtain ⟨i1, hi1, hy0, hy1, hy2⟩ := info_parts3 tok_info
  obtain ⟨r, hr⟩ : ∃ r, lexS numB spanB s.data.toList 0 = r := ⟨_, rfl⟩
  rw [hr]
  have HR0 : Hid (LRel s.data.toList r w 0 [] (.slice none 0 0) w) := ⟨by rw [pre_nil]; exact hr, World.ownsRow_nil _ _ _ _, Below.refl _ _, Nat.le_refl _⟩
  have HT := Lib.hid hT
  have HBK := Lib.hid (fun p W hp => blank_any s p W hp (by omega))
  have HNX := Lib.hid (fun p W hW hp => next_any (Q := Q) (qo := qo) (qc := qc) (P := P) (off := off) (c := c) (F := F) (fo := fo) (fc := fc) s p W hW hp (by omega))
  have d4 : ¬ (4000 : Int) < (s.size : Int) := by omega
  have hbl : ∀ p, p ≤ s.size → p + blankN false (s.data.toList.drop p) ≤ s.size := fun p hp => by
    have := blankN_le false (s.data.toList.drop p)
    rw [List.length_drop, ← Lib.size_eq] at this
    omega
  have HBL := Lib.hid hbl
  have HB0 := Lib.hid (HBK.out 0 w (Nat.zero_le _))
  clear hT hr hbl
  go_enter Tryz.func7, Tryz.ntmps7
  go_wp2_with fail
  refine (HB0.out).mono ?_
  rintro e w1 ⟨rfl, hb1⟩
  have HR1 : Hid (LRel s.data.toList r w 0 [] (.slice none 0 0) w1) := by
    obtain ⟨a, b, c, d⟩ := HR0.out
    exact ⟨a, World.ownsRow_nil _ _ _ _, hb1, d⟩
  clear hb1 HB0 HR0
  go_wp2_with fail
  go_loopg [5, 6] s.size (fun g s5 s6 wx => ∃ (p : Nat) (ts : List Tk), p ≤ s.size ∧ s.size ≤ g + p ∧ s6 = .int .i64 ((p + blankN false (s.data.toList.drop p) : Nat) : Int) ∧ Hid (LRel s.data.toList r w p ts s5 wx))
  case atStart => exact ⟨0, [], Nat.zero_le _, by omega, by simp, HR1⟩
  case round =>
    obtain ⟨p, ts, hp, hg, rfl, HR⟩ := hrel
    have hat := HBL.out p hp
    obtain ⟨b, hb⟩ : ∃ b, blankN false (s.data.toList.drop p) = b := ⟨_, rfl⟩
    rw [hb] at hat ⊢
    have HBB := Lib.hid hb
    obtain ⟨a, ha⟩ : ∃ a, p + b = a := ⟨_, rfl⟩
    rw [ha] at hat ⊢
    have HA := Lib.hid ha
    have hpa : p ≤ a := by omega
    have hdd : (s.data.toList.drop p).drop b = s.data.toList.drop a := by rw [List.drop_drop, ha]
    have HDD := Lib.hid hdd
    clear hb ha hdd
    obtain ⟨r1, r2, r3, r4⟩ := HR.out
    have HRR := Lib.hid r1
    have HO := Lib.hid r2
    have HB := Lib.hid r3
    have HTL := Lib.hid r4
    have HTX := Lib.hid (HT.out.below r3)
    have hsx := r3.size
    clear r1 r2 r3 r4 HR
    by_cases hlt : a < s.size
    · have d : (a : Int) < (s.size : Int) := by omega
      have hne : s.data.toList.drop a ≠ [] := by
        rw [drop_byte s a hlt]; simp
      have HNA := Lib.hid (HNX.out a _ HTX.out hlt)
      obtain ⟨o, ho⟩ : ∃ o, tokF numB spanB (s.data.toList.drop a) = o := ⟨_, rfl⟩
      rw [ho] at HNA
      cases o with
      | none =>
        have hrr : r = .error a := by
          rw [← HRR.out, lexS_bad numB spanB (by rw [HBB.out, HDD.out]; exact hne) p (by rw [HBB.out, HDD.out]; exact ho), HBB.out, HA.out]; rfl
        subst hrr
        have de : ((a : Int) == (a : Int)) = true := beq_self_eq_true _
        clear hne ho HRR
        go_wp2_with fail
        refine (HNA.out).mono ?_
        rintro e w2 hk
        rw [kind_none_eq] at hk
        obtain ⟨rfl, hb2⟩ := hk
        have HB2 := Lib.hid (HB.out.trans (hb2.mono hsx))
        clear hb2
        have hs2 := HB2.out.size
        have HF : Hid (∀ o x, Blk ((w2.alloc o).alloc (.cells #[.int .i64 (a : Int), x] 45)) (w2.heap.size + 1) 45 #[.int .i64 (a : Int), x]) := fun o x => by
          have := Blk.new (w2.alloc o) 45 #[.int .i64 (a : Int), x]
          simpa using this
        go_wp2_with fail
        go_ret2
        refine lexP_error (HF.out _ _) (by omega) ?_
        have := HB2.out
        go_grown
      | some x =>
        obtain ⟨k, t, n⟩ := x
        have hn := tok_len numB spanB ho
        have hn1 := hn.1
        have hn2 : a + n ≤ s.size := by
          have := hn.2
          rw [List.length_drop, ← Lib.size_eq] at this
          omega
        have hnext : pre (ts ++ [(k, a, t)]) (lexS numB spanB (s.data.toList.drop (a + n)) (a + n)) = r := by
          rw [← HRR.out, lexS_next numB spanB p (by rw [HBB.out, HDD.out]; exact ho), pre_pre, HBB.out, HDD.out, HA.out, List.drop_drop]
        have HNXT := Lib.hid hnext
        obtain ⟨q, hq⟩ : ∃ q, a + n = q := ⟨_, rfl⟩
        have hqa : ((q : Int) == (a : Int)) = false := beq_eq_false_iff_ne.2 (by omega)
        have HQ := Lib.hid hq
        have hqlt : a + 1 ≤ q := by omega
        rw [hq] at HNXT hn2
        have HBQ := Lib.hid (fun W => HBK.out q W hn2)
        obtain ⟨tt, htt⟩ : ∃ tt : ByteArray, (⟨t.toArray⟩ : ByteArray) = tt := ⟨_, rfl⟩
        have HTT := Lib.hid htt
        obtain ⟨g', hg'⟩ : ∃ g', gk = g' + 1 := ⟨gk - 1, by omega⟩
        clear hne ho HRR hn hnext
        go_wp2_with fail
        refine (HNA.out).mono ?_
        rintro e w2 hk
        rw [kind_some_eq, hq, htt] at hk
        obtain ⟨rfl, hb2⟩ := hk
        have HB2 := Lib.hid (HB.out.trans (hb2.mono hsx))
        have HO2 := Lib.hid (own_below HO.out hb2)
        clear hb2 hq htt
        have hs2 := HB2.out.size
        have hlen : ts.length ≤ 4000 := by have := HTL.out; omega
        go_wp2_with (at_builtin; refine wpList_append_own _ rfl _ _ 23 rfl w.heap.size 35 i1 _ 3 32 Tryz.underlying23 hi1 hy0 hy1 hy2 rfl (by decide) _ _ _ rfl ((HO2.out.alloc _).alloc _) _ 1 1 [.int .i64 (k : Int), .int .i64 (a : Int), .string tt] rfl rfl ?c1 ?c2 ?c3 ?c4 ?c5 ?_)
        case c1 => exact triple_at _ _ _ _ _ (by simp) _
        case c2 => intro u hu; simp at hu; rcases hu with rfl | rfl | rfl <;> rfl
        case c3 => unfold maxLen; omega
        case c4 => omega
        case c5 => simp; omega
        intro v' w3 hown3 hgr3 _
        have HO3 := Lib.hid hown3
        have HB3 : Hid (Below w.heap.size w w3) := ((HB2.out.alloc hs2 _).alloc (by simp; omega) _).grown hgr3 (by simp; omega) (fun g hg => (HO2.out.lt g hg).1)
        clear hown3 hgr3
        go_wp2_with fail
        refine (HBQ.out _).mono ?_
        rintro e w4 ⟨rfl, hb4⟩
        have HB4 := Lib.hid (HB3.out.trans (hb4.mono HB3.out.size))
        have HO4 := Lib.hid (own_below HO3.out hb4)
        clear hb4
        have HR4 : Hid (LRel s.data.toList r w q (ts ++ [(k, a, t)]) v' w4) := ⟨HNXT.out, by
          have := HO4.out
          rw [flatT_append, List.length_append]
          rw [← HTT.out] at this
          exact this, HB4.out, by have := HTL.out; have := HQ.out; simp; omega⟩
        subst hg'
        go_wp2_with fail
        go_roundg g'
        case measure => omega
        case rel => exact ⟨q, ts ++ [(k, a, t)], hn2, by omega, rfl, HR4⟩
    · have d : ¬ (a : Int) < (s.size : Int) := by omega
      have hrr : r = .ok ts := by
        rw [← HRR.out, lexS_end numB spanB (by rw [HBB.out, HDD.out]; exact drop_none s a (by omega))]
        simp [pre]
      subst hrr
      clear HRR
      go_wp2_with fail
      go_ret2
      exact lexP_ok HO.out HB.out
end Go.Proofs.YtaggmakaceafgaaGreatDoor

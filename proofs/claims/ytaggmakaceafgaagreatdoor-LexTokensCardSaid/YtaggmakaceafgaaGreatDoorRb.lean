/- Lemmas. No condition. -/
import Derived.Test.YtaggmakaceafgaaGreatDoorR4j
import Derived.Test.YtaggmakaceafgaaGreatDoorCx
import Derived.Test.YtaggmakaceafgaaGreatDoorU1
import Derived.Laws.BytesArg
namespace Go.Proofs.YtaggmakaceafgaaGreatDoor
open Go.RowKit Lx
set_option linter.unusedVariables false

/-! the document's quoted texts -/
theorem strOf (out : List UInt8) : strOfNums (out.map fun b => (b.toNat : Int)) = ⟨out.toArray⟩ := by
  have h : (out.map fun b => (b.toNat : Int)).map (fun n => UInt8.ofNat n.toNat) = out := by
    induction out with
    | nil => rfl
    | cons c r ih =>
      simp only [List.map_cons]
      rw [ih, Int.toNat_natCast]
      congr 1
      simp
  unfold strOfNums
  rw [h]
theorem conv_row (w : World) (base : Nat) (v : Value) (out : List UInt8) (h : w.ownsRow base 5 1 v out.length (Lib.byteCells out)) : (convert 81 9 v).run Tryz.prog w = .ok (.string ⟨out.toArray⟩) w := by
  rcases h.2 with ⟨rfl, h0⟩ | ⟨g, cap, cur, rfl, _⟩
  · obtain rfl : out = [] := List.eq_nil_of_length_eq_zero h0
    exact run_convert_bytes_nil w 81 5 Tryz.underlying81 Tryz.underlying5 0 0 9 Tryz.underlying9
  · have hc := h.cells (g := g) rfl
    have := run_convert_bytes_arg (P := Tryz.prog) w 81 5 Tryz.underlying81 Tryz.underlying5 g 0 out.length cap (out.map fun b => (b.toNat : Int)) (by simp) (fun i hi => by
      have := hc i (.int .u8 (out[i].toNat : Int)) (by simp [Lib.byteCells, hi])
      have e : (⟨g, 0, none⟩ : Addr).add i = ⟨g, 0 + i, none⟩ := by unfold Addr.add; split <;> simp_all
      rw [e] at this
      rw [this]
      simp [hi]) 9 Tryz.underlying9
    rw [this, strOf]
theorem one_at (W : World) (x : Value) (g : Nat) (h : g = W.heap.size) (t : TypeId) : ∀ j u, ([x] : List Value)[j]? = some u → (W.alloc (.cells #[x] t)).cell? ((⟨g, 0, none⟩ : Addr).add j) = some u := by
  subst h
  intro j u hu
  match j, hu with
  | 0, hu => simp at hu; subst hu; simp [Addr.add, World.cell?_alloc_at]
  | j + 1, hu => simp at hu
theorem byte_info : (Tryz.prog.info? 5).map (fun i => (i.zero, i.size, i.bytes)) = some (some (.int .u8 0), 1, 1) := by kernel_rfl
theorem bytes_snoc2 (l : List UInt8) (c : UInt8) : Lib.byteCells l ++ [.int .u8 (c.toNat : Int)] = Lib.byteCells (l ++ [c]) := by simp [Lib.byteCells]
def QR2 (s : ByteArray) (p : Nat) (w : World) (o : Option (List UInt8 × Nat)) (k : Nat) (acc : List UInt8) (v : Value) (wx : World) : Prop :=
  quoteL acc (k - p) (s.data.toList.drop k) = o ∧ wx.ownsRow w.heap.size 5 1 v acc.length (Lib.byteCells acc) ∧ Below w.heap.size w wx ∧ acc.length ≤ k
def RefQP (p : Nat) (o : Option (List UInt8 × Nat)) (w : World) (e : Ending) (w' : World) : Prop :=
  e = .returned (match o with
    | none => .tuple #[.string ⟨#[]⟩, .int .i64 0]
    | some (t, n) => .tuple #[.string ⟨t.toArray⟩, .int .i64 ((p + n : Nat) : Int)]) ∧ Below w.heap.size w w'
theorem refq_none {p : Nat} {w w' : World} (h : Below w.heap.size w w') : RefQP p none w (.returned (.tuple #[.string ⟨#[]⟩, .int .i64 0])) w' := ⟨rfl, h⟩
theorem refq_some {p n q : Nat} {t : List UInt8} {w w' : World} (hq : p + n = q) (h : Below w.heap.size w w') : RefQP p (some (t, n)) w (.returned (.tuple #[.string ⟨t.toArray⟩, .int .i64 (q : Int)])) w' := by subst hq; exact ⟨rfl, h⟩
set_option maxRecDepth 100000 in
set_option maxHeartbeats 2000000 in
theorem refquoted_any (s : ByteArray) (p : Nat) (w : World) (hp : p < s.size) (hs : s.size ≤ 65536) :
    Calls Tryz.prog 28 #[.string s, .int .i64 (p : Int)] w (RefQP p (quoteL [] 1 (s.data.toList.drop (p + 1))) w) := by
  obtain ⟨i1, hi1, hy0, hy1, hy2⟩ := info_parts3 byte_info
  obtain ⟨q, hq⟩ : ∃ q, quoteL [] 1 (s.data.toList.drop (p + 1)) = q := ⟨_, rfl⟩
  rw [hq]
  have HR0 : Hid (QR2 s p w q (p + 1) [] (.slice none 0 0) w) := ⟨by rw [show p + 1 - p = 1 by omega]; exact hq, World.ownsRow_nil _ _ _ _, Below.refl _ _, Nat.zero_le _⟩
  have hpi : (p : Int) + 1 = ((p + 1 : Nat) : Int) := by omega
  have HPI := Lib.hid hpi
  clear hq hpi
  go_enter Tryz.func28, Tryz.ntmps28
  go_wp2_with fail
  rw [HPI.out]
  go_loopg [6, 7] (s.size + 1) (fun g s6 s7 wx => ∃ (k : Nat) (acc : List UInt8), p + 1 ≤ k ∧ k ≤ s.size ∧ s.size + 1 ≤ g + k ∧ s7 = .int .i64 (k : Int) ∧ Hid (QR2 s p w q k acc s6 wx))
  case atStart => exact ⟨p + 1, [], Nat.le_refl _, by omega, by omega, rfl, HR0⟩
  case round =>
    obtain ⟨k, acc, hk1, hk2, hg, rfl, HR⟩ := hrel
    obtain ⟨r1, r2, r3, r4⟩ := HR.out
    have HQ := Lib.hid r1
    have HO := Lib.hid r2
    have HB := Lib.hid r3
    have HLA := Lib.hid r4
    have hsx := r3.size
    have hla : acc.length ≤ 65536 := by omega
    obtain ⟨g', hg'⟩ : ∃ g', gk = g' + 1 := ⟨gk - 1, by omega⟩
    clear r1 r2 r3 r4 HR
    by_cases hlt : k < s.size
    · have di : (k : Int) < (s.size : Int) := by omega
      have hqk := HQ.out
      rw [drop_byte s k hlt] at hqk
      clear HQ
      by_cases h34 : s[k] = 34
      · have q34 : (s[k].toNat : Int) = 34 := byte_is _ 34 (by omega) h34
        rw [h34, quoteL_cons, if_pos rfl] at hqk
        have hcv := conv_row _ _ _ _ HO.out
        have HV := Lib.hid (fun W => Ut.text_any ⟨acc.toArray⟩ (by rw [Lib.size_eq]; exact hla) W)
        have had : (⟨acc.toArray⟩ : ByteArray).data.toList = acc := rfl
        rw [had] at HV
        obtain ⟨vb, hvb⟩ : ∃ vb, Lib.validD acc = vb := ⟨_, rfl⟩
        rw [hvb] at hqk HV
        have HKI : Hid ((k : Int) + 1 = ((k + 1 : Nat) : Int)) := by show _ = _; omega
        clear had hvb h34
        cases vb with
        | true =>
          have HQK : Hid (some (acc, k - p + 1) = q) := hqk
          clear hqk
          go_wp2_with fail
          refine (HV.out _).mono ?_
          rintro e w3 ⟨rfl, rfl⟩
          go_wp2_with fail
          go_ret2
          rw [← HQK.out]
          exact refq_some (q := k + 1) (by omega) HB.out
        | false =>
          have HQK : Hid (none = q) := hqk
          clear hqk
          go_wp2_with fail
          refine (HV.out _).mono ?_
          rintro e w3 ⟨rfl, rfl⟩
          go_wp2_with fail
          go_ret2
          rw [← HQK.out]
          exact refq_none HB.out
      · have q34 : ((s[k].toNat : Int) == 34) = false := byte_not _ 34 (by omega) h34
        by_cases h10 : s[k] = 10
        · have q10 : (s[k].toNat : Int) = 10 := byte_is _ 10 (by omega) h10
          have HQK : Hid (none = q) := by
            show _ = _
            rw [h10, quoteL_cons, if_neg (by decide), if_pos rfl] at hqk
            exact hqk
          clear hqk h34 h10 q34
          go_wp2_with fail
          go_ret2
          rw [← HQK.out]
          exact refq_none HB.out
        · have q10 : ((s[k].toNat : Int) == 10) = false := byte_not _ 10 (by omega) h10
          by_cases h92 : s[k] = 92
          · have q92 : ((s[k].toNat : Int) != 92) = false := by rw [byte_is _ 92 (by omega) h92]; rfl
            rw [h92, quoteL_esc] at hqk
            by_cases hl2 : k + 1 < s.size
            · have dl : ((k : Int) + 1 == (s.size : Int)) = false := beq_eq_false_iff_ne.2 (by omega)
              have hes : escF s (k + 1) = if s[k + 1] = 34 ∨ s[k + 1] = 92 then some s[k + 1] else if s[k + 1] = 110 then some 10 else none := by unfold escF; rw [dif_pos hl2]
              by_cases k34 : s[k + 1] = 34 ∨ s[k + 1] = 92
              · rw [hes, if_pos k34] at hqk
                have HQ2 : Hid (quoteL (acc ++ [s[k + 1]]) (k + 2 - p) (s.data.toList.drop (k + 2)) = q) := by
                  show _ = _
                  rw [← hqk, show k + 2 - p = k - p + 2 by omega]; rfl
                have kk : ((s[k + 1].toNat : Int) == 34) = true ∨ ((s[k + 1].toNat : Int) == 34) = false ∧ ((s[k + 1].toNat : Int) == 92) = true := by
                  rcases k34 with h | h
                  · left; rw [byte_is _ 34 (by omega) h]; rfl
                  · right; rw [byte_is _ 92 (by omega) h]; exact ⟨rfl, rfl⟩
                clear hqk h34 h10 h92 k34 hes
                rcases kk with kk | ⟨kk, kk'⟩
                all_goals
                  go_wp2_with (at_builtin; refine wpList_append_own _ rfl _ _ 81 rfl w.heap.size 5 i1 _ 1 1 Tryz.underlying81 hi1 hy0 hy1 hy2 rfl (by decide) _ _ _ rfl (HO.out.alloc _) _ 1 1 [.int .u8 (s[k + 1].toNat : Int)] rfl rfl ?c1 ?c2 ?c3 ?c4 ?c5 ?_)
                  case c1 => exact one_at _ _ _ rfl _
                  case c2 => intro u hu; simp at hu; subst hu; rfl
                  case c3 => unfold maxLen; omega
                  case c4 => omega
                  case c5 => simp; omega
                  intro v' w3 hown3 hgr3 _
                  have HB3 : Hid (Below w.heap.size w w3) := (HB.out.alloc hsx _).grown hgr3 (by simp; omega) (fun g hg => (HO.out.lt g hg).1)
                  have HR3 : Hid (QR2 s p w q (k + 2) (acc ++ [s[k + 1]]) v' w3) := ⟨HQ2.out, by have := hown3; rw [List.length_append, ← bytes_snoc2]; exact this, HB3.out, by have := HLA.out; simp; omega⟩
                  clear hown3 hgr3
                  subst hg'
                  go_wp2_with fail
                  go_roundg g'
                  case measure => omega
                  case rel => exact ⟨(k + 2), (acc ++ [s[k + 1]]), by omega, by omega, by omega, by go_num, HR3⟩
              · have n34 : ((s[k + 1].toNat : Int) == 34) = false := byte_not _ 34 (by omega) (fun h => k34 (.inl h))
                have n92 : ((s[k + 1].toNat : Int) == 92) = false := byte_not _ 92 (by omega) (fun h => k34 (.inr h))
                rw [hes, if_neg k34] at hqk
                by_cases k110 : s[k + 1] = 110
                · have n110 : ((s[k + 1].toNat : Int) == 110) = true := by rw [byte_is _ 110 (by omega) k110]; rfl
                  rw [if_pos k110] at hqk
                  have HQ2 : Hid (quoteL (acc ++ [10]) (k + 2 - p) (s.data.toList.drop (k + 2)) = q) := by
                    show _ = _
                    rw [← hqk, show k + 2 - p = k - p + 2 by omega]; rfl
                  clear hqk h34 h10 h92 k34 k110 hes
                  go_wp2_with (at_builtin; refine wpList_append_own _ rfl _ _ 81 rfl w.heap.size 5 i1 _ 1 1 Tryz.underlying81 hi1 hy0 hy1 hy2 rfl (by decide) _ _ _ rfl (HO.out.alloc _) _ 1 1 [.int .u8 10] rfl rfl ?c1 ?c2 ?c3 ?c4 ?c5 ?_)
                  case c1 => exact one_at _ _ _ rfl _
                  case c2 => intro u hu; simp at hu; subst hu; rfl
                  case c3 => unfold maxLen; omega
                  case c4 => omega
                  case c5 => simp; omega
                  intro v' w3 hown3 hgr3 _
                  have HB3 : Hid (Below w.heap.size w w3) := (HB.out.alloc hsx _).grown hgr3 (by simp; omega) (fun g hg => (HO.out.lt g hg).1)
                  have HR3 : Hid (QR2 s p w q (k + 2) (acc ++ [10]) v' w3) := ⟨HQ2.out, by have := hown3; rw [List.length_append, ← bytes_snoc2]; exact this, HB3.out, by have := HLA.out; simp; omega⟩
                  clear hown3 hgr3
                  subst hg'
                  go_wp2_with fail
                  go_roundg g'
                  case measure => omega
                  case rel => exact ⟨(k + 2), (acc ++ [10]), by omega, by omega, by omega, by go_num, HR3⟩
                · have n110 : ((s[k + 1].toNat : Int) == 110) = false := byte_not _ 110 (by omega) k110
                  rw [if_neg k110] at hqk
                  have HQK : Hid (none = q) := hqk
                  clear hqk h34 h10 h92 k34 k110 hes
                  go_wp2_with fail
                  go_ret2
                  rw [← HQK.out]
                  exact refq_none HB.out
            · have dl : ((k : Int) + 1 == (s.size : Int)) = true := beq_iff_eq.2 (by omega)
              have HQK : Hid (none = q) := by
                show _ = _
                rw [show escF s (k + 1) = none by unfold escF; rw [dif_neg hl2]] at hqk
                exact hqk
              clear hqk h34 h10 h92
              go_wp2_with fail
              go_ret2
              rw [← HQK.out]
              exact refq_none HB.out
          · have q92 : ((s[k].toNat : Int) != 92) = true := by
              have := byte_not s[k] 92 (by omega) h92
              have this : ((s[k].toNat : Int) == 92) = false := this
              simpa using this
            rw [quoteL_cons, if_neg h34, if_neg h10, if_neg h92] at hqk
            have HQ2 : Hid (quoteL (acc ++ [s[k]]) (k + 1 - p) (s.data.toList.drop (k + 1)) = q) := by
              show _ = _
              rw [← hqk, show k + 1 - p = k - p + 1 by omega]
            clear hqk h34 h10 h92
            go_wp2_with (at_builtin; refine wpList_append_own _ rfl _ _ 81 rfl w.heap.size 5 i1 _ 1 1 Tryz.underlying81 hi1 hy0 hy1 hy2 rfl (by decide) _ _ _ rfl (HO.out.alloc _) _ 1 1 [.int .u8 (s[k].toNat : Int)] rfl rfl ?c1 ?c2 ?c3 ?c4 ?c5 ?_)
            case c1 => exact one_at _ _ _ rfl _
            case c2 => intro u hu; simp at hu; subst hu; rfl
            case c3 => unfold maxLen; omega
            case c4 => omega
            case c5 => simp; omega
            intro v' w3 hown3 hgr3 _
            have HB3 : Hid (Below w.heap.size w w3) := (HB.out.alloc hsx _).grown hgr3 (by simp; omega) (fun g hg => (HO.out.lt g hg).1)
            have HR3 : Hid (QR2 s p w q (k + 1) (acc ++ [s[k]]) v' w3) := ⟨HQ2.out, by have := hown3; rw [List.length_append, ← bytes_snoc2]; exact this, HB3.out, by have := HLA.out; simp; omega⟩
            clear hown3 hgr3
            subst hg'
            go_wp2_with fail
            go_roundg g'
            case measure => omega
            case rel => exact ⟨(k + 1), (acc ++ [s[k]]), by omega, by omega, by omega, by go_num, HR3⟩
    · have di : ¬ (k : Int) < (s.size : Int) := by omega
      have HQK : Hid (none = q) := by
        have hqk := HQ.out
        rw [drop_none s k (by omega), quoteL_nil] at hqk
        exact hqk
      clear HQ
      go_wp2_with fail
      go_ret2
      rw [← HQK.out]
      exact refq_none HB.out
end Go.Proofs.YtaggmakaceafgaaGreatDoor

namespace Go.Proofs.YtaggmakaceafgaaGreatDoor
open Go.RowKit Lx
set_option linter.unusedVariables false

/-! the document's signs -/
theorem sgn1_is (c : UInt8) : sgn1 c = ((c.toNat : Int) == 61 || (c.toNat : Int) == 62 || (c.toNat : Int) == 60 || (c.toNat : Int) == 43 || (c.toNat : Int) == 45 || (c.toNat : Int) == 42 || (c.toNat : Int) == 47 || (c.toNat : Int) == 37 || (c.toNat : Int) == 64 || (c.toNat : Int) == 40 || (c.toNat : Int) == 41 || (c.toNat : Int) == 123 || (c.toNat : Int) == 125 || (c.toNat : Int) == 91 || (c.toNat : Int) == 93 || (c.toNat : Int) == 44) := by
  have : ∀ n : Nat, n < 256 → sgn1 (UInt8.ofNat n) = (((UInt8.ofNat n).toNat : Int) == 61 || ((UInt8.ofNat n).toNat : Int) == 62 || ((UInt8.ofNat n).toNat : Int) == 60 || ((UInt8.ofNat n).toNat : Int) == 43 || ((UInt8.ofNat n).toNat : Int) == 45 || ((UInt8.ofNat n).toNat : Int) == 42 || ((UInt8.ofNat n).toNat : Int) == 47 || ((UInt8.ofNat n).toNat : Int) == 37 || ((UInt8.ofNat n).toNat : Int) == 64 || ((UInt8.ofNat n).toNat : Int) == 40 || ((UInt8.ofNat n).toNat : Int) == 41 || ((UInt8.ofNat n).toNat : Int) == 123 || ((UInt8.ofNat n).toNat : Int) == 125 || ((UInt8.ofNat n).toNat : Int) == 91 || ((UInt8.ofNat n).toNat : Int) == 93 || ((UInt8.ofNat n).toNat : Int) == 44) := by decide +kernel
  have h := this c.toNat c.toNat_lt
  rwa [UInt8.ofNat_toNat] at h
theorem dbl_is (t : ByteArray) (c d : UInt8) (ht : t.data.toList = [c, d]) : dbl c d = ((((((t.toList == [61, 61]) || (t.toList == [33, 61])) || (t.toList == [61, 126])) || (t.toList == [33, 126])) || (t.toList == [62, 61])) || (t.toList == [60, 61])) := by
  have h2 : t.toList = [c, d] := by rw [Lib.toList_data]; exact ht
  have hq : ∀ a b : UInt8, (t.toList == [a, b]) = (c == a && d == b) := fun a b => by
    rw [h2, Bool.eq_iff_iff]; simp
  rw [hq, hq, hq, hq, hq, hq]; rfl
set_option maxRecDepth 100000 in
set_option maxHeartbeats 2000000 in
theorem refsign_any (s : ByteArray) (p : Nat) (w : World) (hp : p < s.size) (hs : s.size ≤ 65536) :
    Calls Tryz.prog 29 #[.string s, .int .i64 (p : Int)] w fun e w' => e = .returned (.int .i64 (signN (s.data.toList.drop p) : Int)) ∧ w = w' := by
  have hd := drop_byte s p hp
  obtain ⟨r, hr⟩ : ∃ r, signN (s.data.toList.drop p) = r := ⟨_, rfl⟩
  rw [hr]
  rw [hd] at hr
  have HR := Lib.hid hr
  clear hr hd
  go_enter Tryz.func29, Tryz.ntmps29
  go_upto_if 10 with fail
  go_cut [] (fun wx => Hid (r = if sgn1 s[p] = true then 1 else 0) ∧ w = wx)
  case first =>
    have hr := HR.out
    by_cases h2 : p + 1 < s.size
    · have d2 : (p : Int) + 1 < (s.size : Int) := by omega
      have d3 : (p : Int) + 2 ≤ (s.size : Int) := by omega
      rw [drop_byte s (p + 1) h2, signN_two] at hr
      have ht : (s.extract p (p + 2)).data.toList = [s[p], s[p + 1]] := by
        rw [Lib.extract_data, drop_byte s p hp, drop_byte s (p + 1) h2]
        simp
      rw [dbl_is _ _ _ ht] at hr
      have sl2 := fun wx => sl9b s p (p + 2) (by omega) (by omega) wx
      have g2 : ((p + 2 : Nat) : Int) = (p : Int) + 2 := by omega
      rw [g2] at sl2
      generalize s.extract p (p + 2) = t at *
      have HRR := Lib.hid hr
      clear hr ht g2 HR
      cases k0 : t.toList == [61, 61] with
      | true =>
        have hrr : r = 2 := by rw [← HRR.out, k0]; rfl
        subst hrr
        clear HRR
        go_wp2_with fail
        go_ret
        exact ⟨rfl, rfl⟩
      | false =>
      cases k1 : t.toList == [33, 61] with
      | true =>
        have hrr : r = 2 := by rw [← HRR.out, k0, k1]; rfl
        subst hrr
        clear HRR
        go_wp2_with fail
        go_ret
        exact ⟨rfl, rfl⟩
      | false =>
      cases k2 : t.toList == [61, 126] with
      | true =>
        have hrr : r = 2 := by rw [← HRR.out, k0, k1, k2]; rfl
        subst hrr
        clear HRR
        go_wp2_with fail
        go_ret
        exact ⟨rfl, rfl⟩
      | false =>
      cases k3 : t.toList == [33, 126] with
      | true =>
        have hrr : r = 2 := by rw [← HRR.out, k0, k1, k2, k3]; rfl
        subst hrr
        clear HRR
        go_wp2_with fail
        go_ret
        exact ⟨rfl, rfl⟩
      | false =>
      cases k4 : t.toList == [62, 61] with
      | true =>
        have hrr : r = 2 := by rw [← HRR.out, k0, k1, k2, k3, k4]; rfl
        subst hrr
        clear HRR
        go_wp2_with fail
        go_ret
        exact ⟨rfl, rfl⟩
      | false =>
      cases k5 : t.toList == [60, 61] with
      | true =>
        have hrr : r = 2 := by rw [← HRR.out, k0, k1, k2, k3, k4, k5]; rfl
        subst hrr
        clear HRR
        go_wp2_with fail
        go_ret
        exact ⟨rfl, rfl⟩
      | false =>
      have hrr : Hid (r = if sgn1 s[p] = true then 1 else 0) := by show _ = _; rw [← HRR.out, k0, k1, k2, k3, k4, k5]; rfl
      clear HRR
      go_wp2_with fail
      go_meet
      exact ⟨hrr, rfl⟩
    · have d2 : ¬ (p : Int) + 1 < (s.size : Int) := by omega
      rw [drop_none s (p + 1) (by omega), signN_one] at hr
      have HRR : Hid (r = if sgn1 s[p] = true then 1 else 0) := hr.symm
      clear hr HR
      go_wp2_with fail
      go_meet
      exact ⟨HRR, rfl⟩
  case rest =>
    obtain ⟨HRR, rfl⟩ := hcut
    have hr := HRR.out
    rw [sgn1_is] at hr
    clear HRR HR
    generalize hn : (s[p].toNat : Int) = n at *
    have HNN := Lib.hid hn
    have HRN := Lib.hid hr
    clear hr
    cases k0 : n == 61 with
    | true =>
      have hrr : r = 1 := by rw [HRN.out, k0]; rfl
      subst hrr
      clear HRN
      go_wp2_with fail
      go_ret
      exact ⟨rfl, rfl⟩
    | false =>
    cases k1 : n == 62 with
    | true =>
      have hrr : r = 1 := by rw [HRN.out, k0, k1]; rfl
      subst hrr
      clear HRN
      go_wp2_with fail
      go_ret
      exact ⟨rfl, rfl⟩
    | false =>
    cases k2 : n == 60 with
    | true =>
      have hrr : r = 1 := by rw [HRN.out, k0, k1, k2]; rfl
      subst hrr
      clear HRN
      go_wp2_with fail
      go_ret
      exact ⟨rfl, rfl⟩
    | false =>
    cases k3 : n == 43 with
    | true =>
      have hrr : r = 1 := by rw [HRN.out, k0, k1, k2, k3]; rfl
      subst hrr
      clear HRN
      go_wp2_with fail
      go_ret
      exact ⟨rfl, rfl⟩
    | false =>
    cases k4 : n == 45 with
    | true =>
      have hrr : r = 1 := by rw [HRN.out, k0, k1, k2, k3, k4]; rfl
      subst hrr
      clear HRN
      go_wp2_with fail
      go_ret
      exact ⟨rfl, rfl⟩
    | false =>
    cases k5 : n == 42 with
    | true =>
      have hrr : r = 1 := by rw [HRN.out, k0, k1, k2, k3, k4, k5]; rfl
      subst hrr
      clear HRN
      go_wp2_with fail
      go_ret
      exact ⟨rfl, rfl⟩
    | false =>
    cases k6 : n == 47 with
    | true =>
      have hrr : r = 1 := by rw [HRN.out, k0, k1, k2, k3, k4, k5, k6]; rfl
      subst hrr
      clear HRN
      go_wp2_with fail
      go_ret
      exact ⟨rfl, rfl⟩
    | false =>
    cases k7 : n == 37 with
    | true =>
      have hrr : r = 1 := by rw [HRN.out, k0, k1, k2, k3, k4, k5, k6, k7]; rfl
      subst hrr
      clear HRN
      go_wp2_with fail
      go_ret
      exact ⟨rfl, rfl⟩
    | false =>
    cases k8 : n == 64 with
    | true =>
      have hrr : r = 1 := by rw [HRN.out, k0, k1, k2, k3, k4, k5, k6, k7, k8]; rfl
      subst hrr
      clear HRN
      go_wp2_with fail
      go_ret
      exact ⟨rfl, rfl⟩
    | false =>
    cases k9 : n == 40 with
    | true =>
      have hrr : r = 1 := by rw [HRN.out, k0, k1, k2, k3, k4, k5, k6, k7, k8, k9]; rfl
      subst hrr
      clear HRN
      go_wp2_with fail
      go_ret
      exact ⟨rfl, rfl⟩
    | false =>
    cases k10 : n == 41 with
    | true =>
      have hrr : r = 1 := by rw [HRN.out, k0, k1, k2, k3, k4, k5, k6, k7, k8, k9, k10]; rfl
      subst hrr
      clear HRN
      go_wp2_with fail
      go_ret
      exact ⟨rfl, rfl⟩
    | false =>
    cases k11 : n == 123 with
    | true =>
      have hrr : r = 1 := by rw [HRN.out, k0, k1, k2, k3, k4, k5, k6, k7, k8, k9, k10, k11]; rfl
      subst hrr
      clear HRN
      go_wp2_with fail
      go_ret
      exact ⟨rfl, rfl⟩
    | false =>
    cases k12 : n == 125 with
    | true =>
      have hrr : r = 1 := by rw [HRN.out, k0, k1, k2, k3, k4, k5, k6, k7, k8, k9, k10, k11, k12]; rfl
      subst hrr
      clear HRN
      go_wp2_with fail
      go_ret
      exact ⟨rfl, rfl⟩
    | false =>
    cases k13 : n == 91 with
    | true =>
      have hrr : r = 1 := by rw [HRN.out, k0, k1, k2, k3, k4, k5, k6, k7, k8, k9, k10, k11, k12, k13]; rfl
      subst hrr
      clear HRN
      go_wp2_with fail
      go_ret
      exact ⟨rfl, rfl⟩
    | false =>
    cases k14 : n == 93 with
    | true =>
      have hrr : r = 1 := by rw [HRN.out, k0, k1, k2, k3, k4, k5, k6, k7, k8, k9, k10, k11, k12, k13, k14]; rfl
      subst hrr
      clear HRN
      go_wp2_with fail
      go_ret
      exact ⟨rfl, rfl⟩
    | false =>
    cases k15 : n == 44 with
    | true =>
      have hrr : r = 1 := by rw [HRN.out, k0, k1, k2, k3, k4, k5, k6, k7, k8, k9, k10, k11, k12, k13, k14, k15]; rfl
      subst hrr
      clear HRN
      go_wp2_with fail
      go_ret
      exact ⟨rfl, rfl⟩
    | false =>
    have hrr : r = 0 := by rw [HRN.out, k0, k1, k2, k3, k4, k5, k6, k7, k8, k9, k10, k11, k12, k13, k14, k15]; rfl
    subst hrr
    clear HRN
    go_wp2_with fail
    go_ret
    exact ⟨rfl, rfl⟩
end Go.Proofs.YtaggmakaceafgaaGreatDoor

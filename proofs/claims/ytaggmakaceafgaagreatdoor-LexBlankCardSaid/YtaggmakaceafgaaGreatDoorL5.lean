import Derived.Test.YtaggmakaceafgaaGreatDoorL4
import Derived.Deep.RegionHeld3
import Derived.BigRegion
namespace Go.Proofs.YtaggmakaceafgaaGreatDoor
open Go.RowKit Lx Er
set_option linter.unusedVariables false

/-! LexBlank: what is put in -/
section
variable (numB spanB : List UInt8 → Bool)
def prevA (p : Nat) (ts : List Tk) (i : Nat) : Nat := if i = 0 then p else (ts.getD (i - 1) t0).2.1
theorem lexS_asc : ∀ (ts : List Tk) (l : List UInt8) (p : Nat), lexS numB spanB l p = .ok ts → ∀ i, i < ts.length → prevA p ts i ≤ (ts.getD i t0).2.1 ∧ (ts.getD i t0).2.1 ≤ p + l.length
  | [], _, _, _, i, hi => by simp at hi
  | (k, a, t) :: ts, l, p, h, i, hi => by
    obtain ⟨g, x, y, rfl, hg, rfl, ht, hy⟩ := lexS_cons numB spanB h
    have ih := lexS_asc ts y _ hy
    cases i with
    | zero => simp [prevA]
    | succ i =>
      have hi' : i < ts.length := by simpa using hi
      have h1 := ih i hi'
      simp only [List.getD_cons_succ, List.length_append]
      refine ⟨?_, by omega⟩
      unfold prevA at h1 ⊢
      rw [if_neg (by omega)]
      cases i with
      | zero => simp at h1 ⊢; omega
      | succ j =>
        rw [if_neg (by omega)] at h1
        simpa using h1.1
end
/-- what is put together up to the i-th token -/
def preF (L : List UInt8) (ts : List Tk) : Nat → List UInt8
  | 0 => []
  | i + 1 => preF L ts i ++ (L.take (ts.getD i t0).2.1).drop (prevA 0 ts i) ++ sep i
def ascB (p n : Nat) (ts : List Tk) : Prop := ∀ i, i < ts.length → prevA p ts i ≤ (ts.getD i t0).2.1 ∧ (ts.getD i t0).2.1 ≤ n
theorem insF_at (L : List UInt8) (ts : List Tk) (h : ascB 0 L.length ts) : ∀ i, i ≤ ts.length → insF L 0 0 ts = preF L ts i ++ insF (L.drop (prevA 0 ts i)) (prevA 0 ts i) i (ts.drop i)
  | 0, _ => by simp [preF, prevA]
  | i + 1, hi => by
    rw [insF_at L ts h i (by omega)]
    have hd : ts.drop i = ts[i] :: ts.drop (i + 1) := List.drop_eq_getElem_cons (by omega)
    have hg : ts.getD i t0 = ts[i] := by simp [show i < ts.length by omega]
    have hp : prevA 0 ts (i + 1) = (ts.getD i t0).2.1 := by unfold prevA; rw [if_neg (by omega)]; rfl
    have hh := h i (by omega)
    rw [hp, hd]
    rcases hq : ts[i] with ⟨k, a, t⟩
    have ha : (ts.getD i t0).2.1 = a := by rw [hg, hq]
    rw [ha] at hh ⊢
    rw [insF, preF, ha]
    have e1 : (L.drop (prevA 0 ts i)).take (a - prevA 0 ts i) = (L.take a).drop (prevA 0 ts i) := by rw [List.drop_take]
    have e2 : (L.drop (prevA 0 ts i)).drop (a - prevA 0 ts i) = L.drop a := by rw [List.drop_drop]; congr 1; omega
    rw [e1, e2]
    simp [List.append_assoc]
theorem insF_end (L : List UInt8) (ts : List Tk) (h : ascB 0 L.length ts) : insF L 0 0 ts = preF L ts ts.length ++ L.drop (prevA 0 ts ts.length) ++ [10, 35] := by
  rw [insF_at L ts h ts.length (Nat.le_refl _), List.drop_length, insF, List.append_assoc]
theorem preF_le (L : List UInt8) (ts : List Tk) (h : ascB 0 L.length ts) (i : Nat) (hi : i ≤ ts.length) : (preF L ts i).length ≤ L.length + 5 * ts.length + 2 := by
  have h1 := congrArg List.length (insF_at L ts h i hi)
  have h2 := ins_len ts L 0 0
  rw [List.length_append] at h1
  omega
theorem moves_len : ∀ {ts us : List Tk}, Moves ts us → ts.length = us.length
  | _, _, .nil => rfl
  | _, _, .cons _ h => by simp [moves_len h]
theorem moves_at : ∀ {ts us : List Tk}, Moves ts us → ∀ i, i < ts.length → (us.getD i t0).1 = (ts.getD i t0).1 ∧ (us.getD i t0).2.2 = (ts.getD i t0).2.2 ∧ (ts.getD i t0).2.1 ≤ (us.getD i t0).2.1
  | _, _, .nil, i, hi => by simp at hi
  | _, _, .cons h1 h, i, hi => by
    cases i with
    | zero => exact ⟨rfl, rfl, h1⟩
    | succ i => exact moves_at h i (by simpa using hi)
def sepS (i : Nat) : ByteArray := ⟨(sep i).toArray⟩
theorem sl9 (s : ByteArray) (p q : Nat) (h1 : p ≤ q) (h2 : q ≤ s.size) (w : World) : (Instr.slice 9 (.string s) (some (.int .i64 (p : Int))) (some (.int .i64 (q : Int))) none).run Tryz.prog w = .ok (.string (s.extract p q)) w := by
  have := run_slice_string (P := Tryz.prog) w 9 s .i64 .i64 (p : Int) (q : Int) Tryz.underlying9 (by omega) (by omega) (by omega)
  simpa using this
section
variable {Q qo qc P off c F fo fc : Nat}
theorem str_add (a b : ByteArray) (h : a.size + b.size ≤ 65536) (w : World) : (Op.stringOp .add a b).run Tryz.prog w = .ok (.string (a ++ b)) w := by
  unfold Op.stringOp
  simp
  omega
def BRel (s : ByteArray) (ts : List Tk) (A : Option Addr) (i : Nat) (t : ByteArray) (w wx : World) : Prop :=
  t.data.toList = preF s.data.toList ts i ∧ Toks wx A ts ∧ Below w.heap.size w wx
set_option maxRecDepth 100000 in
set_option maxHeartbeats 2000000 in
theorem blank_ok (s : ByteArray) (ts : List Tk) (w : World) (hL : Laid Q qo qc P off c F fo fc w) (hs : s.size ≤ 400) (hts : lexS numB spanB s.data.toList 0 = .ok ts) :
    Calls Tryz.prog 4 #[.string s] w fun e w' => e = .returned (.bool true) ∧ Below w.heap.size w w' := by
  have HL := Lib.hid hL
  have HW := Lib.hid (awake_any w hL)
  have HTS := Lib.hid hts
  have hasc := lexS_asc numB spanB ts _ _ hts
  rw [Nat.zero_add] at hasc
  have HASC : Hid (ascB 0 s.data.toList.length ts) := hasc
  have hlen := lexS_len numB spanB ts _ _ hts
  rw [← Lib.size_eq] at hlen
  have d1 : ¬ (400 : Int) < (s.size : Int) := by omega
  clear hL hts hasc
  go_enter Tryz.func4, Tryz.ntmps4
  go_wp2_with fail
  refine (HW.out).mono ?_
  rintro e w1 ⟨rfl, hb1⟩
  have HB1 := Lib.hid hb1
  have HL1 := Lib.hid (HL.out.below hb1)
  have H1 := Lib.hid (lex_ok s ts w1 HL1.out (by omega) HTS.out)
  clear hb1
  go_wp2_with fail
  refine (H1.out).mono ?_
  rintro e w2 ⟨v, rfl, ho, hb2⟩
  obtain ⟨A, ca, rfl, ht⟩ := own_toks ho
  have HB2 := Lib.hid (HB1.out.trans (hb2.mono HB1.out.size))
  have HTK := Lib.hid ht
  obtain ⟨n, hn⟩ : ∃ n, ts.length = n := ⟨_, rfl⟩
  have HN := Lib.hid hn
  rw [hn] at hlen ⊢
  have HR0 : Hid (BRel s ts A 0 ⟨#[]⟩ w w2) := ⟨rfl, HTK.out, HB2.out⟩
  clear hb2 ho ht hn H1
  go_wp2_with fail
  go_loopg [5, 6, 7] n (fun g s5 s6 s7 wx => ∃ (i : Nat) (t : ByteArray), i + g = n ∧ s7 = .int .i64 (i : Int) ∧ s6 = .int .i64 (prevA 0 ts i : Int) ∧ s5 = .string t ∧ Hid (BRel s ts A i t w wx))
  case atStart => exact ⟨0, ⟨#[]⟩, by omega, rfl, rfl, rfl, HR0⟩
  case round =>
    obtain ⟨i, t, hig, rfl, rfl, rfl, HR⟩ := hrel
    obtain ⟨r1, r2, r3⟩ := HR.out
    have htl : t.size ≤ 2500 := by
      have := preF_le s.data.toList ts HASC.out i (by rw [HN.out]; omega)
      rw [Lib.size_eq, r1]
      have h2 := HN.out
      have h3 := Lib.size_eq s
      omega
    by_cases hi : i < n
    · obtain ⟨g, rfl⟩ : ∃ g, gk = g + 1 := ⟨gk - 1, by omega⟩
      have hii : (i : Int) < (n : Int) := by omega
      have hit : i < ts.length := by rw [HN.out]; exact hi
      obtain ⟨b, rfl, hbl, hc⟩ := r2 (by omega)
      have hcc := (hc i hit).2.1
      have has := HASC.out i hit
      rw [← Lib.size_eq] at has
      have hpn : prevA 0 ts (i + 1) = (ts.getD i t0).2.1 := by unfold prevA; rw [if_neg (by omega)]; rfl
      have hpre : (t ++ s.extract (prevA 0 ts i) (ts.getD i t0).2.1 ++ sepS i).data.toList = preF s.data.toList ts (i + 1) := by
        rw [preF, ← r1]
        simp only [ByteArray.data_append, Array.toList_append, Lib.extract_data, sepS]
        rw [List.drop_take]
      obtain ⟨a, ha⟩ : ∃ a, (ts.getD i t0).2.1 = a := ⟨_, rfl⟩
      obtain ⟨p, hp⟩ : ∃ p, prevA 0 ts i = p := ⟨_, rfl⟩
      rw [ha] at hcc has hpre hpn
      rw [hp] at has hpre ⊢
      have sl := fun wx => sl9 s p a has.1 has.2 wx
      obtain ⟨seg, hseg⟩ : ∃ seg, s.extract p a = seg := ⟨_, rfl⟩
      have hss : seg.size ≤ 400 := by rw [← hseg, ByteArray.size_extract]; omega
      rw [hseg] at sl hpre
      have HPRE := Lib.hid hpre
      have HPN := Lib.hid hpn
      have HTK2 := Lib.hid r2
      have HBX := Lib.hid r3
      have hcc2 : ∀ o, (wr.alloc o).cell? ⟨b, i * 3 + 1, none⟩ = some (.int .i64 (a : Int)) := fun o => (World.cell?_alloc_lt wr o _ hbl).trans hcc
      have add1 : ∀ W, (Op.stringOp .add t seg).run Tryz.prog W = .ok (.string (t ++ seg)) W := fun W => str_add t seg (by omega) W
      have add2 : ∀ u : ByteArray, u.size ≤ 5 → ∀ W, (Op.stringOp .add (t ++ seg) u).run Tryz.prog W = .ok (.string (t ++ seg ++ u)) W := fun u hu W => str_add _ u (by rw [ByteArray.size_append]; omega) W
      clear r1 r2 r3 hc hpre hpn hit ha hp hseg HR
      rcases (by omega : i % 4 = 0 ∨ i % 4 = 1 ∨ i % 4 = 2 ∨ i % 4 = 3) with h4 | h4 | h4 | h4
      · have hrem : (i : Int).tmod 4 = 0 := by rw [Int.tmod_eq_emod_of_nonneg (by omega)]; omega
        have hsp : sepS i = ⟨#[32]⟩ := by unfold sepS sep; rw [if_pos h4]
        rw [hsp] at HPRE
        have HB2 : Hid (Below w.heap.size w (wr.alloc (.cells #[.string ⟨#[32]⟩, .string ⟨#[10]⟩, .string ⟨#[9]⟩, .string ⟨#[32, 10, 35, 120, 10]⟩] 9))) := HBX.out.alloc HBX.out.size _
        have HTK3 := Lib.hid (HTK2.out.below ((Below.refl wr.heap.size wr).alloc (Nat.le_refl _) (.cells #[.string ⟨#[32]⟩, .string ⟨#[10]⟩, .string ⟨#[9]⟩, .string ⟨#[32, 10, 35, 120, 10]⟩] 9)))
        have HPI : Hid ((a : Int) = (prevA 0 ts (i + 1) : Int)) := by show _ = _; rw [HPN.out]
        clear hsp h4
        go_wp2_with fail
        go_region
        go_wp2_with fail
        rw [HPI.out]
        go_roundg g
        case measure => omega
        case rel => exact ⟨i + 1, _, by omega, by go_num, rfl, rfl, HPRE.out, HTK3.out, HB2.out.drew⟩
      · have hrem : (i : Int).tmod 4 = 1 := by rw [Int.tmod_eq_emod_of_nonneg (by omega)]; omega
        have hsp : sepS i = ⟨#[10]⟩ := by unfold sepS sep; rw [if_neg (by omega), if_pos h4]
        rw [hsp] at HPRE
        have HB2 : Hid (Below w.heap.size w (wr.alloc (.cells #[.string ⟨#[32]⟩, .string ⟨#[10]⟩, .string ⟨#[9]⟩, .string ⟨#[32, 10, 35, 120, 10]⟩] 9))) := HBX.out.alloc HBX.out.size _
        have HTK3 := Lib.hid (HTK2.out.below ((Below.refl wr.heap.size wr).alloc (Nat.le_refl _) (.cells #[.string ⟨#[32]⟩, .string ⟨#[10]⟩, .string ⟨#[9]⟩, .string ⟨#[32, 10, 35, 120, 10]⟩] 9)))
        have HPI : Hid ((a : Int) = (prevA 0 ts (i + 1) : Int)) := by show _ = _; rw [HPN.out]
        clear hsp h4
        go_wp2_with fail
        go_region
        go_wp2_with fail
        rw [HPI.out]
        go_roundg g
        case measure => omega
        case rel => exact ⟨i + 1, _, by omega, by go_num, rfl, rfl, HPRE.out, HTK3.out, HB2.out.drew⟩
      · have hrem : (i : Int).tmod 4 = 2 := by rw [Int.tmod_eq_emod_of_nonneg (by omega)]; omega
        have hsp : sepS i = ⟨#[9]⟩ := by unfold sepS sep; rw [if_neg (by omega), if_neg (by omega), if_pos h4]
        rw [hsp] at HPRE
        have HB2 : Hid (Below w.heap.size w (wr.alloc (.cells #[.string ⟨#[32]⟩, .string ⟨#[10]⟩, .string ⟨#[9]⟩, .string ⟨#[32, 10, 35, 120, 10]⟩] 9))) := HBX.out.alloc HBX.out.size _
        have HTK3 := Lib.hid (HTK2.out.below ((Below.refl wr.heap.size wr).alloc (Nat.le_refl _) (.cells #[.string ⟨#[32]⟩, .string ⟨#[10]⟩, .string ⟨#[9]⟩, .string ⟨#[32, 10, 35, 120, 10]⟩] 9)))
        have HPI : Hid ((a : Int) = (prevA 0 ts (i + 1) : Int)) := by show _ = _; rw [HPN.out]
        clear hsp h4
        go_wp2_with fail
        go_region
        go_wp2_with fail
        rw [HPI.out]
        go_roundg g
        case measure => omega
        case rel => exact ⟨i + 1, _, by omega, by go_num, rfl, rfl, HPRE.out, HTK3.out, HB2.out.drew⟩
      · have hrem : (i : Int).tmod 4 = 3 := by rw [Int.tmod_eq_emod_of_nonneg (by omega)]; omega
        have hsp : sepS i = ⟨#[32, 10, 35, 120, 10]⟩ := by unfold sepS sep; rw [if_neg (by omega), if_neg (by omega), if_neg (by omega)]
        rw [hsp] at HPRE
        have HB2 : Hid (Below w.heap.size w (wr.alloc (.cells #[.string ⟨#[32]⟩, .string ⟨#[10]⟩, .string ⟨#[9]⟩, .string ⟨#[32, 10, 35, 120, 10]⟩] 9))) := HBX.out.alloc HBX.out.size _
        have HTK3 := Lib.hid (HTK2.out.below ((Below.refl wr.heap.size wr).alloc (Nat.le_refl _) (.cells #[.string ⟨#[32]⟩, .string ⟨#[10]⟩, .string ⟨#[9]⟩, .string ⟨#[32, 10, 35, 120, 10]⟩] 9)))
        have HPI : Hid ((a : Int) = (prevA 0 ts (i + 1) : Int)) := by show _ = _; rw [HPN.out]
        clear hsp h4
        go_wp2_with fail
        go_region
        go_wp2_with fail
        rw [HPI.out]
        go_roundg g
        case measure => omega
        case rel => exact ⟨i + 1, _, by omega, by go_num, rfl, rfl, HPRE.out, HTK3.out, HB2.out.drew⟩
    · obtain rfl : i = n := by omega
      have hd : ¬ ((i : Int) < (i : Int)) := by omega
      obtain ⟨us, hus, hmv⟩ := blank_all numB spanB HTS.out
      have hend := insF_end s.data.toList ts HASC.out
      rw [HN.out, ← r1] at hend
      have hpl : prevA 0 ts i ≤ s.size := by
        unfold prevA
        split
        · omega
        · have h2 := HASC.out (i - 1) (by rw [HN.out]; omega)
          rw [← Lib.size_eq] at h2
          exact h2.2
      obtain ⟨p, hp⟩ : ∃ p, prevA 0 ts i = p := ⟨_, rfl⟩
      rw [hp] at hpl hend ⊢
      have sl := fun wx => Sp.sl_at s p hpl wx
      have hul : (t ++ s.extract p s.size ++ ⟨#[10, 35]⟩).data.toList = insF s.data.toList 0 0 ts := by
        rw [hend]
        simp only [ByteArray.data_append, Array.toList_append, Lib.extract_data]
        rw [List.take_of_length_le (by rw [List.length_drop, ← Lib.size_eq]; omega)]
      obtain ⟨seg, hseg⟩ : ∃ seg, s.extract p s.size = seg := ⟨_, rfl⟩
      have hss : seg.size ≤ 400 := by rw [← hseg, ByteArray.size_extract]; omega
      rw [hseg] at sl hul
      have add1 : ∀ W, (Op.stringOp .add t seg).run Tryz.prog W = .ok (.string (t ++ seg)) W := fun W => str_add t seg (by omega) W
      have add2 : ∀ W, (Op.stringOp .add (t ++ seg) ⟨#[10, 35]⟩).run Tryz.prog W = .ok (.string (t ++ seg ++ ⟨#[10, 35]⟩)) W := fun W => str_add _ _ (by rw [ByteArray.size_append]; show _ + 2 ≤ _; omega) W
      have husz : (t ++ seg ++ ⟨#[10, 35]⟩ : ByteArray).size ≤ 4000 := by rw [ByteArray.size_append, ByteArray.size_append]; show _ + _ + 2 ≤ _; omega
      have H2 := Lib.hid (lex_ok (t ++ seg ++ ⟨#[10, 35]⟩) us wr (HL.out.below r3) husz (by rw [hul]; exact hus))
      have HMV := Lib.hid hmv
      have hln := moves_len hmv
      have HTK2 := Lib.hid r2
      have HBX := Lib.hid r3
      clear r1 r2 r3 hend hul hus hmv hp hseg husz HR
      go_wp2_with fail
      refine (H2.out).mono ?_
      rintro e w5 ⟨v5, rfl, ho5, hb5⟩
      obtain ⟨A5, c5, rfl, ht5⟩ := own_toks ho5
      have HT5 := Lib.hid ht5
      have HTK5 := Lib.hid (HTK2.out.below hb5)
      have HB5 := Lib.hid (HBX.out.trans (hb5.mono HBX.out.size))
      rw [← hln, HN.out]
      clear ho5 ht5 hb5 hln
      go_wp2_with fail
      go_loopg [10] i (fun g s10 wx => ∃ j q : Nat, j + g = i ∧ s10 = .int .i64 (j : Int) ∧ wx = w5.drewN q)
      case atStart => exact ⟨0, 0, by omega, rfl, rfl⟩
      case round =>
        obtain ⟨j, q, hjg, rfl, rfl⟩ := hrel
        by_cases hj : j < i
        · obtain ⟨g, rfl⟩ : ∃ g, gk = g + 1 := ⟨gk - 1, by omega⟩
          have hji : (j : Int) < (i : Int) := by omega
          have hjt : j < ts.length := by rw [HN.out]; exact hj
          have hju : j < us.length := by rw [← moves_len HMV.out]; exact hjt
          obtain ⟨m1, m2, m3⟩ := moves_at HMV.out j hjt
          obtain ⟨a, rfl, ha, hca⟩ := HTK5.out (by omega)
          obtain ⟨b, rfl, hb, hcb⟩ := HT5.out (by omega)
          obtain ⟨a0, a1, a2⟩ := hca j hjt
          obtain ⟨b0, b1, b2⟩ := hcb j hju
          rw [m1] at b0
          rw [m2] at b2
          have a0 : (w5.drewN q).cell? ⟨a, j * 3, none⟩ = _ := a0
          have a1 : (w5.drewN q).cell? ⟨a, j * 3 + 1, none⟩ = _ := a1
          have a2 : (w5.drewN q).cell? ⟨a, j * 3 + 2, none⟩ = _ := a2
          have b0 : (w5.drewN q).cell? ⟨b, j * 3, none⟩ = _ := b0
          have b1 : (w5.drewN q).cell? ⟨b, j * 3 + 1, none⟩ = _ := b1
          have b2 : (w5.drewN q).cell? ⟨b, j * 3 + 2, none⟩ = _ := b2
          generalize (ts.getD j t0).1 = x at *
          generalize (⟨(ts.getD j t0).2.2.toArray⟩ : ByteArray) = z at *
          generalize (ts.getD j t0).2.1 = y at *
          generalize (us.getD j t0).2.1 = y2 at *
          have hy : decide ((y2 : Int) < (y : Int)) = false := decide_eq_false (by omega)
          have hy2 : decide (y2 < y) = false := decide_eq_false (by omega)
          clear hca hcb m1 m2 m3 hjt hju
          generalize hw2 : w5.drewN q = w6 at *
          have HW2 := Lib.hid hw2
          clear hw2
          go_wp2_with fail
          go_quiet (fail)
          go_wp2_with fail
          go_roundg g
          case measure => omega
          case rel => exact ⟨j + 1, q + nq, by omega, by go_num, by rw [← HW2.out, World.drewN_drewN]⟩
        · obtain rfl : j = i := by omega
          go_wp2_with fail
          go_ret
          exact ⟨rfl, Sp.bel_drawn HB5.out _⟩
theorem blank_law (s : ByteArray) (w : World) (hL : Laid Q qo qc P off c F fo fc w) :
    Calls Tryz.prog 4 #[.string s] w fun e w' => e = .returned (.bool true) ∧ Below w.heap.size w w' := by
  by_cases hs : 400 < s.size
  · have HW := Lib.hid (awake_any w hL)
    have d1 : (400 : Int) < (s.size : Int) := by omega
    clear hL
    go_enter Tryz.func4, Tryz.ntmps4
    go_wp2_with fail
    refine (HW.out).mono ?_
    rintro e w1 ⟨rfl, hb1⟩
    have HB1 := Lib.hid hb1
    clear hb1
    go_wp2_with fail
    go_ret
    exact ⟨rfl, HB1.out⟩
  · cases hr : lexS numB spanB s.data.toList 0 with
    | ok ts => exact blank_ok s ts w hL (by omega) hr
    | error p =>
      have HW := Lib.hid (awake_any w hL)
      have HL := Lib.hid hL
      have HR := Lib.hid hr
      have d1 : ¬ (400 : Int) < (s.size : Int) := by omega
      clear hL hr
      go_enter Tryz.func4, Tryz.ntmps4
      go_wp2_with fail
      refine (HW.out).mono ?_
      rintro e w1 ⟨rfl, hb1⟩
      have HB1 := Lib.hid hb1
      have H1 := Lib.hid (lex_bad s p w1 (HL.out.below hb1) (by omega) HR.out)
      clear hb1
      go_wp2_with fail
      refine (H1.out).mono ?_
      rintro e w2 ⟨f, rfl, _, _, hb2⟩
      have HB2 := Lib.hid (HB1.out.trans (hb2.mono HB1.out.size))
      clear hb2
      go_wp2_with fail
      go_ret
      exact ⟨rfl, HB2.out⟩
end
end Go.Proofs.YtaggmakaceafgaaGreatDoor

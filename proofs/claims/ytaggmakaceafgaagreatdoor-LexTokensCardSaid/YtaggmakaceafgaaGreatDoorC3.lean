import Derived.Test.YtaggmakaceafgaaGreatDoorC2
namespace Go.Proofs.YtaggmakaceafgaaGreatDoor
open Go.RowKit Lx
set_option linter.unusedVariables false

/-! where a number ends -/
theorem two_below {w : World} {E P : Nat} {x y : Value} {B : Nat} (hE : B ≤ E) (hP : B ≤ P) : Below B w ((w.setCell ⟨E, 0, none⟩ x).setCell ⟨P, 0, none⟩ y) :=
  ((Below.refl B w).setCell hE _).setCell hP _
def NumP (B E P : Nat) (c : UInt8) (p b : Bool) (w : World) (e : Ending) (w' : World) : Prop :=
  e = .returned (.bool (numC b c)) ∧ Blk w' E 4 #[.bool (numB' p c)] ∧ Blk w' P 4 #[.bool (numP p c)] ∧ Below B w w'
theorem blk_other {w : World} {E P i : Nat} {t : TypeId} {cs : Array Value} (h : Blk w E t cs) (hne : E ≠ P) (v : Value) : Blk (w.setCell ⟨P, i, none⟩ v) E t cs :=
  ((Moved.set P i w v).block E hne).trans h
theorem eq_of {c : UInt8} {n : Nat} (hn : n < 256) (h : c.toNat = n) : c = UInt8.ofNat n := by
  rw [← UInt8.toNat_inj]; simp; omega
theorem numc_any (B E P : Nat) (c : UInt8) (p b : Bool) (w : World) (hE : Blk w E 4 #[.bool b]) (hP : Blk w P 4 #[.bool p]) (hne : E ≠ P) (hBE : B ≤ E) (hBP : B ≤ P) :
    Calls Tryz.prog 57 #[.int .u8 (c.toNat : Int), .pointer (some ⟨E, 0, none⟩), .pointer (some ⟨P, 0, none⟩)] w (NumP B E P c p b w) := by
  have c0 := hE.cell 0
  have c1 := hE.frozen 0
  have c2 := hP.cell 0
  have c3 := hP.frozen 0
  simp at c0 c2
  have hne1 : (E == P) = false := by simp; exact hne
  have hne2 : (P == E) = false := by simp; exact fun e => hne e.symm
  have c4 : ∀ v, (w.setCell ⟨E, 0, none⟩ v).cell? ⟨P, 0, none⟩ = some (.bool p) := fun v => by
    have := (blk_other (i := 0) hP hne.symm v).cell 0
    simpa using this
  have c5 : ∀ v, (w.setCell ⟨E, 0, none⟩ v).frozen? ⟨P, 0, none⟩ = false := fun v => (blk_other (i := 0) hP hne.symm v).frozen 0
  have HE := Lib.hid hE
  have HP := Lib.hid hP
  have HNE := Lib.hid hne
  have HB1 := Lib.hid hBE
  have HB2 := Lib.hid hBP
  have HL := Lib.hid (letter_any c)
  have HD := Lib.hid (digit_any c)
  clear hE hP hne hBE hBP
  by_cases h43 : c.toNat = 43 ∨ c.toNat = 45
  · have hc : c = 43 ∨ c = 45 := h43.imp (fun h => eq_of (n := 43) (by omega) h) (fun h => eq_of (n := 45) (by omega) h)
    have hN : NumP B E P c p b w = fun e w' => e = .returned (.bool b) ∧ Blk w' E 4 #[.bool false] ∧ Blk w' P 4 #[.bool p] ∧ Below B w w' := by
      funext e w'; unfold NumP numC numB' numP; rw [if_pos hc, if_pos hc, if_pos hc]
    rw [hN]
    have HF : Hid (Blk (w.setCell ⟨E, 0, none⟩ (.bool false)) E 4 #[.bool false] ∧ Blk (w.setCell ⟨E, 0, none⟩ (.bool false)) P 4 #[.bool p] ∧ Below B w (w.setCell ⟨E, 0, none⟩ (.bool false))) :=
      ⟨HE.out.set_ 0 (.bool false), blk_other HP.out HNE.out.symm _, (Below.refl B w).setCell HB1.out _⟩
    clear hN hc
    rcases h43 with h | h
    · have hx : (c.toNat : Int) = 43 := by omega
      clear h
      generalize (c.toNat : Int) = n at *
      subst hx
      go_enter Tryz.func57, Tryz.ntmps57
      go_wp2_with fail
      go_ret
      exact ⟨rfl, HF.out⟩
    · have hx : (c.toNat : Int) = 45 := by omega
      clear h
      generalize (c.toNat : Int) = n at *
      subst hx
      go_enter Tryz.func57, Tryz.ntmps57
      go_wp2_with fail
      go_ret
      exact ⟨rfl, HF.out⟩
  · have hc : ¬ (c = 43 ∨ c = 45) := by rintro (rfl | rfl) <;> exact h43 (by decide)
    have e101 := byte_eq c 101 (by omega)
    have e69 := byte_eq c 69 (by omega)
    have e46 := byte_eq c 46 (by omega)
    have hN : NumP B E P c p b w = fun e w' => e = .returned (.bool (Lx.isL c || Lx.isD c || ((c.toNat : Int) == 46))) ∧ Blk w' E 4 #[.bool (p && (((c.toNat : Int) == 101) || ((c.toNat : Int) == 69)))] ∧ Blk w' P 4 #[.bool (p && (Lx.isD c || ((c.toNat : Int) == 46)))] ∧ Below B w w' := by
      funext e w'; unfold NumP numC numB' numP; rw [if_neg hc, if_neg hc, if_neg hc]
      rw [show (101 : Int) = ((101 : Nat) : Int) from rfl, show (69 : Int) = ((69 : Nat) : Int) from rfl, show (46 : Int) = ((46 : Nat) : Int) from rfl, ← e101, ← e69, ← e46]
      rfl
    rw [hN]
    have d43 : ((c.toNat : Int) == 43) = false := beq_eq_false_iff_ne.2 (by omega)
    have d45 : ((c.toNat : Int) == 45) = false := beq_eq_false_iff_ne.2 (by omega)
    have hcnt : ∃ n : Int, (c.toNat : Int) = n := ⟨_, rfl⟩
    have HF : Hid (∀ x y : Bool, Blk ((w.setCell ⟨E, 0, none⟩ (.bool x)).setCell ⟨P, 0, none⟩ (.bool y)) E 4 #[.bool x] ∧ Blk ((w.setCell ⟨E, 0, none⟩ (.bool x)).setCell ⟨P, 0, none⟩ (.bool y)) P 4 #[.bool y] ∧ Below B w ((w.setCell ⟨E, 0, none⟩ (.bool x)).setCell ⟨P, 0, none⟩ (.bool y))) :=
      fun x y => ⟨blk_other (HE.out.set_ 0 (.bool x)) HNE.out _, (blk_other HP.out HNE.out.symm _).set_ 0 (.bool y), two_below HB1.out HB2.out⟩
    clear hN hc h43 e101 e69 e46 HE HP HNE HB1 HB2
    generalize (c.toNat : Int) = n at *
    clear hcnt
    generalize Lx.isL c = l at *
    generalize Lx.isD c = d at *
    cases p with
    | false =>
      cases l with
      | true =>
        go_enter Tryz.func57, Tryz.ntmps57
        go_wp2_with fail
        refine (HL.out _).mono ?_
        rintro e w1 ⟨rfl, rfl⟩
        go_wp2_with fail
        go_ret
        exact ⟨rfl, HF.out _ _⟩
      | false =>
        cases d with
        | true =>
          go_enter Tryz.func57, Tryz.ntmps57
          go_wp2_with fail
          refine (HL.out _).mono ?_
          rintro e w1 ⟨rfl, rfl⟩
          go_wp2_with fail
          refine (HD.out _).mono ?_
          rintro e w1 ⟨rfl, rfl⟩
          go_wp2_with fail
          go_ret
          exact ⟨rfl, HF.out _ _⟩
        | false =>
          go_enter Tryz.func57, Tryz.ntmps57
          go_wp2_with fail
          refine (HL.out _).mono ?_
          rintro e w1 ⟨rfl, rfl⟩
          go_wp2_with fail
          refine (HD.out _).mono ?_
          rintro e w1 ⟨rfl, rfl⟩
          go_wp2_with fail
          go_ret
          exact ⟨rfl, HF.out _ _⟩
    | true =>
      by_cases h101 : n = 101
      · subst h101
        cases d with
        | true =>
          go_enter Tryz.func57, Tryz.ntmps57
          go_wp2_with fail
          refine (HD.out _).mono ?_
          rintro e w1 ⟨rfl, rfl⟩
          go_wp2_with fail
          refine (HL.out _).mono ?_
          rintro e w1 ⟨rfl, rfl⟩
          cases l with
          | true =>
            go_wp2_with fail
            go_ret
            exact ⟨rfl, HF.out _ _⟩
          | false =>
            go_wp2_with fail
            refine (HD.out _).mono ?_
            rintro e w1 ⟨rfl, rfl⟩
            go_wp2_with fail
            go_ret
            exact ⟨rfl, HF.out _ _⟩
        | false =>
          go_enter Tryz.func57, Tryz.ntmps57
          go_wp2_with fail
          refine (HD.out _).mono ?_
          rintro e w1 ⟨rfl, rfl⟩
          go_wp2_with fail
          refine (HL.out _).mono ?_
          rintro e w1 ⟨rfl, rfl⟩
          cases l with
          | true =>
            go_wp2_with fail
            go_ret
            exact ⟨rfl, HF.out _ _⟩
          | false =>
            go_wp2_with fail
            refine (HD.out _).mono ?_
            rintro e w1 ⟨rfl, rfl⟩
            go_wp2_with fail
            go_ret
            exact ⟨rfl, HF.out _ _⟩
      · have d101 : (n == 101) = false := beq_eq_false_iff_ne.2 h101
        rw [d101, Bool.true_and, Bool.false_or, Bool.true_and]
        clear h101
        cases d with
        | true =>
          go_enter Tryz.func57, Tryz.ntmps57
          go_wp2_with fail
          refine (HD.out _).mono ?_
          rintro e w1 ⟨rfl, rfl⟩
          go_wp2_with fail
          refine (HL.out _).mono ?_
          rintro e w1 ⟨rfl, rfl⟩
          cases l with
          | true =>
            go_wp2_with fail
            go_ret
            exact ⟨rfl, HF.out _ _⟩
          | false =>
            go_wp2_with fail
            refine (HD.out _).mono ?_
            rintro e w1 ⟨rfl, rfl⟩
            go_wp2_with fail
            go_ret
            exact ⟨rfl, HF.out _ _⟩
        | false =>
          go_enter Tryz.func57, Tryz.ntmps57
          go_wp2_with fail
          refine (HD.out _).mono ?_
          rintro e w1 ⟨rfl, rfl⟩
          go_wp2_with fail
          refine (HL.out _).mono ?_
          rintro e w1 ⟨rfl, rfl⟩
          cases l with
          | true =>
            go_wp2_with fail
            go_ret
            exact ⟨rfl, HF.out _ _⟩
          | false =>
            go_wp2_with fail
            refine (HD.out _).mono ?_
            rintro e w1 ⟨rfl, rfl⟩
            go_wp2_with fail
            go_ret
            exact ⟨rfl, HF.out _ _⟩
theorem whileN_any (s : ByteArray) (p E P B : Nat) (w : World) (hE : Blk w E 4 #[.bool false]) (hP : Blk w P 4 #[.bool true]) (hne : E ≠ P) (hBE : B ≤ E) (hBP : B ≤ P) (hp : p ≤ s.size) (hs : s.size ≤ 65536) :
    Calls Tryz.prog 18 #[.string s, .int .i64 (p : Int), .func (.func 57) #[] #[.pointer (some ⟨E, 0, none⟩), .pointer (some ⟨P, 0, none⟩)]] w fun e w' => e = .returned (.int .i64 ((p + numE true false (s.data.toList.drop p) : Nat) : Int)) ∧ Below B w w' := by
  have HC := Lib.hid (fun c q b W h1 h2 => numc_any B E P c q b W h1 h2 hne hBE hBP)
  have HD := Lib.hid (drop_byte s)
  have HN := Lib.hid (drop_none s)
  have HE := Lib.hid hE
  have HP := Lib.hid hP
  generalize hr : numE true false (s.data.toList.drop p) = r
  have HR := Lib.hid hr
  clear hr hE hP hne hBE hBP
  go_enter Tryz.func18, Tryz.ntmps18
  go_wp2_with fail
  go_loopg [1] s.size (fun g s1 wx => ∃ (j : Nat) (q b : Bool), p ≤ j ∧ j ≤ s.size ∧ s.size ≤ g + j ∧ s1 = .int .i64 (j : Int) ∧ Hid (numE q b (s.data.toList.drop j) + j = p + r) ∧ Hid (Blk wx E 4 #[.bool b]) ∧ Hid (Blk wx P 4 #[.bool q]) ∧ Hid (Below B w wx))
  case atStart => exact ⟨p, true, false, Nat.le_refl _, hp, by omega, rfl, by show _ = _; rw [HR.out]; omega, HE, HP, Below.refl _ _⟩
  case round =>
    obtain ⟨j, q, b, hpj, hj, hg, rfl, HJ, HXE, HXP, HM⟩ := hrel
    by_cases hlt : j < s.size
    · have d : decide (j < s.size) = true := decide_eq_true hlt
      have HDJ := HJ.out
      rw [HD.out j hlt, numE_cons] at HDJ
      have HCJ := Lib.hid (HC.out s[j] q b _ HXE.out HXP.out)
      unfold NumP at HCJ
      cases hw : numC b s[j] with
      | true =>
        rw [hw] at HDJ HCJ
        simp only [if_true] at HDJ
        generalize numP q s[j] = q2 at *
        generalize numB' q s[j] = b2 at *
        have HK := Lib.hid (show numE q2 b2 (s.data.toList.drop (j + 1)) + (j + 1) = p + r by omega)
        clear HDJ hw HJ
        obtain ⟨g, rfl⟩ : ∃ g, gk = g + 1 := ⟨gk - 1, by omega⟩
        go_wp2_with fail
        refine (HCJ.out).mono ?_
        rintro e w1 ⟨rfl, k1, k2, k3⟩
        have HB1 := Lib.hid k1
        have HB2 := Lib.hid k2
        have HM2 := Lib.hid (HM.out.trans k3)
        clear k1 k2 k3
        go_wp2_with fail
        go_roundg g
        case measure => omega
        case rel => exact ⟨j + 1, q2, b2, by omega, by omega, by omega, by go_num, HK, HB1, HB2, HM2⟩
      | false =>
        rw [hw] at HDJ HCJ
        have hjr : j = p + r := by simpa using HDJ
        have HX := Lib.hid hjr
        clear HDJ hw HJ hjr
        go_wp2_with fail
        refine (HCJ.out).mono ?_
        rintro e w1 ⟨rfl, k1, k2, k3⟩
        have HM2 := Lib.hid (HM.out.trans k3)
        clear k1 k2 k3
        go_wp2_with fail
        go_ret
        exact ⟨ret_nat HX.out, HM2.out⟩
    · have d : decide (j < s.size) = false := decide_eq_false hlt
      have HDJ := HJ.out
      rw [HN.out j (by omega), numE] at HDJ
      have hjr : j = p + r := by simpa using HDJ
      have HX := Lib.hid hjr
      clear HDJ HJ hjr
      go_wp2_with fail
      go_ret
      exact ⟨ret_nat HX.out, HM.out⟩
theorem numEnd_any (s : ByteArray) (p : Nat) (w : World) (hp : p ≤ s.size) (hs : s.size ≤ 65536) :
    Calls Tryz.prog 38 #[.string s, .int .i64 (p : Int)] w fun e w' => e = .returned (.int .i64 ((p + numE true false (s.data.toList.drop p) : Nat) : Int)) ∧ Below w.heap.size w w' := by
  have h1 : Blk ((w.alloc (.cells #[.bool true] 4)).alloc (.cells #[.bool false] 4)) (w.heap.size + 1) 4 #[.bool false] := by
    have := Blk.new (w.alloc (.cells #[.bool true] 4)) 4 #[.bool false]
    simpa using this
  have h2 : Blk ((w.alloc (.cells #[.bool true] 4)).alloc (.cells #[.bool false] 4)) w.heap.size 4 #[.bool true] := (Blk.new w 4 #[.bool true]).alloc _
  have H := Lib.hid (whileN_any s p (w.heap.size + 1) w.heap.size w.heap.size _ h1 h2 (by omega) (by omega) (by omega) hp hs)
  have HB := Lib.hid (((Below.refl w.heap.size w).alloc (Nat.le_refl _) (.cells #[.bool true] 4)).alloc (by simp) (.cells #[.bool false] 4))
  clear h1 h2
  go_enter Tryz.func38, Tryz.ntmps38
  go_wp2_with fail
  refine (H.out).mono ?_
  rintro e w1 ⟨rfl, hm⟩
  have HM := Lib.hid (HB.out.trans hm)
  clear hm
  go_wp2_with fail
  go_ret
  exact ⟨rfl, HM.out⟩
end Go.Proofs.YtaggmakaceafgaaGreatDoor

/- Whether a matcher is right, as the document says. No condition. -/
import Derived.Test.YtahphjaelpgjdaaDoorLc
import Derived.Test.YtahphjaelpgjdaaDoorLb
import Derived.Test.YtahphjaelpgjdaaDoorRf
namespace Go.Proofs.YtahphjaelpgjdaaDoor
open Go.RowKit Rx
set_option linter.unusedVariables false

def okR (v : ByteArray) : Bool := match readF v with
  | .bad _ _ => false
  | .ok _ _ _ => true
def opR (op : Int) (v : ByteArray) : Bool := decide (op = 1) || (decide (op = 2) || ((decide (op = 3) || decide (op = 4)) && okR v))
def refRightB (op : Int) (nm v : ByteArray) : Bool := Lb.nameB nm && valB v && opR op v
theorem parse_one (l : ByteArray) (w : World) : Calls Tryd.prog 8 #[.string l] w fun e w' => ∃ nk nA nn nc nB nn' nc' a c, e = .returned (.tuple #[ndV nk nA nn nc nB nn' nc', .int .i64 a, .int .i64 c]) ∧ (c == 0) = okR l ∧ Below w.heap.size w w' := by
  refine (parse_any l w).mono ?_
  rintro e w' ⟨hb, v, ⟨nk, nA, nn, nc, nB, nn', nc', rfl⟩, h⟩
  unfold okR
  cases hr : readF l with
  | bad pl c =>
    rw [hr] at h
    have hc : ((c : Nat) : Int) ≠ 0 := by rcases h.2 with h | h <;> omega
    exact ⟨nk, nA, nn, nc, nB, nn', nc', pl, c, h.1, beq_eq_false_iff_ne.2 hc, hb⟩
  | ok a m p =>
    rw [hr] at h
    exact ⟨nk, nA, nn, nc, nB, nn', nc', a, 0, h, rfl, hb⟩
set_option maxRecDepth 100000 in
set_option maxHeartbeats 8000000 in
theorem refright_any (op : Int) (nm v : ByteArray) (w : World) (hn : nm.size ≤ 65536) : Calls Tryd.prog 13 #[.agg #[.int .i64 op, .string nm, .string v]] w fun e w' => e = .returned (.bool (refRightB op nm v)) ∧ Below w.heap.size w w' := by
  have HP := Lib.hid (parse_one v (w.alloc (.cells #[.int .i64 op, .string nm, .string v] 37)))
  have HX := Lib.hid (Blk.new w 37 #[.int .i64 op, .string nm, .string v])
  have HB : Hid (Below w.heap.size w (w.alloc (.cells #[.int .i64 op, .string nm, .string v] 37))) := (Below.refl _ _).alloc (Nat.le_refl _) _
  have HN := Lib.hid (fun w => refname_any nm hn w)
  have HV := Lib.hid (fun w => refvalue_any v w)
  generalize hr : refRightB op nm v = r
  unfold refRightB opR at hr
  have HR := Lib.hid hr
  clear hr
  generalize okR v = k at *
  generalize Lb.nameB nm = x at *
  generalize valB v = y at *
  go_enter Tryd.func13, Tryd.ntmps13
  go_wp2_with fail
  refine (HP.out).mono ?_
  rintro e w1 ⟨nk, nA, nn, nc, nB, nn', nc', a, c, rfl, hk2, hb⟩
  have HB1 : Hid (Below w.heap.size w w1) := HB.out.trans (hb.mono (by simp))
  have HX1 := Lib.hid (HX.out.below hb)
  have hsz := HB1.out.size
  have HB2 := Lib.hid (HB1.out.alloc hsz (.cells #[.int .u8 nk, .slice nA nn nc, .slice nB nn' nc'] 30))
  have HX2 := Lib.hid (HX1.out.alloc (.cells #[.int .u8 nk, .slice nA nn nc, .slice nB nn' nc'] 30))
  clear hb HP HX HB HB1 HX1
  go_upto_region 2 with fail
  generalize w1.alloc (.cells _ 30) = W2 at *
  have y0 := HX2.out.cell 0
  have y1 := HX2.out.cell 1
  have y2 := HX2.out.cell 2
  simp only [List.getElem?_toArray, List.getElem?_cons_zero, List.getElem?_cons_succ] at y0 y1 y2
  cases x with
  | false =>
    have HF : Hid (false = r) := HR.out
    clear HR hk2
    go_wp2_with fail
    refine (HN.out _).mono ?_
    rintro e w3 ⟨rfl, rfl⟩
    go_wp2
    go_ret
    exact ⟨by rw [← HF.out]; rfl, HB2.out⟩
  | true =>
    cases y with
    | false =>
      have HF : Hid (false = r) := HR.out
      clear HR hk2
      go_wp2_with fail
      refine (HN.out _).mono ?_
      rintro e w3 ⟨rfl, rfl⟩
      go_wp2_with fail
      refine (HV.out _).mono ?_
      rintro e w3 ⟨rfl, rfl⟩
      go_wp2
      go_ret
      exact ⟨by rw [← HF.out]; rfl, HB2.out⟩
    | true =>
      by_cases h1 : op = 1
      · subst h1
        have HF : Hid (true = r) := HR.out
        clear HR hk2
        go_wp2_with fail
        refine (HN.out _).mono ?_
        rintro e w3 ⟨rfl, rfl⟩
        go_wp2_with fail
        refine (HV.out _).mono ?_
        rintro e w3 ⟨rfl, rfl⟩
        go_wp2
        go_ret
        exact ⟨by rw [← HF.out]; rfl, HB2.out⟩
      · by_cases h2 : op = 2
        · subst h2
          have HF : Hid (true = r) := HR.out
          clear HR hk2 h1
          go_wp2_with fail
          refine (HN.out _).mono ?_
          rintro e w3 ⟨rfl, rfl⟩
          go_wp2_with fail
          refine (HV.out _).mono ?_
          rintro e w3 ⟨rfl, rfl⟩
          go_wp2
          go_ret
          exact ⟨by rw [← HF.out]; rfl, HB2.out⟩
        · by_cases h3 : op = 3
          · subst h3
            have HF : Hid (k = r) := HR.out
            clear HR h1 h2
            have HK := Lib.hid hk2
            clear hk2
            go_wp2_with fail
            refine (HN.out _).mono ?_
            rintro e w3 ⟨rfl, rfl⟩
            go_wp2_with fail
            refine (HV.out _).mono ?_
            rintro e w3 ⟨rfl, rfl⟩
            go_wp2
            go_ret
            exact ⟨by rw [← HF.out, ← HK.out]; rfl, HB2.out⟩
          · by_cases h4 : op = 4
            · subst h4
              have HF : Hid (k = r) := HR.out
              clear HR h1 h2 h3
              have HK := Lib.hid hk2
              clear hk2
              go_wp2_with fail
              refine (HN.out _).mono ?_
              rintro e w3 ⟨rfl, rfl⟩
              go_wp2_with fail
              refine (HV.out _).mono ?_
              rintro e w3 ⟨rfl, rfl⟩
              go_wp2
              go_ret
              exact ⟨by rw [← HF.out, ← HK.out]; rfl, HB2.out⟩
            · have d1 : decide (op = 1) = false := decide_eq_false h1
              have d2 : decide (op = 2) = false := decide_eq_false h2
              have d3 : decide (op = 3) = false := decide_eq_false h3
              have d4 : decide (op = 4) = false := decide_eq_false h4
              have b1 : (op == 1) = false := beq_eq_false_iff_ne.2 h1
              have b2 : (op == 2) = false := beq_eq_false_iff_ne.2 h2
              have b3 : (op == 3) = false := beq_eq_false_iff_ne.2 h3
              have b4 : (op == 4) = false := beq_eq_false_iff_ne.2 h4
              have HF : Hid (false = r) := by have := HR.out; rw [d1, d2, d3, d4] at this; exact this
              clear HR h1 h2 h3 h4 hk2
              go_wp2_with fail
              refine (HN.out _).mono ?_
              rintro e w3 ⟨rfl, rfl⟩
              go_wp2_with fail
              refine (HV.out _).mono ?_
              rintro e w3 ⟨rfl, rfl⟩
              go_wp2
              go_ret
              exact ⟨by rw [← HF.out]; rfl, HB2.out⟩
end Go.Proofs.YtahphjaelpgjdaaDoor

/- A number read out of a text, as a function. Condition: the text has at most 400 bytes, all of them digits, points, signs, letters e. -/
import Derived.Test.YtofndhmnofghaaaGreatDoorA3j
import Derived.Test.YtofndhmnofghaaaGreatDoorUsj
import Derived.Deep.DeepCutAuto
import Derived.Deep.CutBlock
import Derived.StillTailTactics
import Derived.WalkMore
import Derived.Lib.Hide
namespace Go.Proofs.YtofndhmnofghaaaGreatDoor.Rd
open Go.RowKit
set_option linter.unusedVariables false

theorem results_tmp7 {fn : Func} {a b c d e f g : Tmp} (h : fn.results = #[.tmp a, .tmp b, .tmp c, .tmp d, .tmp e, .tmp f, .tmp g]) (tmps : Array Value) (P : Program) (w : World) :
    (results fn tmps).run P w = .ok (.tuple #[tmps.getD a undef, tmps.getD b undef, tmps.getD c undef, tmps.getD d undef, tmps.getD e undef, tmps.getD f undef, tmps.getD g undef]) w := by
  simp [results, h]
def Al (s : ByteArray) : Prop := ∀ i (h : i < s.size), (48 ≤ s[i].toNat ∧ s[i].toNat ≤ 57) ∨ s[i].toNat = 46 ∨ s[i].toNat = 43 ∨ s[i].toNat = 45 ∨ s[i].toNat = 101 ∨ s[i].toNat = 69
theorem lower_any (x : Nat) (w : World) : Calls Tryz.prog 75 #[.int .u8 (x : Int)] w fun e w' => e = .returned (.int .u8 (bits BinOp.or IntKind.u8 (x : Int) 32)) ∧ w = w' := by
  go_enter Tryz.func75, Tryz.ntmps75
  go_wp2
  go_ret
  exact ⟨rfl, rfl⟩

/-! a number read out of a text: its digits, its power -/
def RfP (s : ByteArray) (w : World) (e : Ending) (w' : World) : Prop :=
  ∃ (z : Nat) (x : Int) (ng tr : Bool) (i : Nat) (ok : Bool), e = .returned (.tuple #[.int .u64 (z : Int), .int .i64 x, .bool ng, .bool tr, .bool false, .int .i64 (i : Int), .bool ok]) ∧ Hid (Ut.readF (Ut.Lf s 0) = ⟨z, x, ng, tr, Ut.Lf s i, ok⟩) ∧ z < 10000000000000000000 ∧ -400000 ≤ x ∧ x ≤ 400000 ∧ i ≤ s.size ∧ w = w'
/-- so many digits at most -/
def Zb (z n : Nat) : Prop := z < 10 ^ n
theorem Zb.zero : Zb 0 0 := by unfold Zb; omega
theorem Zb.lt19 {z n : Nat} (h : Zb z n) (hn : n ≤ 19) : z < 10000000000000000000 := Nat.lt_of_lt_of_le h (Nat.le_trans (Nat.pow_le_pow_right (by omega) hn) (by decide))
theorem Zb.lt18 {z n : Nat} (h : Zb z n) (hn : n < 19) : z < 1000000000000000000 := Nat.lt_of_lt_of_le h (Nat.le_trans (Nat.pow_le_pow_right (by omega) (show n ≤ 18 by omega)) (by decide))
theorem Zb.push {z n : Nat} (h : Zb z n) (x : Nat) (h1 : 48 ≤ x) (h2 : x ≤ 57) : Zb (z * 10 + (x - 48)) (n + 1) := by
  unfold Zb at *
  rw [Nat.pow_succ]
  omega
theorem or32 (x : Nat) (h : (48 ≤ x ∧ x ≤ 57) ∨ x = 46 ∨ x = 43 ∨ x = 45 ∨ x = 101 ∨ x = 69) : bits BinOp.or IntKind.u8 (x : Int) 32 ≠ 120 := by
  have : ∀ y : Fin 102, (48 ≤ y.val ∧ y.val ≤ 57) ∨ y.val = 46 ∨ y.val = 43 ∨ y.val = 45 ∨ y.val = 101 ∨ y.val = 69 → bits BinOp.or IntKind.u8 (y.val : Int) 32 ≠ 120 := by decide
  exact this ⟨x, by omega⟩ h
theorem low_e (x : Nat) (h : (48 ≤ x ∧ x ≤ 57) ∨ x = 46 ∨ x = 43 ∨ x = 45 ∨ x = 101 ∨ x = 69) : (bits BinOp.or IntKind.u8 (x : Int) 32 == 101) = true ↔ (x = 101 ∨ x = 69) := by
  have : ∀ y : Fin 102, (48 ≤ y.val ∧ y.val ≤ 57) ∨ y.val = 46 ∨ y.val = 43 ∨ y.val = 45 ∨ y.val = 101 ∨ y.val = 69 → ((bits BinOp.or IntKind.u8 (y.val : Int) 32 == 101) = true ↔ (y.val = 101 ∨ y.val = 69)) := by decide
  exact this ⟨x, by omega⟩ h
theorem rs_else {neg : Bool} {r : Ut.Rd} {s : ByteArray} {i : Nat} (h : r.sg = true) (hx : ¬ ∃ h : i < s.size, s[i].toNat = 101 ∨ s[i].toNat = 69) : Ut.restR neg r (Ut.Lf s i) = Ut.outR r neg (Ut.dpR r) (Ut.Lf s i) := by
  by_cases hi : i < s.size
  · exact Ut.rs_plain hi h fun g => hx ⟨hi, g⟩
  · exact Ut.rs_end (by omega) h
set_option maxRecDepth 100000 in
set_option maxHeartbeats 8000000 in
theorem read_any (s : ByteArray) (w : World) (hs : s.size ≤ 400) (ha : Al s) :
    Calls Tryz.prog 95 #[.string s] w (RfP s w) := by
  have HA := Lib.hid ha
  clear ha
  by_cases hs0 : s.size = 0
  · go_enter Tryz.func95, Tryz.ntmps95
    go_wp2_with fail
    go_step3
    go_wp2_with fail
    ((try simp only [Exit.inBlock, Exit.then]); (try rw [Exit.noGoto_ret]); refine bodyPost_ret (results_tmp7 rfl _ _ _) rfl ?_)
    exact ⟨0, 0, false, false, 0, false, rfl, Lib.hid (Ut.sg_none hs0), by omega, by omega, by omega, by omega, rfl⟩
  · have hs1 : 0 < s.size := by omega
    obtain ⟨x, hx⟩ : ∃ x, s[0].toNat = x := ⟨_, rfl⟩
    go_enter Tryz.func95, Tryz.ntmps95
    go_wp2_with fail
    go_step3
    go_upto_block 0 with fail
    go_cut [4, 7] (fun s4 s7 wx => ∃ (i : Nat) (ng : Bool), s4 = .bool ng ∧ s7 = .int .i64 i ∧ i ≤ 1 ∧ Hid (Ut.readF (Ut.Lf s 0) = Ut.bodyR ng (Ut.Lf s i)) ∧ w = wx)
    case first => as_aux_lemma =>
      by_cases hx1 : x = 43
      · subst hx1
        have HS := Lib.hid (Ut.sg_plus hs1 hx)
        go_wp2_with fail
        go_meet
        exact ⟨1, false, rfl, rfl, by omega, HS, rfl⟩
      · have hx1f : ((x : Int) == 43) = false := beq_eq_false_iff_ne.2 (by omega)
        by_cases hx2 : x = 45
        · subst hx2
          have HS := Lib.hid (Ut.sg_minus hs1 hx)
          clear hx1
          go_wp2_with fail
          go_meet
          exact ⟨1, true, rfl, rfl, by omega, HS, rfl⟩
        · have hx2f : ((x : Int) == 45) = false := beq_eq_false_iff_ne.2 (by omega)
          have HS := Lib.hid (Ut.sg_no hs1 hx hx1 hx2)
          clear hx1 hx2
          go_wp2_with fail
          go_meet
          exact ⟨0, false, rfl, rfl, by omega, HS, rfl⟩
    case rest => as_aux_lemma =>
      obtain ⟨i0, ng, rfl, rfl, hi0, HSG, rfl⟩ := hcut
      clear hx
      obtain ⟨R, hR0⟩ : ∃ R, Ut.rdL (Ut.Lf s i0) ⟨0, 0, 0, false, false, false, 0⟩ = R := ⟨_, rfl⟩
      have HB : Hid (Ut.readF (Ut.Lf s 0) = Ut.restR ng R.1 R.2) := Lib.hid (by rw [HSG.out]; unfold Ut.bodyR; rw [hR0])
      have HR0 := Lib.hid hR0
      clear hR0 HSG
      go_upto_region 12 with fail
      go_cut [54] (fun s54 wx => s54 = .bool false ∧ w = wx)
      case first => as_aux_lemma =>
        by_cases h2 : i0 + 2 < s.size
        · have h2i : (i0 : Int) + 2 < (s.size : Int) := by omega
          have hi0s : i0 < s.size := by omega
          have hi1s : i0 + 1 < s.size := by omega
          have hal := HA.out (i0 + 1) hi1s
          obtain ⟨x, hx⟩ : ∃ x, s[i0].toNat = x := ⟨_, rfl⟩
          obtain ⟨y, hy⟩ : ∃ y, s[i0 + 1].toNat = y := ⟨_, rfl⟩
          rw [hy] at hal
          by_cases hx48 : x = 48
          · subst hx48
            have HL := Lib.hid (lower_any y w)
            have hor := or32 y hal
            clear hal
            obtain ⟨z, hz⟩ : ∃ z, bits BinOp.or IntKind.u8 (y : Int) 32 = z := ⟨_, rfl⟩
            rw [hz] at HL hor
            clear hz
            have hzf : (z == 120) = false := beq_eq_false_iff_ne.2 hor
            clear hor
            go_wp2_with fail
            refine HL.out.mono ?_
            rintro e w9 ⟨rfl, rfl⟩
            go_wp2_with fail
            go_meet
            exact ⟨rfl, rfl⟩
          · have hx48f : ((x : Int) == 48) = false := beq_eq_false_iff_ne.2 (by omega)
            clear hal hx48
            go_wp2_with fail
            go_meet
            exact ⟨rfl, rfl⟩
        · have h2i : decide ((i0 : Int) + 2 < (s.size : Int)) = false := decide_eq_false (by omega)
          go_wp2_with fail
          go_meet
          exact ⟨rfl, rfl⟩
      case rest => as_aux_lemma =>
        obtain ⟨rfl, rfl⟩ := hcut
        go_wp2_with fail
        go_step3
        go_upto_block 1 with fail
        go_cut [2, 5, 7, 9, 13, 14, 15, 16, 17, 18] (fun s2 s5 s7 s9 s13 s14 s15 s16 s17 s18 wx => ∃ (i z nd nm : Nat) (sd sg tr : Bool) (dp : Int), s2 = .int .u64 z ∧ s5 = .bool tr ∧ s7 = .int .i64 i ∧ s9 = .bool false ∧ s13 = .bool sd ∧ s14 = .bool sg ∧ s15 = .int .i64 nd ∧ s16 = .int .i64 nm ∧ s17 = .int .i64 dp ∧ i ≤ s.size ∧ nd ≤ 400 ∧ nm ≤ 19 ∧ Hid (Zb z nm) ∧ -400 ≤ dp ∧ dp ≤ 400 ∧ Hid (R = (⟨z, nd, nm, sd, sg, tr, dp⟩, Ut.Lf s i)) ∧ w = wx)
        case first => as_aux_lemma =>
          go_wp2_with fail
          go_loopg [2, 5, 7, 9, 13, 14, 15, 16, 17, 18] (s.size - i0) (fun g s2 s5 s7 s9 s13 s14 s15 s16 s17 s18 wx => ∃ (i z nd nm : Nat) (sd sg tr : Bool) (dp : Int), g = s.size - i ∧ s2 = .int .u64 z ∧ s5 = .bool tr ∧ s7 = .int .i64 i ∧ s9 = .bool false ∧ s13 = .bool sd ∧ s14 = .bool sg ∧ s15 = .int .i64 nd ∧ s16 = .int .i64 nm ∧ s17 = .int .i64 dp ∧ i ≤ s.size ∧ nd ≤ i ∧ nm ≤ 19 ∧ Hid (Zb z nm) ∧ -(i : Int) ≤ dp ∧ dp ≤ 400 ∧ Hid (Ut.rdL (Ut.Lf s i) ⟨z, nd, nm, sd, sg, tr, dp⟩ = R) ∧ w = wx)
          case atStart => exact ⟨i0, 0, 0, 0, false, false, false, 0, rfl, rfl, rfl, rfl, rfl, rfl, rfl, rfl, rfl, rfl, by omega, by omega, by omega, Lib.hid Zb.zero, by omega, by omega, HR0, rfl⟩
          case round =>
            clear hi0
            obtain ⟨i, z, nd, nm, sd, sg, tr, dp, hg, rfl, rfl, rfl, rfl, rfl, rfl, rfl, rfl, rfl, hi, hnd, hnm, HZ, p0, p1, HR, rfl⟩ := hrel
            by_cases hil : i < s.size
            · have hal := HA.out i hil
              obtain ⟨x, hx⟩ : ∃ x, s[i].toNat = x := ⟨_, rfl⟩
              rw [hx] at hal
              have hx95 : ((x : Int) == 95) = false := beq_eq_false_iff_ne.2 (by omega)
              by_cases h46 : x = 46
              · have h46t : ((x : Int) == 46) = true := by rw [h46]; rfl
                have H46 := Lib.hid (hx.trans h46)
                clear h46 hal
                cases sd with
                | true =>
                  have HX := Lib.hid (Ut.rd_dot2 hil H46.out HR.out)
                  go_wp2_with fail
                  go_meet
                  exact ⟨i, z, nd, nm, true, sg, tr, dp, rfl, rfl, rfl, rfl, rfl, rfl, rfl, rfl, rfl, by omega, by omega, by omega, HZ, by omega, by omega, HX, rfl⟩
                | false =>
                  have HX := Lib.hid (Ut.rd_dot hil H46.out HR.out)
                  go_wp2_with fail
                  go_roundg (s.size - (i + 1))
                  case measure => omega
                  case rel => exact ⟨i + 1, z, nd, nm, true, sg, tr, nd, rfl, rfl, rfl, by go_num, rfl, rfl, rfl, rfl, rfl, rfl, by omega, by omega, by omega, HZ, by omega, by omega, HX, rfl⟩
              · have h46f : ((x : Int) == 46) = false := beq_eq_false_iff_ne.2 (by omega)
                by_cases hdg : 48 ≤ x ∧ x ≤ 57
                · obtain ⟨hd1, hd2⟩ := hdg
                  clear h46 hal
                  have hd1i : (48 : Int) ≤ (x : Int) := by omega
                  have hd2i : (x : Int) ≤ 57 := by omega
                  by_cases h0 : x = 48 ∧ nd = 0
                  · obtain ⟨rfl, rfl⟩ := h0
                    have HX := Lib.hid (Ut.rd_zero hil hx HR.out)
                    go_wp2_with fail
                    go_roundg (s.size - (i + 1))
                    case measure => omega
                    case rel => exact ⟨i + 1, z, 0, nm, sd, true, tr, dp - 1, rfl, rfl, rfl, by go_num, rfl, rfl, rfl, rfl, rfl, rfl, by omega, by omega, by omega, HZ, by omega, by omega, HX, rfl⟩
                  · by_cases h19 : nm < 19
                    · have h19i : (nm : Int) < 19 := by omega
                      have h19t : decide ((nm : Int) < 19) = true := decide_eq_true h19i
                      have hz18 := HZ.out.lt18 h19
                      have hz18i : (z : Int) < 1000000000000000000 := by omega
                      have HZ2 := Lib.hid (HZ.out.push x hd1 hd2)
                      have HX := Lib.hid (Ut.rd_dig hil hx hd1 hd2 h0 h19 HR.out)
                      by_cases hx48 : x = 48
                      · subst hx48
                        have hndz : ((nd : Int) == 0) = false := beq_eq_false_iff_ne.2 (by omega)
                        clear h0
                        go_wp2_with fail
                        go_roundg (s.size - (i + 1))
                        case measure => omega
                        case rel => exact ⟨i + 1, z * 10 + (48 - 48), nd + 1, nm + 1, sd, true, tr, dp, rfl, by go_num, rfl, by go_num, rfl, rfl, rfl, by go_num, by go_num, rfl, by omega, by omega, by omega, HZ2, by omega, by omega, HX, rfl⟩
                      · have hx48f : ((x : Int) == 48) = false := beq_eq_false_iff_ne.2 (by omega)
                        clear h0 hx48
                        go_wp2_with fail
                        go_roundg (s.size - (i + 1))
                        case measure => omega
                        case rel => exact ⟨i + 1, z * 10 + (x - 48), nd + 1, nm + 1, sd, true, tr, dp, rfl, by go_num, rfl, by go_num, rfl, rfl, rfl, by go_num, by go_num, rfl, by omega, by omega, by omega, HZ2, by omega, by omega, HX, rfl⟩
                    · have h19f : decide ((nm : Int) < 19) = false := decide_eq_false (by omega)
                      by_cases hx48 : x = 48
                      · subst hx48
                        have HX := Lib.hid (Ut.rd_more0 hil hx (fun h => h0 ⟨rfl, h⟩) h19 HR.out)
                        have hndz : ((nd : Int) == 0) = false := beq_eq_false_iff_ne.2 (by omega)
                        go_wp2_with fail
                        go_roundg (s.size - (i + 1))
                        case measure => omega
                        case rel => exact ⟨i + 1, z, nd + 1, nm, sd, true, tr, dp, rfl, rfl, rfl, by go_num, rfl, rfl, rfl, by go_num, rfl, rfl, by omega, by omega, by omega, HZ, by omega, by omega, HX, rfl⟩
                      · have hx48f : ((x : Int) == 48) = false := beq_eq_false_iff_ne.2 (by omega)
                        have hx48n : ((x : Int) != 48) = true := by simp; omega
                        have HX := Lib.hid (Ut.rd_more hil hx hd1 hd2 hx48 h19 HR.out)
                        clear h0 hx48
                        go_wp2_with fail
                        go_roundg (s.size - (i + 1))
                        case measure => omega
                        case rel => exact ⟨i + 1, z, nd + 1, nm, sd, true, true, dp, rfl, rfl, rfl, by go_num, rfl, rfl, rfl, by go_num, rfl, rfl, by omega, by omega, by omega, HZ, by omega, by omega, HX, rfl⟩
                · by_cases h48 : 48 ≤ x
                  · have h48i : (48 : Int) ≤ (x : Int) := by omega
                    have h57 : decide ((x : Int) ≤ 57) = false := decide_eq_false (by omega)
                    have HX := Lib.hid (Ut.rd_stop hil hx h46 hdg HR.out)
                    clear hal hdg h46
                    go_wp2_with fail
                    go_meet
                    exact ⟨i, z, nd, nm, sd, sg, tr, dp, rfl, rfl, rfl, rfl, rfl, rfl, rfl, rfl, rfl, by omega, by omega, by omega, HZ, by omega, by omega, HX, rfl⟩
                  · have h48i : decide ((48 : Int) ≤ (x : Int)) = false := decide_eq_false (by omega)
                    have HX := Lib.hid (Ut.rd_stop hil hx h46 hdg HR.out)
                    clear hal hdg h46 h48
                    go_wp2_with fail
                    go_meet
                    exact ⟨i, z, nd, nm, sd, sg, tr, dp, rfl, rfl, rfl, rfl, rfl, rfl, rfl, rfl, rfl, by omega, by omega, by omega, HZ, by omega, by omega, HX, rfl⟩
            · have HX := Lib.hid (Ut.rd_end (by omega) HR.out)
              go_wp2_with fail
              go_meet
              exact ⟨i, z, nd, nm, sd, sg, tr, dp, rfl, rfl, rfl, rfl, rfl, rfl, rfl, rfl, rfl, by omega, by omega, by omega, HZ, by omega, by omega, HX, rfl⟩
        case rest => as_aux_lemma =>
          clear hi0
          obtain ⟨i, z, nd, nm, sd, sg, tr, dp, rfl, rfl, rfl, rfl, rfl, rfl, rfl, rfl, rfl, hi, hnd, hnm, HZ, p0, p1, HE, rfl⟩ := hcut
          have hz19 := HZ.out.lt19 hnm
          clear HZ
          have HB2 : Hid (Ut.readF (Ut.Lf s 0) = Ut.restR ng ⟨z, nd, nm, sd, sg, tr, dp⟩ (Ut.Lf s i)) := Lib.hid (by rw [HB.out, HE.out])
          clear HB HE HR0
          cases sg with
          | false =>
            have HF := Lib.hid (HB2.out.trans (Ut.rs_no _ rfl))
            go_wp2_with fail
            ((try simp only [Exit.inBlock, Exit.then]); (try rw [Exit.noGoto_ret]); refine bodyPost_ret (results_tmp7 rfl _ _ _) rfl ?_)
            exact ⟨z, 0, ng, tr, i, false, rfl, HF, hz19, by omega, by omega, hi, rfl⟩
          | true =>
            go_upto_if 142 with fail
            go_cut [17] (fun s17 wx => ∃ (d : Int), s17 = .int .i64 d ∧ -400 ≤ d ∧ d ≤ 400 ∧ Hid (Ut.dpR ⟨z, nd, nm, sd, true, tr, dp⟩ = d) ∧ w = wx)
            case first => as_aux_lemma =>
              cases sd with
              | true =>
                go_wp2_with fail
                go_meet
                exact ⟨dp, rfl, p0, p1, Lib.hid (by unfold Ut.dpR; simp), rfl⟩
              | false =>
                go_wp2_with fail
                go_meet
                exact ⟨nd, rfl, by omega, by omega, Lib.hid (by unfold Ut.dpR; simp), rfl⟩
            case rest => as_aux_lemma =>
              clear p0 p1
              obtain ⟨d, rfl, p0, p1, HD, rfl⟩ := hcut
              go_upto_region 57 with fail
              go_cut [161] (fun s161 wx => ∃ b : Bool, s161 = .bool b ∧ (b = true → i < s.size) ∧ Hid (b = true ↔ ∃ h : i < s.size, s[i].toNat = 101 ∨ s[i].toNat = 69) ∧ w = wx)
              case first => as_aux_lemma =>
                by_cases hil : i < s.size
                · have hal := HA.out i hil
                  obtain ⟨x, hx⟩ : ∃ x, s[i].toNat = x := ⟨_, rfl⟩
                  rw [hx] at hal
                  have HL := Lib.hid (lower_any x w)
                  obtain ⟨v, hv⟩ : ∃ v, bits BinOp.or IntKind.u8 (x : Int) 32 = v := ⟨_, rfl⟩
                  rw [hv] at HL
                  have HLE := Lib.hid (low_e x hal)
                  rw [hv] at HLE
                  have HX := Lib.hid hx
                  clear hv hal
                  go_wp2_with fail
                  refine HL.out.mono ?_
                  rintro e w9 ⟨rfl, rfl⟩
                  go_wp2_with fail
                  go_meet
                  exact ⟨_, rfl, fun _ => hil, Lib.hid ⟨fun h => ⟨hil, by rw [HX.out]; exact HLE.out.1 h⟩, fun ⟨_, h⟩ => HLE.out.2 (by rw [HX.out] at h; exact h)⟩, rfl⟩
                · go_wp2_with fail
                  go_meet
                  exact ⟨false, rfl, fun h => (by cases h), Lib.hid ⟨fun h => (by cases h), fun ⟨h, _⟩ => absurd h hil⟩, rfl⟩
              case rest => as_aux_lemma =>
               obtain ⟨b, rfl, hb, HBE, rfl⟩ := hcut
               go_upto_if 161 with fail
               go_cut [7, 9, 17, 19, 20] (fun s7 s9 s17 s19 s20 wx => ∃ (j : Nat) (d2 : Int), s7 = .int .i64 j ∧ s9 = .bool false ∧ s17 = .int .i64 d2 ∧ j ≤ s.size ∧ -200000 ≤ d2 ∧ d2 ≤ 200000 ∧ Hid (Ut.readF (Ut.Lf s 0) = Ut.outR ⟨z, nd, nm, sd, true, tr, dp⟩ ng d2 (Ut.Lf s j)) ∧ w = wx)
               case first => as_aux_lemma =>
                cases b with
                | true =>
                  have hil := hb rfl
                  have HP : Hid (Ut.readF (Ut.Lf s 0) = Ut.sgnR ⟨z, nd, nm, sd, true, tr, dp⟩ ng (Ut.Lf s (i + 1))) := Lib.hid (HB2.out.trans (Ut.rs_pow hil rfl (HBE.out.1 rfl).2))
                  clear hb
                  have hili : (i : Int) < (s.size : Int) := by omega
                  by_cases hi1 : i + 1 < s.size
                  · obtain ⟨y, hy⟩ : ∃ y, s[i + 1].toNat = y := ⟨_, rfl⟩
                    have hi1i : (i : Int) + 1 < (s.size : Int) := by omega
                    go_upto_block 4 with fail
                    go_cut [7, 19] (fun s7 s19 wx => ∃ (j : Nat) (es : Int), s7 = .int .i64 j ∧ s19 = .int .i64 es ∧ j ≤ s.size ∧ (es = 1 ∨ es = -1) ∧ Hid (Ut.readF (Ut.Lf s 0) = Ut.powR ⟨z, nd, nm, sd, true, tr, dp⟩ ng (decide (es = -1)) (Ut.Lf s j)) ∧ w = wx)
                    case first => as_aux_lemma =>
                      by_cases hy1 : y = 43
                      · subst hy1
                        have HX := Lib.hid (HP.out.trans (Ut.pw_plus hi1 hy))
                        go_wp2_with fail
                        go_meet
                        exact ⟨i + 2, 1, by go_num, rfl, by omega, .inl rfl, HX, rfl⟩
                      · have hy1f : ((y : Int) == 43) = false := beq_eq_false_iff_ne.2 (by omega)
                        by_cases hy2 : y = 45
                        · subst hy2
                          have HX := Lib.hid (HP.out.trans (Ut.pw_minus hi1 hy))
                          clear hy1
                          go_wp2_with fail
                          go_meet
                          exact ⟨i + 2, -1, by go_num, rfl, by omega, .inr rfl, HX, rfl⟩
                        · have hy2f : ((y : Int) == 45) = false := beq_eq_false_iff_ne.2 (by omega)
                          have HX := Lib.hid (HP.out.trans (Ut.pw_no hi1 hy hy1 hy2))
                          clear hy1 hy2
                          go_wp2_with fail
                          go_meet
                          exact ⟨i + 1, 1, by go_num, rfl, by omega, .inl rfl, HX, rfl⟩
                    case rest => as_aux_lemma =>
                      clear hy hi1i hi1
                      obtain ⟨j, es, rfl, rfl, hj, hes, HPW, rfl⟩ := hcut
                      have HES := Lib.hid hes
                      clear hes
                      by_cases hjl : j < s.size
                      · have hal := HA.out j hjl
                        obtain ⟨v, hv⟩ : ∃ v, s[j].toNat = v := ⟨_, rfl⟩
                        rw [hv] at hal
                        have hjf : decide ((s.size : Int) ≤ (j : Int)) = false := decide_eq_false (by omega)
                        have hjf2 : decide (s.size ≤ j) = false := decide_eq_false (by omega)
                        by_cases hv48 : v < 48
                        · have hv48t : decide ((v : Int) < 48) = true := decide_eq_true (by omega)
                          have HF := Lib.hid (HPW.out.trans (Ut.pn_bad hjl hv (by omega)))
                          clear hal
                          go_wp2_with fail
                          ((try simp only [Exit.inBlock, Exit.then]); (try rw [Exit.noGoto_ret]); refine bodyPost_ret (results_tmp7 rfl _ _ _) rfl ?_)
                          exact ⟨z, 0, ng, tr, j, false, rfl, HF, hz19, by omega, by omega, hj, rfl⟩
                        · have hv48f : decide ((v : Int) < 48) = false := decide_eq_false (by omega)
                          by_cases hv57 : 57 < v
                          · have hv57t : decide ((57 : Int) < (v : Int)) = true := decide_eq_true (by omega)
                            have HF := Lib.hid (HPW.out.trans (Ut.pn_bad hjl hv (by omega)))
                            clear hal hv48
                            go_wp2_with fail
                            ((try simp only [Exit.inBlock, Exit.then]); (try rw [Exit.noGoto_ret]); refine bodyPost_ret (results_tmp7 rfl _ _ _) rfl ?_)
                            exact ⟨z, 0, ng, tr, j, false, rfl, HF, hz19, by omega, by omega, hj, rfl⟩
                          · have hv57f : decide ((57 : Int) < (v : Int)) = false := decide_eq_false (by omega)
                            obtain ⟨Q, hQ⟩ : ∃ Q, Ut.expL (Ut.Lf s j) 0 = Q := ⟨_, rfl⟩
                            have HQ := Lib.hid hQ
                            have HPD : Hid (∀ e2 l, Q = (e2, l) → Ut.readF (Ut.Lf s 0) = Ut.outR ⟨z, nd, nm, sd, true, tr, dp⟩ ng (Ut.dpR ⟨z, nd, nm, sd, true, tr, dp⟩ + (if decide (es = -1) = true then -(e2 : Int) else (e2 : Int))) l) :=
                              Lib.hid fun e2 l h => HPW.out.trans (Ut.pn_dig hjl hv (by omega) (by omega) (hQ.trans h))
                            clear hQ
                            clear hal hv48 hv57
                            go_upto_block 5 with fail
                            go_cut [7, 9, 20] (fun s7 s9 s20 wx => ∃ (j e2 : Nat), s7 = .int .i64 j ∧ s9 = .bool false ∧ s20 = .int .i64 e2 ∧ j ≤ s.size ∧ e2 ≤ 100000 ∧ Hid (Q = (e2, Ut.Lf s j)) ∧ w = wx)
                            case first => as_aux_lemma =>
                              clear hv hjf hjf2
                              go_wp2_with fail
                              go_loopg [7, 9, 20] (s.size - j) (fun g s7 s9 s20 wx => ∃ (j e2 : Nat), g = s.size - j ∧ s7 = .int .i64 j ∧ s9 = .bool false ∧ s20 = .int .i64 e2 ∧ j ≤ s.size ∧ e2 ≤ 100000 ∧ Hid (Ut.expL (Ut.Lf s j) e2 = Q) ∧ w = wx)
                              case atStart => exact ⟨j, 0, rfl, rfl, rfl, rfl, hj, by omega, HQ, rfl⟩
                              case round =>
                                clear hj hjl
                                obtain ⟨j, e2, hg, rfl, rfl, rfl, hj, he2, HK, rfl⟩ := hrel
                                by_cases hjl : j < s.size
                                · have hal := HA.out j hjl
                                  obtain ⟨u, hu⟩ : ∃ u, s[j].toNat = u := ⟨_, rfl⟩
                                  rw [hu] at hal
                                  have hu95 : ((u : Int) == 95) = false := beq_eq_false_iff_ne.2 (by omega)
                                  have hjt : decide (j < s.size) = true := decide_eq_true hjl
                                  by_cases hu48 : 48 ≤ u
                                  · have hu48t : decide ((48 : Int) ≤ (u : Int)) = true := decide_eq_true (by omega)
                                    by_cases hu57 : u ≤ 57
                                    · have hu57t : decide ((u : Int) ≤ 57) = true := decide_eq_true (by omega)
                                      clear hal
                                      by_cases he : e2 < 10000
                                      · have hei : (e2 : Int) < 10000 := by omega
                                        have HX := Lib.hid (Ut.ex_dig hjl hu hu48 hu57 he HK.out)
                                        go_wp2_with fail
                                        go_roundg (s.size - (j + 1))
                                        case measure => omega
                                        case rel => exact ⟨j + 1, e2 * 10 + u - 48, rfl, by go_num, rfl, by go_num, by omega, by omega, HX, rfl⟩
                                      · have hei : decide ((e2 : Int) < 10000) = false := decide_eq_false (by omega)
                                        have HX := Lib.hid (Ut.ex_big hjl hu hu48 hu57 he HK.out)
                                        go_wp2_with fail
                                        go_roundg (s.size - (j + 1))
                                        case measure => omega
                                        case rel => exact ⟨j + 1, e2, rfl, by go_num, rfl, rfl, by omega, he2, HX, rfl⟩
                                    · have hu57f : decide ((u : Int) ≤ 57) = false := decide_eq_false (by omega)
                                      have HX := Lib.hid (Ut.ex_stop hjl hu (by omega) HK.out)
                                      clear hal hu48 hu57
                                      go_wp2_with fail
                                      go_meet
                                      exact ⟨j, e2, rfl, rfl, rfl, hj, he2, HX, rfl⟩
                                  · have hu48f : decide ((48 : Int) ≤ (u : Int)) = false := decide_eq_false (by omega)
                                    have HX := Lib.hid (Ut.ex_stop hjl hu (by omega) HK.out)
                                    clear hal hu48
                                    go_wp2_with fail
                                    go_meet
                                    exact ⟨j, e2, rfl, rfl, rfl, hj, he2, HX, rfl⟩
                                · have hjt : decide (j < s.size) = false := decide_eq_false hjl
                                  have HX := Lib.hid (Ut.ex_end (by omega) HK.out)
                                  have hjt2 : decide ((j : Int) < (s.size : Int)) = false := decide_eq_false (by omega)
                                  go_wp2_with fail
                                  go_meet
                                  exact ⟨j, e2, rfl, rfl, rfl, hj, he2, HX, rfl⟩
                            case rest => as_aux_lemma =>
                              clear hv hjf hjf2 hjl hj
                              obtain ⟨j, e2, rfl, rfl, rfl, hj, he2, HQE, rfl⟩ := hcut
                              have HPE := Lib.hid (HPD.out _ _ HQE.out)
                              have he0 : (0 : Int) ≤ (e2 : Int) := by omega
                              have he2i : (e2 : Int) ≤ 100000 := by omega
                              rcases HES.out with rfl | rfl
                              · go_wp2_with fail
                                go_meet
                                exact ⟨j, _, rfl, rfl, rfl, hj, by omega, by omega, Lib.hid (by first | (rw [HPE.out, HD.out]; congr 1; done) | (rw [HPE.out, HD.out]; done)), rfl⟩
                              · go_wp2_with fail
                                go_meet
                                exact ⟨j, _, rfl, rfl, rfl, hj, by omega, by omega, Lib.hid (by first | (rw [HPE.out, HD.out]; congr 1; done) | (rw [HPE.out, HD.out]; done)), rfl⟩
                      · have hjt : decide ((s.size : Int) ≤ (j : Int)) = true := decide_eq_true (by omega)
                        have hjt2 : decide (s.size ≤ j) = true := decide_eq_true (by omega)
                        have HF := Lib.hid (HPW.out.trans (Ut.pn_none (by omega)))
                        go_wp2_with fail
                        ((try simp only [Exit.inBlock, Exit.then]); (try rw [Exit.noGoto_ret]); refine bodyPost_ret (results_tmp7 rfl _ _ _) rfl ?_)
                        exact ⟨z, 0, ng, tr, j, false, rfl, HF, hz19, by omega, by omega, hj, rfl⟩
                  · have hi1i : (s.size : Int) ≤ (i : Int) + 1 := by omega
                    have HF := Lib.hid (HP.out.trans (Ut.pw_none (by omega)))
                    go_wp2_with fail
                    ((try simp only [Exit.inBlock, Exit.then]); (try rw [Exit.noGoto_ret]); refine bodyPost_ret (results_tmp7 rfl _ _ _) rfl ?_)
                    exact ⟨z, 0, ng, tr, i + 1, false, by go_num, HF, hz19, by omega, by omega, by omega, rfl⟩
                | false =>
                  clear hb
                  have HX : Hid (Ut.readF (Ut.Lf s 0) = Ut.outR ⟨z, nd, nm, sd, true, tr, dp⟩ ng d (Ut.Lf s i)) := Lib.hid (by rw [HB2.out, rs_else rfl (fun h => by have := HBE.out.2 h; cases this), HD.out])
                  go_wp2_with fail
                  go_meet
                  exact ⟨i, d, rfl, rfl, rfl, hi, by omega, by omega, HX, rfl⟩
               case rest => as_aux_lemma =>
                clear p0 p1 hi hb
                obtain ⟨j, d2, rfl, rfl, rfl, hj, p0, p1, HO, rfl⟩ := hcut
                by_cases hz : z = 0
                · subst hz
                  go_wp2_with fail
                  ((try simp only [Exit.inBlock, Exit.then]); (try rw [Exit.noGoto_ret]); refine bodyPost_ret (results_tmp7 rfl _ _ _) rfl ?_)
                  exact ⟨0, 0, ng, tr, j, true, rfl, Lib.hid HO.out, hz19, by omega, by omega, hj, rfl⟩
                · have hzn : ((z : Int) != 0) = true := by simp; omega
                  go_wp2_with fail
                  ((try simp only [Exit.inBlock, Exit.then]); (try rw [Exit.noGoto_ret]); refine bodyPost_ret (results_tmp7 rfl _ _ _) rfl ?_)
                  exact ⟨z, d2 - nm, ng, tr, j, true, rfl, Lib.hid (by rw [HO.out]; unfold Ut.outR; rw [if_neg hz]), hz19, by omega, by omega, hj, rfl⟩
end Go.Proofs.YtofndhmnofghaaaGreatDoor.Rd

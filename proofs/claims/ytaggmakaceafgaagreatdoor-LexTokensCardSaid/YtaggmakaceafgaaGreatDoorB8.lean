import Derived.Test.YtaggmakaceafgaaGreatDoorB7
namespace Go.Proofs.YtaggmakaceafgaaGreatDoor
open Go.RowKit Ieee
set_option linter.unusedVariables false

/-! a float out of a text: atof64 -/
def FlE (v : Value) : Prop := v = .nilIface ∨ v = .iface 132 (.int .i64 1) ∨ v = .iface 132 (.int .i64 2)
theorem Err.fl {v : Value} (h : Err v) : FlE v := by rcases h with h | h; exact .inl h; exact .inr (.inl h)
def A64P (w : World) (e : Ending) (w' : World) : Prop := (∃ (b n : Nat) (er : Value), e = .returned (.tuple #[.float .f64 b, .int .i64 (n : Int), er]) ∧ FlE er) ∧ Below w.heap.size w w'
theorem u64_nat (op : BinOp) (a b : Int) : ∃ n : Nat, bits op IntKind.u64 a b = (n : Int) := ⟨(bits op IntKind.u64 a b).toNat, by have := bits_lo_u64 op a b; omega⟩
set_option maxRecDepth 100000 in
set_option maxHeartbeats 4000000 in
theorem atof64_any {Q qo qc P off c F fo fc : Nat} (s : ByteArray) (w : World) (hT : Tabs Q qo qc P off c F fo fc w) (hs : s.size ≤ 400) (ha : Al s) :
    Calls Tryz.prog 88 #[.string s] w (A64P w) := by
  have HSp := Lib.hid (special_none s w ha (by omega))
  have HR := Lib.hid (read_any s w hs ha)
  have HT := Lib.hid hT
  have HA := Lib.hid ha
  have opt := hT.opt
  have HF := fun (n : Nat) w => frombits n w
  clear hT ha
  go_enter Tryz.func88, Tryz.ntmps88
  go_wp2_with fail
  refine HSp.out.mono ?_
  rintro e w1 ⟨rfl, rfl⟩
  go_wp2_with fail
  refine HR.out.mono ?_
  rintro e w1 ⟨z, x, ng, tr, i, ok, rfl, hz, x1, x2, hi, rfl⟩
  clear HSp HR
  cases ok with
  | false =>
    go_wp2_with fail
    ((try simp only [Exit.inBlock, Exit.then]); refine bodyPost_ret (results_tmp3 rfl _ _ _) rfl ?_)
    exact ⟨⟨_, _, _, rfl, .inr (.inr rfl)⟩, Below.refl _ _⟩
  | true =>
    obtain ⟨q, hq, hq1⟩ : ∃ q : Nat, (if ng = true then (1 : Int) else 0) = (q : Int) ∧ q ≤ 1 := by
      cases ng
      · exact ⟨0, rfl, by omega⟩
      · exact ⟨1, rfl, by omega⟩
    have HB := Lib.hid (fun W => bool2_any ng W)
    rw [hq] at HB
    clear hq
    obtain ⟨sg, hsg⟩ : ∃ sg : Nat, (q : Int) * 9223372036854775808 = (sg : Int) := ⟨q * 9223372036854775808, by omega⟩
    have hsg1 : sg < 18446744073709551616 := by omega
    obtain ⟨n0, hn0⟩ := u64_nat BinOp.or (sg : Int) 0
    obtain ⟨n1, hn1⟩ := u64_nat BinOp.or (sg : Int) 9218868437227405312
    by_cases hz0 : z = 0
    · subst hz0
      go_wp2_with fail
      refine (HB.out _).mono ?_
      rintro e w1 ⟨rfl, rfl⟩
      go_wp2_with fail
      ((try simp only [Exit.inBlock, Exit.then]); refine bodyPost_ret (results_tmp3 rfl _ _ _) rfl ?_)
      exact ⟨⟨_, _, _, rfl, .inl rfl⟩, Below.refl _ _⟩
    · have hz0f : ((z : Int) == 0) = false := beq_eq_false_iff_ne.2 (by omega)
      by_cases hx1 : 310 < x
      · go_wp2_with fail
        refine (HB.out _).mono ?_
        rintro e w1 ⟨rfl, rfl⟩
        go_wp2_with fail
        ((try simp only [Exit.inBlock, Exit.then]); refine bodyPost_ret (results_tmp3 rfl _ _ _) rfl ?_)
        exact ⟨⟨_, _, _, rfl, .inr (.inl rfl)⟩, Below.refl _ _⟩
      · have hx1f : decide (310 < x) = false := decide_eq_false hx1
        by_cases hx2 : x < -345
        · go_wp2_with fail
          refine (HB.out _).mono ?_
          rintro e w1 ⟨rfl, rfl⟩
          go_wp2_with fail
          ((try simp only [Exit.inBlock, Exit.then]); refine bodyPost_ret (results_tmp3 rfl _ _ _) rfl ?_)
          exact ⟨⟨_, _, _, rfl, .inl rfl⟩, Below.refl _ _⟩
        · have hx2f : decide (x < -345) = false := decide_eq_false hx2
          have HP := Lib.hid (parse64_any z sg x w (by omega) (by omega) hsg1 (by omega) (by omega) HT.out.p10 HT.out.size)
          have HP2 := Lib.hid (fun w1 (hb : Below w.heap.size w w1) => parse64_any (z + 1) sg x w1 (by omega) (by omega) hsg1 (by omega) (by omega) (HT.out.below hb).p10 (HT.out.below hb).size)
          have ec : ((z + 1 : Nat) : Int) = (z : Int) + 1 := by omega
          rw [ec] at HP2
          clear ec
          have HX := Lib.hid (exact_any z x ng F fo fc w (by omega) (by omega) (by omega) HT.out.f0 HT.out.flp)
          clear hx1 hx2 hz0
          go_wp2_with fail
          refine (HB.out _).mono ?_
          rintro e w1 ⟨rfl, rfl⟩
          go_upto_if 88 with fail
          go_cut [3, 4, 17, 18] (fun s3 s4 s17 s18 wx => s3 = .int .i64 i ∧ s4 = .nilIface ∧ w = wx)
          case first => as_aux_lemma =>
            cases tr with
            | true =>
              go_wp2_with fail
              go_meet
              exact ⟨rfl, rfl, rfl⟩
            | false =>
              go_wp2_with fail
              refine HX.out.mono ?_
              rintro e w1 ⟨⟨b, ok, rfl⟩, rfl⟩
              cases ok with
              | true =>
                go_wp2_with fail
                ((try simp only [Exit.inBlock, Exit.then]); refine bodyPost_ret (results_tmp3 rfl _ _ _) rfl ?_)
                exact ⟨⟨_, _, _, rfl, .inl rfl⟩, Below.refl _ _⟩
              | false =>
                go_wp2_with fail
                go_meet
                exact ⟨rfl, rfl, rfl⟩
          case rest => as_aux_lemma =>
            obtain ⟨rfl, rfl, rfl⟩ := hcut
            clear HX HB
            go_wp2_with fail
            refine HP.out.mono ?_
            rintro e w1 ⟨⟨f, er, rfl, her⟩, hb1⟩
            have HB1 := Lib.hid hb1
            have HER := Lib.hid her
            clear hb1 her HP
            cases tr with
            | false =>
              go_wp2_with fail
              ((try simp only [Exit.inBlock, Exit.then]); refine bodyPost_ret (results_tmp3 rfl _ _ _) rfl ?_)
              exact ⟨⟨_, _, _, rfl, HER.out.fl⟩, HB1.out⟩
            | true =>
              go_wp2_with fail
              refine (HP2.out _ HB1.out).mono ?_
              rintro e w2 ⟨⟨f1, er1, rfl, her1⟩, hb2⟩
              have HB2 := Lib.hid (HB1.out.trans (hb2.mono HB1.out.size))
              clear her1 hb2 HP2
              obtain ⟨g, hg⟩ : ∃ b, (FloatKind.f64.format.order f f1 == some .eq) = b := ⟨_, rfl⟩
              cases g with
              | true =>
                go_wp2_with fail
                ((try simp only [Exit.inBlock, Exit.then]); refine bodyPost_ret (results_tmp3 rfl _ _ _) rfl ?_)
                exact ⟨⟨_, _, _, rfl, HER.out.fl⟩, HB2.out⟩
              | false =>
                have hii : (i : Int) ≤ (s.size : Int) := by omega
                have HST := Lib.hid (set_any w2.heap.size (s.extract 0 i) _ _ (dz_new w2) (by rw [ByteArray.size_extract]; omega) (HA.out.cut i hi))
                go_wp2_with fail
                refine HST.out.mono ?_
                rintro e w3 ⟨⟨bb, rfl, hset⟩, hm⟩
                have HB3 := Lib.hid (hm.below (((Below.refl w2.heap.size w2).alloc (Nat.le_refl _) (.cells Tryz.zeroCells170 170))))
                have HB3w := Lib.hid (HB2.out.trans (HB3.out.mono HB2.out.size))
                clear hm HST
                cases bb with
                | false =>
                  clear hset
                  go_wp2_with fail
                  ((try simp only [Exit.inBlock, Exit.then]); refine bodyPost_ret (results_tmp3 rfl _ _ _) rfl ?_)
                  exact ⟨⟨_, _, _, rfl, .inr (.inr rfl)⟩, HB3w.out⟩
                | true =>
                  obtain ⟨fd, nd, dp, ng2, tr2, hd⟩ := hset rfl
                  have HBT := Lib.hid (bits_any w2.heap.size Q qo qc P off c fd nd dp ng2 tr2 w3 hd.dz hd.ok ((HT.out.below HB2.out).env HB3.out))
                  clear hset hd
                  go_wp2_with fail
                  refine HBT.out.mono ?_
                  rintro e w4 ⟨⟨z4, ov, rfl, z40, z41⟩, hm2⟩
                  obtain ⟨zn, rfl⟩ : ∃ n : Nat, z4 = (n : Int) := ⟨z4.toNat, by omega⟩
                  have HB4 := Lib.hid (HB2.out.trans ((hm2.below HB3.out).mono HB2.out.size))
                  clear hm2 HBT
                  cases ov with
                  | false =>
                    go_wp2_with fail
                    ((try simp only [Exit.inBlock, Exit.then]); refine bodyPost_ret (results_tmp3 rfl _ _ _) rfl ?_)
                    exact ⟨⟨_, _, _, rfl, .inl rfl⟩, HB4.out⟩
                  | true =>
                    go_wp2_with fail
                    ((try simp only [Exit.inBlock, Exit.then]); refine bodyPost_ret (results_tmp3 rfl _ _ _) rfl ?_)
                    exact ⟨⟨_, _, _, rfl, .inr (.inl rfl)⟩, HB4.out⟩
end Go.Proofs.YtaggmakaceafgaaGreatDoor

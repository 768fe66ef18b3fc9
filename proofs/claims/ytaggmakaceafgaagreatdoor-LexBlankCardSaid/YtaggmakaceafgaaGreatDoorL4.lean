import Derived.Test.YtaggmakaceafgaaGreatDoorL3
namespace Go.Proofs.YtaggmakaceafgaaGreatDoor
open Go.RowKit Lx Er
set_option linter.unusedVariables false

/-- append of tokens, behind a guard that says yes -/
theorem wpList_append_toks {w : World} {ops : Array Oper} {rest : List Oper} {o : Oper} {a : Act} {Q : Exit → Act → World → Prop} (hgd : Region.wanted o (yielded ops a.tmps) = true) (s x : Operand)
    (ho : o.op = .call { callee := .builtin .append, args := #[s, x], argTypes := #[23, 23] })
    (base : Nat) (v : Value) (n : Nat) (xs : List Value) (hs : a.eval s = v) (hown : w.ownsRow base 35 3 v n xs)
    (A : Option Addr) (m c : Nat) (l : List Tk) (hm : l.length = m) (hx : a.eval x = .slice A m c) (hl : Toks w A l) (hA : A = none → c = 0) (hsz : n + m ≤ 65536) (hbase : base ≤ w.heap.size)
    (h : ∀ v' w', w'.ownsRow base 35 3 v' (n + m) (xs ++ flatT l) → w.grownBy w' v.ownBlock → wpList Tryz.prog ops Q rest (a.put o.dst v') w') : wpList Tryz.prog ops Q (o :: rest) a w := by
  obtain ⟨i0, hi0, hz0, hz1, hz2⟩ := info_parts3 tok_info
  subst hm
  unfold wpList
  rw [if_pos hgd]
  left
  cases A with
  | none =>
    have hc := hA rfl
    have h0 : l = [] := by
      cases l with
      | nil => rfl
      | cons p l => obtain ⟨_, e, _⟩ := hl (by simp); cases e
    subst h0
    subst hc
    have hrun := run_append_owned_none (P := Tryz.prog) (w := w) base 23 o.type 35 i0 3 Tryz.underlying23 hi0 v n xs hown
    unfold Oper.wp
    have hx : a.eval x = .slice none 0 0 := hx
    simp [execOp, ho, resolve, invoke, builtin, hs, hx, hrun, Result.andThen]
    exact h v w (by simpa [flatT] using hown) (World.grownBy.refl w _)
  | some ad =>
    refine wp_append_own w s x 23 ho base 35 i0 _ 3 32 Tryz.underlying23 hi0 hz0 hz1 hz2 rfl (by decide) v n xs hs hown ad l.length c (flatT l) hx (flatT_length l) (toks_cells hl) (flatT_one l) (by unfold maxLen; omega) (by omega) hbase ?_
    intro v' w' h1 h2 _
    exact h v' w' h1 h2
section
variable {Q qo qc P off c F fo fc : Nat}
set_option maxRecDepth 100000 in
theorem parts_wrong (a b : ByteArray) (xs : List Tk) (p : Nat) (w : World) (hL : Laid Q qo qc P off c F fo fc w) (ha3 : a.size ≤ 300) (hb3 : b.size ≤ 300) (ha : lexS numB spanB a.data.toList 0 = .ok xs) (hb : lexS numB spanB b.data.toList 0 = .error p) :
    Calls Tryz.prog 5 #[.string a, .string b] w fun e w' => e = .returned (.bool true) ∧ Below w.heap.size w w' := by
  have HL := Lib.hid hL
  have HW := Lib.hid (awake_any w hL)
  have HA := Lib.hid ha
  have HBB := Lib.hid hb
  have d1 : ¬ (300 : Int) < (a.size : Int) := by omega
  have d2 : ¬ (300 : Int) < (b.size : Int) := by omega
  have HS := Lib.hid (join_size a b)
  clear hL ha hb
  go_enter Tryz.func5, Tryz.ntmps5
  go_wp2_with fail
  refine (HW.out).mono ?_
  rintro e w1 ⟨rfl, hb1⟩
  have HB1 := Lib.hid hb1
  have HL1 := Lib.hid (HL.out.below hb1)
  have H1 := Lib.hid (lex_ok a xs w1 HL1.out (by omega) HA.out)
  clear hb1
  go_wp2_with fail
  refine (H1.out).mono ?_
  rintro e w2 ⟨v1, rfl, _, hb2⟩
  have HB2 := Lib.hid (HB1.out.trans (hb2.mono HB1.out.size))
  have HL2 := Lib.hid (HL1.out.below hb2)
  have H2 := Lib.hid (lex_bad b p w2 HL2.out (by omega) HBB.out)
  clear hb2
  go_wp2_with fail
  refine (H2.out).mono ?_
  rintro e w3 ⟨f, rfl, _, _, hb3⟩
  have HB3 := Lib.hid (HB2.out.trans (hb3.mono HB2.out.size))
  have HL3 := Lib.hid (HL2.out.below hb3)
  have H3 := Lib.hid (lex_some (a ++ ⟨#[10]⟩ ++ b) w3 HL3.out (by rw [HS.out]; omega))
  clear hb3
  go_wp2_with fail
  refine (H3.out).mono ?_
  rintro e w4 ⟨v2, er2, rfl, hb4⟩
  have HB4 := Lib.hid (HB3.out.trans (hb4.mono HB3.out.size))
  clear hb4
  go_wp2_with fail
  go_ret
  exact ⟨rfl, HB4.out⟩
def PRel (lo hi hz : Nat) (w : World) (Ax Ay Az : Option Addr) (cx cy cz d i : Nat) (xs ys zs : List Tk) (wx : World) : Prop :=
  ToksB lo hi wx Ay cy (mix d i ys) ∧ (∃ lx, ToksB lx lo wx Ax cx xs) ∧ ToksB hi hz wx Az cz zs ∧ Below w.heap.size w wx ∧ w.heap.size ≤ lo
set_option maxRecDepth 100000 in
set_option maxHeartbeats 2000000 in
theorem parts_ok (a b : ByteArray) (xs ys : List Tk) (w : World) (hL : Laid Q qo qc P off c F fo fc w) (ha3 : a.size ≤ 300) (hb3 : b.size ≤ 300) (ha : lexS numB spanB a.data.toList 0 = .ok xs) (hb : lexS numB spanB b.data.toList 0 = .ok ys) :
    Calls Tryz.prog 5 #[.string a, .string b] w fun e w' => e = .returned (.bool true) ∧ Below w.heap.size w w' := by
  have HL := Lib.hid hL
  have HW := Lib.hid (awake_any w hL)
  have HA := Lib.hid ha
  have HBB := Lib.hid hb
  have hab := parts_all numB spanB ha hb
  rw [← join_list, ← Lib.size_eq] at hab
  have HAB := Lib.hid hab
  have hlx := lexS_len numB spanB xs _ _ ha
  have hly := lexS_len numB spanB ys _ _ hb
  have hya := lexS_at numB spanB ys _ _ hb
  rw [← Lib.size_eq] at hlx hly hya
  have HYA := Lib.hid (fun i hi => getD_at hya i hi)
  have d1 : ¬ (300 : Int) < (a.size : Int) := by omega
  have d2 : ¬ (300 : Int) < (b.size : Int) := by omega
  have HS := Lib.hid (join_size a b)
  clear hL ha hb hab hya
  go_enter Tryz.func5, Tryz.ntmps5
  go_wp2_with fail
  refine (HW.out).mono ?_
  rintro e w1 ⟨rfl, hb1⟩
  have HB1 := Lib.hid hb1
  have HL1 := Lib.hid (HL.out.below hb1)
  have H1 := Lib.hid (lex_ok a xs w1 HL1.out (by omega) HA.out)
  clear hb1
  go_wp2_with fail
  refine (H1.out).mono ?_
  rintro e w2 ⟨vx, rfl, hox, hb2⟩
  obtain ⟨Ax, cx, rfl, htx⟩ := own_toksB hox
  have HTX := Lib.hid htx
  have HB2 := Lib.hid (HB1.out.trans (hb2.mono HB1.out.size))
  have HL2 := Lib.hid (HL1.out.below hb2)
  have H2 := Lib.hid (lex_ok b ys w2 HL2.out (by omega) HBB.out)
  clear hb2 hox htx
  go_wp2_with fail
  refine (H2.out).mono ?_
  rintro e w3 ⟨vy, rfl, hoy, hb3'⟩
  obtain ⟨Ay, cy, rfl, hty⟩ := own_toksB hoy
  have HTY := Lib.hid hty
  have HTX3 := Lib.hid (HTX.out.below hb3')
  have HB3 := Lib.hid (HB2.out.trans (hb3'.mono HB2.out.size))
  have HL3 := Lib.hid (HL2.out.below hb3')
  have H3 := Lib.hid (lex_ok (a ++ ⟨#[10]⟩ ++ b) _ w3 HL3.out (by rw [HS.out]; omega) HAB.out)
  clear hb3' hoy hty
  go_wp2_with fail
  refine (H3.out).mono ?_
  rintro e w4 ⟨vz, rfl, hoz, hb4⟩
  obtain ⟨Az, cz, rfl, htz⟩ := own_toksB hoz
  have HTZ4 := Lib.hid htz
  have HTX4 := Lib.hid (HTX3.out.below hb4)
  have HTY4 := Lib.hid (HTY.out.below hb4)
  have HB4 := Lib.hid (HB3.out.trans (hb4.mono HB3.out.size))
  clear hb4 hoz htz
  obtain ⟨n, hn⟩ : ∃ n, ys.length = n := ⟨_, rfl⟩
  have HN := Lib.hid hn
  obtain ⟨nz, hnz⟩ : ∃ nz, (xs ++ shiftT (a.size + 1) ys).length = nz := ⟨_, rfl⟩
  have HNZ := Lib.hid hnz
  obtain ⟨nx, hnx⟩ : ∃ nx, xs.length = nx := ⟨_, rfl⟩
  have HNX := Lib.hid hnx
  rw [hn] at hly ⊢
  rw [hnx] at hlx ⊢
  rw [hnz]
  have HR0 : Hid (PRel w2.heap.size w3.heap.size w4.heap.size w Ax Ay Az cx cy cz (a.size + 1) 0 xs ys (xs ++ shiftT (a.size + 1) ys) w4) :=
    ⟨by rw [mix_zero]; exact HTY4.out, ⟨_, HTX4.out⟩, HTZ4.out, HB4.out, HB2.out.size⟩
  clear hn hnz hnx H1 H2 H3 HTX HTY HTX3 HTZ4 HTX4 HTY4
  go_wp2_with fail
  go_loopg [11] n (fun g s11 wx => ∃ i : Nat, i + g = n ∧ s11 = .int .i64 (i : Int) ∧ Hid (PRel w2.heap.size w3.heap.size w4.heap.size w Ax Ay Az cx cy cz (a.size + 1) i xs ys (xs ++ shiftT (a.size + 1) ys) wx))
  case atStart => exact ⟨0, by omega, rfl, HR0⟩
  case round =>
    obtain ⟨i, hig, rfl, HR⟩ := hrel
    by_cases hi : i < n
    · have hii : (i : Int) < (n : Int) := by omega
      obtain ⟨r1, ⟨lx, r2⟩, r3, r4, r5⟩ := HR.out
      have hml : (mix (a.size + 1) i ys).length = n := by rw [mix_len _ _ _ (by rw [HN.out]; omega)]; exact HN.out
      obtain ⟨bl, rfl, e1, e2, e3, cs, hk, hc⟩ := r1.2 (by rw [hml]; omega)
      have hci := (hc i (by rw [hml]; exact hi)).2.1
      rw [mix_get _ i i ys (by rw [HN.out]; omega) (by rw [HN.out]; exact hi), if_neg (Nat.lt_irrefl i)] at hci
      have hci2 : wr.cell? ⟨bl, i * 3 + 1, none⟩ = some (.int .i64 ((ys.getD i t0).2.1 : Int)) := (hk.cell _).trans hci
      have hfr := hk.frozen (i * 3 + 1)
      have hyb := HYA.out i (by rw [HN.out]; exact hi)
      have hnx := mix_next (a.size + 1) i ys (by rw [HN.out]; exact hi)
      obtain ⟨y, hy⟩ : ∃ y, (ys.getD i t0).2.1 = y := ⟨_, rfl⟩
      rw [hy] at hyb hci2 hnx
      have HR2 : Hid (PRel w2.heap.size w3.heap.size w4.heap.size w Ax (some ⟨bl, 0, none⟩) Az cx cy cz (a.size + 1) (i + 1) xs ys (xs ++ shiftT (a.size + 1) ys) (wr.setCell ⟨bl, i * 3 + 1, none⟩ (.int .i64 ((y + (a.size + 1) : Nat) : Int)))) :=
        ⟨r1.set (by rw [hml]; exact hi) (by rw [hml, mix_len _ _ _ (by rw [HN.out]; omega)]; exact HN.out) hnx rfl, ⟨lx, r2.moved (Moved.set _ _ _ _) (.inr e1)⟩, r3.moved (Moved.set _ _ _ _) (.inl e2), r4.setCell (by show w.heap.size ≤ bl; omega) _, r5⟩
      have hval : (y : Int) + (a.size : Int) + 1 = ((y + (a.size + 1) : Nat) : Int) := by omega
      have HVAL := Lib.hid hval
      obtain ⟨g, rfl⟩ : ∃ g, gk = g + 1 := ⟨gk - 1, by omega⟩
      clear r1 r2 r3 r4 hml hc hci hk hnx hy hval HR
      go_wp2_with fail
      rw [HVAL.out]
      go_roundg g
      case measure => omega
      case rel => exact ⟨i + 1, by omega, by go_num, HR2⟩
    · obtain rfl : i = n := by omega
      obtain ⟨r1, ⟨lx, r2⟩, r3, r4, r5⟩ := HR.out
      have hmx : mix (a.size + 1) i ys = shiftT (a.size + 1) ys := by rw [← HN.out]; exact mix_all _ _
      rw [hmx] at r1
      have HY := Lib.hid r1
      have HX := Lib.hid r2
      have HZ := Lib.hid r3
      have HB := Lib.hid r4
      clear r1 r2 r3 r4 hmx HR
      have hnx9 : nx ≤ 300 := by omega
      have hyn : (shiftT (a.size + 1) ys).length = i := by rw [← HN.out]; simp [shiftT]
      have HYN := Lib.hid hyn
      have HO0 : Hid ((wr.alloc (.cells #[] 35)).ownsRow wr.heap.size 35 3 (.slice (some ⟨wr.heap.size, 0, none⟩) 0 0) 0 []) := World.ownsRow_lit wr #[] 0 (Nat.le_refl _) (by unfold maxLen; omega) rfl
      have hba : Below wr.heap.size wr (wr.alloc (.cells #[] 35)) := (Below.refl _ _).alloc (Nat.le_refl _) _
      have HXA := Lib.hid (HX.out.below hba)
      have HYA2 := Lib.hid (HY.out.below hba)
      have HBA := Lib.hid hba
      clear hyn hba
      go_wp2_with (at_builtin; refine wpList_append_toks rfl (.tmp 76) (.tmp 77) rfl wr.heap.size (.slice (some ⟨wr.heap.size, 0, none⟩) 0 0) 0 [] rfl HO0.out Ax nx cx xs HNX.out rfl HXA.out.toks HXA.out.1 (by omega) (by simp) ?_)
      intro v5 w5 ho5 hg5
      have hb5 : Below wr.heap.size wr w5 := HBA.out.grown hg5 (by simp) (fun g hg => by cases hg; exact Nat.le_refl _)
      have HB5 := Lib.hid hb5
      have HO5 : Hid (w5.ownsRow wr.heap.size 35 3 v5 nx (flatT xs)) := ho5
      have HY5 := Lib.hid (HY.out.below hb5)
      clear hb5 hg5 ho5
      go_wp2_with (at_builtin; refine wpList_append_toks rfl (.tmp 78) (.tmp 79) rfl wr.heap.size v5 nx (flatT xs) rfl HO5.out Ay i cy (shiftT (a.size + 1) ys) HYN.out rfl HY5.out.toks HY5.out.1 (by omega) HB5.out.size ?_)
      intro v6 w6 ho6 hg6
      have hb6 : Below wr.heap.size wr w6 := HB5.out.grown hg6 HB5.out.size (fun g hg => (HO5.out.lt g hg).1)
      have HO6 : w6.ownsRow wr.heap.size 35 3 v6 (xs ++ shiftT (a.size + 1) ys).length (flatT (xs ++ shiftT (a.size + 1) ys)) := by
        have := ho6
        rw [← flatT_append] at this
        rw [List.length_append, HNX.out, HYN.out]
        exact this
      obtain ⟨A6, c6, rfl, ht6⟩ := own_toks HO6
      have HB6 := Lib.hid (HB.out.trans (hb6.mono HB.out.size))
      have HSM := Lib.hid (same_any Az A6 nz cz c6 (xs ++ shiftT (a.size + 1) ys) w6 HNZ.out (HZ.out.below hb6).toks ht6 (by rw [List.length_append, HNX.out, HYN.out]; omega))
      rw [HNZ.out]
      clear hb6 ho6 hg6 ht6 HO6
      go_wp2_with fail
      refine (HSM.out).mono ?_
      rintro e w7 ⟨rfl, m, rfl⟩
      go_wp2_with fail
      go_ret
      exact ⟨rfl, Sp.bel_drawn HB6.out _⟩
theorem parts_any (a b : ByteArray) (w : World) (hL : Laid Q qo qc P off c F fo fc w) :
    Calls Tryz.prog 5 #[.string a, .string b] w fun e w' => e = .returned (.bool true) ∧ Below w.heap.size w w' := by
  by_cases ha : 300 < a.size
  · have HW := Lib.hid (awake_any w hL)
    have d1 : (300 : Int) < (a.size : Int) := by omega
    clear hL
    go_enter Tryz.func5, Tryz.ntmps5
    go_wp2_with fail
    refine (HW.out).mono ?_
    rintro e w1 ⟨rfl, hb1⟩
    have HB1 := Lib.hid hb1
    clear hb1
    go_wp2_with fail
    go_ret
    exact ⟨rfl, HB1.out⟩
  · by_cases hb : 300 < b.size
    · have HW := Lib.hid (awake_any w hL)
      have d1 : ¬ (300 : Int) < (a.size : Int) := by omega
      have d2 : (300 : Int) < (b.size : Int) := by omega
      clear hL
      go_enter Tryz.func5, Tryz.ntmps5
      go_wp2_with fail
      refine (HW.out).mono ?_
      rintro e w1 ⟨rfl, hb1⟩
      have HB1 := Lib.hid hb1
      clear hb1
      go_wp2_with fail
      go_ret
      exact ⟨rfl, HB1.out⟩
    · cases hra : lexS numB spanB a.data.toList 0 with
      | error p => exact parts_error a b p w hL (by omega) (by omega) hra
      | ok xs =>
        cases hrb : lexS numB spanB b.data.toList 0 with
        | ok ys => exact parts_ok a b xs ys w hL (by omega) (by omega) hra hrb
        | error p => exact parts_wrong a b xs p w hL (by omega) (by omega) hra hrb
end
end Go.Proofs.YtaggmakaceafgaaGreatDoor

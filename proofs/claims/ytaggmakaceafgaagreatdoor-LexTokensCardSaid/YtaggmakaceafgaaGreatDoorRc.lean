/- Lemmas. No condition. -/
import Derived.Test.YtaggmakaceafgaaGreatDoorRb
import Derived.Test.YtaggmakaceafgaaGreatDoorLa
namespace Go.Proofs.YtaggmakaceafgaaGreatDoor
open Go.RowKit Lx
set_option linter.unusedVariables false

/-! the document's token at a place -/
theorem kind_eqs (c : UInt8) : (kindN c == 97) = Lx.isL c ∧ (kindN c == 48) = Lx.isD c ∧ (kindN c == 46) = (c == 46) ∧ (kindN c == 34) = (c == 34) ∧ (kindN c == 32) = isB c := by
  have : ∀ n : Nat, n < 256 → (kindN (UInt8.ofNat n) == 97) = Lx.isL (UInt8.ofNat n) ∧ (kindN (UInt8.ofNat n) == 48) = Lx.isD (UInt8.ofNat n) ∧ (kindN (UInt8.ofNat n) == 46) = (UInt8.ofNat n == 46) ∧ (kindN (UInt8.ofNat n) == 34) = (UInt8.ofNat n == 34) ∧ (kindN (UInt8.ofNat n) == 32) = isB (UInt8.ofNat n) := by decide +kernel
  have h := this c.toNat c.toNat_lt
  rwa [UInt8.ofNat_toNat] at h
def RefTP (p : Nat) (r : Option (Nat × List UInt8 × Nat)) (w : World) (e : Ending) (w' : World) : Prop :=
  (match r with
    | none => ∃ (x y : Int) (z : ByteArray), e = .returned (.tuple #[.agg #[.int .i64 x, .int .i64 y, .string z], .int .i64 0])
    | some (k, t, n) => e = .returned (.tuple #[tokV k p ⟨t.toArray⟩, .int .i64 ((p + n : Nat) : Int)])) ∧ Below w.heap.size w w'
theorem reft_none {p : Nat} {x y : Int} {z : ByteArray} {w w' : World} (h : Below w.heap.size w w') : RefTP p none w (.returned (.tuple #[.agg #[.int .i64 x, .int .i64 y, .string z], .int .i64 0])) w' := ⟨⟨x, y, z, rfl⟩, h⟩
theorem reft_some {p k n q : Nat} {t : List UInt8} {tt : ByteArray} {w w' : World} (hq : p + n = q) (ht : (⟨t.toArray⟩ : ByteArray) = tt) (hb : Below w.heap.size w w') : RefTP p (some (k, t, n)) w (.returned (.tuple #[tokV k p tt, .int .i64 (q : Int)])) w' := by
  subst hq ht; exact ⟨rfl, hb⟩
section
variable {Q qo qc P off c F fo fc : Nat}
set_option maxRecDepth 100000 in
set_option maxHeartbeats 2000000 in
theorem reftok_word (s : ByteArray) (p : Nat) (w : World) (hp : p < s.size) (hs : s.size ≤ 65536) (hl : Lx.isL s[p] = true) :
    Calls Tryz.prog 15 #[.string s, .int .i64 (p : Int)] w (RefTP p (some (1, (s.data.toList.drop p).takeWhile isW, ((s.data.toList.drop p).takeWhile isW).length)) w) := by
  have HK := Lib.hid kind_any
  have HKE := Lib.hid kind_eqs
  have HKP := Lib.hid (HK.out s[p])
  have hk97 := (HKE.out s[p]).1
  rw [hl] at hk97
  obtain ⟨n, hn⟩ : ∃ n, ((s.data.toList.drop p).takeWhile isW).length = n := ⟨_, rfl⟩
  have hle : n ≤ s.size - p := by
    have := (List.takeWhile_sublist isW (l := s.data.toList.drop p)).length_le
    rw [List.length_drop, ← Lib.size_eq] at this
    omega
  have ht : (s.data.toList.drop p).takeWhile isW = (s.data.toList.drop p).take n := by rw [← hn, tw_take]
  have HS := Lib.hid (slice_take s p n (by omega))
  have sl := fun wx => sl9b s p (p + n) (by omega) (by omega) wx
  rw [HS.out] at sl
  rw [hn, ht]
  have HN := Lib.hid hn
  generalize htt : (⟨((s.data.toList.drop p).take n).toArray⟩ : ByteArray) = tt at *
  have HTT := Lib.hid htt
  obtain ⟨q, hq⟩ : ∃ q, p + n = q := ⟨_, rfl⟩
  rw [hq] at sl
  have HQ := Lib.hid hq
  have HR0 : Hid (((s.data.toList.drop p).takeWhile isW).length + p = q) := by show _ = _; rw [hn]; omega
  generalize kindN s[p] = kk at *
  clear hl ht htt HS hn hq
  go_enter Tryz.func15, Tryz.ntmps15
  go_wp2_with fail
  refine (HKP.out _).mono ?_
  rintro e w1 ⟨rfl, rfl⟩
  go_wp2_with fail
  go_loopg [7] s.size (fun g s7 wx => ∃ j : Nat, p ≤ j ∧ j ≤ s.size ∧ s.size ≤ g + j ∧ s7 = .int .i64 (j : Int) ∧ Hid (((s.data.toList.drop j).takeWhile isW).length + j = q) ∧ wx = w.alloc (.cells #[.int .i64 0, .int .i64 0, .string ⟨#[]⟩] 35))
  case atStart => exact ⟨p, Nat.le_refl _, by omega, by omega, rfl, HR0, rfl⟩
  case round =>
    obtain ⟨j, hpj, hj, hg, rfl, HJ, rfl⟩ := hrel
    by_cases hlt : j < s.size
    · have d : (j : Int) < (s.size : Int) := by omega
      have HDJ := HJ.out
      rw [drop_byte s j hlt, List.takeWhile_cons] at HDJ
      have HKJ := Lib.hid (HK.out s[j])
      obtain ⟨e97, e48, _⟩ := HKE.out s[j]
      cases h1 : Lx.isL s[j] with
      | true =>
        have hw : isW s[j] = true := by unfold isW; rw [h1]; rfl
        rw [hw] at HDJ
        simp only [if_true, List.length_cons] at HDJ
        have HK2 := Lib.hid (show ((s.data.toList.drop (j + 1)).takeWhile isW).length + (j + 1) = q by omega)
        rw [h1] at e97
        generalize kindN s[j] = k2 at *
        obtain ⟨g, rfl⟩ : ∃ g, gk = g + 1 := ⟨gk - 1, by omega⟩
        clear HDJ hw HJ h1 e48
        go_wp2_with fail
        refine (HKJ.out _).mono ?_
        rintro e w1 ⟨rfl, rfl⟩
        go_wp2_with fail
        go_roundg g
        case measure => omega
        case rel => exact ⟨j + 1, by omega, by omega, by omega, by go_num, HK2, rfl⟩
      | false =>
        cases h2 : Lx.isD s[j] with
        | true =>
          have hw : isW s[j] = true := by unfold isW; rw [h2]; simp
          rw [hw] at HDJ
          simp only [if_true, List.length_cons] at HDJ
          have HK2 := Lib.hid (show ((s.data.toList.drop (j + 1)).takeWhile isW).length + (j + 1) = q by omega)
          rw [h1] at e97
          rw [h2] at e48
          generalize kindN s[j] = k2 at *
          obtain ⟨g, rfl⟩ : ∃ g, gk = g + 1 := ⟨gk - 1, by omega⟩
          clear HDJ hw HJ h1 h2
          go_wp2_with fail
          refine (HKJ.out _).mono ?_
          rintro e w1 ⟨rfl, rfl⟩
          go_wp2_with fail
          refine (HKJ.out _).mono ?_
          rintro e w1 ⟨rfl, rfl⟩
          go_wp2_with fail
          go_roundg g
          case measure => omega
          case rel => exact ⟨j + 1, by omega, by omega, by omega, by go_num, HK2, rfl⟩
        | false =>
          have hw : isW s[j] = false := by unfold isW; rw [h1, h2]; rfl
          rw [hw] at HDJ
          have hjq : j = q := by simpa using HDJ
          rw [h1] at e97
          rw [h2] at e48
          generalize kindN s[j] = k2 at *
          have HKJ2 := Lib.hid HKJ.out
          clear HDJ hw HJ h1 h2 HR0
          subst hjq
          go_wp2_with fail
          refine (HKJ2.out _).mono ?_
          rintro e w1 ⟨rfl, rfl⟩
          go_wp2_with fail
          refine (HKJ2.out _).mono ?_
          rintro e w1 ⟨rfl, rfl⟩
          go_wp2_with fail
          refine bodyPost_ret (v := .tuple #[tokV 1 p tt, .int .i64 (j : Int)]) (by simp [results, Tryz.results15, go_sem]) rfl (reft_some HQ.out HTT.out (by go_grown))
    · have d : ¬ (j : Int) < (s.size : Int) := by omega
      have HDJ := HJ.out
      rw [drop_none s j (by omega)] at HDJ
      have hjq : j = q := by simpa using HDJ
      clear HDJ HJ HR0
      subst hjq
      go_wp2_with fail
      refine bodyPost_ret (v := .tuple #[tokV 1 p tt, .int .i64 (j : Int)]) (by simp [results, Tryz.results15, go_sem]) rfl (reft_some HQ.out HTT.out (by go_grown))
set_option maxRecDepth 100000 in
set_option maxHeartbeats 4000000 in
theorem reftok_rest (s : ByteArray) (p : Nat) (w : World) (hT : LexT Q qo qc P off c F fo fc w) (hp : p < s.size) (hs : s.size ≤ 65536) (hl : Lx.isL s[p] = false) :
    Calls Tryz.prog 15 #[.string s, .int .i64 (p : Int)] w (RefTP p (tokF numB spanB (s.data.toList.drop p)) w) := by
  have hd := drop_byte s p hp
  have HT := Lib.hid hT
  have HK := Lib.hid kind_any
  have HKP := Lib.hid (HK.out s[p])
  obtain ⟨e97, e48, e46, e34, _⟩ := kind_eqs s[p]
  rw [hl] at e97
  obtain ⟨o, ho⟩ : ∃ o, tokF numB spanB (s.data.toList.drop p) = o := ⟨_, rfl⟩
  rw [ho]
  have HO := Lib.hid ho
  obtain ⟨nh, hnh⟩ : ∃ nh, numHead (s.data.toList.drop p) = nh := ⟨_, rfl⟩
  have HH := Lib.hid hnh
  have HE48 := Lib.hid e48
  have HE46 := Lib.hid e46
  have HE34 := Lib.hid e34
  have HD := Lib.hid hd
  have HL := Lib.hid hl
  obtain ⟨kk, hkk⟩ : ∃ kk, kindN s[p] = kk := ⟨_, rfl⟩
  rw [hkk] at HKP e97 HE48 HE46 HE34
  clear hT ho hnh hd hl e48 e46 e34 hkk
  go_enter Tryz.func15, Tryz.ntmps15
  go_wp2_with fail
  refine (HKP.out _).mono ?_
  rintro e w1 ⟨rfl, rfl⟩
  go_upto_region 7 with fail
  go_cut [51] (fun s51 wx => s51 = .bool nh ∧ wx = w.alloc (.cells #[.int .i64 0, .int .i64 0, .string ⟨#[]⟩] 35))
  case first =>
    have hh := HH.out
    rw [HD.out] at hh
    cases h1 : Lx.isD s[p] with
    | true =>
      rw [numHead_d h1] at hh
      subst hh
      have e48 := HE48.out
      rw [h1] at e48
      clear h1 HH
      go_wp2_with fail
      go_meet
      exact ⟨rfl, rfl⟩
    | false =>
      have e48 := HE48.out
      rw [h1] at e48
      by_cases h46 : s[p] = 46
      · have e46 : (kk == 46) = true := by rw [HE46.out, h46]; rfl
        rw [h46] at hh
        by_cases hl2 : p + 1 < s.size
        · have d : (p : Int) + 1 < (s.size : Int) := by omega
          rw [drop_byte s (p + 1) hl2, numHead_p] at hh
          have HKQ := Lib.hid (HK.out (s[p + 1]'hl2))
          have e2 := (kind_eqs (s[p + 1]'hl2)).2.1
          rw [hh] at e2
          generalize kindN (s[p + 1]'hl2) = k2 at *
          clear h1 HH h46 hh
          go_wp2_with fail
          refine (HKQ.out _).mono ?_
          rintro e w1 ⟨rfl, rfl⟩
          go_wp2_with fail
          go_meet
          exact ⟨by first | rfl | rw [e2], rfl⟩
        · have d : ¬ (p : Int) + 1 < (s.size : Int) := by omega
          rw [drop_none s (p + 1) (by omega)] at hh
          have hh : false = nh := hh
          subst hh
          clear h1 HH h46
          go_wp2_with fail
          go_meet
          exact ⟨rfl, rfl⟩
      · have e46 : (kk == 46) = false := by rw [HE46.out]; simpa using h46
        rw [numHead_n h1 h46] at hh
        subst hh
        clear h1 HH h46
        go_wp2_with fail
        go_meet
        exact ⟨rfl, rfl⟩
  case rest =>
    obtain ⟨rfl, rfl⟩ := hcut
    have hb0 : Below w.heap.size w (w.alloc (.cells #[.int .i64 0, .int .i64 0, .string ⟨#[]⟩] 35)) := (Below.refl _ _).alloc (Nat.le_refl _) _
    have HB0 := Lib.hid hb0
    have HT0 := Lib.hid (HT.out.below hb0)
    have hblk := Blk.new w 35 #[.int .i64 0, .int .i64 0, .string ⟨#[]⟩]
    have HBL := Lib.hid hblk
    clear hblk hb0 HKP e97
    generalize w.alloc (.cells #[.int .i64 0, .int .i64 0, .string ⟨#[]⟩] 35) = w0 at *
    cases nh with
    | true =>
      obtain ⟨n, hn⟩ : ∃ n, numE true false (s.data.toList.drop p) = n := ⟨_, rfl⟩
      have hle : n ≤ s.size - p := by
        have := numE_le true false (s.data.toList.drop p)
        rw [List.length_drop, ← Lib.size_eq] at this
        omega
      have hn1 : 1 ≤ n := by rw [← hn]; exact numE_pos HH.out
      have hnw : NoWord ⟨((s.data.toList.drop p).take n).toArray⟩ := by
        have h2 := HH.out
        rw [HD.out] at h2
        refine noWord_of (c := s[p]) (r := (s.data.toList.drop (p + 1)).take (n - 1)) ?_ (numHead_c h2)
        show (s.data.toList.drop p).take n = _
        rw [HD.out, show n = n - 1 + 1 by omega, List.take_succ_cons]
        rfl
      have hF : o = (if numB ((s.data.toList.drop p).take n) = true then some (2, (s.data.toList.drop p).take n, n)
          else if spanB ((s.data.toList.drop p).take n) = true then some (3, (s.data.toList.drop p).take n, n) else none) := by
        rw [← HO.out, HD.out, tokF, if_neg (by rw [HL.out]; decide), ← HD.out, if_pos HH.out, hn]
      have HO2 := Lib.hid hF
      have HE := Lib.hid (fun W => refnumber_any s p W (by omega) hs)
      rw [hn] at HE
      have HS := Lib.hid (slice_take s p n (by omega))
      have sl := fun wx => sl9b s p (p + n) (by omega) (by omega) wx
      rw [HS.out] at sl
      have HNW := Lib.hid hnw
      obtain ⟨l, hl⟩ : ∃ l, (s.data.toList.drop p).take n = l := ⟨_, rfl⟩
      have hll : l.length ≤ 65536 := by rw [← hl, List.length_take, List.length_drop, ← Lib.size_eq]; omega
      rw [hl] at sl HNW HO2
      clear hnw HS hl HH hn hF HO
      obtain ⟨tt, htt⟩ : ∃ tt : ByteArray, (⟨l.toArray⟩ : ByteArray) = tt := ⟨_, rfl⟩
      have htd : tt.data.toList = l := by rw [← htt]
      have hts : tt.size ≤ 65536 := by rw [Lib.size_eq, htd]; exact hll
      have HNB : Hid (numT tt = numB l) := by show _ = _; rw [← htt]; rfl
      have HTD := Lib.hid htd
      have HTT := Lib.hid htt
      rw [htt] at sl HNW
      clear htt htd
      generalize hq : p + n = q at *
      have HQ := Lib.hid hq
      clear hq
      have HV := Lib.hid (refvalue_any tt w0 HT0.out.tabs HNW.out hts)
      unfold RefValP at HV
      rw [HNB.out] at HV
      go_wp2_with fail
      refine (HE.out _).mono ?_
      rintro e w1 ⟨rfl, rfl⟩
      go_wp2_with fail
      refine (HV.out).mono ?_
      rintro e w2 ⟨⟨v, rfl⟩, hb2⟩
      have HB2 := Lib.hid (HB0.out.trans (hb2.mono HB0.out.size))
      have HBL2 := Lib.hid (HBL.out.below hb2)
      clear hb2 HB0 HBL HV HE HT0 HT
      cases hnb : numB l with
      | true =>
        have hF : o = some (2, l, n) := by rw [HO2.out, hnb]; rfl
        subst hF
        clear hnb
        have c0 := HBL2.out.cell 0
        have c1 := HBL2.out.cell 1
        have c2 := HBL2.out.cell 2
        have f0 := HBL2.out.frozen 0
        have f1 := HBL2.out.frozen 1
        have f2 := HBL2.out.frozen 2
        simp at c0 c1 c2
        have hbf := ((HBL2.out.set_ 0 (.int .i64 2)).set_ 1 (.int .i64 (p : Int))).set_ 2 (.string tt)
        have HBF := Lib.hid hbf
        clear hbf
        go_wp2_with fail
        refine bodyPost_ret (res_tok (by kernel_rfl) rfl rfl HBF.out) rfl (reft_some HQ.out HTT.out ?_)
        have := HB2.out
        go_grown
      | false =>
        have HP := Lib.hid (Sp.refparse_any tt (Sp.spanF l) w2 (by rw [HTD.out]))
        cases hsb : Sp.spanF l with
        | some u =>
          have hF : o = some (3, l, n) := by rw [HO2.out, hnb]; unfold spanB; rw [hsb]; rfl
          subst hF
          rw [hsb] at HP
          unfold Sp.refVal at HP
          clear hnb hsb
          go_wp2_with fail
          refine (HP.out).mono ?_
          rintro e w3 ⟨rfl, hb3⟩
          have HB3 := Lib.hid (HB2.out.trans (hb3.mono HB2.out.size))
          have HBL3 := Lib.hid (HBL2.out.below hb3)
          clear hb3
          have c0 := HBL3.out.cell 0
          have c1 := HBL3.out.cell 1
          have c2 := HBL3.out.cell 2
          have f0 := HBL3.out.frozen 0
          have f1 := HBL3.out.frozen 1
          have f2 := HBL3.out.frozen 2
          simp at c0 c1 c2
          have hbf := ((HBL3.out.set_ 0 (.int .i64 3)).set_ 1 (.int .i64 (p : Int))).set_ 2 (.string tt)
          have HBF := Lib.hid hbf
          clear hbf
          go_wp2_with fail
          refine bodyPost_ret (res_tok (by kernel_rfl) rfl rfl HBF.out) rfl (reft_some HQ.out HTT.out ?_)
          have := HB3.out
          go_grown
        | none =>
          have hF : o = none := by rw [HO2.out, hnb]; unfold spanB; rw [hsb]; rfl
          subst hF
          rw [hsb] at HP
          unfold Sp.refVal at HP
          clear hnb hsb
          go_wp2_with fail
          refine (HP.out).mono ?_
          rintro e w3 ⟨rfl, hb3⟩
          have HB3 := Lib.hid (HB2.out.trans (hb3.mono HB2.out.size))
          have HBL3 := Lib.hid (HBL2.out.below hb3)
          clear hb3
          have c0 := HBL3.out.cell 0
          have c1 := HBL3.out.cell 1
          have c2 := HBL3.out.cell 2
          have f0 := HBL3.out.frozen 0
          have f1 := HBL3.out.frozen 1
          have f2 := HBL3.out.frozen 2
          simp at c0 c1 c2
          have hbf := ((HBL3.out.set_ 0 (.int .i64 0)).set_ 1 (.int .i64 0)).set_ 2 (.string ⟨#[]⟩)
          have HBF := Lib.hid hbf
          clear hbf
          go_wp2_with fail
          refine bodyPost_ret (res_tok (by kernel_rfl) rfl rfl HBF.out) rfl (reft_none ?_)
          have := HB3.out
          go_grown
    | false =>
      by_cases h34 : s[p] = 34
      · have e34 : (kk == 34) = true := by rw [HE34.out, h34]; rfl
        have hoo : (quoteL [] 1 (s.data.toList.drop (p + 1))).map (fun q => (4, q.1, q.2)) = o := by
          rw [← HO.out, HD.out, tokF, if_neg (by rw [HL.out]; decide), ← HD.out, if_neg (by rw [HH.out]; decide), if_pos h34]
        have HOO := Lib.hid hoo
        have HQU := Lib.hid (refquoted_any s p w0 hp hs)
        cases hql : quoteL [] 1 (s.data.toList.drop (p + 1)) with
        | some x =>
          obtain ⟨t, n⟩ := x
          rw [hql] at hoo HQU
          have hF : o = some (4, t, n) := hoo.symm
          subst hF
          obtain ⟨tt, htt⟩ : ∃ tt : ByteArray, (⟨t.toArray⟩ : ByteArray) = tt := ⟨_, rfl⟩
          have HTT := Lib.hid htt
          obtain ⟨q, hq⟩ : ∃ q, p + n = q := ⟨_, rfl⟩
          have HQ := Lib.hid hq
          clear hoo HOO hql h34 htt hq
          go_wp2_with fail
          refine (HQU.out).mono ?_
          rintro e w3 ⟨hk, hb3⟩
          have hk : e = .returned (.tuple #[.string ⟨t.toArray⟩, .int .i64 ((p + n : Nat) : Int)]) := hk
          rw [HTT.out, HQ.out] at hk
          subst hk
          have HB3 := Lib.hid (HB0.out.trans (hb3.mono HB0.out.size))
          have HBL3 := Lib.hid (HBL.out.below hb3)
          clear hb3
          have c0 := HBL3.out.cell 0
          have c1 := HBL3.out.cell 1
          have c2 := HBL3.out.cell 2
          have f0 := HBL3.out.frozen 0
          have f1 := HBL3.out.frozen 1
          have f2 := HBL3.out.frozen 2
          simp at c0 c1 c2
          have hbf := ((HBL3.out.set_ 0 (.int .i64 4)).set_ 1 (.int .i64 (p : Int))).set_ 2 (.string tt)
          have HBF := Lib.hid hbf
          clear hbf
          go_wp2_with fail
          refine bodyPost_ret (res_tok (by kernel_rfl) rfl rfl HBF.out) rfl (reft_some HQ.out HTT.out ?_)
          have := HB3.out
          go_grown
        | none =>
          rw [hql] at hoo HQU
          have hF : o = none := hoo.symm
          subst hF
          clear hoo HOO hql h34
          go_wp2_with fail
          refine (HQU.out).mono ?_
          rintro e w3 ⟨hk, hb3⟩
          have hk : e = .returned (.tuple #[.string ⟨#[]⟩, .int .i64 0]) := hk
          subst hk
          have HB3 := Lib.hid (HB0.out.trans (hb3.mono HB0.out.size))
          have HBL3 := Lib.hid (HBL.out.below hb3)
          clear hb3
          have c0 := HBL3.out.cell 0
          have c1 := HBL3.out.cell 1
          have c2 := HBL3.out.cell 2
          have f0 := HBL3.out.frozen 0
          have f1 := HBL3.out.frozen 1
          have f2 := HBL3.out.frozen 2
          simp at c0 c1 c2
          have hbf := ((HBL3.out.set_ 0 (.int .i64 4)).set_ 1 (.int .i64 (p : Int))).set_ 2 (.string ⟨#[]⟩)
          have HBF := Lib.hid hbf
          clear hbf
          go_wp2_with fail
          refine bodyPost_ret (res_tok (by kernel_rfl) rfl rfl HBF.out) rfl (reft_none ?_)
          have := HB3.out
          go_grown
      · have e34 : (kk == 34) = false := by rw [HE34.out]; simpa using h34
        have hoo : (if signN (s.data.toList.drop p) = 0 then none else some (5, (s.data.toList.drop p).take (signN (s.data.toList.drop p)), signN (s.data.toList.drop p))) = o := by
          have h1 : ¬ Lx.isL s[p] = true := by rw [HL.out]; decide
          have h2 : ¬ numHead (s[p] :: s.data.toList.drop (p + 1)) = true := by rw [← HD.out, HH.out]; decide
          rw [← HO.out, HD.out]
          conv => rhs; rw [tokF, if_neg h1, if_neg h2, if_neg h34]
        obtain ⟨n, hn⟩ : ∃ n, signN (s.data.toList.drop p) = n := ⟨_, rfl⟩
        have hle : n ≤ s.size - p := by
          have := signN_le (s.data.toList.drop p)
          rw [List.length_drop, ← Lib.size_eq] at this
          omega
        have HSG := Lib.hid (fun W => refsign_any s p W hp hs)
        rw [hn] at hoo HSG
        by_cases h0 : n = 0
        · subst h0
          rw [if_pos rfl] at hoo
          subst hoo
          clear hn h34 HO HH
          go_wp2_with fail
          refine (HSG.out _).mono ?_
          rintro e w3 ⟨rfl, rfl⟩
          have c0 := HBL.out.cell 0
          have c1 := HBL.out.cell 1
          have c2 := HBL.out.cell 2
          have f0 := HBL.out.frozen 0
          have f1 := HBL.out.frozen 1
          have f2 := HBL.out.frozen 2
          simp at c0 c1 c2
          have hbf := ((HBL.out.set_ 0 (.int .i64 0)).set_ 1 (.int .i64 0)).set_ 2 (.string ⟨#[]⟩)
          have HBF := Lib.hid hbf
          clear hbf
          go_wp2_with fail
          refine bodyPost_ret (res_tok (by kernel_rfl) rfl rfl HBF.out) rfl (reft_none ?_)
          have := HB0.out
          go_grown
        · rw [if_neg h0] at hoo
          have hz : ((n : Int) == 0) = false := beq_eq_false_iff_ne.2 (by omega)
          have HS := Lib.hid (slice_take s p n (by omega))
          have sl := fun wx => sl9b s p (p + n) (by omega) (by omega) wx
          rw [HS.out] at sl
          obtain ⟨tt, htt⟩ : ∃ tt : ByteArray, (⟨((s.data.toList.drop p).take n).toArray⟩ : ByteArray) = tt := ⟨_, rfl⟩
          have HTT := Lib.hid htt
          rw [htt] at sl
          have hq : ((p + n : Nat) : Int) = (p : Int) + (n : Int) := by omega
          rw [hq] at sl
          have HQ9 := Lib.hid hq
          have hpn : (p : Int) + (n : Int) ≤ 65536 := by omega
          subst hoo
          clear hn h34 HO HH h0 htt hq
          go_wp2_with fail
          refine (HSG.out _).mono ?_
          rintro e w3 ⟨rfl, rfl⟩
          have c0 := HBL.out.cell 0
          have c1 := HBL.out.cell 1
          have c2 := HBL.out.cell 2
          have f0 := HBL.out.frozen 0
          have f1 := HBL.out.frozen 1
          have f2 := HBL.out.frozen 2
          simp at c0 c1 c2
          have hbf := ((HBL.out.set_ 0 (.int .i64 5)).set_ 1 (.int .i64 (p : Int))).set_ 2 (.string tt)
          have HBF := Lib.hid hbf
          clear hbf
          go_wp2_with fail
          rw [← HQ9.out]
          refine bodyPost_ret (res_tok (by kernel_rfl) rfl rfl HBF.out) rfl (reft_some rfl HTT.out ?_)
          have := HB0.out
          go_grown
theorem reftok_any (s : ByteArray) (p : Nat) (w : World) (hT : LexT Q qo qc P off c F fo fc w) (hp : p < s.size) (hs : s.size ≤ 65536) :
    Calls Tryz.prog 15 #[.string s, .int .i64 (p : Int)] w (RefTP p (tokF numB spanB (s.data.toList.drop p)) w) := by
  cases hl : Lx.isL s[p] with
  | true =>
    have h := reftok_word s p w hp hs hl
    have e : tokF numB spanB (s.data.toList.drop p) = some (1, (s.data.toList.drop p).takeWhile isW, ((s.data.toList.drop p).takeWhile isW).length) := by
      rw [drop_byte s p hp, tokF, if_pos hl]
    rw [e]; exact h
  | false => exact reftok_rest s p w hT hp hs hl
end
end Go.Proofs.YtaggmakaceafgaaGreatDoor

namespace Go.Proofs.YtaggmakaceafgaaGreatDoor
open Go.RowKit Lx Er
set_option linter.unusedVariables false

/-! the document's Lex -/
/-- what the document's Lex hands back -/
def RefLP (r : Except Nat (List Tk)) (w : World) (e : Ending) (w' : World) : Prop :=
  match r with
  | .ok ts => ∃ v, e = .returned (.tuple #[v, .int .i64 0, .int .i64 0]) ∧ w'.ownsRow w.heap.size 35 3 v ts.length (flatT ts) ∧ Below w.heap.size w w'
  | .error a => e = .returned (.tuple #[.slice none 0 0, .int .i64 5, .int .i64 (a : Int)]) ∧ Below w.heap.size w w'
theorem reflp_ok {ts : List Tk} {w w' : World} {v : Value} (h1 : w'.ownsRow w.heap.size 35 3 v ts.length (flatT ts)) (h2 : Below w.heap.size w w') : RefLP (.ok ts) w (.returned (.tuple #[v, .int .i64 0, .int .i64 0])) w' := ⟨v, rfl, h1, h2⟩
theorem reflp_error {a : Nat} {w w' : World} (h : Below w.heap.size w w') : RefLP (.error a) w (.returned (.tuple #[.slice none 0 0, .int .i64 5, .int .i64 (a : Int)])) w' := ⟨rfl, h⟩
theorem reflex_long (s : ByteArray) (w : World) (hs : 4000 < s.size) : Calls Tryz.prog 8 #[.string s] w fun e w' => e = .returned (.tuple #[.slice none 0 0, .int .i64 11, .int .i64 0]) ∧ w = w' := by
  have d : (4000 : Int) < (s.size : Int) := by omega
  go_enter Tryz.func8, Tryz.ntmps8
  go_wp2_with fail
  refine bodyPost_ret (results_tmp3 rfl _ _ _) rfl ?_
  exact ⟨rfl, rfl⟩
def LRel2 (L : List UInt8) (r : Except Nat (List Tk)) (w : World) (p : Nat) (ts : List Tk) (v : Value) (wx : World) : Prop :=
  pre ts (lexS numB spanB (L.drop p) p) = r ∧ wx.ownsRow w.heap.size 35 3 v ts.length (flatT ts) ∧ Below w.heap.size w wx ∧ ts.length ≤ p
/-- where a remark ends -/
def remN (l : List UInt8) : Nat := (l.takeWhile fun c => c != 10).length
theorem tw_ne : ∀ (l : List UInt8), ∀ x ∈ l.takeWhile (fun c => c != 10), x ≠ 10
  | [], x, h => by cases h
  | c :: l, x, h => by
    rw [List.takeWhile_cons] at h
    split at h
    · rename_i hc
      rcases List.mem_cons.1 h with rfl | h
      · simpa using hc
      · exact tw_ne l x h
    · cases h
theorem rem_skip (L : List UInt8) (p : Nat) (h : ∃ l, L.drop p = 35 :: l) : lexS numB spanB (L.drop p) p = lexS numB spanB (L.drop (p + remN (L.drop p))) (p + remN (L.drop p)) := by
  obtain ⟨l, hl⟩ := h
  have h1 : remN (35 :: l) = 1 + (l.takeWhile fun c => c != 10).length := by
    unfold remN; rw [List.takeWhile_cons]; simp; omega
  have h2 : L.drop (p + remN (L.drop p)) = l.dropWhile fun c => c != 10 := by
    rw [← List.drop_drop, hl, h1, Nat.add_comm 1, List.drop_succ_cons]
    have : ∀ l : List UInt8, l.drop (l.takeWhile fun c => c != 10).length = l.dropWhile fun c => c != 10 := by
      intro l
      induction l with
      | nil => rfl
      | cons c l ih =>
        rw [List.takeWhile_cons, List.dropWhile_cons]
        split
        · simpa using ih
        · rfl
    exact this l
  have h3 := lexS_rem numB spanB (g := l.takeWhile fun c => c != 10) (y := l.dropWhile fun c => c != 10) (tw_ne l) (fun c r hr => by
    have := List.head?_dropWhile_not (fun c : UInt8 => c != 10) l
    rw [hr] at this
    simpa using this) p
  rw [List.takeWhile_append_dropWhile] at h3
  rw [h2, hl, h3, h1, Nat.add_assoc]
section
variable {Q qo qc P off c F fo fc : Nat}
set_option maxRecDepth 100000 in
set_option maxHeartbeats 4000000 in
theorem reflex_any (s : ByteArray) (w : World) (hT : LexT Q qo qc P off c F fo fc w) (hs : s.size ≤ 4000) :
    Calls Tryz.prog 8 #[.string s] w (RefLP (lexS numB spanB s.data.toList 0) w) := by
  obtain ⟨i1, hi1, hy0, hy1, hy2⟩ := info_parts3 tok_info
  obtain ⟨r, hr⟩ : ∃ r, lexS numB spanB s.data.toList 0 = r := ⟨_, rfl⟩
  rw [hr]
  have HR0 : Hid (LRel2 s.data.toList r w 0 [] (.slice none 0 0) w) := ⟨by rw [pre_nil]; exact hr, World.ownsRow_nil _ _ _ _, Below.refl _ _, Nat.le_refl _⟩
  have HT := Lib.hid hT
  have HK := Lib.hid kind_any
  have HTK := Lib.hid (fun p W hW hp => reftok_any (Q := Q) (qo := qo) (qc := qc) (P := P) (off := off) (c := c) (F := F) (fo := fo) (fc := fc) s p W hW hp (by omega))
  have d4 : ¬ (4000 : Int) < (s.size : Int) := by omega
  clear hT hr
  go_enter Tryz.func8, Tryz.ntmps8
  go_wp2_with fail
  go_loopg [5, 6] s.size (fun g s5 s6 wx => ∃ (p : Nat) (ts : List Tk), p ≤ s.size ∧ s.size ≤ g + p ∧ s6 = .int .i64 (p : Int) ∧ Hid (LRel2 s.data.toList r w p ts s5 wx))
  case atStart => exact ⟨0, [], Nat.zero_le _, by omega, rfl, HR0⟩
  case round =>
    obtain ⟨p, ts, hp, hg, rfl, HR⟩ := hrel
    obtain ⟨r1, r2, r3, r4⟩ := HR.out
    have HRR := Lib.hid r1
    have HO := Lib.hid r2
    have HB := Lib.hid r3
    have HTL := Lib.hid r4
    have HTX := Lib.hid (HT.out.below r3)
    have hsx := r3.size
    have hlen : ts.length ≤ 4000 := by omega
    clear r1 r2 r3 r4 HR
    by_cases hlt : p < s.size
    · have d : (p : Int) < (s.size : Int) := by omega
      obtain ⟨g', hg'⟩ : ∃ g', gk = g' + 1 := ⟨gk - 1, by omega⟩
      have HKP := Lib.hid (HK.out s[p])
      have e32 := (kind_eqs s[p]).2.2.2.2
      have hd := drop_byte s p hlt
      cases hb : isB s[p] with
      | true =>
        have hnext : Hid (LRel2 s.data.toList r w (p + 1) ts u5 wr) := ⟨by rw [← HRR.out, hd, lexS_isB numB spanB hb], HO.out, HB.out, by have := HTL.out; omega⟩
        rw [hb] at e32
        generalize kindN s[p] = kk at *
        clear hd hb HRR
        go_wp2_with fail
        refine (HKP.out _).mono ?_
        rintro e w2 ⟨rfl, rfl⟩
        subst hg'
        go_wp2_with fail
        go_roundg g'
        case measure => omega
        case rel => exact ⟨p + 1, ts, by omega, by omega, by go_num, hnext⟩
      | false =>
        rw [hb] at e32
        by_cases h35 : s[p] = 35
        · have e35 : (s[p].toNat : Int) = 35 := byte_is _ 35 (by omega) h35
          obtain ⟨n, hn⟩ : ∃ n, remN (s.data.toList.drop p) = n := ⟨_, rfl⟩
          have hsk := rem_skip s.data.toList p ⟨_, by rw [hd, h35]⟩
          rw [hn] at hsk
          have hnle : p + n ≤ s.size := by
            have := (List.takeWhile_sublist (fun c : UInt8 => c != 10) (l := s.data.toList.drop p)).length_le
            rw [List.length_drop, ← Lib.size_eq] at this
            have h2 : n = (List.takeWhile (fun c : UInt8 => c != 10) (s.data.toList.drop p)).length := hn.symm
            omega
          have hn1 : 1 ≤ n := by
            rw [← hn, hd, h35]
            unfold remN; rw [List.takeWhile_cons]; simp
          have hnext : Hid (LRel2 s.data.toList r w (p + n) ts u5 wr) := ⟨by rw [← HRR.out, hsk], HO.out, HB.out, by have := HTL.out; omega⟩
          have HR1 : Hid (remN (s.data.toList.drop p) + p = p + n) := by show _ = _; rw [hn]; omega
          generalize kindN s[p] = kk at *
          rw [e35] at HKP
          clear hd hb HRR h35 hsk hn
          go_wp2_with fail
          refine (HKP.out _).mono ?_
          rintro e w2 ⟨rfl, rfl⟩
          go_wp2_with fail
          go_loopg [6] s.size (fun g2 s6 wx => ∃ j : Nat, p ≤ j ∧ j ≤ s.size ∧ s.size ≤ g2 + j ∧ s6 = .int .i64 (j : Int) ∧ Hid (remN (s.data.toList.drop j) + j = p + n) ∧ wx = wr)
          case atStart => exact ⟨p, Nat.le_refl _, hp, by omega, rfl, HR1, rfl⟩
          case round =>
            obtain ⟨j, hpj, hj, hgj, rfl, HJ, hwj⟩ := hrel
            have hjj := HJ.out
            by_cases hjl : j < s.size
            · have dj : (j : Int) < (s.size : Int) := by omega
              rw [drop_byte s j hjl] at hjj
              unfold remN at hjj
              rw [List.takeWhile_cons] at hjj
              by_cases h10 : s[j] = 10
              · have e10 : ((s[j].toNat : Int) != 10) = false := by rw [byte_is _ 10 (by omega) h10]; rfl
                have hjn : j = p + n := by rw [h10] at hjj; simpa using hjj
                clear hjj h10 HJ HR1
                subst hjn
                rw [hwj]
                clear hwj
                subst hg'
                go_wp2_with fail
                go_roundg g'
                case measure => omega
                case rel => exact ⟨p + n, ts, by omega, by omega, by go_num, hnext⟩
              · have e10 : ((s[j].toNat : Int) != 10) = true := by
                  have := byte_not s[j] 10 (by omega) h10
                  have this : ((s[j].toNat : Int) == 10) = false := this
                  simpa using this
                have hb10 : (s[j] != 10) = true := by simpa using h10
                rw [hb10] at hjj
                simp only [if_true, List.length_cons] at hjj
                have HJ2 : Hid (remN (s.data.toList.drop (j + 1)) + (j + 1) = p + n) := by show _ = _; unfold remN; omega
                obtain ⟨g2, rfl⟩ : ∃ g2, gk = g2 + 1 := ⟨gk - 1, by omega⟩
                clear hjj h10 hb10 HJ HR1
                go_wp2_with fail
                go_roundg g2
                case measure => omega
                case rel => exact ⟨j + 1, by omega, by omega, by omega, by go_num, HJ2, by first | rfl | exact hwj⟩
            · have dj : ¬ (j : Int) < (s.size : Int) := by omega
              have hjn : j = p + n := by
                rw [drop_none s j (by omega)] at hjj
                simpa [remN] using hjj
              clear hjj HJ HR1
              subst hjn
              rw [hwj]
              clear hwj
              subst hg'
              go_wp2_with fail
              go_roundg g'
              case measure => omega
              case rel => exact ⟨p + n, ts, by omega, by omega, by go_num, hnext⟩
        · have e35 : ((s[p].toNat : Int) == 35) = false := byte_not _ 35 (by omega) h35
          have hb0 : blankN false (s.data.toList.drop p) = 0 := by rw [hd]; exact blank0 hb h35
          have HTP := Lib.hid (HTK.out p _ HTX.out hlt)
          obtain ⟨o, ho⟩ : ∃ o, tokF numB spanB (s.data.toList.drop p) = o := ⟨_, rfl⟩
          rw [ho] at HTP
          have hne : s.data.toList.drop p ≠ [] := by rw [hd]; simp
          cases o with
          | none =>
            have hrr : r = .error p := by
              rw [← HRR.out, lexS_bad0 numB spanB hne hb0 p ho]; rfl
            subst hrr
            generalize kindN s[p] = kk at *
            clear hd hb HRR h35 hne hb0 ho
            go_wp2_with fail
            refine (HKP.out _).mono ?_
            rintro e w2 ⟨rfl, rfl⟩
            go_wp2_with fail
            refine (HTP.out).mono ?_
            rintro e w3 ⟨⟨x, y, z, rfl⟩, hb3⟩
            have HB3 := Lib.hid (HB.out.trans (hb3.mono hsx))
            clear hb3
            have hs3 := HB3.out.size
            go_wp2_with fail
            refine bodyPost_ret (results_tmp3 rfl _ _ _) rfl ?_
            refine reflp_error ?_
            have := HB3.out
            go_grown
          | some x =>
            obtain ⟨k, t, n⟩ := x
            have hn := tok_len numB spanB ho
            have hn1 := hn.1
            have hn2 : p + n ≤ s.size := by
              have := hn.2
              rw [List.length_drop, ← Lib.size_eq] at this
              omega
            have hnext : pre (ts ++ [(k, p, t)]) (lexS numB spanB (s.data.toList.drop (p + n)) (p + n)) = r := by
              rw [← HRR.out, lexS_tok0 numB spanB ho p, pre_pre, List.drop_drop]
            have HNXT := Lib.hid hnext
            obtain ⟨q, hq⟩ : ∃ q, p + n = q := ⟨_, rfl⟩
            have hq0 : ((q : Int) == 0) = false := beq_eq_false_iff_ne.2 (by omega)
            have HQ := Lib.hid hq
            have hqlt : p + 1 ≤ q := by omega
            rw [hq] at HNXT hn2
            obtain ⟨tt, htt⟩ : ∃ tt : ByteArray, (⟨t.toArray⟩ : ByteArray) = tt := ⟨_, rfl⟩
            have HTT := Lib.hid htt
            generalize kindN s[p] = kk at *
            clear hd hb HRR h35 hne hb0 ho hn hnext hn1 hq htt
            go_wp2_with fail
            refine (HKP.out _).mono ?_
            rintro e w2 ⟨rfl, rfl⟩
            go_wp2_with fail
            refine (HTP.out).mono ?_
            rintro e w3 ⟨hk, hb3⟩
            have hk : e = .returned (.tuple #[tokV k p ⟨t.toArray⟩, .int .i64 ((p + n : Nat) : Int)]) := hk
            rw [HTT.out, HQ.out] at hk
            subst hk
            have HB3 := Lib.hid (HB.out.trans (hb3.mono hsx))
            have HO3 := Lib.hid (own_below HO.out hb3)
            clear hb3
            have hs3 := HB3.out.size
            go_wp2_with (at_builtin; refine wpList_append_own _ rfl _ _ 23 rfl w.heap.size 35 i1 _ 3 32 Tryz.underlying23 hi1 hy0 hy1 hy2 rfl (by decide) _ _ _ rfl ((HO3.out.alloc _).alloc _) _ 1 1 [.int .i64 (k : Int), .int .i64 (p : Int), .string tt] rfl rfl ?c1 ?c2 ?c3 ?c4 ?c5 ?_)
            case c1 => exact triple_at _ _ _ _ _ (by simp) _
            case c2 => intro u hu; simp at hu; rcases hu with rfl | rfl | rfl <;> rfl
            case c3 => unfold maxLen; omega
            case c4 => omega
            case c5 => simp; omega
            intro v' w4 hown4 hgr4 _
            have HB4 : Hid (Below w.heap.size w w4) := ((HB3.out.alloc hs3 _).alloc (by simp; omega) _).grown hgr4 (by simp; omega) (fun g hg => (HO3.out.lt g hg).1)
            have HR4 : Hid (LRel2 s.data.toList r w q (ts ++ [(k, p, t)]) v' w4) := ⟨HNXT.out, by
              have := hown4
              rw [flatT_append, List.length_append]
              rw [← HTT.out] at this
              exact this, HB4.out, by have := HTL.out; simp; omega⟩
            clear hown4 hgr4
            subst hg'
            go_wp2_with fail
            go_roundg g'
            case measure => omega
            case rel => exact ⟨q, ts ++ [(k, p, t)], hn2, by omega, rfl, HR4⟩
    · have d : ¬ (p : Int) < (s.size : Int) := by omega
      have hrr : r = .ok ts := by
        rw [← HRR.out, drop_none s p (by omega), lexS_end numB spanB rfl]
        simp [pre]
      subst hrr
      clear HRR
      go_wp2_with fail
      refine bodyPost_ret (results_tmp3 rfl _ _ _) rfl ?_
      exact reflp_ok HO.out HB.out
end
end Go.Proofs.YtaggmakaceafgaaGreatDoor

namespace Go.Proofs.YtaggmakaceafgaaGreatDoor
open Go.RowKit Lx Er
set_option linter.unusedVariables false

/-! LexTokens as a walk -/
section
variable {Q qo qc P off c F fo fc : Nat}
set_option maxRecDepth 100000 in
theorem tokens_law (s : ByteArray) (w : World) (hL : Laid Q qo qc P off c F fo fc w) :
    Calls Tryz.prog 3 #[.string s] w fun e w' => e = .returned (.bool true) ∧ Below w.heap.size w w' := by
  have HL := Lib.hid hL
  have HW := Lib.hid (awake_any w hL)
  clear hL
  by_cases h44 : 4400 < s.size
  · have d1 : (4400 : Int) < (s.size : Int) := by omega
    go_enter Tryz.func3, Tryz.ntmps3
    go_wp2_with fail
    refine (HW.out).mono ?_
    rintro e w1 ⟨rfl, hb1⟩
    have HB1 := Lib.hid hb1
    clear hb1
    go_wp2_with fail
    go_ret
    exact ⟨rfl, HB1.out⟩
  · have d1 : ¬ (4400 : Int) < (s.size : Int) := by omega
    by_cases h40 : 4000 < s.size
    · have H1 := Lib.hid (fun W => lex_long s W h40)
      have H2 := Lib.hid (fun W => reflex_long s W h40)
      go_enter Tryz.func3, Tryz.ntmps3
      go_wp2_with fail
      refine (HW.out).mono ?_
      rintro e w1 ⟨rfl, hb1⟩
      have HB1 := Lib.hid hb1
      have HC := Lib.hid (code_is 11 (by decide) w1 (HL.out.below hb1).err)
      clear hb1
      go_wp2_with fail
      refine (H1.out _).mono ?_
      rintro e w2 ⟨rfl, rfl⟩
      go_wp2_with fail
      refine (H2.out _).mono ?_
      rintro e w2 ⟨rfl, rfl⟩
      go_wp2_with fail
      refine (HC.out).mono ?_
      rintro e w3 ⟨rfl, hb3⟩
      have HB3 := Lib.hid (HB1.out.trans (hb3.mono HB1.out.size))
      clear hb3
      go_wp2_with fail
      go_ret
      exact ⟨rfl, HB3.out⟩
    · have hs : s.size ≤ 4000 := by omega
      cases hr : lexS numB spanB s.data.toList 0 with
      | error a =>
        have HR := Lib.hid hr
        clear hr
        go_enter Tryz.func3, Tryz.ntmps3
        go_wp2_with fail
        refine (HW.out).mono ?_
        rintro e w1 ⟨rfl, hb1⟩
        have HB1 := Lib.hid hb1
        have HL1 := Lib.hid (HL.out.below hb1)
        have H1 := Lib.hid (lex_bad s a w1 HL1.out hs HR.out)
        clear hb1
        go_wp2_with fail
        refine (H1.out).mono ?_
        rintro e w2 ⟨f, rfl, hf, hfl, hb2⟩
        have HB2 := Lib.hid (HB1.out.trans (hb2.mono HB1.out.size))
        have HL2 := Lib.hid (HL1.out.below hb2)
        have HF := Lib.hid hf
        have H2 := Lib.hid (reflex_any s w2 HL2.out.lex hs)
        rw [HR.out] at H2
        clear hb2 hf hfl
        go_wp2_with fail
        refine (H2.out).mono ?_
        rintro e w3 ⟨hk, hb3⟩
        have hk : e = .returned (.tuple #[.slice none 0 0, .int .i64 5, .int .i64 (a : Int)]) := hk
        subst hk
        have HB3 := Lib.hid (HB2.out.trans (hb3.mono HB2.out.size))
        have H3 := Lib.hid (Fault_any a 5 f w3 (by decide) (HF.out.below hb3) (HL2.out.below hb3).err)
        clear hb3
        go_wp2_with fail
        refine (H3.out).mono ?_
        rintro e w4 ⟨rfl, hb4⟩
        have HB4 := Lib.hid (HB3.out.trans (hb4.mono HB3.out.size))
        have H4 := Lib.hid (same_any none none 0 0 0 [] w4 rfl (fun h => by simp at h) (fun h => by simp at h) (by decide))
        clear hb4
        go_wp2_with fail
        refine (H4.out).mono ?_
        rintro e w5 ⟨rfl, m, rfl⟩
        go_wp2_with fail
        go_ret
        exact ⟨rfl, Sp.bel_drawn HB4.out _⟩
      | ok ts =>
        have HR := Lib.hid hr
        have hlen := lexS_len numB spanB ts _ _ hr
        rw [← Lib.size_eq] at hlen
        clear hr
        go_enter Tryz.func3, Tryz.ntmps3
        go_wp2_with fail
        refine (HW.out).mono ?_
        rintro e w1 ⟨rfl, hb1⟩
        have HB1 := Lib.hid hb1
        have HL1 := Lib.hid (HL.out.below hb1)
        have H1 := Lib.hid (lex_ok s ts w1 HL1.out hs HR.out)
        clear hb1
        go_wp2_with fail
        refine (H1.out).mono ?_
        rintro e w2 ⟨v, rfl, ho2, hb2⟩
        obtain ⟨A, ca, rfl, hta⟩ := own_toks ho2
        have HTA := Lib.hid hta
        have HB2 := Lib.hid (HB1.out.trans (hb2.mono HB1.out.size))
        have HL2 := Lib.hid (HL1.out.below hb2)
        have H2 := Lib.hid (reflex_any s w2 HL2.out.lex hs)
        rw [HR.out] at H2
        obtain ⟨n, hn⟩ : ∃ n, ts.length = n := ⟨_, rfl⟩
        have HN := Lib.hid hn
        rw [hn]
        clear hb2 ho2 hta
        go_wp2_with fail
        refine (H2.out).mono ?_
        rintro e w3 hk
        obtain ⟨v3, rfl, ho3, hb3⟩ : ∃ v, e = .returned (.tuple #[v, .int .i64 0, .int .i64 0]) ∧ w3.ownsRow w2.heap.size 35 3 v ts.length (flatT ts) ∧ Below w2.heap.size w2 w3 := hk
        obtain ⟨B, cb, rfl, htb⟩ := own_toks ho3
        have HB3 := Lib.hid (HB2.out.trans (hb3.mono HB2.out.size))
        have H4 := Lib.hid (same_any A B n ca cb ts w3 HN.out (HTA.out.below hb3) htb (by omega))
        have H3 := Lib.hid (fun W => Fault_nil 0 W)
        rw [hn]
        clear hb3 ho3 htb hn
        go_wp2_with fail
        refine (H3.out _).mono ?_
        rintro e w4 ⟨rfl, rfl⟩
        go_wp2_with fail
        refine (H4.out).mono ?_
        rintro e w5 ⟨rfl, m, rfl⟩
        go_wp2_with fail
        go_ret
        exact ⟨rfl, Sp.bel_drawn HB3.out _⟩
end
end Go.Proofs.YtaggmakaceafgaaGreatDoor

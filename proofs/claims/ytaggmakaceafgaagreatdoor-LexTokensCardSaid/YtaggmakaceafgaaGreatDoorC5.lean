import Derived.Test.YtaggmakaceafgaaGreatDoorC4
import Derived.Deep.DeepCutAuto
import Derived.Deep.CutBlock
namespace Go.Proofs.YtaggmakaceafgaaGreatDoor
open Go.RowKit Lx
set_option linter.unusedVariables false

/-! numbers and spans -/
def numB (l : List UInt8) : Bool := numT ⟨l.toArray⟩
def spanB (l : List UInt8) : Bool := (Sp.spanF l).isSome
def numberF (l : List UInt8) : Option (Nat × List UInt8 × Nat) :=
  if numHead l = true then
    (if numB (l.take (numE true false l)) = true then some (2, l.take (numE true false l), numE true false l)
     else if spanB (l.take (numE true false l)) = true then some (3, l.take (numE true false l), numE true false l) else none)
  else none
theorem res_tok {fn : Func} (h : fn.results = #[.cell 4 35, .tmp 5]) {tmps : Array Value} {B : Nat} (h4 : tmps.getD 4 undef = .pointer (some ⟨B, 0, none⟩)) {e : Value} (h5 : tmps.getD 5 undef = e) {W : World} {x y z : Value} (hb : Blk W B 35 #[x, y, z]) :
    (results fn tmps).run Tryz.prog W = .ok (.tuple #[.agg #[x, y, z], e]) W := by
  have c0 := hb.cell 0
  have c1 := hb.cell 1
  have c2 := hb.cell 2
  simp at c0 c1 c2
  rw [Array.getD_eq_getD_getElem?] at h4 h5
  simp [results, h, h4, h5, go_sem, c0, c1, c2]
theorem noWord_of {t : ByteArray} {c : UInt8} {r : List UInt8} (h : t.data.toList = c :: r) (hc : c ≠ 78 ∧ c ≠ 73 ∧ c ≠ 43 ∧ c ≠ 45) : NoWord t := by
  have h2 : t.toList = c :: r := by rw [Lib.toList_data]; exact h
  obtain ⟨a, b, d, e⟩ := hc
  constructor <;> (rw [h2]; simp [a, b, d, e])
theorem numHead_d {c : UInt8} {r : List UInt8} (h : Lx.isD c = true) : numHead (c :: r) = true := by
  cases r with
  | nil => exact h
  | cons d r => show (Lx.isD c || (c == 46 && Lx.isD d)) = true; rw [h]; rfl
theorem numHead_n {c : UInt8} {r : List UInt8} (h : Lx.isD c = false) (h2 : c ≠ 46) : numHead (c :: r) = false := by
  cases r with
  | nil => exact h
  | cons d r => show (Lx.isD c || (c == 46 && Lx.isD d)) = false; rw [h]; simp [h2]
theorem numHead_p (d : UInt8) (r : List UInt8) : numHead (46 :: d :: r) = Lx.isD d := by
  show (Lx.isD 46 || ((46 : UInt8) == 46 && Lx.isD d)) = Lx.isD d
  rw [show Lx.isD 46 = false by decide]; simp
theorem numHead_c {c : UInt8} {r : List UInt8} (h : numHead (c :: r) = true) : c ≠ 78 ∧ c ≠ 73 ∧ c ≠ 43 ∧ c ≠ 45 := by
  refine ⟨?_, ?_, ?_, ?_⟩ <;> (rintro rfl; rw [numHead_n (by decide) (by decide)] at h; cases h)
set_option maxRecDepth 100000 in
theorem number_any {Q qo qc P off c F fo fc : Nat} (s : ByteArray) (p : Nat) (w : World) (hT : Tabs Q qo qc P off c F fo fc w) (hU : Sp.Units w) (hp : p < s.size) (hs : s.size ≤ 65536) :
    Calls Tryz.prog 22 #[.string s, .int .i64 (p : Int)] w (KindP p (numberF (s.data.toList.drop p)) w) := by
  have hd := drop_byte s p hp
  have HD := Lib.hid (digit_any s[p])
  have HT := Lib.hid hT
  have HU := Lib.hid hU
  obtain ⟨nh, hnh⟩ : ∃ nh, numHead (s.data.toList.drop p) = nh := ⟨_, rfl⟩
  have HH := Lib.hid hnh
  obtain ⟨o, ho⟩ : ∃ o, numberF (s.data.toList.drop p) = o := ⟨_, rfl⟩
  rw [ho]
  have HO := Lib.hid ho
  clear hT hU hnh hd ho
  go_enter Tryz.func22, Tryz.ntmps22
  go_upto_region 1 with fail
  go_cut [6] (fun s6 wx => s6 = .bool nh ∧ wx = w.alloc (.cells #[.int .i64 0, .int .i64 0, .string ⟨#[]⟩] 35))
  case first =>
    clear HT HU
    have hd := drop_byte s p hp
    have HHD := HH.out
    rw [hd] at HHD
    cases h1 : Lx.isD s[p] with
    | true =>
      rw [numHead_d h1] at HHD
      subst HHD
      rw [h1] at HD
      clear h1 hd HH
      go_wp2_with fail
      refine (HD.out _).mono ?_
      rintro e w1 ⟨rfl, rfl⟩
      go_wp2_with fail
      go_meet
      exact ⟨rfl, rfl⟩
    | false =>
      rw [h1] at HD
      by_cases h46 : s[p] = 46
      · have e46 : ((s[p].toNat : Int) == 46) = true := by rw [h46]; rfl
        rw [h46] at HHD
        by_cases hl : p + 1 < s.size
        · have d : (p : Int) + 1 < (s.size : Int) := by omega
          have HD2 := Lib.hid (digit_any (s[p + 1]'hl))
          rw [drop_byte s (p + 1) hl, numHead_p] at HHD
          rw [HHD] at HD2
          clear h1 hd HH h46 HHD
          go_wp2_with fail
          refine (HD.out _).mono ?_
          rintro e w1 ⟨rfl, rfl⟩
          go_wp2_with fail
          refine (HD2.out _).mono ?_
          rintro e w1 ⟨rfl, rfl⟩
          go_wp2_with fail
          go_meet
          exact ⟨rfl, rfl⟩
        · have d : ¬ (p : Int) + 1 < (s.size : Int) := by omega
          rw [drop_none s (p + 1) (by omega)] at HHD
          have HHD : false = nh := HHD
          subst HHD
          clear h1 hd HH h46
          go_wp2_with fail
          refine (HD.out _).mono ?_
          rintro e w1 ⟨rfl, rfl⟩
          go_wp2_with fail
          go_meet
          exact ⟨rfl, rfl⟩
      · have e46 : ((s[p].toNat : Int) == 46) = false := by
          have := byte_eq s[p] 46 (by omega)
          rw [show ((46 : Nat) : Int) = 46 from rfl] at this
          rw [← this]; simpa using h46
        rw [numHead_n h1 h46] at HHD
        subst HHD
        clear h1 hd HH h46
        go_wp2_with fail
        refine (HD.out _).mono ?_
        rintro e w1 ⟨rfl, rfl⟩
        go_wp2_with fail
        go_meet
        exact ⟨rfl, rfl⟩
  case rest =>
    obtain ⟨rfl, rfl⟩ := hcut
    clear HD
    have hb0 : Below w.heap.size w (w.alloc (.cells #[.int .i64 0, .int .i64 0, .string ⟨#[]⟩] 35)) := (Below.refl _ _).alloc (Nat.le_refl _) _
    have HB0 := Lib.hid hb0
    have HT0 := Lib.hid (HT.out.below hb0)
    have HU0 := Lib.hid (HU.out.below (by have := HU.out.size; omega) hb0)
    have hblk := Blk.new w 35 #[.int .i64 0, .int .i64 0, .string ⟨#[]⟩]
    have HBL := Lib.hid hblk
    clear hblk hb0
    generalize hw0 : w.alloc (.cells #[.int .i64 0, .int .i64 0, .string ⟨#[]⟩] 35) = w0 at *
    have HW0 := Lib.hid hw0
    clear hw0
    cases nh with
    | false =>
      have hF : o = none := by
        rw [← HO.out]
        unfold numberF; rw [HH.out]; rfl
      subst hF
      have c0 := HBL.out.cell 0
      have c1 := HBL.out.cell 1
      have c2 := HBL.out.cell 2
      have f0 := HBL.out.frozen 0
      have f1 := HBL.out.frozen 1
      have f2 := HBL.out.frozen 2
      simp at c0 c1 c2
      go_wp2_with fail
      have hbf := ((HBL.out.set_ 0 (.int .i64 0)).set_ 1 (.int .i64 0)).set_ 2 (.string ⟨#[]⟩)
      refine bodyPost_ret (res_tok (by kernel_rfl) rfl rfl hbf) rfl (kind_none ?_)
      have := HB0.out
      go_grown
    | true =>
      obtain ⟨n, hn⟩ : ∃ n, numE true false (s.data.toList.drop p) = n := ⟨_, rfl⟩
      have hn1 : 1 ≤ n := by rw [← hn]; exact numE_pos HH.out
      have hle : n ≤ s.size - p := by
        have := numE_le true false (s.data.toList.drop p)
        rw [List.length_drop, ← Lib.size_eq] at this
        omega
      have hnw : NoWord ⟨((s.data.toList.drop p).take n).toArray⟩ := by
        have h1 := drop_byte s p hp
        have h2 := HH.out
        rw [h1] at h2
        refine noWord_of (c := s[p]) (r := (s.data.toList.drop (p + 1)).take (n - 1)) ?_ (numHead_c h2)
        show (s.data.toList.drop p).take n = _
        rw [h1, show n = n - 1 + 1 by omega, List.take_succ_cons]
        rfl
      have hF : o = (if numB ((s.data.toList.drop p).take n) = true then some (2, (s.data.toList.drop p).take n, n)
          else if spanB ((s.data.toList.drop p).take n) = true then some (3, (s.data.toList.drop p).take n, n) else none) := by
        rw [← HO.out]; unfold numberF; rw [if_pos HH.out, hn]
      have HO2 := Lib.hid hF
      clear HO hF
      have HE := Lib.hid (fun W => numEnd_any s p W (by omega) hs)
      rw [hn] at HE
      have HS := Lib.hid (slice_take s p n (by omega))
      have sl := fun wx => sl_to s p (p + n) (by omega) (by omega) wx
      rw [HS.out] at sl
      have HNW := Lib.hid hnw
      obtain ⟨l, hl⟩ : ∃ l, (s.data.toList.drop p).take n = l := ⟨_, rfl⟩
      have hll : l.length ≤ 65536 := by rw [← hl, List.length_take, List.length_drop, ← Lib.size_eq]; omega
      rw [hl] at sl HNW HO2
      clear hnw HS hl HH hn
      obtain ⟨tt, htt⟩ : ∃ tt : ByteArray, (⟨l.toArray⟩ : ByteArray) = tt := ⟨_, rfl⟩
      have htd : tt.data.toList = l := by rw [← htt]
      have hts : tt.size ≤ 65536 := by rw [Lib.size_eq, htd]; exact hll
      have HNB : Hid (numT tt = numB l) := by show _ = _; rw [← htt]; rfl
      have HTD := Lib.hid htd
      have HTT := Lib.hid htt
      rw [htt] at sl HNW
      clear htt htd
      generalize hq : p + n = q at *
      have HQ := Lib.hid hq
      clear hq
      go_wp2_with fail
      refine (HE.out _).mono ?_
      rintro e w1 ⟨rfl, hb1⟩
      have HB1 := Lib.hid (HB0.out.trans (hb1.mono HB0.out.size))
      have HT1 := Lib.hid (HT0.out.below hb1)
      have HU1 := Lib.hid (HU0.out.below (by have := HU0.out.size; omega) hb1)
      have HBL1 := Lib.hid (HBL.out.below hb1)
      clear hb1
      have HV := Lib.hid (value_any tt w1 HT1.out HNW.out hts)
      unfold ValP at HV
      rw [HNB.out] at HV
      go_wp2_with fail
      refine (HV.out).mono ?_
      rintro e w2 ⟨⟨v, rfl⟩, hb2⟩
      have HB2 := Lib.hid (HB1.out.trans (hb2.mono HB1.out.size))
      have HU2 := Lib.hid (HU1.out.below (by have := HU1.out.size; omega) hb2)
      have HBL2 := Lib.hid (HBL1.out.below hb2)
      clear hb2 HB0 HB1 HT0 HT1 HU0 HU1 HBL HBL1 HV HE HT HU HW0
      cases hnb : numB l with
      | true =>
        have hF : o = some (2, l, n) := by rw [HO2.out, hnb]; rfl
        subst hF
        have c0 := HBL2.out.cell 0
        have c1 := HBL2.out.cell 1
        have c2 := HBL2.out.cell 2
        have f0 := HBL2.out.frozen 0
        have f1 := HBL2.out.frozen 1
        have f2 := HBL2.out.frozen 2
        simp at c0 c1 c2
        have hbf := ((HBL2.out.set_ 0 (.int .i64 2)).set_ 1 (.int .i64 (p : Int))).set_ 2 (.string tt)
        have HBF := Lib.hid hbf
        clear hbf hnb
        unfold numEr
        go_wp2_with fail
        refine bodyPost_ret (res_tok (by kernel_rfl) rfl rfl HBF.out) rfl (kind_some HQ.out HTT.out ?_)
        have := HB2.out
        go_grown
      | false =>
        unfold numEr
        have HP := Lib.hid (Sp.parse_any tt (Sp.spanF l) w2 HU2.out (by rw [HTD.out]))
        cases hsb : Sp.spanF l with
        | some u =>
          have hF : o = some (3, l, n) := by rw [HO2.out, hnb]; unfold spanB; rw [hsb]; rfl
          subst hF
          rw [hsb] at HP
          unfold Sp.parseVal at HP
          clear hnb hsb
          go_wp2_with fail
          refine (HP.out).mono ?_
          rintro e w3 ⟨rfl, hb3⟩
          have HB3 := Lib.hid (HB2.out.trans (hb3.mono HB2.out.size))
          have HBL3 := Lib.hid (HBL2.out.below hb3)
          clear hb3
          have c0 := HBL3.out.cell 0
          have c1 := HBL3.out.cell 1
          have c2 := HBL3.out.cell 2
          have f0 := HBL3.out.frozen 0
          have f1 := HBL3.out.frozen 1
          have f2 := HBL3.out.frozen 2
          simp at c0 c1 c2
          have hbf := ((HBL3.out.set_ 0 (.int .i64 3)).set_ 1 (.int .i64 (p : Int))).set_ 2 (.string tt)
          have HBF := Lib.hid hbf
          clear hbf
          go_wp2_with fail
          refine bodyPost_ret (res_tok (by kernel_rfl) rfl rfl HBF.out) rfl (kind_some HQ.out HTT.out ?_)
          have := HB3.out
          go_grown
        | none =>
          have hF : o = none := by rw [HO2.out, hnb]; unfold spanB; rw [hsb]; rfl
          subst hF
          rw [hsb] at HP
          unfold Sp.parseVal at HP
          clear hnb hsb
          go_wp2_with fail
          refine (HP.out).mono ?_
          rintro e w3 ⟨rfl, hb3⟩
          have HB3 := Lib.hid (HB2.out.trans (hb3.mono HB2.out.size))
          have HBL3 := Lib.hid (HBL2.out.below hb3)
          clear hb3
          have c0 := HBL3.out.cell 0
          have c1 := HBL3.out.cell 1
          have c2 := HBL3.out.cell 2
          have f0 := HBL3.out.frozen 0
          have f1 := HBL3.out.frozen 1
          have f2 := HBL3.out.frozen 2
          simp at c0 c1 c2
          have hbf := ((HBL3.out.set_ 0 (.int .i64 0)).set_ 1 (.int .i64 0)).set_ 2 (.string ⟨#[]⟩)
          have HBF := Lib.hid hbf
          clear hbf
          go_wp2_with fail
          refine bodyPost_ret (res_tok (by kernel_rfl) rfl rfl HBF.out) rfl (kind_none ?_)
          have := HB3.out
          go_grown
end Go.Proofs.YtaggmakaceafgaaGreatDoor

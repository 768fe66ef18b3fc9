import Derived.Test.YtaggmakaceafgaaGreatDoorC6
namespace Go.Proofs.YtaggmakaceafgaaGreatDoor
open Go.RowKit Lx
set_option linter.unusedVariables false

/-! signs -/
theorem sign_end (s : ByteArray) (p n : Nat) (hn : signN (s.data.toList.drop p) = n) (h0 : n ≠ 0) (hle : p + n ≤ s.size) {w w' : World} (hb : Below w.heap.size w w') :
    KindP p (signF (s.data.toList.drop p)) w (.returned (.tuple #[tokV 5 p (s.extract p (p + n)), .int .i64 ((p + n : Nat) : Int)])) w' := by
  unfold signF
  rw [hn, if_neg h0]
  exact kind_some rfl (slice_take s p n hle).symm hb
theorem sign_no (s : ByteArray) (p : Nat) (hn : signN (s.data.toList.drop p) = 0) {w w' : World} (hb : Below w.heap.size w w') :
    KindP p (signF (s.data.toList.drop p)) w (.returned (.tuple #[Z0, .int .i64 (p : Int)])) w' := by
  unfold signF
  rw [hn, if_pos rfl]
  exact kind_none hb
set_option maxRecDepth 100000 in
theorem sign_any (s : ByteArray) (p : Nat) (w : World) (hp : p < s.size) (hs : s.size ≤ 65536) :
    Calls Tryz.prog 24 #[.string s, .int .i64 (p : Int)] w (KindP p (signF (s.data.toList.drop p)) w) := by
  have hd := drop_byte s p hp
  have HI := Lib.hid (fun W => (Tryz.strings_IndexByte ⟨#[61, 62, 60, 43, 45, 42, 47, 37, 64, 40, 41, 123, 125, 91, 93, 44]⟩ (s[p].toNat : Int) W))
  have hcc : ((s[p].toNat : Int)).toNat.toUInt8 = s[p] := by simp
  rw [hcc] at HI
  have e0 : (⟨#[61, 62, 60, 43, 45, 42, 47, 37, 64, 40, 41, 123, 125, 91, 93, 44]⟩ : ByteArray).data.toList = [61, 62, 60, 43, 45, 42, 47, 37, 64, 40, 41, 123, 125, 91, 93, 44] := rfl
  rw [e0] at HI
  have hsg := sgn_index s[p]
  clear hcc e0
  have HE := Lib.hid (sign_end s p)
  have HN := Lib.hid (sign_no s p)
  generalize Lib.indexByte [61, 62, 60, 43, 45, 42, 47, 37, 64, 40, 41, 123, 125, 91, 93, 44] s[p] = z at *
  have sl1 := fun wx => sl_to s p (p + 1) (by omega) (by omega) wx
  by_cases h2 : p + 1 < s.size
  · have hd2 := drop_byte s (p + 1) h2
    rw [hd2] at hd
    have sl2 := fun wx => sl_to s p (p + 2) (by omega) (by omega) wx
    have ht : (s.extract p (p + 2)).data.toList = [s[p], s[p + 1]] := by
      rw [Lib.extract_data, hd]
      simp
    have HD := Lib.hid (fun W => double_any (s.extract p (p + 2)) s[p] s[p + 1] ht W)
    have hsn : signN (s.data.toList.drop p) = if dbl s[p] s[p + 1] = true then 2 else if sgn1 s[p] = true then 1 else 0 := by rw [hd]; exact signN_two _ _ _
    have d2 : (p : Int) + 2 ≤ (s.size : Int) := by omega
    have d2' : decide (p + 2 ≤ s.size) = true := decide_eq_true (by omega)
    rw [← hsg] at hsn
    have HSN := Lib.hid hsn
    have g2 : ((p + 2 : Nat) : Int) = (p : Int) + 2 := by omega
    have g1 : ((p + 1 : Nat) : Int) = (p : Int) + 1 := by omega
    rw [g2] at sl2
    rw [g1] at sl1
    clear hd hd2 ht hsn hsg
    generalize dbl s[p] s[p + 1] = b at *
    generalize hq2 : s.extract p (p + 2) = t2 at *
    generalize hq1 : s.extract p (p + 1) = t1 at *
    have HQ2 := Lib.hid hq2
    have HQ1 := Lib.hid hq1
    have G2 := Lib.hid g2
    have G1 := Lib.hid g1
    clear hq2 hq1 g1 g2
    cases b with
    | true =>
      have HX := Lib.hid (fun W (hb : Below w.heap.size w W) => HE.out 2 (by rw [HSN.out]; rfl) (by omega) (by omega) (w := w) (w' := W) hb)
      rw [HQ2.out, G2.out] at HX
      clear HSN HE HN
      go_enter Tryz.func24, Tryz.ntmps24
      go_wp2_with fail
      refine (HD.out _).mono ?_
      rintro e w1 ⟨rfl, rfl⟩
      go_wp2_with fail
      refine bodyPost_ret (v := .tuple #[tokV 5 p t2, .int .i64 ((p : Int) + 2)]) (by simp [results, Tryz.results24, go_sem]) rfl (HX.out _ (by go_grown))
    | false =>
      by_cases hz : 0 ≤ z
      · have HX := Lib.hid (fun W (hb : Below w.heap.size w W) => HE.out 1 (by rw [HSN.out, decide_eq_true hz]; rfl) (by omega) (by omega) (w := w) (w' := W) hb)
        rw [HQ1.out, G1.out] at HX
        clear HSN HE HN
        go_enter Tryz.func24, Tryz.ntmps24
        go_wp2_with fail
        refine (HD.out _).mono ?_
        rintro e w1 ⟨rfl, rfl⟩
        go_wp2_with fail
        refine (HI.out _).mono ?_
        rintro e w1 ⟨rfl, rfl⟩
        go_wp2_with fail
        refine bodyPost_ret (v := .tuple #[tokV 5 p t1, .int .i64 ((p : Int) + 1)]) (by simp [results, Tryz.results24, go_sem]) rfl (HX.out _ (by go_grown))
      · have HX := Lib.hid (fun W (hb : Below w.heap.size w W) => HN.out (by rw [HSN.out, decide_eq_false hz]; rfl) (w := w) (w' := W) hb)
        clear HSN HE HN
        go_enter Tryz.func24, Tryz.ntmps24
        go_wp2_with fail
        refine (HD.out _).mono ?_
        rintro e w1 ⟨rfl, rfl⟩
        go_wp2_with fail
        refine (HI.out _).mono ?_
        rintro e w1 ⟨rfl, rfl⟩
        go_wp2_with fail
        refine bodyPost_ret (v := .tuple #[Z0, .int .i64 (p : Int)]) (by simp [results, Tryz.results24, go_sem]) rfl (HX.out _ (by go_grown))
  · have d2 : ¬ (p : Int) + 2 ≤ (s.size : Int) := by omega
    have hsn : signN (s.data.toList.drop p) = if sgn1 s[p] = true then 1 else 0 := by rw [hd, drop_none s (p + 1) (by omega)]; exact signN_one _
    rw [← hsg] at hsn
    have HSN := Lib.hid hsn
    have g1 : ((p + 1 : Nat) : Int) = (p : Int) + 1 := by omega
    rw [g1] at sl1
    clear hd hsn hsg
    generalize hq1 : s.extract p (p + 1) = t1 at *
    have HQ1 := Lib.hid hq1
    have G1 := Lib.hid g1
    clear hq1 g1
    by_cases hz : 0 ≤ z
    · have HX := Lib.hid (fun W (hb : Below w.heap.size w W) => HE.out 1 (by rw [HSN.out, decide_eq_true hz]; rfl) (by omega) (by omega) (w := w) (w' := W) hb)
      rw [HQ1.out, G1.out] at HX
      clear HSN HE HN
      go_enter Tryz.func24, Tryz.ntmps24
      go_wp2_with fail
      refine (HI.out _).mono ?_
      rintro e w1 ⟨rfl, rfl⟩
      go_wp2_with fail
      refine bodyPost_ret (v := .tuple #[tokV 5 p t1, .int .i64 ((p : Int) + 1)]) (by simp [results, Tryz.results24, go_sem]) rfl (HX.out _ (by go_grown))
    · have HX := Lib.hid (fun W (hb : Below w.heap.size w W) => HN.out (by rw [HSN.out, decide_eq_false hz]; rfl) (w := w) (w' := W) hb)
      clear HSN HE HN
      go_enter Tryz.func24, Tryz.ntmps24
      go_wp2_with fail
      refine (HI.out _).mono ?_
      rintro e w1 ⟨rfl, rfl⟩
      go_wp2_with fail
      refine bodyPost_ret (v := .tuple #[Z0, .int .i64 (p : Int)]) (by simp [results, Tryz.results24, go_sem]) rfl (HX.out _ (by go_grown))
end Go.Proofs.YtaggmakaceafgaaGreatDoor

/- The document's reader: the other atoms. Condition: a text of at most 200 bytes. -/
import Derived.Test.YtahphjaelpgjdaaDoorR6
namespace Go.Proofs.YtahphjaelpgjdaaDoor
open Go.RowKit Rx
set_option linter.unusedVariables false

theorem sg_big : ((⟨#[41, 93, 123, 125, 94, 36, 124, 42, 43, 63]⟩ : ByteArray).data.toList.map UInt8.toNat) = [41, 93, 123, 125, 94, 36, 124, 42, 43, 63] := rfl
theorem big_of {x : Nat} (h : ([93, 123, 125, 94, 36, 42, 43, 63] : List Nat).contains x = true) : ([41, 93, 123, 125, 94, 36, 124, 42, 43, 63] : List Nat).contains x = true := by simp at h ⊢; omega
theorem big_not {x : Nat} (h : ([93, 123, 125, 94, 36, 42, 43, 63] : List Nat).contains x = false) (h1 : x ≠ 41) (h2 : x ≠ 124) : ([41, 93, 123, 125, 94, 36, 124, 42, 43, 63] : List Nat).contains x = false := by simp at h ⊢; omega
set_option maxRecDepth 100000 in
set_option maxHeartbeats 8000000 in
theorem refatom_bad (b a o d : Nat) (l : ByteArray) (m : Mach) (w : World) (hp : Par w b l a o 0) (hl : l.size ≤ 200) (ha : a < l.size) (hb : ([93, 123, 125, 94, 36, 42, 43, 63] : List Nat).contains (by_ l a) = true) :
    Calls Tryd.prog 55 #[.pointer (some ⟨b, 0, none⟩)] w (RN b l o w (atomF l (grpF l d) a m)) := by
  have HX : Hid (atomF l (grpF l d) a m = .bad a 2) := by
    show atomF l (grpF l d) a m = _
    have h2 : by_ l a ≠ 40 ∧ by_ l a ≠ 91 := by simp at hb; omega
    unfold atomF
    rw [if_neg h2.1, if_neg h2.2, if_pos hb]
  have HS := Lib.hid (fun W => sign_any (by_ l a) ⟨#[41, 93, 123, 125, 94, 36, 124, 42, 43, 63]⟩ true (by rw [sg_big]; exact big_of hb) (by decide) W)
  obtain ⟨x, hx⟩ : ∃ x, by_ l a = x := ⟨_, rfl⟩
  rw [hx] at HS hb
  have e40 : ((x : Int) == 40) = false := by simp at hb ⊢; omega
  have e91 : ((x : Int) == 91) = false := by simp at hb ⊢; omega
  have HP := Lib.hid (hp.alloc (.cells zero3 30))
  have HR := Lib.hid (Blk.new w 30 zero3)
  have HG := Lib.hid (gr_alloc (gr_refl w (some b)) (.cells zero3 30))
  have hbl : b < w.heap.size := Blk.lt hp
  have hq : l[a].toNat = x := by rw [← by_eq l a ha]; exact hx
  clear hb hx
  have h0 : (0 : Int) ≤ (a : Int) := by omega
  have h1 : (a : Int) < (l.size : Int) := by omega
  clear hp
  go_enter Tryd.func55, Tryd.ntmps55
  go_upto_region 1 with fail
  generalize hW : w.alloc (.cells zero3 30) = W at *
  have hWs : w.heap.size < W.heap.size := HR.out.lt
  clear hW
  obtain ⟨c0, c1, c2, c3⟩ := HP.out.cells
  go_wp2_with fail
  go_quiet (fail)
  rename_i nq
  have HP1 := Lib.hid (HP.out.drewN nq)
  have HR1 := Lib.hid (HR.out.drewN nq)
  have HG1 := Lib.hid (gr_drewN HG.out nq)
  have hWs1 : w.heap.size < (W.drewN nq).heap.size := hWs
  generalize W.drewN nq = W1 at *
  clear HP HR HG c0 c1 c2 c3 hWs
  have HS1 := Lib.hid (HS.out W1)
  clear HS
  go_wp2_with fail
  refine (HS1.out).mono ?_
  rintro e w2 ⟨rfl, n2, rfl⟩
  have HP2 := Lib.hid (HP1.out.drewN n2)
  have HR2 : Hid (Blk (W1.drewN n2) w.heap.size 30 zero3) := HR1.out
  have HG2 := Lib.hid (gr_drewN HG1.out n2)
  have hWs2 : w.heap.size < (W1.drewN n2).heap.size := hWs1
  generalize W1.drewN n2 = W2 at *
  clear HP1 HR1 HG1 HS1 hWs1
  obtain ⟨c0, c1, c2, c3⟩ := HP2.out.cells
  have f3 := Blk.frozen HP2.out 3
  go_upto_region 19 with fail
  have HP3 := Lib.hid (HP2.out.wr_ 2 (.int .i64 2) rfl)
  have HR3 := Lib.hid (HR2.out.other (k := b) (by omega) 3 (.int .i64 2))
  have HG3 := Lib.hid (gr_set HG2.out 3 (.int .i64 2))
  generalize W2.setCell ⟨b, 3, none⟩ (.int .i64 2) = W3 at *
  clear HP2 HR2 HG2 c0 c1 c2 c3 f3
  obtain ⟨r0, r1, r2⟩ := cells3 HR3.out
  obtain ⟨z0, z1, z2⟩ := frozen3 HR3.out
  go_wp2
  exact bodyPost_ret (v := ndV 0 none 0 0 none 0 0) (by simp [results, Tryd.results55, go_sem, r0, r1, r2]) rfl (rn_bad HX.out (nd_mk _ _ _ _ _ _ _) (gr_set3 HG3.out (Nat.le_refl _) _ _ _) (Blk.set3_other HP3.out (by omega) _ _ _) (.inl rfl))
set_option maxRecDepth 100000 in
set_option maxHeartbeats 8000000 in
theorem refatom_dot (b a o d : Nat) (l : ByteArray) (m : Mach) (w : World) (hp : Par w b l a o 0) (hl : l.size ≤ 200) (ha : a < l.size) (hb : by_ l a = 46) :
    Calls Tryd.prog 55 #[.pointer (some ⟨b, 0, none⟩)] w (RN b l o w (atomF l (grpF l d) a m)) := by
  have HX : Hid (atomF l (grpF l d) a m = .ok (a + 1) (placeM m full) (placeP m)) := by
    show atomF l (grpF l d) a m = _
    unfold atomF
    rw [if_neg (by omega), if_neg (by omega), if_neg (by rw [hb]; decide), if_pos hb]
  have HS := Lib.hid (fun W => sign_any 46 ⟨#[41, 93, 123, 125, 94, 36, 124, 42, 43, 63]⟩ false (by rw [sg_big]; rfl) (by decide) W)
  have HO := Lib.hid (fun W => refone_any 0 255 (by omega) (by omega) W)
  have hq : l[a].toNat = 46 := by rw [← by_eq l a ha]; exact hb
  have HP := Lib.hid (hp.alloc (.cells zero3 30))
  have HR := Lib.hid (Blk.new w 30 zero3)
  have HG := Lib.hid (gr_alloc (gr_refl w (some b)) (.cells zero3 30))
  have hbl : b < w.heap.size := Blk.lt hp
  clear hb
  have h0 : (0 : Int) ≤ (a : Int) := by omega
  have h1 : (a : Int) < (l.size : Int) := by omega
  clear hp
  go_enter Tryd.func55, Tryd.ntmps55
  go_upto_region 1 with fail
  generalize hW : w.alloc (.cells zero3 30) = W at *
  have hWs : w.heap.size < W.heap.size := HR.out.lt
  clear hW
  obtain ⟨c0, c1, c2, c3⟩ := HP.out.cells
  go_wp2_with fail
  go_quiet (fail)
  rename_i nq
  have HP1 := Lib.hid (HP.out.drewN nq)
  have HR1 := Lib.hid (HR.out.drewN nq)
  have HG1 := Lib.hid (gr_drewN HG.out nq)
  have hWs1 : w.heap.size < (W.drewN nq).heap.size := hWs
  generalize W.drewN nq = W1 at *
  clear HP HR HG c0 c1 c2 c3 hWs
  have HS1 := Lib.hid (HS.out W1)
  clear HS
  go_wp2_with fail
  refine (HS1.out).mono ?_
  rintro e w2 ⟨rfl, n2, rfl⟩
  have HP2 := Lib.hid (HP1.out.drewN n2)
  have HR2 : Hid (Blk (W1.drewN n2) w.heap.size 30 zero3) := HR1.out
  have HG2 := Lib.hid (gr_drewN HG1.out n2)
  have hWs2 : w.heap.size < (W1.drewN n2).heap.size := hWs1
  generalize W1.drewN n2 = W2 at *
  clear HP1 HR1 HG1 HS1 hWs1
  obtain ⟨c0, c1, c2, c3⟩ := HP2.out.cells
  have f1 := Blk.frozen HP2.out 1
  go_upto_region 21 with fail
  have HP3 := Lib.hid (HP2.out.at_ (a + 1) (.int .i64 ((a : Int) + 1)) (by rfl))
  have HR3 := Lib.hid (HR2.out.other (k := b) (by omega) 1 (.int .i64 ((a : Int) + 1)))
  have HG3 := Lib.hid (gr_set HG2.out 1 (.int .i64 ((a : Int) + 1)))
  generalize W2.setCell ⟨b, 1, none⟩ (.int .i64 ((a : Int) + 1)) = W3 at *
  clear HP2 HR2 HG2 c0 c1 c2 c3 f1 hWs2
  have HO1 := Lib.hid (HO.out W3)
  clear HO
  go_wp2_with fail
  refine (HO1.out).mono ?_
  rintro e w4 ⟨v, rfl, ⟨nk, nA, nn, nc, nB, nn', nc', rfl⟩, hb4⟩
  have HP4 := Lib.hid (HP3.out.below hb4)
  have HR4 := Lib.hid (HR3.out.below hb4)
  have HG4 := Lib.hid (gr_below HG3.out hb4)
  clear HP3 HR3 HG3 HO1 hb4
  obtain ⟨r0, r1, r2⟩ := cells3 HR4.out
  obtain ⟨z0, z1, z2⟩ := frozen3 HR4.out
  go_wp2
  exact bodyPost_ret (v := ndV nk nA nn nc nB nn' nc') (by simp [results, Tryd.results55, go_sem, r0, r1, r2]) rfl (rn_ok HX.out (nd_mk _ _ _ _ _ _ _) (gr_set3 HG4.out (Nat.le_refl _) _ _ _) (Blk.set3_other HP4.out (by omega) _ _ _))
set_option maxRecDepth 100000 in
set_option maxHeartbeats 8000000 in
theorem refatom_self (b a o d : Nat) (l : ByteArray) (m : Mach) (w : World) (hp : Par w b l a o 0) (hl : l.size ≤ 200) (ha : a < l.size) (hb : ([93, 123, 125, 94, 36, 42, 43, 63] : List Nat).contains (by_ l a) = false) (h40 : by_ l a ≠ 40) (h41 : by_ l a ≠ 41) (h46 : by_ l a ≠ 46) (h91 : by_ l a ≠ 91) (h92 : by_ l a ≠ 92) (h124 : by_ l a ≠ 124) :
    Calls Tryd.prog 55 #[.pointer (some ⟨b, 0, none⟩)] w (RN b l o w (atomF l (grpF l d) a m)) := by
  have HX : Hid (atomF l (grpF l d) a m = .ok (a + 1) (placeM m (2 ^ by_ l a)) (placeP m)) := by
    show atomF l (grpF l d) a m = _
    have hc : charF l a = .ok (a + 1) (by_ l a) := by
      unfold charF
      rw [if_neg (show ¬ sees l a 92 = true by rw [sees_true ha]; simpa using h92), if_pos ha]
    unfold atomF
    rw [if_neg h40, if_neg h91, if_neg (by rw [hb]; simp), if_neg h46, hc]
  have HS := Lib.hid (fun W => sign_any (by_ l a) ⟨#[41, 93, 123, 125, 94, 36, 124, 42, 43, 63]⟩ false (by rw [sg_big]; exact big_not hb h41 h124) (by decide) W)
  have HO := Lib.hid (fun W => refone_any (by_ l a) (by_ l a) (Nat.le_refl _) (by_lt l a) W)
  have hlt := by_lt l a
  obtain ⟨x, hx⟩ : ∃ x, by_ l a = x := ⟨_, rfl⟩
  rw [hx] at HS HO HX hb h40 h41 h46 h91 h92 h124 hlt
  have e40 : ((x : Int) == 40) = false := by simp; omega
  have e91 : ((x : Int) == 91) = false := by simp; omega
  have e46 : ((x : Int) == 46) = false := by simp; omega
  have e92 : ((x : Int) == 92) = false := by simp; omega
  have HP := Lib.hid (hp.alloc (.cells zero3 30))
  have HR := Lib.hid (Blk.new w 30 zero3)
  have HG := Lib.hid (gr_alloc (gr_refl w (some b)) (.cells zero3 30))
  have hbl : b < w.heap.size := Blk.lt hp
  have hq : l[a].toNat = x := by rw [← by_eq l a ha]; exact hx
  clear hb hx h40 h41 h46 h91 h92 h124
  have h0 : (0 : Int) ≤ (a : Int) := by omega
  have h1 : (a : Int) < (l.size : Int) := by omega
  clear hp
  go_enter Tryd.func55, Tryd.ntmps55
  go_upto_region 1 with fail
  generalize hW : w.alloc (.cells zero3 30) = W at *
  have hWs : w.heap.size < W.heap.size := HR.out.lt
  clear hW
  obtain ⟨c0, c1, c2, c3⟩ := HP.out.cells
  go_wp2_with fail
  go_quiet (fail)
  rename_i nq
  have HP1 := Lib.hid (HP.out.drewN nq)
  have HR1 := Lib.hid (HR.out.drewN nq)
  have HG1 := Lib.hid (gr_drewN HG.out nq)
  have hWs1 : w.heap.size < (W.drewN nq).heap.size := hWs
  generalize W.drewN nq = W1 at *
  clear HP HR HG c0 c1 c2 c3 hWs
  have HS1 := Lib.hid (HS.out W1)
  clear HS
  go_wp2_with fail
  refine (HS1.out).mono ?_
  rintro e w2 ⟨rfl, n2, rfl⟩
  have HP2 := Lib.hid (HP1.out.drewN n2)
  have HR2 : Hid (Blk (W1.drewN n2) w.heap.size 30 zero3) := HR1.out
  have HG2 := Lib.hid (gr_drewN HG1.out n2)
  have hWs2 : w.heap.size < (W1.drewN n2).heap.size := hWs1
  generalize W1.drewN n2 = W2 at *
  clear HP1 HR1 HG1 HS1 hWs1
  obtain ⟨c0, c1, c2, c3⟩ := HP2.out.cells
  have f1 := Blk.frozen HP2.out 1
  go_upto_region 21 with fail
  have HP3 := Lib.hid (HP2.out.at_ (a + 1) (.int .i64 ((a : Int) + 1)) (by rfl))
  have HR3 := Lib.hid (HR2.out.other (k := b) (by omega) 1 (.int .i64 ((a : Int) + 1)))
  have HG3 := Lib.hid (gr_set HG2.out 1 (.int .i64 ((a : Int) + 1)))
  generalize W2.setCell ⟨b, 1, none⟩ (.int .i64 ((a : Int) + 1)) = W3 at *
  clear HP2 HR2 HG2 c0 c1 c2 c3 f1 hWs2
  have HO1 := Lib.hid (HO.out W3)
  clear HO
  go_wp2_with fail
  refine (HO1.out).mono ?_
  rintro e w4 ⟨v, rfl, ⟨nk, nA, nn, nc, nB, nn', nc', rfl⟩, hb4⟩
  have HP4 := Lib.hid (HP3.out.below hb4)
  have HR4 := Lib.hid (HR3.out.below hb4)
  have HG4 := Lib.hid (gr_below HG3.out hb4)
  clear HP3 HR3 HG3 HO1 hb4
  obtain ⟨r0, r1, r2⟩ := cells3 HR4.out
  obtain ⟨z0, z1, z2⟩ := frozen3 HR4.out
  go_wp2
  exact bodyPost_ret (v := ndV nk nA nn nc nB nn' nc') (by simp [results, Tryd.results55, go_sem, r0, r1, r2]) rfl (rn_ok HX.out (nd_mk _ _ _ _ _ _ _) (gr_set3 HG4.out (Nat.le_refl _) _ _ _) (Blk.set3_other HP4.out (by omega) _ _ _))
set_option maxRecDepth 100000 in
set_option maxHeartbeats 8000000 in
theorem refatom_back (b a o d : Nat) (l : ByteArray) (m : Mach) (w : World) (hp : Par w b l a o 0) (hl : l.size ≤ 200) (ha : a < l.size) (hb : by_ l a = 92) (h2 : a + 1 < l.size) :
    Calls Tryd.prog 55 #[.pointer (some ⟨b, 0, none⟩)] w (RN b l o w (atomF l (grpF l d) a m)) := by
  have HX : Hid (atomF l (grpF l d) a m = .ok (a + 1 + 1) (placeM m (2 ^ by_ l (a + 1))) (placeP m)) := by
    show atomF l (grpF l d) a m = _
    have hc : charF l a = .ok (a + 1 + 1) (by_ l (a + 1)) := by
      unfold charF
      rw [if_pos (show sees l a 92 = true by rw [sees_true ha, hb]; rfl), if_pos h2]
    unfold atomF
    rw [if_neg (by omega), if_neg (by omega), if_neg (by rw [hb]; decide), if_neg (by omega), hc]
  have HO := Lib.hid (fun W => refone_any (by_ l (a + 1)) (by_ l (a + 1)) (Nat.le_refl _) (by_lt l (a + 1)) W)
  have HK2 := Lib.hid (fun W (h : Par W b l (a + 1) o 0) => peek_in b (a + 1) o l W h hl h2)
  have hlt := by_lt l (a + 1)
  generalize by_ l (a + 1) = y at *
  have HS := Lib.hid (fun W => sign_any 92 ⟨#[41, 93, 123, 125, 94, 36, 124, 42, 43, 63]⟩ false (by rw [sg_big]; rfl) (by decide) W)
  have hq : l[a].toNat = 92 := by rw [← by_eq l a ha]; exact hb
  have HP := Lib.hid (hp.alloc (.cells zero3 30))
  have HR := Lib.hid (Blk.new w 30 zero3)
  have HG := Lib.hid (gr_alloc (gr_refl w (some b)) (.cells zero3 30))
  have hbl : b < w.heap.size := Blk.lt hp
  clear hb
  have h0 : (0 : Int) ≤ (a : Int) := by omega
  have h1 : (a : Int) < (l.size : Int) := by omega
  clear hp
  go_enter Tryd.func55, Tryd.ntmps55
  go_upto_region 1 with fail
  generalize hW : w.alloc (.cells zero3 30) = W at *
  have hWs : w.heap.size < W.heap.size := HR.out.lt
  clear hW
  obtain ⟨c0, c1, c2, c3⟩ := HP.out.cells
  go_wp2_with fail
  go_quiet (fail)
  rename_i nq
  have HP1 := Lib.hid (HP.out.drewN nq)
  have HR1 := Lib.hid (HR.out.drewN nq)
  have HG1 := Lib.hid (gr_drewN HG.out nq)
  have hWs1 : w.heap.size < (W.drewN nq).heap.size := hWs
  generalize W.drewN nq = W1 at *
  clear HP HR HG c0 c1 c2 c3 hWs
  have HS1 := Lib.hid (HS.out W1)
  clear HS
  go_wp2_with fail
  refine (HS1.out).mono ?_
  rintro e w2 ⟨rfl, n2, rfl⟩
  have HP2 := Lib.hid (HP1.out.drewN n2)
  have HR2 : Hid (Blk (W1.drewN n2) w.heap.size 30 zero3) := HR1.out
  have HG2 := Lib.hid (gr_drewN HG1.out n2)
  have hWs2 : w.heap.size < (W1.drewN n2).heap.size := hWs1
  generalize W1.drewN n2 = W2 at *
  clear HP1 HR1 HG1 HS1 hWs1
  obtain ⟨c0, c1, c2, c3⟩ := HP2.out.cells
  have f1 := Blk.frozen HP2.out 1
  go_upto_region 21 with fail
  have HP3 := Lib.hid (HP2.out.at_ (a + 1) (.int .i64 ((a : Int) + 1)) (by rfl))
  have HR3 := Lib.hid (HR2.out.other (k := b) (by omega) 1 (.int .i64 ((a : Int) + 1)))
  have HG3 := Lib.hid (gr_set HG2.out 1 (.int .i64 ((a : Int) + 1)))
  generalize W2.setCell ⟨b, 1, none⟩ (.int .i64 ((a : Int) + 1)) = W3 at *
  clear HP2 HR2 HG2 c0 c1 c2 c3 f1 hWs2
  have HK3 := Lib.hid (HK2.out W3 HP3.out)
  clear HK2
  go_wp2_with fail
  refine (HK3.out).mono ?_
  rintro e w5 ⟨rfl, n5, rfl⟩
  have HP5 := Lib.hid (HP3.out.drewN n5)
  have HR5 : Hid (Blk (W3.drewN n5) w.heap.size 30 zero3) := HR3.out
  have HG5 := Lib.hid (gr_drewN HG3.out n5)
  generalize W3.drewN n5 = W5 at *
  clear HP3 HR3 HG3 HK3
  obtain ⟨c0, c1, c2, c3⟩ := HP5.out.cells
  have f1 := Blk.frozen HP5.out 1
  go_upto_region 29 with fail
  have HP6 := Lib.hid (HP5.out.at_ (a + 1 + 1) (.int .i64 ((a : Int) + 1 + 1)) (by rfl))
  have HR6 := Lib.hid (HR5.out.other (k := b) (by omega) 1 (.int .i64 ((a : Int) + 1 + 1)))
  have HG6 := Lib.hid (gr_set HG5.out 1 (.int .i64 ((a : Int) + 1 + 1)))
  generalize W5.setCell ⟨b, 1, none⟩ (.int .i64 ((a : Int) + 1 + 1)) = W6 at *
  clear HP5 HR5 HG5 c0 c1 c2 c3 f1
  have HO1 := Lib.hid (HO.out W6)
  clear HO
  go_wp2_with fail
  refine (HO1.out).mono ?_
  rintro e w4 ⟨v, rfl, ⟨nk, nA, nn, nc, nB, nn', nc', rfl⟩, hb4⟩
  have HP4 := Lib.hid (HP6.out.below hb4)
  have HR4 := Lib.hid (HR6.out.below hb4)
  have HG4 := Lib.hid (gr_below HG6.out hb4)
  clear HP6 HR6 HG6 HO1 hb4
  obtain ⟨r0, r1, r2⟩ := cells3 HR4.out
  obtain ⟨z0, z1, z2⟩ := frozen3 HR4.out
  go_wp2
  exact bodyPost_ret (v := ndV nk nA nn nc nB nn' nc') (by simp [results, Tryd.results55, go_sem, r0, r1, r2]) rfl (rn_ok HX.out (nd_mk _ _ _ _ _ _ _) (gr_set3 HG4.out (Nat.le_refl _) _ _ _) (Blk.set3_other HP4.out (by omega) _ _ _))
set_option maxRecDepth 100000 in
set_option maxHeartbeats 8000000 in
theorem refatom_back_end (b a o d : Nat) (l : ByteArray) (m : Mach) (w : World) (hp : Par w b l a o 0) (hl : l.size ≤ 200) (ha : a < l.size) (hb : by_ l a = 92) (h2 : a + 1 = l.size) :
    Calls Tryd.prog 55 #[.pointer (some ⟨b, 0, none⟩)] w (RN b l o w (atomF l (grpF l d) a m)) := by
  have HX : Hid (atomF l (grpF l d) a m = .bad l.size 2) := by
    show atomF l (grpF l d) a m = _
    have hc : charF l a = .bad (a + 1) := by
      unfold charF
      rw [if_pos (show sees l a 92 = true by rw [sees_true ha, hb]; rfl), if_neg (by omega)]
    unfold atomF
    rw [if_neg (by omega), if_neg (by omega), if_neg (by rw [hb]; decide), if_neg (by omega), hc, h2]
  have HK2 := Lib.hid (fun W (h : Par W b l l.size o 0) => peek_out b o l W h hl)
  have HS := Lib.hid (fun W => sign_any 92 ⟨#[41, 93, 123, 125, 94, 36, 124, 42, 43, 63]⟩ false (by rw [sg_big]; rfl) (by decide) W)
  have hq : l[a].toNat = 92 := by rw [← by_eq l a ha]; exact hb
  have HP := Lib.hid (hp.alloc (.cells zero3 30))
  have HR := Lib.hid (Blk.new w 30 zero3)
  have HG := Lib.hid (gr_alloc (gr_refl w (some b)) (.cells zero3 30))
  have hbl : b < w.heap.size := Blk.lt hp
  clear hb
  have h0 : (0 : Int) ≤ (a : Int) := by omega
  have h1 : (a : Int) < (l.size : Int) := by omega
  clear hp
  go_enter Tryd.func55, Tryd.ntmps55
  go_upto_region 1 with fail
  generalize hW : w.alloc (.cells zero3 30) = W at *
  have hWs : w.heap.size < W.heap.size := HR.out.lt
  clear hW
  obtain ⟨c0, c1, c2, c3⟩ := HP.out.cells
  go_wp2_with fail
  go_quiet (fail)
  rename_i nq
  have HP1 := Lib.hid (HP.out.drewN nq)
  have HR1 := Lib.hid (HR.out.drewN nq)
  have HG1 := Lib.hid (gr_drewN HG.out nq)
  have hWs1 : w.heap.size < (W.drewN nq).heap.size := hWs
  generalize W.drewN nq = W1 at *
  clear HP HR HG c0 c1 c2 c3 hWs
  have HS1 := Lib.hid (HS.out W1)
  clear HS
  go_wp2_with fail
  refine (HS1.out).mono ?_
  rintro e w2 ⟨rfl, n2, rfl⟩
  have HP2 := Lib.hid (HP1.out.drewN n2)
  have HR2 : Hid (Blk (W1.drewN n2) w.heap.size 30 zero3) := HR1.out
  have HG2 := Lib.hid (gr_drewN HG1.out n2)
  have hWs2 : w.heap.size < (W1.drewN n2).heap.size := hWs1
  generalize W1.drewN n2 = W2 at *
  clear HP1 HR1 HG1 HS1 hWs1
  obtain ⟨c0, c1, c2, c3⟩ := HP2.out.cells
  have f1 := Blk.frozen HP2.out 1
  go_upto_region 21 with fail
  have HP3 := Lib.hid (HP2.out.at_ l.size (.int .i64 ((a : Int) + 1)) (by rw [← h2]; rfl))
  have HR3 := Lib.hid (HR2.out.other (k := b) (by omega) 1 (.int .i64 ((a : Int) + 1)))
  have HG3 := Lib.hid (gr_set HG2.out 1 (.int .i64 ((a : Int) + 1)))
  generalize W2.setCell ⟨b, 1, none⟩ (.int .i64 ((a : Int) + 1)) = W3 at *
  clear HP2 HR2 HG2 c0 c1 c2 c3 f1 hWs2
  have HK3 := Lib.hid (HK2.out W3 HP3.out)
  clear HK2
  go_wp2_with fail
  refine (HK3.out).mono ?_
  rintro e w5 ⟨rfl, n5, rfl⟩
  have HP5 := Lib.hid (HP3.out.drewN n5)
  have HR5 : Hid (Blk (W3.drewN n5) w.heap.size 30 zero3) := HR3.out
  have HG5 := Lib.hid (gr_drewN HG3.out n5)
  generalize W3.drewN n5 = W5 at *
  clear HP3 HR3 HG3 HK3
  obtain ⟨c0, c1, c2, c3⟩ := HP5.out.cells
  have f3 := Blk.frozen HP5.out 3
  go_upto_region 27 with fail
  have HP6 := Lib.hid (HP5.out.wr_ 2 (.int .i64 2) rfl)
  have HR6 := Lib.hid (HR5.out.other (k := b) (by omega) 3 (.int .i64 2))
  have HG6 := Lib.hid (gr_set HG5.out 3 (.int .i64 2))
  generalize W5.setCell ⟨b, 3, none⟩ (.int .i64 2) = W6 at *
  clear HP5 HR5 HG5 c0 c1 c2 c3 f3
  obtain ⟨r0, r1, r2⟩ := cells3 HR6.out
  obtain ⟨z0, z1, z2⟩ := frozen3 HR6.out
  go_wp2
  exact bodyPost_ret (v := ndV 0 none 0 0 none 0 0) (by simp [results, Tryd.results55, go_sem, r0, r1, r2]) rfl (rn_bad HX.out (nd_mk _ _ _ _ _ _ _) (gr_set3 HG6.out (Nat.le_refl _) _ _ _) (Blk.set3_other HP6.out (by omega) _ _ _) (.inl rfl))
theorem refatom_any (b a o d : Nat) (l : ByteArray) (m : Mach) (w : World) (hA : ∀ d', d = d' + 1 → RA b l (o + 1) d') (hod : o + d = 32) (hm : Rx.Good m) (hp : Par w b l a o 0) (hl : l.size ≤ 200) (ha : a < l.size) (h41 : by_ l a ≠ 41) (h124 : by_ l a ≠ 124) :
    Calls Tryd.prog 55 #[.pointer (some ⟨b, 0, none⟩)] w (RN b l o w (atomF l (grpF l d) a m)) := by
  by_cases h40 : by_ l a = 40
  · cases d with
    | zero =>
      obtain rfl : o = 32 := by omega
      exact refatom_deep b a 32 l m w hp hl ha h40
    | succ d => exact refatom_grp b a o d l m w (hA d rfl) hm hp hl ha h40 (by omega)
  · by_cases h91 : by_ l a = 91
    · exact refatom_cls b a o d l m w hp hl ha h91
    · cases hb : ([93, 123, 125, 94, 36, 42, 43, 63] : List Nat).contains (by_ l a) with
      | true => exact refatom_bad b a o d l m w hp hl ha hb
      | false =>
        by_cases h46 : by_ l a = 46
        · exact refatom_dot b a o d l m w hp hl ha h46
        · by_cases h92 : by_ l a = 92
          · by_cases h2 : a + 1 < l.size
            · exact refatom_back b a o d l m w hp hl ha h92 h2
            · exact refatom_back_end b a o d l m w hp hl ha h92 (by omega)
          · exact refatom_self b a o d l m w hp hl ha hb h40 h41 h46 h91 h92 h124
end Go.Proofs.YtahphjaelpgjdaaDoor

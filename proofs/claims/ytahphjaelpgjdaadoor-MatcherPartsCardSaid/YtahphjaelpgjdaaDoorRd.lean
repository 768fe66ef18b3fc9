/- The document's reader: an atom; of what stands between parentheses it is told what it does. Condition: a text of at most 200 bytes. -/
import Derived.Test.YtahphjaelpgjdaaDoorRb
import Derived.Test.YtahphjaelpgjdaaDoorRc
import Derived.Test.YtahphjaelpgjdaaDoorWb
namespace Go.Proofs.YtahphjaelpgjdaaDoor
open Go.RowKit Rx
set_option linter.unusedVariables false

theorem refclass_any (b a o : Nat) (l : ByteArray) (m : Mach) (w : World) (hp : Par w b l a o 0) (hl : l.size ≤ 200) (ha : a < l.size) :
    Calls Tryd.prog 66 #[.pointer (some ⟨b, 0, none⟩)] w (RN b l o w (classF l a m)) := by
  cases hs : sees l (a + 1) 94 with
  | false => exact refclass_no b a o l m w hp hl ha hs
  | true => exact refclass_yes b a o l m w hp hl ha hs
/-- what the document's alternative does, where so many more parentheses may be opened -/
def RA (b : Nat) (l : ByteArray) (o d : Nat) : Prop := ∀ (m : Mach) (a : Nat) (w : World), Rx.Good m → Par w b l a o 0 → a ≤ l.size →
  Calls Tryd.prog 22 #[.pointer (some ⟨b, 0, none⟩)] w (RN b l o w (altF l (grpF l d) a m))
theorem RN.shape {b : Nat} {l : ByteArray} {o : Nat} {w w' : World} {r : Res} {e : Ending} (h : RN b l o w r e w') : ∃ (k : Nat) (A : Option Addr) (n c : Nat) (B : Option Addr) (n' c' : Nat), e = .returned (ndV k A n c B n' c') := by
  obtain ⟨⟨v, he, k, A, n, c, B, n', c', rfl⟩, _⟩ := h
  exact ⟨k, A, n, c, B, n', c', he⟩
theorem nd_mk (k : Nat) (A : Option Addr) (n c : Nat) (B : Option Addr) (n' c' : Nat) : Nd (ndV k A n c B n' c') := ⟨k, A, n, c, B, n', c', rfl⟩
theorem RN.res {b : Nat} {l : ByteArray} {o : Nat} {w w' : World} {r : Res} {e : Ending} (h : RN b l o w r e w') {v : Value} (hv : Nd v) {w0 w2 : World} (h0 : w0.grownBy w (some b)) (hk : ∀ a o c : Nat, Par w' b l a o c → Par w2 b l a o c) (h2 : w0.grownBy w' (some b) → w0.grownBy w2 (some b)) : RN b l o w0 r (.returned v) w2 := by
  obtain ⟨_, hg, hr⟩ := h
  refine ⟨⟨v, rfl, hv⟩, h2 (gr_trans h0 hg), ?_⟩
  cases r with
  | bad pl c => exact ⟨hk _ _ _ hr.1, hr.2⟩
  | ok a m p => exact hk _ _ _ hr
set_option maxRecDepth 100000 in
set_option maxHeartbeats 8000000 in
theorem refatom_deep (b a o : Nat) (l : ByteArray) (m : Mach) (w : World) (hp : Par w b l a 32 0) (hl : l.size ≤ 200) (ha : a < l.size) (hb : by_ l a = 40) :
    Calls Tryd.prog 55 #[.pointer (some ⟨b, 0, none⟩)] w (RN b l 32 w (atomF l (grpF l 0) a m)) := by
  have HX : Hid (atomF l (grpF l 0) a m = .bad a 12) := by
    show atomF l (grpF l 0) a m = _
    unfold atomF
    rw [if_pos hb]
    rfl
  have HP := Lib.hid (hp.alloc (.cells zero3 30))
  have HR := Lib.hid (Blk.new w 30 zero3)
  have HG := Lib.hid (gr_alloc (gr_refl w (some b)) (.cells zero3 30))
  have hbl : b < w.heap.size := Blk.lt hp
  have hq : l[a].toNat = 40 := by rw [← by_eq l a ha]; exact hb
  have h0 : (0 : Int) ≤ (a : Int) := by omega
  have h1 : (a : Int) < (l.size : Int) := by omega
  clear hp hb
  go_enter Tryd.func55, Tryd.ntmps55
  go_upto_region 1 with fail
  generalize hW : w.alloc (.cells zero3 30) = W at *
  clear hW
  obtain ⟨c0, c1, c2, c3⟩ := HP.out.cells
  go_wp2_with fail
  go_quiet (fail)
  rename_i nq
  have HP1 := Lib.hid (HP.out.drewN nq)
  have HR1 := Lib.hid (HR.out.drewN nq)
  have HG1 := Lib.hid (gr_drewN HG.out nq)
  generalize W.drewN nq = W1 at *
  clear HP HR HG c0 c1 c2 c3
  obtain ⟨c0, c1, c2, c3⟩ := HP1.out.cells
  have f3 := Blk.frozen HP1.out 3
  go_upto_region 5 with fail
  have HP2 := Lib.hid (HP1.out.wr_ 12 (.int .i64 12) rfl)
  have HR2 := Lib.hid (HR1.out.other (k := b) (by omega) 3 (.int .i64 12))
  have HG2 := Lib.hid (gr_set HG1.out 3 (.int .i64 12))
  generalize W1.setCell ⟨b, 3, none⟩ (.int .i64 12) = W2 at *
  clear HP1 HR1 HG1 c0 c1 c2 c3 f3
  obtain ⟨r0, r1, r2⟩ := cells3 HR2.out
  obtain ⟨z0, z1, z2⟩ := frozen3 HR2.out
  go_wp2
  exact bodyPost_ret (v := ndV 0 none 0 0 none 0 0) (by simp [results, Tryd.results55, go_sem, r0, r1, r2]) rfl (rn_bad HX.out (nd_mk _ _ _ _ _ _ _) (gr_set3 HG2.out (Nat.le_refl _) _ _ _) (Blk.set3_other HP2.out (by omega) _ _ _) (.inr rfl))
set_option maxRecDepth 100000 in
set_option maxHeartbeats 8000000 in
theorem refatom_grp (b a o d : Nat) (l : ByteArray) (m : Mach) (w : World) (hA : RA b l (o + 1) d) (hm : Rx.Good m) (hp : Par w b l a o 0) (hl : l.size ≤ 200) (ha : a < l.size) (hb : by_ l a = 40) (ho : o < 32) :
    Calls Tryd.prog 55 #[.pointer (some ⟨b, 0, none⟩)] w (RN b l o w (atomF l (grpF l (d + 1)) a m)) := by
  have HX : Hid (∀ r, altF l (grpF l d) (a + 1) m = r → atomF l (grpF l (d + 1)) a m = match r with | .bad pl c => .bad pl c | .ok a1 m1 p => if sees l a1 41 = true then .ok (a1 + 1) m1 p else .bad a1 2) := fun r h => by
    subst h
    unfold atomF
    rw [if_pos hb]
    conv => lhs; unfold grpF
    rfl
  have HP := Lib.hid (hp.alloc (.cells zero3 30))
  have HR := Lib.hid (Blk.new w 30 zero3)
  have HG := Lib.hid (gr_alloc (gr_refl w (some b)) (.cells zero3 30))
  have hbl : b < w.heap.size := Blk.lt hp
  have hq : l[a].toNat = 40 := by rw [← by_eq l a ha]; exact hb
  have h0 : (0 : Int) ≤ (a : Int) := by omega
  have h1 : (a : Int) < (l.size : Int) := by omega
  have ho32 : ((o : Int) == 32) = false := by simp; omega
  have HA := Lib.hid (fun W hW => hA m (a + 1) W hm hW ha)
  have HIS := Lib.hid (fun a1 r (hr : sees l a1 41 = r) (h : a1 ≤ l.size) W hW => is_any b a1 o 41 l r hr W hW hl h)
  have HIB := Lib.hid (fun a1 c hc W (hW : Par W b l a1 o c) => is_bad b a1 o c 41 l W hW hc)
  have HFI := Lib.hid (alt_fine (grp_fine l d) (show a + 1 ≤ l.size from ha) hm)
  clear hp hb hA
  go_enter Tryd.func55, Tryd.ntmps55
  go_upto_region 1 with fail
  generalize hW : w.alloc (.cells zero3 30) = W at *
  have hWs : W.heap.size = w.heap.size + 1 := by rw [← hW, World.size_alloc]
  clear hW
  obtain ⟨c0, c1, c2, c3⟩ := HP.out.cells
  go_wp2_with fail
  go_quiet (fail)
  rename_i nq
  have HP1 := Lib.hid (HP.out.drewN nq)
  have HR1 := Lib.hid (HR.out.drewN nq)
  have HG1 := Lib.hid (gr_drewN HG.out nq)
  generalize W.drewN nq = W1 at *
  clear HP HR HG c0 c1 c2 c3 hWs
  obtain ⟨c0, c1, c2, c3⟩ := HP1.out.cells
  have f1 := Blk.frozen HP1.out 1
  go_upto_region 7 with fail
  have HP2 := Lib.hid (HP1.out.at_ (a + 1) (.int .i64 ((a : Int) + 1)) (by rfl))
  have HR2 := Lib.hid (HR1.out.other (k := b) (by omega) 1 (.int .i64 ((a : Int) + 1)))
  have HG2 := Lib.hid (gr_set HG1.out 1 (.int .i64 ((a : Int) + 1)))
  generalize W1.setCell ⟨b, 1, none⟩ (.int .i64 ((a : Int) + 1)) = W2 at *
  clear HP1 HR1 HG1 c0 c1 c2 c3 f1
  obtain ⟨c0, c1, c2, c3⟩ := HP2.out.cells
  have f2 := Blk.frozen HP2.out 2
  go_upto_region 8 with fail
  have HP3 := Lib.hid (HP2.out.op_ (o + 1) (.int .i64 ((o : Int) + 1)) (by rfl))
  have HR3 := Lib.hid (HR2.out.other (k := b) (by omega) 2 (.int .i64 ((o : Int) + 1)))
  have HG3 := Lib.hid (gr_set HG2.out 2 (.int .i64 ((o : Int) + 1)))
  generalize W2.setCell ⟨b, 2, none⟩ (.int .i64 ((o : Int) + 1)) = W3 at *
  clear HP2 HR2 HG2 c0 c1 c2 c3 f2
  have HA1 := Lib.hid (HA.out W3 HP3.out)
  clear HA
  go_wp2_with fail
  refine (HA1.out).mono ?_
  rintro e W4 hrn
  obtain ⟨nk, nA, nn, nc, nB, nn', nc', rfl⟩ := hrn.shape
  obtain ⟨hv4, hg4, hres⟩ := hrn
  have HR4 := Lib.hid ((HR3.out.grown hg4 (by intro e; injection e; omega)).alloc (.cells #[.int .u8 nk, .slice nA nn nc, .slice nB nn' nc'] 30))
  have HG4 := Lib.hid (gr_alloc (gr_trans HG3.out hg4) (.cells #[.int .u8 nk, .slice nA nn nc, .slice nB nn' nc'] 30))
  have HN4 := Lib.hid (Blk.new W4 30 #[.int .u8 nk, .slice nA nn nc, .slice nB nn' nc'])
  have hsz : w.heap.size < W4.heap.size := (HR3.out.grown hg4 (by intro e; injection e; omega)).lt
  clear HA1 hg4 hv4
  cases hr : altF l (grpF l d) (a + 1) m with
  | bad pl c =>
    rw [hr] at hres
    have HP4 := Lib.hid (hres.1.alloc (.cells #[.int .u8 nk, .slice nA nn nc, .slice nB nn' nc'] 30))
    have hc := hres.2
    have HX1 : Hid (atomF l (grpF l (d + 1)) a m = .bad pl c) := HX.out _ hr
    clear hr hres HX HFI HIS
    go_upto_region 9 with fail
    generalize hW : W4.alloc (.cells #[.int .u8 nk, .slice nA nn nc, .slice nB nn' nc'] 30) = W5 at *
    generalize hj : W4.heap.size = j4 at *
    clear hW hj HP3 HR3 HG3
    obtain ⟨c0, c1, c2, c3⟩ := HP4.out.cells
    have f2 := Blk.frozen HP4.out 2
    go_upto_region 10 with fail
    have HP5 : Hid (Par (W5.setCell ⟨b, 2, none⟩ (.int .i64 o)) b l pl o c) := HP4.out.op_ o _ rfl
    have HR5 := Lib.hid (HR4.out.other (k := b) (by omega) 2 (.int .i64 o))
    have HG5 := Lib.hid (gr_set HG4.out 2 (.int .i64 o))
    have HN5 := Lib.hid (HN4.out.other (k := b) (by omega) 2 (.int .i64 o))
    generalize W5.setCell ⟨b, 2, none⟩ (.int .i64 o) = W6 at *
    clear HP4 HR4 HG4 HN4 c0 c1 c2 c3 f2
    obtain ⟨c0, c1, c2, c3⟩ := HP5.out.cells
    obtain ⟨r0, r1, r2⟩ := cells3 HR5.out
    obtain ⟨z0, z1, z2⟩ := frozen3 HR5.out
    obtain ⟨n0, n1, n2⟩ := cells3 HN5.out
    have hc0 : ((c : Int) == 0) = false := by simp; omega
    have hc0' : (c : Int) ≠ 0 := by omega
    go_wp2
    exact bodyPost_ret (v := ndV nk nA nn nc nB nn' nc') (by simp [results, Tryd.results55, go_sem, r0, r1, r2]) rfl (rn_bad HX1.out (nd_mk _ _ _ _ _ _ _) (gr_set3 HG5.out (Nat.le_refl _) _ _ _) (Blk.set3_other HP5.out (by omega) _ _ _) hc)
  | ok a1 m1 p1 =>
    rw [hr] at hres
    have HP4 := Lib.hid (Par.alloc hres (.cells #[.int .u8 nk, .slice nA nn nc, .slice nB nn' nc'] 30))
    have HX1 : Hid (atomF l (grpF l (d + 1)) a m = if sees l a1 41 = true then .ok (a1 + 1) m1 p1 else .bad a1 2) := HX.out _ hr
    have ha1 : a1 ≤ l.size := (HFI.out a1 m1 p1 hr).2.1
    clear hr hres HX HFI HIB
    go_upto_region 9 with fail
    generalize hW : W4.alloc (.cells #[.int .u8 nk, .slice nA nn nc, .slice nB nn' nc'] 30) = W5 at *
    generalize hj : W4.heap.size = j4 at *
    clear hW hj HP3 HR3 HG3
    obtain ⟨c0, c1, c2, c3⟩ := HP4.out.cells
    have f2 := Blk.frozen HP4.out 2
    go_upto_region 10 with fail
    have HP5 : Hid (Par (W5.setCell ⟨b, 2, none⟩ (.int .i64 o)) b l a1 o 0) := HP4.out.op_ o _ rfl
    have HR5 := Lib.hid (HR4.out.other (k := b) (by omega) 2 (.int .i64 o))
    have HG5 := Lib.hid (gr_set HG4.out 2 (.int .i64 o))
    have HN5 := Lib.hid (HN4.out.other (k := b) (by omega) 2 (.int .i64 o))
    generalize W5.setCell ⟨b, 2, none⟩ (.int .i64 o) = W6 at *
    clear HP4 HR4 HG4 HN4 c0 c1 c2 c3 f2
    cases hs : sees l a1 41 with
    | false =>
      have HS := Lib.hid (HIS.out a1 false hs ha1 W6 HP5.out)
      have HX2 : Hid (atomF l (grpF l (d + 1)) a m = .bad a1 2) := HX1.out.trans (if_neg (by rw [hs]; simp))
      clear hs HX1 HIS
      obtain ⟨c0, c1, c2, c3⟩ := HP5.out.cells
      go_wp2_with fail
      refine (HS.out).mono ?_
      rintro e w7 ⟨rfl, n7, rfl⟩
      have HP7 := Lib.hid (HP5.out.drewN n7)
      have HR7 := Lib.hid (HR5.out.drewN n7)
      have HG7 := Lib.hid (gr_drewN HG5.out n7)
      have HN7 := Lib.hid (HN5.out.drewN n7)
      generalize W6.drewN n7 = W7 at *
      clear HP5 HR5 HG5 HN5 HS c0 c1 c2 c3
      obtain ⟨c0, c1, c2, c3⟩ := HP7.out.cells
      have f3 := Blk.frozen HP7.out 3
      go_upto_region 12 with fail
      have HP8 := Lib.hid (HP7.out.wr_ 2 (.int .i64 2) rfl)
      have HR8 := Lib.hid (HR7.out.other (k := b) (by omega) 3 (.int .i64 2))
      have HG8 := Lib.hid (gr_set HG7.out 3 (.int .i64 2))
      have HN8 := Lib.hid (HN7.out.other (k := b) (by omega) 3 (.int .i64 2))
      generalize W7.setCell ⟨b, 3, none⟩ (.int .i64 2) = W8 at *
      clear HP7 HR7 HG7 HN7 c0 c1 c2 c3 f3
      obtain ⟨c0, c1, c2, c3⟩ := HP8.out.cells
      obtain ⟨r0, r1, r2⟩ := cells3 HR8.out
      obtain ⟨z0, z1, z2⟩ := frozen3 HR8.out
      obtain ⟨n0, n1, n2⟩ := cells3 HN8.out
      go_wp2
      exact bodyPost_ret (v := ndV nk nA nn nc nB nn' nc') (by simp [results, Tryd.results55, go_sem, r0, r1, r2]) rfl (rn_bad HX2.out (nd_mk _ _ _ _ _ _ _) (gr_set3 HG8.out (Nat.le_refl _) _ _ _) (Blk.set3_other HP8.out (by omega) _ _ _) (.inl rfl))
    | true =>
      have HS := Lib.hid (HIS.out a1 true hs ha1 W6 HP5.out)
      have HX2 : Hid (atomF l (grpF l (d + 1)) a m = .ok (a1 + 1) m1 p1) := HX1.out.trans (if_pos hs)
      clear hs HX1 HIS
      obtain ⟨c0, c1, c2, c3⟩ := HP5.out.cells
      go_wp2_with fail
      refine (HS.out).mono ?_
      rintro e w7 ⟨rfl, n7, rfl⟩
      have HP7 := Lib.hid (HP5.out.drewN n7)
      have HR7 := Lib.hid (HR5.out.drewN n7)
      have HG7 := Lib.hid (gr_drewN HG5.out n7)
      have HN7 := Lib.hid (HN5.out.drewN n7)
      generalize W6.drewN n7 = W7 at *
      clear HP5 HR5 HG5 HN5 HS c0 c1 c2 c3
      obtain ⟨c0, c1, c2, c3⟩ := HP7.out.cells
      have f1 := Blk.frozen HP7.out 1
      go_upto_region 14 with fail
      have HP8 := Lib.hid (HP7.out.at_ (a1 + 1) (.int .i64 ((a1 : Int) + 1)) (by rfl))
      have HR8 := Lib.hid (HR7.out.other (k := b) (by omega) 1 (.int .i64 ((a1 : Int) + 1)))
      have HG8 := Lib.hid (gr_set HG7.out 1 (.int .i64 ((a1 : Int) + 1)))
      have HN8 := Lib.hid (HN7.out.other (k := b) (by omega) 1 (.int .i64 ((a1 : Int) + 1)))
      generalize W7.setCell ⟨b, 1, none⟩ (.int .i64 ((a1 : Int) + 1)) = W8 at *
      clear HP7 HR7 HG7 HN7 c0 c1 c2 c3 f1
      obtain ⟨r0, r1, r2⟩ := cells3 HR8.out
      obtain ⟨z0, z1, z2⟩ := frozen3 HR8.out
      obtain ⟨n0, n1, n2⟩ := cells3 HN8.out
      go_wp2
      exact bodyPost_ret (v := ndV nk nA nn nc nB nn' nc') (by simp [results, Tryd.results55, go_sem, r0, r1, r2]) rfl (rn_ok HX2.out (nd_mk _ _ _ _ _ _ _) (gr_set3 HG8.out (Nat.le_refl _) _ _ _) (Blk.set3_other HP8.out (by omega) _ _ _))
set_option maxRecDepth 100000 in
set_option maxHeartbeats 8000000 in
theorem refatom_cls (b a o d : Nat) (l : ByteArray) (m : Mach) (w : World) (hp : Par w b l a o 0) (hl : l.size ≤ 200) (ha : a < l.size) (hb : by_ l a = 91) :
    Calls Tryd.prog 55 #[.pointer (some ⟨b, 0, none⟩)] w (RN b l o w (atomF l (grpF l d) a m)) := by
  have HX : Hid (atomF l (grpF l d) a m = classF l a m) := by
    show atomF l (grpF l d) a m = _
    unfold atomF
    rw [if_neg (by omega), if_pos hb]
  have HP := Lib.hid (hp.alloc (.cells zero3 30))
  have HR := Lib.hid (Blk.new w 30 zero3)
  have HG := Lib.hid (gr_alloc (gr_refl w (some b)) (.cells zero3 30))
  have hbl : b < w.heap.size := Blk.lt hp
  have hq : l[a].toNat = 91 := by rw [← by_eq l a ha]; exact hb
  have h0 : (0 : Int) ≤ (a : Int) := by omega
  have h1 : (a : Int) < (l.size : Int) := by omega
  have HC := Lib.hid (fun W hW => refclass_any b a o l m W hW hl ha)
  clear hp hb
  go_enter Tryd.func55, Tryd.ntmps55
  go_upto_region 1 with fail
  generalize hW : w.alloc (.cells zero3 30) = W at *
  clear hW
  obtain ⟨c0, c1, c2, c3⟩ := HP.out.cells
  go_wp2_with fail
  go_quiet (fail)
  rename_i nq
  have HP1 := Lib.hid (HP.out.drewN nq)
  have HR1 := Lib.hid (HR.out.drewN nq)
  have HG1 := Lib.hid (gr_drewN HG.out nq)
  generalize W.drewN nq = W1 at *
  clear HP HR HG c0 c1 c2 c3
  have HC1 := Lib.hid (HC.out W1 HP1.out)
  clear HC
  go_wp2_with fail
  refine (HC1.out).mono ?_
  rintro e W4 hrn
  have HRN := Lib.hid hrn
  obtain ⟨nk, nA, nn, nc, nB, nn', nc', rfl⟩ := hrn.shape
  have HR4 := Lib.hid (HR1.out.grown hrn.2.1 (by intro e; injection e; omega))
  clear hrn
  obtain ⟨r0, r1, r2⟩ := cells3 HR4.out
  obtain ⟨z0, z1, z2⟩ := frozen3 HR4.out
  go_wp2
  rw [HX.out]
  exact bodyPost_ret (v := ndV nk nA nn nc nB nn' nc') (by simp [results, Tryd.results55, go_sem, r0, r1, r2]) rfl (HRN.out.res (nd_mk _ _ _ _ _ _ _) HG1.out (fun _ _ _ h => Blk.set3_other h (by omega) _ _ _) (fun h => gr_set3 h (Nat.le_refl _) _ _ _))
end Go.Proofs.YtahphjaelpgjdaaDoor

namespace Go.Proofs.YtahphjaelpgjdaaDoor
open Go.RowKit Rx
set_option linter.unusedVariables false

theorem sg_big : ((⟨#[41, 93, 123, 125, 94, 36, 124, 42, 43, 63]⟩ : ByteArray).data.toList.map UInt8.toNat) = [41, 93, 123, 125, 94, 36, 124, 42, 43, 63] := rfl
theorem big_of {x : Nat} (h : ([93, 123, 125, 94, 36, 42, 43, 63] : List Nat).contains x = true) : ([41, 93, 123, 125, 94, 36, 124, 42, 43, 63] : List Nat).contains x = true := by simp at h ⊢; omega
theorem big_not {x : Nat} (h : ([93, 123, 125, 94, 36, 42, 43, 63] : List Nat).contains x = false) (h1 : x ≠ 41) (h2 : x ≠ 124) : ([41, 93, 123, 125, 94, 36, 124, 42, 43, 63] : List Nat).contains x = false := by simp at h ⊢; omega
set_option maxRecDepth 100000 in
set_option maxHeartbeats 8000000 in
theorem refatom_bad (b a o d : Nat) (l : ByteArray) (m : Mach) (w : World) (hp : Par w b l a o 0) (hl : l.size ≤ 200) (ha : a < l.size) (hb : ([93, 123, 125, 94, 36, 42, 43, 63] : List Nat).contains (by_ l a) = true) :
    Calls Tryd.prog 55 #[.pointer (some ⟨b, 0, none⟩)] w (RN b l o w (atomF l (grpF l d) a m)) := by
  have HX : Hid (atomF l (grpF l d) a m = .bad a 2) := by
    show atomF l (grpF l d) a m = _
    have h2 : by_ l a ≠ 40 ∧ by_ l a ≠ 91 := by simp at hb; omega
    unfold atomF
    rw [if_neg h2.1, if_neg h2.2, if_pos hb]
  have HS := Lib.hid (fun W => sign_any (by_ l a) ⟨#[41, 93, 123, 125, 94, 36, 124, 42, 43, 63]⟩ true (by rw [sg_big]; exact big_of hb) (by decide) W)
  obtain ⟨x, hx⟩ : ∃ x, by_ l a = x := ⟨_, rfl⟩
  rw [hx] at HS hb
  have e40 : ((x : Int) == 40) = false := by simp at hb ⊢; omega
  have e91 : ((x : Int) == 91) = false := by simp at hb ⊢; omega
  have HP := Lib.hid (hp.alloc (.cells zero3 30))
  have HR := Lib.hid (Blk.new w 30 zero3)
  have HG := Lib.hid (gr_alloc (gr_refl w (some b)) (.cells zero3 30))
  have hbl : b < w.heap.size := Blk.lt hp
  have hq : l[a].toNat = x := by rw [← by_eq l a ha]; exact hx
  clear hb hx
  have h0 : (0 : Int) ≤ (a : Int) := by omega
  have h1 : (a : Int) < (l.size : Int) := by omega
  clear hp
  go_enter Tryd.func55, Tryd.ntmps55
  go_upto_region 1 with fail
  generalize hW : w.alloc (.cells zero3 30) = W at *
  have hWs : w.heap.size < W.heap.size := HR.out.lt
  clear hW
  obtain ⟨c0, c1, c2, c3⟩ := HP.out.cells
  go_wp2_with fail
  go_quiet (fail)
  rename_i nq
  have HP1 := Lib.hid (HP.out.drewN nq)
  have HR1 := Lib.hid (HR.out.drewN nq)
  have HG1 := Lib.hid (gr_drewN HG.out nq)
  have hWs1 : w.heap.size < (W.drewN nq).heap.size := hWs
  generalize W.drewN nq = W1 at *
  clear HP HR HG c0 c1 c2 c3 hWs
  have HS1 := Lib.hid (HS.out W1)
  clear HS
  go_wp2_with fail
  refine (HS1.out).mono ?_
  rintro e w2 ⟨rfl, n2, rfl⟩
  have HP2 := Lib.hid (HP1.out.drewN n2)
  have HR2 : Hid (Blk (W1.drewN n2) w.heap.size 30 zero3) := HR1.out
  have HG2 := Lib.hid (gr_drewN HG1.out n2)
  have hWs2 : w.heap.size < (W1.drewN n2).heap.size := hWs1
  generalize W1.drewN n2 = W2 at *
  clear HP1 HR1 HG1 HS1 hWs1
  obtain ⟨c0, c1, c2, c3⟩ := HP2.out.cells
  have f3 := Blk.frozen HP2.out 3
  go_upto_region 19 with fail
  have HP3 := Lib.hid (HP2.out.wr_ 2 (.int .i64 2) rfl)
  have HR3 := Lib.hid (HR2.out.other (k := b) (by omega) 3 (.int .i64 2))
  have HG3 := Lib.hid (gr_set HG2.out 3 (.int .i64 2))
  generalize W2.setCell ⟨b, 3, none⟩ (.int .i64 2) = W3 at *
  clear HP2 HR2 HG2 c0 c1 c2 c3 f3
  obtain ⟨r0, r1, r2⟩ := cells3 HR3.out
  obtain ⟨z0, z1, z2⟩ := frozen3 HR3.out
  go_wp2
  exact bodyPost_ret (v := ndV 0 none 0 0 none 0 0) (by simp [results, Tryd.results55, go_sem, r0, r1, r2]) rfl (rn_bad HX.out (nd_mk _ _ _ _ _ _ _) (gr_set3 HG3.out (Nat.le_refl _) _ _ _) (Blk.set3_other HP3.out (by omega) _ _ _) (.inl rfl))
set_option maxRecDepth 100000 in
set_option maxHeartbeats 8000000 in
theorem refatom_dot (b a o d : Nat) (l : ByteArray) (m : Mach) (w : World) (hp : Par w b l a o 0) (hl : l.size ≤ 200) (ha : a < l.size) (hb : by_ l a = 46) :
    Calls Tryd.prog 55 #[.pointer (some ⟨b, 0, none⟩)] w (RN b l o w (atomF l (grpF l d) a m)) := by
  have HX : Hid (atomF l (grpF l d) a m = .ok (a + 1) (placeM m full) (placeP m)) := by
    show atomF l (grpF l d) a m = _
    unfold atomF
    rw [if_neg (by omega), if_neg (by omega), if_neg (by rw [hb]; decide), if_pos hb]
  have HS := Lib.hid (fun W => sign_any 46 ⟨#[41, 93, 123, 125, 94, 36, 124, 42, 43, 63]⟩ false (by rw [sg_big]; rfl) (by decide) W)
  have HO := Lib.hid (fun W => refone_any 0 255 (by omega) (by omega) W)
  have hq : l[a].toNat = 46 := by rw [← by_eq l a ha]; exact hb
  have HP := Lib.hid (hp.alloc (.cells zero3 30))
  have HR := Lib.hid (Blk.new w 30 zero3)
  have HG := Lib.hid (gr_alloc (gr_refl w (some b)) (.cells zero3 30))
  have hbl : b < w.heap.size := Blk.lt hp
  clear hb
  have h0 : (0 : Int) ≤ (a : Int) := by omega
  have h1 : (a : Int) < (l.size : Int) := by omega
  clear hp
  go_enter Tryd.func55, Tryd.ntmps55
  go_upto_region 1 with fail
  generalize hW : w.alloc (.cells zero3 30) = W at *
  have hWs : w.heap.size < W.heap.size := HR.out.lt
  clear hW
  obtain ⟨c0, c1, c2, c3⟩ := HP.out.cells
  go_wp2_with fail
  go_quiet (fail)
  rename_i nq
  have HP1 := Lib.hid (HP.out.drewN nq)
  have HR1 := Lib.hid (HR.out.drewN nq)
  have HG1 := Lib.hid (gr_drewN HG.out nq)
  have hWs1 : w.heap.size < (W.drewN nq).heap.size := hWs
  generalize W.drewN nq = W1 at *
  clear HP HR HG c0 c1 c2 c3 hWs
  have HS1 := Lib.hid (HS.out W1)
  clear HS
  go_wp2_with fail
  refine (HS1.out).mono ?_
  rintro e w2 ⟨rfl, n2, rfl⟩
  have HP2 := Lib.hid (HP1.out.drewN n2)
  have HR2 : Hid (Blk (W1.drewN n2) w.heap.size 30 zero3) := HR1.out
  have HG2 := Lib.hid (gr_drewN HG1.out n2)
  have hWs2 : w.heap.size < (W1.drewN n2).heap.size := hWs1
  generalize W1.drewN n2 = W2 at *
  clear HP1 HR1 HG1 HS1 hWs1
  obtain ⟨c0, c1, c2, c3⟩ := HP2.out.cells
  have f1 := Blk.frozen HP2.out 1
  go_upto_region 21 with fail
  have HP3 := Lib.hid (HP2.out.at_ (a + 1) (.int .i64 ((a : Int) + 1)) (by rfl))
  have HR3 := Lib.hid (HR2.out.other (k := b) (by omega) 1 (.int .i64 ((a : Int) + 1)))
  have HG3 := Lib.hid (gr_set HG2.out 1 (.int .i64 ((a : Int) + 1)))
  generalize W2.setCell ⟨b, 1, none⟩ (.int .i64 ((a : Int) + 1)) = W3 at *
  clear HP2 HR2 HG2 c0 c1 c2 c3 f1 hWs2
  have HO1 := Lib.hid (HO.out W3)
  clear HO
  go_wp2_with fail
  refine (HO1.out).mono ?_
  rintro e w4 ⟨v, rfl, ⟨nk, nA, nn, nc, nB, nn', nc', rfl⟩, hb4⟩
  have HP4 := Lib.hid (HP3.out.below hb4)
  have HR4 := Lib.hid (HR3.out.below hb4)
  have HG4 := Lib.hid (gr_below HG3.out hb4)
  clear HP3 HR3 HG3 HO1 hb4
  obtain ⟨r0, r1, r2⟩ := cells3 HR4.out
  obtain ⟨z0, z1, z2⟩ := frozen3 HR4.out
  go_wp2
  exact bodyPost_ret (v := ndV nk nA nn nc nB nn' nc') (by simp [results, Tryd.results55, go_sem, r0, r1, r2]) rfl (rn_ok HX.out (nd_mk _ _ _ _ _ _ _) (gr_set3 HG4.out (Nat.le_refl _) _ _ _) (Blk.set3_other HP4.out (by omega) _ _ _))
set_option maxRecDepth 100000 in
set_option maxHeartbeats 8000000 in
theorem refatom_self (b a o d : Nat) (l : ByteArray) (m : Mach) (w : World) (hp : Par w b l a o 0) (hl : l.size ≤ 200) (ha : a < l.size) (hb : ([93, 123, 125, 94, 36, 42, 43, 63] : List Nat).contains (by_ l a) = false) (h40 : by_ l a ≠ 40) (h41 : by_ l a ≠ 41) (h46 : by_ l a ≠ 46) (h91 : by_ l a ≠ 91) (h92 : by_ l a ≠ 92) (h124 : by_ l a ≠ 124) :
    Calls Tryd.prog 55 #[.pointer (some ⟨b, 0, none⟩)] w (RN b l o w (atomF l (grpF l d) a m)) := by
  have HX : Hid (atomF l (grpF l d) a m = .ok (a + 1) (placeM m (2 ^ by_ l a)) (placeP m)) := by
    show atomF l (grpF l d) a m = _
    have hc : charF l a = .ok (a + 1) (by_ l a) := by
      unfold charF
      rw [if_neg (show ¬ sees l a 92 = true by rw [sees_true ha]; simpa using h92), if_pos ha]
    unfold atomF
    rw [if_neg h40, if_neg h91, if_neg (by rw [hb]; simp), if_neg h46, hc]
  have HS := Lib.hid (fun W => sign_any (by_ l a) ⟨#[41, 93, 123, 125, 94, 36, 124, 42, 43, 63]⟩ false (by rw [sg_big]; exact big_not hb h41 h124) (by decide) W)
  have HO := Lib.hid (fun W => refone_any (by_ l a) (by_ l a) (Nat.le_refl _) (by_lt l a) W)
  have hlt := by_lt l a
  obtain ⟨x, hx⟩ : ∃ x, by_ l a = x := ⟨_, rfl⟩
  rw [hx] at HS HO HX hb h40 h41 h46 h91 h92 h124 hlt
  have e40 : ((x : Int) == 40) = false := by simp; omega
  have e91 : ((x : Int) == 91) = false := by simp; omega
  have e46 : ((x : Int) == 46) = false := by simp; omega
  have e92 : ((x : Int) == 92) = false := by simp; omega
  have HP := Lib.hid (hp.alloc (.cells zero3 30))
  have HR := Lib.hid (Blk.new w 30 zero3)
  have HG := Lib.hid (gr_alloc (gr_refl w (some b)) (.cells zero3 30))
  have hbl : b < w.heap.size := Blk.lt hp
  have hq : l[a].toNat = x := by rw [← by_eq l a ha]; exact hx
  clear hb hx h40 h41 h46 h91 h92 h124
  have h0 : (0 : Int) ≤ (a : Int) := by omega
  have h1 : (a : Int) < (l.size : Int) := by omega
  clear hp
  go_enter Tryd.func55, Tryd.ntmps55
  go_upto_region 1 with fail
  generalize hW : w.alloc (.cells zero3 30) = W at *
  have hWs : w.heap.size < W.heap.size := HR.out.lt
  clear hW
  obtain ⟨c0, c1, c2, c3⟩ := HP.out.cells
  go_wp2_with fail
  go_quiet (fail)
  rename_i nq
  have HP1 := Lib.hid (HP.out.drewN nq)
  have HR1 := Lib.hid (HR.out.drewN nq)
  have HG1 := Lib.hid (gr_drewN HG.out nq)
  have hWs1 : w.heap.size < (W.drewN nq).heap.size := hWs
  generalize W.drewN nq = W1 at *
  clear HP HR HG c0 c1 c2 c3 hWs
  have HS1 := Lib.hid (HS.out W1)
  clear HS
  go_wp2_with fail
  refine (HS1.out).mono ?_
  rintro e w2 ⟨rfl, n2, rfl⟩
  have HP2 := Lib.hid (HP1.out.drewN n2)
  have HR2 : Hid (Blk (W1.drewN n2) w.heap.size 30 zero3) := HR1.out
  have HG2 := Lib.hid (gr_drewN HG1.out n2)
  have hWs2 : w.heap.size < (W1.drewN n2).heap.size := hWs1
  generalize W1.drewN n2 = W2 at *
  clear HP1 HR1 HG1 HS1 hWs1
  obtain ⟨c0, c1, c2, c3⟩ := HP2.out.cells
  have f1 := Blk.frozen HP2.out 1
  go_upto_region 21 with fail
  have HP3 := Lib.hid (HP2.out.at_ (a + 1) (.int .i64 ((a : Int) + 1)) (by rfl))
  have HR3 := Lib.hid (HR2.out.other (k := b) (by omega) 1 (.int .i64 ((a : Int) + 1)))
  have HG3 := Lib.hid (gr_set HG2.out 1 (.int .i64 ((a : Int) + 1)))
  generalize W2.setCell ⟨b, 1, none⟩ (.int .i64 ((a : Int) + 1)) = W3 at *
  clear HP2 HR2 HG2 c0 c1 c2 c3 f1 hWs2
  have HO1 := Lib.hid (HO.out W3)
  clear HO
  go_wp2_with fail
  refine (HO1.out).mono ?_
  rintro e w4 ⟨v, rfl, ⟨nk, nA, nn, nc, nB, nn', nc', rfl⟩, hb4⟩
  have HP4 := Lib.hid (HP3.out.below hb4)
  have HR4 := Lib.hid (HR3.out.below hb4)
  have HG4 := Lib.hid (gr_below HG3.out hb4)
  clear HP3 HR3 HG3 HO1 hb4
  obtain ⟨r0, r1, r2⟩ := cells3 HR4.out
  obtain ⟨z0, z1, z2⟩ := frozen3 HR4.out
  go_wp2
  exact bodyPost_ret (v := ndV nk nA nn nc nB nn' nc') (by simp [results, Tryd.results55, go_sem, r0, r1, r2]) rfl (rn_ok HX.out (nd_mk _ _ _ _ _ _ _) (gr_set3 HG4.out (Nat.le_refl _) _ _ _) (Blk.set3_other HP4.out (by omega) _ _ _))
set_option maxRecDepth 100000 in
set_option maxHeartbeats 8000000 in
theorem refatom_back (b a o d : Nat) (l : ByteArray) (m : Mach) (w : World) (hp : Par w b l a o 0) (hl : l.size ≤ 200) (ha : a < l.size) (hb : by_ l a = 92) (h2 : a + 1 < l.size) :
    Calls Tryd.prog 55 #[.pointer (some ⟨b, 0, none⟩)] w (RN b l o w (atomF l (grpF l d) a m)) := by
  have HX : Hid (atomF l (grpF l d) a m = .ok (a + 1 + 1) (placeM m (2 ^ by_ l (a + 1))) (placeP m)) := by
    show atomF l (grpF l d) a m = _
    have hc : charF l a = .ok (a + 1 + 1) (by_ l (a + 1)) := by
      unfold charF
      rw [if_pos (show sees l a 92 = true by rw [sees_true ha, hb]; rfl), if_pos h2]
    unfold atomF
    rw [if_neg (by omega), if_neg (by omega), if_neg (by rw [hb]; decide), if_neg (by omega), hc]
  have HO := Lib.hid (fun W => refone_any (by_ l (a + 1)) (by_ l (a + 1)) (Nat.le_refl _) (by_lt l (a + 1)) W)
  have HK2 := Lib.hid (fun W (h : Par W b l (a + 1) o 0) => peek_in b (a + 1) o l W h hl h2)
  have hlt := by_lt l (a + 1)
  generalize by_ l (a + 1) = y at *
  have HS := Lib.hid (fun W => sign_any 92 ⟨#[41, 93, 123, 125, 94, 36, 124, 42, 43, 63]⟩ false (by rw [sg_big]; rfl) (by decide) W)
  have hq : l[a].toNat = 92 := by rw [← by_eq l a ha]; exact hb
  have HP := Lib.hid (hp.alloc (.cells zero3 30))
  have HR := Lib.hid (Blk.new w 30 zero3)
  have HG := Lib.hid (gr_alloc (gr_refl w (some b)) (.cells zero3 30))
  have hbl : b < w.heap.size := Blk.lt hp
  clear hb
  have h0 : (0 : Int) ≤ (a : Int) := by omega
  have h1 : (a : Int) < (l.size : Int) := by omega
  clear hp
  go_enter Tryd.func55, Tryd.ntmps55
  go_upto_region 1 with fail
  generalize hW : w.alloc (.cells zero3 30) = W at *
  have hWs : w.heap.size < W.heap.size := HR.out.lt
  clear hW
  obtain ⟨c0, c1, c2, c3⟩ := HP.out.cells
  go_wp2_with fail
  go_quiet (fail)
  rename_i nq
  have HP1 := Lib.hid (HP.out.drewN nq)
  have HR1 := Lib.hid (HR.out.drewN nq)
  have HG1 := Lib.hid (gr_drewN HG.out nq)
  have hWs1 : w.heap.size < (W.drewN nq).heap.size := hWs
  generalize W.drewN nq = W1 at *
  clear HP HR HG c0 c1 c2 c3 hWs
  have HS1 := Lib.hid (HS.out W1)
  clear HS
  go_wp2_with fail
  refine (HS1.out).mono ?_
  rintro e w2 ⟨rfl, n2, rfl⟩
  have HP2 := Lib.hid (HP1.out.drewN n2)
  have HR2 : Hid (Blk (W1.drewN n2) w.heap.size 30 zero3) := HR1.out
  have HG2 := Lib.hid (gr_drewN HG1.out n2)
  have hWs2 : w.heap.size < (W1.drewN n2).heap.size := hWs1
  generalize W1.drewN n2 = W2 at *
  clear HP1 HR1 HG1 HS1 hWs1
  obtain ⟨c0, c1, c2, c3⟩ := HP2.out.cells
  have f1 := Blk.frozen HP2.out 1
  go_upto_region 21 with fail
  have HP3 := Lib.hid (HP2.out.at_ (a + 1) (.int .i64 ((a : Int) + 1)) (by rfl))
  have HR3 := Lib.hid (HR2.out.other (k := b) (by omega) 1 (.int .i64 ((a : Int) + 1)))
  have HG3 := Lib.hid (gr_set HG2.out 1 (.int .i64 ((a : Int) + 1)))
  generalize W2.setCell ⟨b, 1, none⟩ (.int .i64 ((a : Int) + 1)) = W3 at *
  clear HP2 HR2 HG2 c0 c1 c2 c3 f1 hWs2
  have HK3 := Lib.hid (HK2.out W3 HP3.out)
  clear HK2
  go_wp2_with fail
  refine (HK3.out).mono ?_
  rintro e w5 ⟨rfl, n5, rfl⟩
  have HP5 := Lib.hid (HP3.out.drewN n5)
  have HR5 : Hid (Blk (W3.drewN n5) w.heap.size 30 zero3) := HR3.out
  have HG5 := Lib.hid (gr_drewN HG3.out n5)
  generalize W3.drewN n5 = W5 at *
  clear HP3 HR3 HG3 HK3
  obtain ⟨c0, c1, c2, c3⟩ := HP5.out.cells
  have f1 := Blk.frozen HP5.out 1
  go_upto_region 29 with fail
  have HP6 := Lib.hid (HP5.out.at_ (a + 1 + 1) (.int .i64 ((a : Int) + 1 + 1)) (by rfl))
  have HR6 := Lib.hid (HR5.out.other (k := b) (by omega) 1 (.int .i64 ((a : Int) + 1 + 1)))
  have HG6 := Lib.hid (gr_set HG5.out 1 (.int .i64 ((a : Int) + 1 + 1)))
  generalize W5.setCell ⟨b, 1, none⟩ (.int .i64 ((a : Int) + 1 + 1)) = W6 at *
  clear HP5 HR5 HG5 c0 c1 c2 c3 f1
  have HO1 := Lib.hid (HO.out W6)
  clear HO
  go_wp2_with fail
  refine (HO1.out).mono ?_
  rintro e w4 ⟨v, rfl, ⟨nk, nA, nn, nc, nB, nn', nc', rfl⟩, hb4⟩
  have HP4 := Lib.hid (HP6.out.below hb4)
  have HR4 := Lib.hid (HR6.out.below hb4)
  have HG4 := Lib.hid (gr_below HG6.out hb4)
  clear HP6 HR6 HG6 HO1 hb4
  obtain ⟨r0, r1, r2⟩ := cells3 HR4.out
  obtain ⟨z0, z1, z2⟩ := frozen3 HR4.out
  go_wp2
  exact bodyPost_ret (v := ndV nk nA nn nc nB nn' nc') (by simp [results, Tryd.results55, go_sem, r0, r1, r2]) rfl (rn_ok HX.out (nd_mk _ _ _ _ _ _ _) (gr_set3 HG4.out (Nat.le_refl _) _ _ _) (Blk.set3_other HP4.out (by omega) _ _ _))
set_option maxRecDepth 100000 in
set_option maxHeartbeats 8000000 in
theorem refatom_back_end (b a o d : Nat) (l : ByteArray) (m : Mach) (w : World) (hp : Par w b l a o 0) (hl : l.size ≤ 200) (ha : a < l.size) (hb : by_ l a = 92) (h2 : a + 1 = l.size) :
    Calls Tryd.prog 55 #[.pointer (some ⟨b, 0, none⟩)] w (RN b l o w (atomF l (grpF l d) a m)) := by
  have HX : Hid (atomF l (grpF l d) a m = .bad l.size 2) := by
    show atomF l (grpF l d) a m = _
    have hc : charF l a = .bad (a + 1) := by
      unfold charF
      rw [if_pos (show sees l a 92 = true by rw [sees_true ha, hb]; rfl), if_neg (by omega)]
    unfold atomF
    rw [if_neg (by omega), if_neg (by omega), if_neg (by rw [hb]; decide), if_neg (by omega), hc, h2]
  have HK2 := Lib.hid (fun W (h : Par W b l l.size o 0) => peek_out b o l W h hl)
  have HS := Lib.hid (fun W => sign_any 92 ⟨#[41, 93, 123, 125, 94, 36, 124, 42, 43, 63]⟩ false (by rw [sg_big]; rfl) (by decide) W)
  have hq : l[a].toNat = 92 := by rw [← by_eq l a ha]; exact hb
  have HP := Lib.hid (hp.alloc (.cells zero3 30))
  have HR := Lib.hid (Blk.new w 30 zero3)
  have HG := Lib.hid (gr_alloc (gr_refl w (some b)) (.cells zero3 30))
  have hbl : b < w.heap.size := Blk.lt hp
  clear hb
  have h0 : (0 : Int) ≤ (a : Int) := by omega
  have h1 : (a : Int) < (l.size : Int) := by omega
  clear hp
  go_enter Tryd.func55, Tryd.ntmps55
  go_upto_region 1 with fail
  generalize hW : w.alloc (.cells zero3 30) = W at *
  have hWs : w.heap.size < W.heap.size := HR.out.lt
  clear hW
  obtain ⟨c0, c1, c2, c3⟩ := HP.out.cells
  go_wp2_with fail
  go_quiet (fail)
  rename_i nq
  have HP1 := Lib.hid (HP.out.drewN nq)
  have HR1 := Lib.hid (HR.out.drewN nq)
  have HG1 := Lib.hid (gr_drewN HG.out nq)
  have hWs1 : w.heap.size < (W.drewN nq).heap.size := hWs
  generalize W.drewN nq = W1 at *
  clear HP HR HG c0 c1 c2 c3 hWs
  have HS1 := Lib.hid (HS.out W1)
  clear HS
  go_wp2_with fail
  refine (HS1.out).mono ?_
  rintro e w2 ⟨rfl, n2, rfl⟩
  have HP2 := Lib.hid (HP1.out.drewN n2)
  have HR2 : Hid (Blk (W1.drewN n2) w.heap.size 30 zero3) := HR1.out
  have HG2 := Lib.hid (gr_drewN HG1.out n2)
  have hWs2 : w.heap.size < (W1.drewN n2).heap.size := hWs1
  generalize W1.drewN n2 = W2 at *
  clear HP1 HR1 HG1 HS1 hWs1
  obtain ⟨c0, c1, c2, c3⟩ := HP2.out.cells
  have f1 := Blk.frozen HP2.out 1
  go_upto_region 21 with fail
  have HP3 := Lib.hid (HP2.out.at_ l.size (.int .i64 ((a : Int) + 1)) (by rw [← h2]; rfl))
  have HR3 := Lib.hid (HR2.out.other (k := b) (by omega) 1 (.int .i64 ((a : Int) + 1)))
  have HG3 := Lib.hid (gr_set HG2.out 1 (.int .i64 ((a : Int) + 1)))
  generalize W2.setCell ⟨b, 1, none⟩ (.int .i64 ((a : Int) + 1)) = W3 at *
  clear HP2 HR2 HG2 c0 c1 c2 c3 f1 hWs2
  have HK3 := Lib.hid (HK2.out W3 HP3.out)
  clear HK2
  go_wp2_with fail
  refine (HK3.out).mono ?_
  rintro e w5 ⟨rfl, n5, rfl⟩
  have HP5 := Lib.hid (HP3.out.drewN n5)
  have HR5 : Hid (Blk (W3.drewN n5) w.heap.size 30 zero3) := HR3.out
  have HG5 := Lib.hid (gr_drewN HG3.out n5)
  generalize W3.drewN n5 = W5 at *
  clear HP3 HR3 HG3 HK3
  obtain ⟨c0, c1, c2, c3⟩ := HP5.out.cells
  have f3 := Blk.frozen HP5.out 3
  go_upto_region 27 with fail
  have HP6 := Lib.hid (HP5.out.wr_ 2 (.int .i64 2) rfl)
  have HR6 := Lib.hid (HR5.out.other (k := b) (by omega) 3 (.int .i64 2))
  have HG6 := Lib.hid (gr_set HG5.out 3 (.int .i64 2))
  generalize W5.setCell ⟨b, 3, none⟩ (.int .i64 2) = W6 at *
  clear HP5 HR5 HG5 c0 c1 c2 c3 f3
  obtain ⟨r0, r1, r2⟩ := cells3 HR6.out
  obtain ⟨z0, z1, z2⟩ := frozen3 HR6.out
  go_wp2
  exact bodyPost_ret (v := ndV 0 none 0 0 none 0 0) (by simp [results, Tryd.results55, go_sem, r0, r1, r2]) rfl (rn_bad HX.out (nd_mk _ _ _ _ _ _ _) (gr_set3 HG6.out (Nat.le_refl _) _ _ _) (Blk.set3_other HP6.out (by omega) _ _ _) (.inl rfl))
theorem refatom_any (b a o d : Nat) (l : ByteArray) (m : Mach) (w : World) (hA : ∀ d', d = d' + 1 → RA b l (o + 1) d') (hod : o + d = 32) (hm : Rx.Good m) (hp : Par w b l a o 0) (hl : l.size ≤ 200) (ha : a < l.size) (h41 : by_ l a ≠ 41) (h124 : by_ l a ≠ 124) :
    Calls Tryd.prog 55 #[.pointer (some ⟨b, 0, none⟩)] w (RN b l o w (atomF l (grpF l d) a m)) := by
  by_cases h40 : by_ l a = 40
  · cases d with
    | zero =>
      obtain rfl : o = 32 := by omega
      exact refatom_deep b a 32 l m w hp hl ha h40
    | succ d => exact refatom_grp b a o d l m w (hA d rfl) hm hp hl ha h40 (by omega)
  · by_cases h91 : by_ l a = 91
    · exact refatom_cls b a o d l m w hp hl ha h91
    · cases hb : ([93, 123, 125, 94, 36, 42, 43, 63] : List Nat).contains (by_ l a) with
      | true => exact refatom_bad b a o d l m w hp hl ha hb
      | false =>
        by_cases h46 : by_ l a = 46
        · exact refatom_dot b a o d l m w hp hl ha h46
        · by_cases h92 : by_ l a = 92
          · by_cases h2 : a + 1 < l.size
            · exact refatom_back b a o d l m w hp hl ha h92 h2
            · exact refatom_back_end b a o d l m w hp hl ha h92 (by omega)
          · exact refatom_self b a o d l m w hp hl ha hb h40 h41 h46 h91 h92 h124
end Go.Proofs.YtahphjaelpgjdaaDoor

namespace Go.Proofs.YtahphjaelpgjdaaDoor
open Go.RowKit Rx
set_option linter.unusedVariables false

abbrev rwC (k : Nat) (K : Value) : Array Value := #[.int .u8 k, .slice none 0 0, K]
theorem own_grown {w w' : World} {base e s n b : Nat} {v : Value} {xs : List Value} (h : w.ownsRow base e s v n xs) (hg : w.grownBy w' (some b)) (hb : v.ownBlock ≠ some b) : w'.ownsRow base e s v n xs := h.kept hg (.inr hb)
theorem own_far {w : World} {base e s n b : Nat} {v : Value} {xs : List Value} (h : w.ownsRow base e s v n xs) (hb : b < base) : v.ownBlock ≠ some b := fun e => by have := (h.lt b e).1; omega
theorem own_new {w : World} {base e s n b : Nat} {v : Value} {xs : List Value} (h : w.ownsRow base e s v n xs) (hb : w.heap.size ≤ b) : v.ownBlock ≠ some b := fun e => by have := (h.lt b e).2; omega
theorem gr_own {w w1 w2 : World} {b base e s n : Nat} {v : Value} {xs : List Value} (h : w.grownBy w1 (some b)) (ho : w1.ownsRow base e s v n xs) (k : w1.grownBy w2 v.ownBlock) (hb : w.heap.size ≤ base) : w.grownBy w2 (some b) :=
  ⟨k.os.trans h.os, k.tape.trans h.tape, k.output.trans h.output, Nat.le_trans h.size k.size, fun j hj hn => (k.block j (Nat.lt_of_lt_of_le hj h.size) (fun e => by have := (ho.lt j e.symm).1; omega)).trans (h.block j hj hn)⟩
/-- what a row's loop holds of memory, its part of the round in a block of its own -/
def Bd (w : World) (b j2 j3 j6 : Nat) (kc : Nat) (K : Value) (n : Nat) (xs : List Value) (wr : World) : Prop :=
  (∃ (k : Nat) (A : Option Addr) (q c : Nat) (B : Option Addr) (q' c' : Nat), Blk wr j6 30 #[.int .u8 k, .slice A q c, .slice B q' c']) ∧ Blk wr j3 30 (rwC kc K) ∧ wr.ownsRow (w.heap.size + 1 + 1) 30 3 K n xs ∧ Blk wr j2 30 zero3 ∧ w.grownBy wr (some b)
theorem Bd.drewN {w : World} {b j2 j3 j6 kc : Nat} {K : Value} {n : Nat} {xs : List Value} {wr : World} (h : Bd w b j2 j3 j6 kc K n xs wr) (d : Nat) : Bd w b j2 j3 j6 kc K n xs (wr.drewN d) :=
  ⟨h.1, h.2.1, h.2.2.1, h.2.2.2.1, gr_drewN h.2.2.2.2 d⟩
theorem Bd.at_ {w : World} {b j2 j3 j6 kc : Nat} {K : Value} {n : Nat} {xs : List Value} {wr : World} (h : Bd w b j2 j3 j6 kc K n xs wr) (hb : b < w.heap.size) (h2 : w.heap.size ≤ j2) (h3 : w.heap.size ≤ j3) (h6 : w.heap.size ≤ j6) (i : Nat) (u : Value) : Bd w b j2 j3 j6 kc K n xs (wr.setCell ⟨b, i, none⟩ u) := by
  obtain ⟨⟨k, A, q, c, B, q', c', a1⟩, a2, a3, a4, a5⟩ := h
  exact ⟨⟨k, A, q, c, B, q', c', a1.other (by omega) i u⟩, a2.other (by omega) i u, own_ne a3 (own_far a3 (by omega)) i u, a4.other (by omega) i u, gr_set a5 i u⟩
theorem own_put3 {w : World} {base e s n j : Nat} {v : Value} {xs : List Value} (h : w.ownsRow base e s v n xs) (hk : v.ownBlock ≠ some j) (v0 v1 v2 : Value) : (put3 w j v0 v1 v2).ownsRow base e s v n xs := own_ne (own_ne (own_ne h hk _ _) hk _ _) hk _ _
theorem own_drew {w : World} {base e s n : Nat} {v : Value} {xs : List Value} (h : w.ownsRow base e s v n xs) : w.drew.ownsRow base e s v n xs := h
theorem Bd.node {w : World} {b j2 j3 j6 kc : Nat} {K : Value} {n : Nat} {xs : List Value} {wr : World} (h : Bd w b j2 j3 j6 kc K n xs wr) (h6 : w.heap.size ≤ j6) (h26 : j2 ≠ j6) (h36 : j3 ≠ j6) (hK : K.ownBlock ≠ some j6) (o : Obj) (k : Nat) (A : Option Addr) (q c : Nat) (B : Option Addr) (q' c' : Nat) :
    Bd w b j2 j3 j6 kc K n xs (put3 (wr.alloc o) j6 (.int .u8 k) (.slice A q c) (.slice B q' c')) := by
  obtain ⟨⟨k0, A0, q0, c0, B0, q0', c0', a1⟩, a2, a3, a4, a5⟩ := h
  exact ⟨⟨k, A, q, c, B, q', c', (a1.alloc o).set3 _ _ _⟩, (a2.alloc o).set3_other h36 _ _ _, own_put3 (own_below a3 ((Below.refl _ _).alloc (Nat.le_refl _) o)) hK _ _ _, (a4.alloc o).set3_other h26 _ _ _, gr_set3 (gr_alloc a5 o) h6 _ _ _⟩
theorem Bd.node2 {w : World} {b j2 j3 j6 kc : Nat} {K : Value} {n : Nat} {xs : List Value} {wr : World} (h : Bd w b j2 j3 j6 kc K n xs wr) (h6 : w.heap.size ≤ j6) (h26 : j2 ≠ j6) (h36 : j3 ≠ j6) (hK : K.ownBlock ≠ some j6) (o : Obj) (k : Nat) (A : Option Addr) (q c : Nat) (B : Option Addr) (q' c' : Nat) :
    Bd w b j2 j3 j6 kc K n xs ((put3 wr j6 (.int .u8 k) (.slice A q c) (.slice B q' c')).alloc o) := by
  obtain ⟨⟨k0, A0, q0, c0, B0, q0', c0', a1⟩, a2, a3, a4, a5⟩ := h
  exact ⟨⟨k, A, q, c, B, q', c', (a1.set3 _ _ _).alloc o⟩, (a2.set3_other h36 _ _ _).alloc o, own_below (own_put3 a3 hK _ _ _) ((Below.refl _ _).alloc (Nat.le_refl _) o), (a4.set3_other h26 _ _ _).alloc o, gr_alloc (gr_set3 a5 h6 _ _ _) o⟩
/-- where a part's loop stands -/
def RepAt (b : Nat) (l : ByteArray) (o : Nat) (m0 : Mach) (a0 : Nat) (target : Res) (wr : World) : Prop :=
  (∃ (kk a2 : Nat) (m2 : Mach) (p2 : Pc), l.size < kk + a2 ∧ a2 ≤ l.size ∧ a0 < a2 ∧ Par wr b l a2 o 0 ∧ Rx.Good m2 ∧ PcIn m2.takes.length p2 ∧ m0.takes.length ≤ m2.takes.length ∧ target = repL l kk a2 m2 p2) ∨
  (∃ pl c : Nat, Par wr b l pl o c ∧ (c = 2 ∨ c = 12) ∧ target = .bad pl c)
/-- where a row's loop stands -/
def CatAt (b : Nat) (l : ByteArray) (o d n : Nat) (target : Res) (wr : World) : Prop :=
  (∃ (k a2 : Nat) (m2 : Mach) (p2 : Pc), l.size < k + a2 ∧ a2 ≤ l.size ∧ n ≤ a2 ∧ Par wr b l a2 o 0 ∧ Rx.Good m2 ∧ PcIn m2.takes.length p2 ∧ target = catL l (grpF l d) k a2 m2 p2) ∨
  (∃ pl c : Nat, Par wr b l pl o c ∧ (c = 2 ∨ c = 12) ∧ n ≤ l.size + 1 ∧ target = .bad pl c)
def RowS (w : World) (b j2 j3 : Nat) (l : ByteArray) (o d : Nat) (target : Res) (wr : World) : Prop :=
  ∃ (K : Value) (n : Nat) (xs : List Value), Blk wr j3 30 (rwC 44 K) ∧ wr.ownsRow (w.heap.size + 1 + 1) 30 3 K n xs ∧ Blk wr j2 30 zero3 ∧ w.grownBy wr (some b) ∧ CatAt b l o d n target wr
theorem node_info : (Tryd.prog.info? 30).map (fun i => (i.zero, i.size, i.bytes)) = some (some (.agg #[.int .u8 0, .slice none 0 0, .slice none 0 0]), 3, 56) := by kernel_rfl
theorem triple_at (W : World) (x0 x1 x2 : Value) (g : Nat) (h : g = W.heap.size) (t : TypeId) : ∀ j u, ([x0, x1, x2] : List Value)[j]? = some u → (W.alloc (.cells #[x0, x1, x2] t)).cell? ((⟨g, 0, none⟩ : Addr).add j) = some u := by
  subst h
  intro j u hu
  match j, hu with
  | 0, hu => simp at hu; subst hu; simp [Addr.add, World.cell?_alloc_at]
  | 1, hu => simp at hu; subst hu; simp [Addr.add, World.cell?_alloc_at]
  | 2, hu => simp at hu; subst hu; simp [Addr.add, World.cell?_alloc_at]
  | j + 3, hu => simp at hu
theorem row_own_nil (w : World) (base : Nat) : w.ownsRow base 30 3 (.slice none 0 0) 0 [] := ⟨rfl, .inl ⟨rfl, rfl⟩⟩
theorem repL_next {l : ByteArray} {k a : Nat} {m : Mach} {p : Pc} (h : seesAny l a [42, 43, 63] = true) : repL l (k + 1) a m p = repL l k (a + 1) (repM m p (by_ l a)) (repP p (by_ l a)) := by
  conv => lhs; unfold repL
  rw [if_pos h]
theorem repL_stop {l : ByteArray} {k a : Nat} {m : Mach} {p : Pc} (h : seesAny l a [42, 43, 63] = false) : repL l (k + 1) a m p = .ok a m p := by
  conv => lhs; unfold repL
  rw [if_neg (by rw [h]; simp)]
theorem catL_stop {l : ByteArray} {grp : Nat → Mach → Res} {k a : Nat} {m : Mach} {p : Pc} (h : ¬ (a < l.size ∧ seesAny l a [124, 41] = false)) : catL l grp (k + 1) a m p = .ok a m p := by
  conv => lhs; unfold catL
  rw [if_neg h]
theorem catL_bad {l : ByteArray} {grp : Nat → Mach → Res} {k a pl c : Nat} {m : Mach} {p : Pc} (h : a < l.size) (h2 : seesAny l a [124, 41] = false) (h3 : repF l grp a m = .bad pl c) : catL l grp (k + 1) a m p = .bad pl c := by
  conv => lhs; unfold catL
  rw [if_pos ⟨h, h2⟩, h3]
theorem catL_ok {l : ByteArray} {grp : Nat → Mach → Res} {k a a1 : Nat} {m m1 : Mach} {p q : Pc} (h : a < l.size) (h2 : seesAny l a [124, 41] = false) (h3 : repF l grp a m = .ok a1 m1 q) : catL l grp (k + 1) a m p = catL l grp k a1 (chainM m1 p q) (chainP p q) := by
  conv => lhs; unfold catL
  rw [if_pos ⟨h, h2⟩, h3]
theorem any_of_sees {l : ByteArray} {a : Nat} (h : sees l a 42 = true ∨ sees l a 43 = true ∨ sees l a 63 = true) : seesAny l a [42, 43, 63] = true := by
  have ha : a < l.size := by rcases h with h | h | h <;> exact sees_lt h
  unfold seesAny
  rw [sees_true ha, sees_true ha, sees_true ha] at h
  rw [decide_eq_true ha, Bool.true_and]
  simp at h ⊢
  omega
theorem any_not {l : ByteArray} {a : Nat} (h1 : sees l a 42 = false) (h2 : sees l a 43 = false) (h3 : sees l a 63 = false) : seesAny l a [42, 43, 63] = false := by
  by_cases ha : a < l.size
  · unfold seesAny
    rw [sees_true ha] at h1 h2 h3
    rw [decide_eq_true ha, Bool.true_and]
    simp at h1 h2 h3 ⊢
    omega
  · unfold seesAny
    simp [ha]
/-- the three signs, asked in turn -/
theorem three_ok (b a o : Nat) (l : ByteArray) (w : World) (hp : Par w b l a o 0) (hl : l.size ≤ 200) (ha : a ≤ l.size) (s : Nat) (n : Nat) :
    Calls Tryd.prog 42 #[.pointer (some ⟨b, 0, none⟩), .int .u8 s] (w.drewN n) fun e w' => e = .returned (.bool (sees l a s)) ∧ ∃ n, w' = w.drewN n := by
  refine (is_any b a o s l _ rfl (w.drewN n) (hp.drewN n) hl ha).mono ?_
  rintro e w' ⟨h1, k, h2⟩; exact ⟨h1, n + k, h2.trans (World.drewN_drewN _ _ _)⟩
theorem three_bad (b a o c : Nat) (l : ByteArray) (w : World) (hp : Par w b l a o c) (hc : c = 2 ∨ c = 12) (s : Nat) (n : Nat) :
    Calls Tryd.prog 42 #[.pointer (some ⟨b, 0, none⟩), .int .u8 s] (w.drewN n) fun e w' => e = .returned (.bool false) ∧ ∃ n, w' = w.drewN n := by
  refine (is_bad b a o c s l (w.drewN n) (hp.drewN n) hc).mono ?_
  rintro e w' ⟨h1, k, h2⟩; exact ⟨h1, n + k, h2.trans (World.drewN_drewN _ _ _)⟩
end Go.Proofs.YtahphjaelpgjdaaDoor

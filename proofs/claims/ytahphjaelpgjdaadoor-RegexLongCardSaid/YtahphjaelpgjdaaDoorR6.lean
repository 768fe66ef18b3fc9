/- The document's reader: an atom; of what stands between parentheses it is told what it does. Condition: a text of at most 200 bytes. -/
import Derived.Test.YtahphjaelpgjdaaDoorR5n
import Derived.Test.YtahphjaelpgjdaaDoorR5y
namespace Go.Proofs.YtahphjaelpgjdaaDoor
open Go.RowKit Rx
set_option linter.unusedVariables false

theorem refclass_any (b a o : Nat) (l : ByteArray) (m : Mach) (w : World) (hp : Par w b l a o 0) (hl : l.size ≤ 200) (ha : a < l.size) :
    Calls Tryd.prog 66 #[.pointer (some ⟨b, 0, none⟩)] w (RN b l o w (classF l a m)) := by
  cases hs : sees l (a + 1) 94 with
  | false => exact refclass_no b a o l m w hp hl ha hs
  | true => exact refclass_yes b a o l m w hp hl ha hs
/-- what the document's alternative does, where so many more parentheses may be opened -/
def RA (b : Nat) (l : ByteArray) (o d : Nat) : Prop := ∀ (m : Mach) (a : Nat) (w : World), Rx.Good m → Par w b l a o 0 → a ≤ l.size →
  Calls Tryd.prog 22 #[.pointer (some ⟨b, 0, none⟩)] w (RN b l o w (altF l (grpF l d) a m))
theorem RN.shape {b : Nat} {l : ByteArray} {o : Nat} {w w' : World} {r : Res} {e : Ending} (h : RN b l o w r e w') : ∃ (k : Nat) (A : Option Addr) (n c : Nat) (B : Option Addr) (n' c' : Nat), e = .returned (ndV k A n c B n' c') := by
  obtain ⟨⟨v, he, k, A, n, c, B, n', c', rfl⟩, _⟩ := h
  exact ⟨k, A, n, c, B, n', c', he⟩
theorem nd_mk (k : Nat) (A : Option Addr) (n c : Nat) (B : Option Addr) (n' c' : Nat) : Nd (ndV k A n c B n' c') := ⟨k, A, n, c, B, n', c', rfl⟩
theorem RN.res {b : Nat} {l : ByteArray} {o : Nat} {w w' : World} {r : Res} {e : Ending} (h : RN b l o w r e w') {v : Value} (hv : Nd v) {w0 w2 : World} (h0 : w0.grownBy w (some b)) (hk : ∀ a o c : Nat, Par w' b l a o c → Par w2 b l a o c) (h2 : w0.grownBy w' (some b) → w0.grownBy w2 (some b)) : RN b l o w0 r (.returned v) w2 := by
  obtain ⟨_, hg, hr⟩ := h
  refine ⟨⟨v, rfl, hv⟩, h2 (gr_trans h0 hg), ?_⟩
  cases r with
  | bad pl c => exact ⟨hk _ _ _ hr.1, hr.2⟩
  | ok a m p => exact hk _ _ _ hr
set_option maxRecDepth 100000 in
set_option maxHeartbeats 8000000 in
theorem refatom_deep (b a o : Nat) (l : ByteArray) (m : Mach) (w : World) (hp : Par w b l a 32 0) (hl : l.size ≤ 200) (ha : a < l.size) (hb : by_ l a = 40) :
    Calls Tryd.prog 55 #[.pointer (some ⟨b, 0, none⟩)] w (RN b l 32 w (atomF l (grpF l 0) a m)) := by
  have HX : Hid (atomF l (grpF l 0) a m = .bad a 12) := by
    show atomF l (grpF l 0) a m = _
    unfold atomF
    rw [if_pos hb]
    rfl
  have HP := Lib.hid (hp.alloc (.cells zero3 30))
  have HR := Lib.hid (Blk.new w 30 zero3)
  have HG := Lib.hid (gr_alloc (gr_refl w (some b)) (.cells zero3 30))
  have hbl : b < w.heap.size := Blk.lt hp
  have hq : l[a].toNat = 40 := by rw [← by_eq l a ha]; exact hb
  have h0 : (0 : Int) ≤ (a : Int) := by omega
  have h1 : (a : Int) < (l.size : Int) := by omega
  clear hp hb
  go_enter Tryd.func55, Tryd.ntmps55
  go_upto_region 1 with fail
  generalize hW : w.alloc (.cells zero3 30) = W at *
  clear hW
  obtain ⟨c0, c1, c2, c3⟩ := HP.out.cells
  go_wp2_with fail
  go_quiet (fail)
  rename_i nq
  have HP1 := Lib.hid (HP.out.drewN nq)
  have HR1 := Lib.hid (HR.out.drewN nq)
  have HG1 := Lib.hid (gr_drewN HG.out nq)
  generalize W.drewN nq = W1 at *
  clear HP HR HG c0 c1 c2 c3
  obtain ⟨c0, c1, c2, c3⟩ := HP1.out.cells
  have f3 := Blk.frozen HP1.out 3
  go_upto_region 5 with fail
  have HP2 := Lib.hid (HP1.out.wr_ 12 (.int .i64 12) rfl)
  have HR2 := Lib.hid (HR1.out.other (k := b) (by omega) 3 (.int .i64 12))
  have HG2 := Lib.hid (gr_set HG1.out 3 (.int .i64 12))
  generalize W1.setCell ⟨b, 3, none⟩ (.int .i64 12) = W2 at *
  clear HP1 HR1 HG1 c0 c1 c2 c3 f3
  obtain ⟨r0, r1, r2⟩ := cells3 HR2.out
  obtain ⟨z0, z1, z2⟩ := frozen3 HR2.out
  go_wp2
  exact bodyPost_ret (v := ndV 0 none 0 0 none 0 0) (by simp [results, Tryd.results55, go_sem, r0, r1, r2]) rfl (rn_bad HX.out (nd_mk _ _ _ _ _ _ _) (gr_set3 HG2.out (Nat.le_refl _) _ _ _) (Blk.set3_other HP2.out (by omega) _ _ _) (.inr rfl))
set_option maxRecDepth 100000 in
set_option maxHeartbeats 8000000 in
theorem refatom_grp (b a o d : Nat) (l : ByteArray) (m : Mach) (w : World) (hA : RA b l (o + 1) d) (hm : Rx.Good m) (hp : Par w b l a o 0) (hl : l.size ≤ 200) (ha : a < l.size) (hb : by_ l a = 40) (ho : o < 32) :
    Calls Tryd.prog 55 #[.pointer (some ⟨b, 0, none⟩)] w (RN b l o w (atomF l (grpF l (d + 1)) a m)) := by
  have HX : Hid (∀ r, altF l (grpF l d) (a + 1) m = r → atomF l (grpF l (d + 1)) a m = match r with | .bad pl c => .bad pl c | .ok a1 m1 p => if sees l a1 41 = true then .ok (a1 + 1) m1 p else .bad a1 2) := fun r h => by
    subst h
    unfold atomF
    rw [if_pos hb]
    conv => lhs; unfold grpF
    rfl
  have HP := Lib.hid (hp.alloc (.cells zero3 30))
  have HR := Lib.hid (Blk.new w 30 zero3)
  have HG := Lib.hid (gr_alloc (gr_refl w (some b)) (.cells zero3 30))
  have hbl : b < w.heap.size := Blk.lt hp
  have hq : l[a].toNat = 40 := by rw [← by_eq l a ha]; exact hb
  have h0 : (0 : Int) ≤ (a : Int) := by omega
  have h1 : (a : Int) < (l.size : Int) := by omega
  have ho32 : ((o : Int) == 32) = false := by simp; omega
  have HA := Lib.hid (fun W hW => hA m (a + 1) W hm hW ha)
  have HIS := Lib.hid (fun a1 r (hr : sees l a1 41 = r) (h : a1 ≤ l.size) W hW => is_any b a1 o 41 l r hr W hW hl h)
  have HIB := Lib.hid (fun a1 c hc W (hW : Par W b l a1 o c) => is_bad b a1 o c 41 l W hW hc)
  have HFI := Lib.hid (alt_fine (grp_fine l d) (show a + 1 ≤ l.size from ha) hm)
  clear hp hb hA
  go_enter Tryd.func55, Tryd.ntmps55
  go_upto_region 1 with fail
  generalize hW : w.alloc (.cells zero3 30) = W at *
  have hWs : W.heap.size = w.heap.size + 1 := by rw [← hW, World.size_alloc]
  clear hW
  obtain ⟨c0, c1, c2, c3⟩ := HP.out.cells
  go_wp2_with fail
  go_quiet (fail)
  rename_i nq
  have HP1 := Lib.hid (HP.out.drewN nq)
  have HR1 := Lib.hid (HR.out.drewN nq)
  have HG1 := Lib.hid (gr_drewN HG.out nq)
  generalize W.drewN nq = W1 at *
  clear HP HR HG c0 c1 c2 c3 hWs
  obtain ⟨c0, c1, c2, c3⟩ := HP1.out.cells
  have f1 := Blk.frozen HP1.out 1
  go_upto_region 7 with fail
  have HP2 := Lib.hid (HP1.out.at_ (a + 1) (.int .i64 ((a : Int) + 1)) (by rfl))
  have HR2 := Lib.hid (HR1.out.other (k := b) (by omega) 1 (.int .i64 ((a : Int) + 1)))
  have HG2 := Lib.hid (gr_set HG1.out 1 (.int .i64 ((a : Int) + 1)))
  generalize W1.setCell ⟨b, 1, none⟩ (.int .i64 ((a : Int) + 1)) = W2 at *
  clear HP1 HR1 HG1 c0 c1 c2 c3 f1
  obtain ⟨c0, c1, c2, c3⟩ := HP2.out.cells
  have f2 := Blk.frozen HP2.out 2
  go_upto_region 8 with fail
  have HP3 := Lib.hid (HP2.out.op_ (o + 1) (.int .i64 ((o : Int) + 1)) (by rfl))
  have HR3 := Lib.hid (HR2.out.other (k := b) (by omega) 2 (.int .i64 ((o : Int) + 1)))
  have HG3 := Lib.hid (gr_set HG2.out 2 (.int .i64 ((o : Int) + 1)))
  generalize W2.setCell ⟨b, 2, none⟩ (.int .i64 ((o : Int) + 1)) = W3 at *
  clear HP2 HR2 HG2 c0 c1 c2 c3 f2
  have HA1 := Lib.hid (HA.out W3 HP3.out)
  clear HA
  go_wp2_with fail
  refine (HA1.out).mono ?_
  rintro e W4 hrn
  obtain ⟨nk, nA, nn, nc, nB, nn', nc', rfl⟩ := hrn.shape
  obtain ⟨hv4, hg4, hres⟩ := hrn
  have HR4 := Lib.hid ((HR3.out.grown hg4 (by intro e; injection e; omega)).alloc (.cells #[.int .u8 nk, .slice nA nn nc, .slice nB nn' nc'] 30))
  have HG4 := Lib.hid (gr_alloc (gr_trans HG3.out hg4) (.cells #[.int .u8 nk, .slice nA nn nc, .slice nB nn' nc'] 30))
  have HN4 := Lib.hid (Blk.new W4 30 #[.int .u8 nk, .slice nA nn nc, .slice nB nn' nc'])
  have hsz : w.heap.size < W4.heap.size := (HR3.out.grown hg4 (by intro e; injection e; omega)).lt
  clear HA1 hg4 hv4
  cases hr : altF l (grpF l d) (a + 1) m with
  | bad pl c =>
    rw [hr] at hres
    have HP4 := Lib.hid (hres.1.alloc (.cells #[.int .u8 nk, .slice nA nn nc, .slice nB nn' nc'] 30))
    have hc := hres.2
    have HX1 : Hid (atomF l (grpF l (d + 1)) a m = .bad pl c) := HX.out _ hr
    clear hr hres HX HFI HIS
    go_upto_region 9 with fail
    generalize hW : W4.alloc (.cells #[.int .u8 nk, .slice nA nn nc, .slice nB nn' nc'] 30) = W5 at *
    generalize hj : W4.heap.size = j4 at *
    clear hW hj HP3 HR3 HG3
    obtain ⟨c0, c1, c2, c3⟩ := HP4.out.cells
    have f2 := Blk.frozen HP4.out 2
    go_upto_region 10 with fail
    have HP5 : Hid (Par (W5.setCell ⟨b, 2, none⟩ (.int .i64 o)) b l pl o c) := HP4.out.op_ o _ rfl
    have HR5 := Lib.hid (HR4.out.other (k := b) (by omega) 2 (.int .i64 o))
    have HG5 := Lib.hid (gr_set HG4.out 2 (.int .i64 o))
    have HN5 := Lib.hid (HN4.out.other (k := b) (by omega) 2 (.int .i64 o))
    generalize W5.setCell ⟨b, 2, none⟩ (.int .i64 o) = W6 at *
    clear HP4 HR4 HG4 HN4 c0 c1 c2 c3 f2
    obtain ⟨c0, c1, c2, c3⟩ := HP5.out.cells
    obtain ⟨r0, r1, r2⟩ := cells3 HR5.out
    obtain ⟨z0, z1, z2⟩ := frozen3 HR5.out
    obtain ⟨n0, n1, n2⟩ := cells3 HN5.out
    have hc0 : ((c : Int) == 0) = false := by simp; omega
    have hc0' : (c : Int) ≠ 0 := by omega
    go_wp2
    exact bodyPost_ret (v := ndV nk nA nn nc nB nn' nc') (by simp [results, Tryd.results55, go_sem, r0, r1, r2]) rfl (rn_bad HX1.out (nd_mk _ _ _ _ _ _ _) (gr_set3 HG5.out (Nat.le_refl _) _ _ _) (Blk.set3_other HP5.out (by omega) _ _ _) hc)
  | ok a1 m1 p1 =>
    rw [hr] at hres
    have HP4 := Lib.hid (Par.alloc hres (.cells #[.int .u8 nk, .slice nA nn nc, .slice nB nn' nc'] 30))
    have HX1 : Hid (atomF l (grpF l (d + 1)) a m = if sees l a1 41 = true then .ok (a1 + 1) m1 p1 else .bad a1 2) := HX.out _ hr
    have ha1 : a1 ≤ l.size := (HFI.out a1 m1 p1 hr).2.1
    clear hr hres HX HFI HIB
    go_upto_region 9 with fail
    generalize hW : W4.alloc (.cells #[.int .u8 nk, .slice nA nn nc, .slice nB nn' nc'] 30) = W5 at *
    generalize hj : W4.heap.size = j4 at *
    clear hW hj HP3 HR3 HG3
    obtain ⟨c0, c1, c2, c3⟩ := HP4.out.cells
    have f2 := Blk.frozen HP4.out 2
    go_upto_region 10 with fail
    have HP5 : Hid (Par (W5.setCell ⟨b, 2, none⟩ (.int .i64 o)) b l a1 o 0) := HP4.out.op_ o _ rfl
    have HR5 := Lib.hid (HR4.out.other (k := b) (by omega) 2 (.int .i64 o))
    have HG5 := Lib.hid (gr_set HG4.out 2 (.int .i64 o))
    have HN5 := Lib.hid (HN4.out.other (k := b) (by omega) 2 (.int .i64 o))
    generalize W5.setCell ⟨b, 2, none⟩ (.int .i64 o) = W6 at *
    clear HP4 HR4 HG4 HN4 c0 c1 c2 c3 f2
    cases hs : sees l a1 41 with
    | false =>
      have HS := Lib.hid (HIS.out a1 false hs ha1 W6 HP5.out)
      have HX2 : Hid (atomF l (grpF l (d + 1)) a m = .bad a1 2) := HX1.out.trans (if_neg (by rw [hs]; simp))
      clear hs HX1 HIS
      obtain ⟨c0, c1, c2, c3⟩ := HP5.out.cells
      go_wp2_with fail
      refine (HS.out).mono ?_
      rintro e w7 ⟨rfl, n7, rfl⟩
      have HP7 := Lib.hid (HP5.out.drewN n7)
      have HR7 := Lib.hid (HR5.out.drewN n7)
      have HG7 := Lib.hid (gr_drewN HG5.out n7)
      have HN7 := Lib.hid (HN5.out.drewN n7)
      generalize W6.drewN n7 = W7 at *
      clear HP5 HR5 HG5 HN5 HS c0 c1 c2 c3
      obtain ⟨c0, c1, c2, c3⟩ := HP7.out.cells
      have f3 := Blk.frozen HP7.out 3
      go_upto_region 12 with fail
      have HP8 := Lib.hid (HP7.out.wr_ 2 (.int .i64 2) rfl)
      have HR8 := Lib.hid (HR7.out.other (k := b) (by omega) 3 (.int .i64 2))
      have HG8 := Lib.hid (gr_set HG7.out 3 (.int .i64 2))
      have HN8 := Lib.hid (HN7.out.other (k := b) (by omega) 3 (.int .i64 2))
      generalize W7.setCell ⟨b, 3, none⟩ (.int .i64 2) = W8 at *
      clear HP7 HR7 HG7 HN7 c0 c1 c2 c3 f3
      obtain ⟨c0, c1, c2, c3⟩ := HP8.out.cells
      obtain ⟨r0, r1, r2⟩ := cells3 HR8.out
      obtain ⟨z0, z1, z2⟩ := frozen3 HR8.out
      obtain ⟨n0, n1, n2⟩ := cells3 HN8.out
      go_wp2
      exact bodyPost_ret (v := ndV nk nA nn nc nB nn' nc') (by simp [results, Tryd.results55, go_sem, r0, r1, r2]) rfl (rn_bad HX2.out (nd_mk _ _ _ _ _ _ _) (gr_set3 HG8.out (Nat.le_refl _) _ _ _) (Blk.set3_other HP8.out (by omega) _ _ _) (.inl rfl))
    | true =>
      have HS := Lib.hid (HIS.out a1 true hs ha1 W6 HP5.out)
      have HX2 : Hid (atomF l (grpF l (d + 1)) a m = .ok (a1 + 1) m1 p1) := HX1.out.trans (if_pos hs)
      clear hs HX1 HIS
      obtain ⟨c0, c1, c2, c3⟩ := HP5.out.cells
      go_wp2_with fail
      refine (HS.out).mono ?_
      rintro e w7 ⟨rfl, n7, rfl⟩
      have HP7 := Lib.hid (HP5.out.drewN n7)
      have HR7 := Lib.hid (HR5.out.drewN n7)
      have HG7 := Lib.hid (gr_drewN HG5.out n7)
      have HN7 := Lib.hid (HN5.out.drewN n7)
      generalize W6.drewN n7 = W7 at *
      clear HP5 HR5 HG5 HN5 HS c0 c1 c2 c3
      obtain ⟨c0, c1, c2, c3⟩ := HP7.out.cells
      have f1 := Blk.frozen HP7.out 1
      go_upto_region 14 with fail
      have HP8 := Lib.hid (HP7.out.at_ (a1 + 1) (.int .i64 ((a1 : Int) + 1)) (by rfl))
      have HR8 := Lib.hid (HR7.out.other (k := b) (by omega) 1 (.int .i64 ((a1 : Int) + 1)))
      have HG8 := Lib.hid (gr_set HG7.out 1 (.int .i64 ((a1 : Int) + 1)))
      have HN8 := Lib.hid (HN7.out.other (k := b) (by omega) 1 (.int .i64 ((a1 : Int) + 1)))
      generalize W7.setCell ⟨b, 1, none⟩ (.int .i64 ((a1 : Int) + 1)) = W8 at *
      clear HP7 HR7 HG7 HN7 c0 c1 c2 c3 f1
      obtain ⟨r0, r1, r2⟩ := cells3 HR8.out
      obtain ⟨z0, z1, z2⟩ := frozen3 HR8.out
      obtain ⟨n0, n1, n2⟩ := cells3 HN8.out
      go_wp2
      exact bodyPost_ret (v := ndV nk nA nn nc nB nn' nc') (by simp [results, Tryd.results55, go_sem, r0, r1, r2]) rfl (rn_ok HX2.out (nd_mk _ _ _ _ _ _ _) (gr_set3 HG8.out (Nat.le_refl _) _ _ _) (Blk.set3_other HP8.out (by omega) _ _ _))
set_option maxRecDepth 100000 in
set_option maxHeartbeats 8000000 in
theorem refatom_cls (b a o d : Nat) (l : ByteArray) (m : Mach) (w : World) (hp : Par w b l a o 0) (hl : l.size ≤ 200) (ha : a < l.size) (hb : by_ l a = 91) :
    Calls Tryd.prog 55 #[.pointer (some ⟨b, 0, none⟩)] w (RN b l o w (atomF l (grpF l d) a m)) := by
  have HX : Hid (atomF l (grpF l d) a m = classF l a m) := by
    show atomF l (grpF l d) a m = _
    unfold atomF
    rw [if_neg (by omega), if_pos hb]
  have HP := Lib.hid (hp.alloc (.cells zero3 30))
  have HR := Lib.hid (Blk.new w 30 zero3)
  have HG := Lib.hid (gr_alloc (gr_refl w (some b)) (.cells zero3 30))
  have hbl : b < w.heap.size := Blk.lt hp
  have hq : l[a].toNat = 91 := by rw [← by_eq l a ha]; exact hb
  have h0 : (0 : Int) ≤ (a : Int) := by omega
  have h1 : (a : Int) < (l.size : Int) := by omega
  have HC := Lib.hid (fun W hW => refclass_any b a o l m W hW hl ha)
  clear hp hb
  go_enter Tryd.func55, Tryd.ntmps55
  go_upto_region 1 with fail
  generalize hW : w.alloc (.cells zero3 30) = W at *
  clear hW
  obtain ⟨c0, c1, c2, c3⟩ := HP.out.cells
  go_wp2_with fail
  go_quiet (fail)
  rename_i nq
  have HP1 := Lib.hid (HP.out.drewN nq)
  have HR1 := Lib.hid (HR.out.drewN nq)
  have HG1 := Lib.hid (gr_drewN HG.out nq)
  generalize W.drewN nq = W1 at *
  clear HP HR HG c0 c1 c2 c3
  have HC1 := Lib.hid (HC.out W1 HP1.out)
  clear HC
  go_wp2_with fail
  refine (HC1.out).mono ?_
  rintro e W4 hrn
  have HRN := Lib.hid hrn
  obtain ⟨nk, nA, nn, nc, nB, nn', nc', rfl⟩ := hrn.shape
  have HR4 := Lib.hid (HR1.out.grown hrn.2.1 (by intro e; injection e; omega))
  clear hrn
  obtain ⟨r0, r1, r2⟩ := cells3 HR4.out
  obtain ⟨z0, z1, z2⟩ := frozen3 HR4.out
  go_wp2
  rw [HX.out]
  exact bodyPost_ret (v := ndV nk nA nn nc nB nn' nc') (by simp [results, Tryd.results55, go_sem, r0, r1, r2]) rfl (HRN.out.res (nd_mk _ _ _ _ _ _ _) HG1.out (fun _ _ _ h => Blk.set3_other h (by omega) _ _ _) (fun h => gr_set3 h (Nat.le_refl _) _ _ _))
end Go.Proofs.YtahphjaelpgjdaaDoor

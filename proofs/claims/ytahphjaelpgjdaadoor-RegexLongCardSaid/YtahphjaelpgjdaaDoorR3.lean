/- The document's reader: a byte of a class. Condition: a text of at most 200 bytes. -/
import Derived.Test.YtahphjaelpgjdaaDoorR2
namespace Go.Proofs.YtahphjaelpgjdaaDoor
open Go.RowKit Rx
set_option linter.unusedVariables false

theorem gr_refl (w : World) (row : Option Nat) : w.grownBy w row := ⟨rfl, rfl, rfl, Nat.le_refl _, fun _ _ _ => rfl⟩
theorem gr_trans {w w1 w2 : World} {row : Option Nat} (h : w.grownBy w1 row) (k : w1.grownBy w2 row) : w.grownBy w2 row :=
  ⟨k.os.trans h.os, k.tape.trans h.tape, k.output.trans h.output, Nat.le_trans h.size k.size, fun j hj hn => (k.block j (Nat.lt_of_lt_of_le hj h.size) hn).trans (h.block j hj hn)⟩
theorem gr_below {w w1 w2 : World} {row : Option Nat} (h : w.grownBy w1 row) (k : Below w1.heap.size w1 w2) : w.grownBy w2 row := gr_trans h (below_grown k row)
theorem gr_new {w w1 w2 : World} {row : Option Nat} (h : w.grownBy w1 row) (k : Below w.heap.size w1 w2) : w.grownBy w2 row :=
  ⟨k.os.trans h.os, k.tape.trans h.tape, k.output.trans h.output, Nat.le_trans h.size k.size, fun j hj hn => (k.block j hj).trans (h.block j hj hn)⟩
theorem gr_alloc {w w1 : World} {row : Option Nat} (h : w.grownBy w1 row) (o : Obj) : w.grownBy (w1.alloc o) row := gr_below h ((Below.refl _ _).alloc (Nat.le_refl _) o)
theorem gr_set {w w1 : World} {b : Nat} (h : w.grownBy w1 (some b)) (i : Nat) (u : Value) : w.grownBy (w1.setCell ⟨b, i, none⟩ u) (some b) := gr_trans h (grown_set w1 b i u)
theorem gr_set_new {w w1 : World} {row : Option Nat} {g : Nat} (h : w.grownBy w1 row) (hg : w.heap.size ≤ g) (i : Nat) (u : Value) : w.grownBy (w1.setCell ⟨g, i, none⟩ u) row :=
  gr_new h ((Below.refl _ _).setCell (p := ⟨g, i, none⟩) hg u)
theorem gr_drewN {w w1 : World} {row : Option Nat} (h : w.grownBy w1 row) (n : Nat) : w.grownBy (w1.drewN n) row := ⟨h.os, h.tape, h.output, h.size, h.block⟩
theorem gr_drew {w w1 : World} {row : Option Nat} (h : w.grownBy w1 row) : w.grownBy w1.drew row := ⟨h.os, h.tape, h.output, h.size, h.block⟩

def LP (b : Nat) (l : ByteArray) (o : Nat) (w : World) (r : CR) (e : Ending) (w' : World) : Prop :=
  w.grownBy w' (some b) ∧ match r with
  | .bad pl => e = .returned (.int .i64 0) ∧ Par w' b l pl o 2
  | .ok a c => e = .returned (.int .i64 c) ∧ Par w' b l a o 0
theorem lp_bad {b : Nat} {l : ByteArray} {o : Nat} {w w' : World} {r : CR} {pl : Nat} (hr : r = .bad pl) (hg : w.grownBy w' (some b)) (hp : Par w' b l pl o 2) : LP b l o w r (.returned (.int .i64 0)) w' := by
  subst hr; exact ⟨hg, rfl, hp⟩
theorem lp_ok {b : Nat} {l : ByteArray} {o : Nat} {w w' : World} {r : CR} {a c : Nat} (hr : r = .ok a c) (hg : w.grownBy w' (some b)) (hp : Par w' b l a o 0) : LP b l o w r (.returned (.int .i64 c)) w' := by
  subst hr; exact ⟨hg, rfl, hp⟩
set_option maxRecDepth 100000 in
set_option maxHeartbeats 4000000 in
theorem letter_end (b o : Nat) (l : ByteArray) (w : World) (hp : Par w b l l.size o 0) (hl : l.size ≤ 200) :
    Calls Tryd.prog 75 #[.pointer (some ⟨b, 0, none⟩)] w (LP b l o w (ccharF l l.size)) := by
  have HX : Hid (ccharF l l.size = .bad l.size) := by
    show ccharF l l.size = _
    unfold ccharF charF
    rw [if_neg (by unfold seesAny; simp), sees_end, if_neg (by simp)]
    rfl
  have HK := Lib.hid (peek_out b o l w hp hl)
  have HP := Lib.hid hp
  clear hp
  go_enter Tryd.func75, Tryd.ntmps75
  go_wp2_with fail
  refine (HK.out).mono ?_
  rintro e w1 ⟨rfl, n, rfl⟩
  have HP1 := Lib.hid (HP.out.drewN n)
  have HG1 := Lib.hid (gr_drewN (gr_refl w (some b)) n)
  generalize w.drewN n = W at *
  have c3 := HP1.out.cells.2.2.2
  have f3 := Blk.frozen HP1.out 3
  go_wp2
  go_ret
  exact lp_bad HX.out (gr_set HG1.out _ _) (HP1.out.wr_ 2 _ rfl)
set_option maxRecDepth 100000 in
set_option maxHeartbeats 4000000 in
theorem letter_back (b a o : Nat) (l : ByteArray) (w : World) (hp : Par w b l a o 0) (hl : l.size ≤ 200) (ha : a < l.size) (hb : by_ l a = 92) :
    Calls Tryd.prog 75 #[.pointer (some ⟨b, 0, none⟩)] w (LP b l o w (ccharF l a)) := by
  have hX : ccharF l a = if a + 1 < l.size then .ok (a + 1 + 1) (by_ l (a + 1)) else .bad (a + 1) := by
    unfold ccharF charF
    rw [if_neg (by unfold seesAny; simp [hb]), if_pos (show sees l a 92 = true by rw [sees_true ha, hb]; rfl)]
  have HK := Lib.hid (peek_in b a o l w hp hl ha)
  rw [hb] at HK
  have HP := Lib.hid hp
  clear hp
  by_cases h2 : a + 1 < l.size
  · rw [if_pos h2] at hX
    have HX := Lib.hid hX
    have HK2 := Lib.hid (fun W (h : Par W b l (a + 1) o 0) => peek_in b (a + 1) o l W h hl h2)
    have hlt := by_lt l (a + 1)
    generalize by_ l (a + 1) = x at *
    clear hX
    go_enter Tryd.func75, Tryd.ntmps75
    go_wp2_with fail
    refine (HK.out).mono ?_
    rintro e w1 ⟨rfl, n, rfl⟩
    have HP1 := Lib.hid (HP.out.drewN n)
    have HG1 := Lib.hid (gr_drewN (gr_refl w (some b)) n)
    generalize w.drewN n = W at *
    have c1 := HP1.out.cells.2.1
    have f1 := Blk.frozen HP1.out 1
    go_wp2_with fail
    have HP2 := Lib.hid (HP1.out.at_ (a + 1) (.int .i64 ((a : Int) + 1)) (by rfl))
    have HG2 := Lib.hid (gr_set HG1.out 1 (.int .i64 ((a : Int) + 1)))
    refine (HK2.out _ HP2.out).mono ?_
    rintro e w2 ⟨rfl, n2, rfl⟩
    have HP3 := Lib.hid (HP2.out.drewN n2)
    have HG3 := Lib.hid (gr_drewN HG2.out n2)
    generalize (W.setCell ⟨b, 1, none⟩ (.int .i64 ((a : Int) + 1))).drewN n2 = W3 at *
    clear HP1 HP2 HG1 HG2 c1 f1
    have c1 := HP3.out.cells.2.1
    have f1 := Blk.frozen HP3.out 1
    go_wp2
    go_ret
    exact lp_ok HX.out (gr_set HG3.out _ _) (HP3.out.at_ (a + 1 + 1) _ (by rfl))
  · rw [if_neg h2] at hX
    have HX := Lib.hid hX
    obtain ⟨a1, ha1⟩ : ∃ a1, a1 = a + 1 := ⟨_, rfl⟩
    have he : a1 = l.size := by omega
    rw [← ha1, he] at HX
    have HK2 := Lib.hid (fun W (h : Par W b l l.size o 0) => peek_out b o l W h hl)
    clear hX
    go_enter Tryd.func75, Tryd.ntmps75
    go_wp2_with fail
    refine (HK.out).mono ?_
    rintro e w1 ⟨rfl, n, rfl⟩
    have HP1 := Lib.hid (HP.out.drewN n)
    have HG1 := Lib.hid (gr_drewN (gr_refl w (some b)) n)
    generalize w.drewN n = W at *
    have c1 := HP1.out.cells.2.1
    have f1 := Blk.frozen HP1.out 1
    go_wp2_with fail
    have HP2 : Hid (Par (W.setCell ⟨b, 1, none⟩ (.int .i64 ((a : Int) + 1))) b l l.size o 0) := HP1.out.at_ l.size (.int .i64 ((a : Int) + 1)) (by rw [← he, ha1]; rfl)
    have HG2 := Lib.hid (gr_set HG1.out 1 (.int .i64 ((a : Int) + 1)))
    refine (HK2.out _ HP2.out).mono ?_
    rintro e w2 ⟨rfl, n2, rfl⟩
    have HP3 := Lib.hid (HP2.out.drewN n2)
    have HG3 := Lib.hid (gr_drewN HG2.out n2)
    generalize (W.setCell ⟨b, 1, none⟩ (.int .i64 ((a : Int) + 1))).drewN n2 = W3 at *
    clear HP1 HP2 HG1 HG2 c1 f1
    have c3 := HP3.out.cells.2.2.2
    have f3 := Blk.frozen HP3.out 3
    go_wp2
    go_ret
    exact lp_bad HX.out (gr_set HG3.out _ _) (HP3.out.wr_ 2 _ rfl)
set_option maxRecDepth 100000 in
set_option maxHeartbeats 4000000 in
theorem letter_self (b a o : Nat) (l : ByteArray) (w : World) (hp : Par w b l a o 0) (hl : l.size ≤ 200) (ha : a < l.size) (hb : by_ l a ≠ 92) :
    Calls Tryd.prog 75 #[.pointer (some ⟨b, 0, none⟩)] w (LP b l o w (ccharF l a)) := by
  have hX : ccharF l a = if [93, 91, 94, 45].contains (by_ l a) = true then .bad a else .ok (a + 1) (by_ l a) := by
    unfold ccharF charF seesAny
    rw [decide_eq_true ha, Bool.true_and, if_neg (show ¬ sees l a 92 = true by rw [sees_true ha]; simpa using hb), if_pos ha]
  have HK := Lib.hid (peek_in b a o l w hp hl ha)
  have HP := Lib.hid hp
  have he : (((by_ l a : Nat) : Int) == 92) = false := by simp; omega
  have hs : ((⟨#[93, 91, 94, 45]⟩ : ByteArray).data.toList.map UInt8.toNat) = [93, 91, 94, 45] := rfl
  have HS := Lib.hid (fun n => sign_any (by_ l a) ⟨#[93, 91, 94, 45]⟩ ([93, 91, 94, 45].contains (by_ l a)) (by rw [hs]) (by decide) n)
  have hlt := by_lt l a
  generalize by_ l a = x at *
  clear hp hs
  cases hm : ([93, 91, 94, 45] : List Nat).contains x with
  | true =>
    rw [hm] at HS
    rw [if_pos hm] at hX
    have HX := Lib.hid hX
    clear hX hm
    go_enter Tryd.func75, Tryd.ntmps75
    go_wp2_with fail
    refine (HK.out).mono ?_
    rintro e w1 ⟨rfl, n, rfl⟩
    have HP1 := Lib.hid (HP.out.drewN n)
    have HG1 := Lib.hid (gr_drewN (gr_refl w (some b)) n)
    generalize w.drewN n = W at *
    go_wp2_with fail
    refine (HS.out _).mono ?_
    rintro e w2 ⟨rfl, n2, rfl⟩
    have HP3 := Lib.hid (HP1.out.drewN n2)
    have HG3 := Lib.hid (gr_drewN HG1.out n2)
    generalize W.drewN n2 = W3 at *
    clear HP1 HG1
    have c3 := HP3.out.cells.2.2.2
    have f3 := Blk.frozen HP3.out 3
    go_wp2
    go_ret
    exact lp_bad HX.out (gr_set HG3.out _ _) (HP3.out.wr_ 2 _ rfl)
  | false =>
    rw [hm] at HS
    rw [if_neg (by rw [hm]; simp)] at hX
    have HX := Lib.hid hX
    clear hX hm
    go_enter Tryd.func75, Tryd.ntmps75
    go_wp2_with fail
    refine (HK.out).mono ?_
    rintro e w1 ⟨rfl, n, rfl⟩
    have HP1 := Lib.hid (HP.out.drewN n)
    have HG1 := Lib.hid (gr_drewN (gr_refl w (some b)) n)
    generalize w.drewN n = W at *
    go_wp2_with fail
    refine (HS.out _).mono ?_
    rintro e w2 ⟨rfl, n2, rfl⟩
    have HP3 := Lib.hid (HP1.out.drewN n2)
    have HG3 := Lib.hid (gr_drewN HG1.out n2)
    generalize W.drewN n2 = W3 at *
    clear HP1 HG1
    have c1 := HP3.out.cells.2.1
    have f1 := Blk.frozen HP3.out 1
    go_wp2
    go_ret
    exact lp_ok HX.out (gr_set HG3.out _ _) (HP3.out.at_ (a + 1) _ (by rfl))
theorem letter_any (b a o : Nat) (l : ByteArray) (w : World) (hp : Par w b l a o 0) (hl : l.size ≤ 200) (ha : a ≤ l.size) :
    Calls Tryd.prog 75 #[.pointer (some ⟨b, 0, none⟩)] w (LP b l o w (ccharF l a)) := by
  by_cases h : a < l.size
  · by_cases hb : by_ l a = 92
    · exact letter_back b a o l w hp hl h hb
    · exact letter_self b a o l w hp hl h hb
  · obtain rfl : a = l.size := by omega
    exact letter_end b o l w hp hl
end Go.Proofs.YtahphjaelpgjdaaDoor

/- The document's right matchers. Condition: a name of at most 65536 bytes. -/
import Derived.Test.YticmkabafmmlhaaGreatDoorN12j
import Derived.Test.YticmkabafmmlhaaGreatDoorKRfj
import Derived.Test.YticmkabafmmlhaaGreatDoorD7j
import Derived.Test.YticmkabafmmlhaaGreatDoorD8j
import Derived.Test.YticmkabafmmlhaaGreatDoorD6j
import Derived.Test.YticmkabafmmlhaaGreatDoorN15j
set_option linter.unusedVariables false
set_option linter.unusedSimpArgs false
set_option maxRecDepth 100000
set_option maxHeartbeats 4000000
namespace Go.Proofs.YticmkabafmmlhaaGreatDoor.Ck
open Go.RowKit
open Lib (hid)
theorem parse_code (v : ByteArray) (w : World) : Calls Tryz.prog 50 #[.string v] w fun e w' => ∃ (k n n' c c' : Nat) (A B : Option Addr) (x q : Int), e = .returned (.tuple #[.agg #[.int .u8 k, .slice A n c, .slice B n' c'], .int .i64 x, .int .i64 q]) ∧ (q == 0) = patB v ∧ Below w.heap.size w w' := by
 refine (Rg.parse_any v w).mono ?_
 rintro e w' ⟨hb, nd, ⟨k, A, n, c, B, n', c', rfl⟩, hp⟩
 unfold patB
 cases hr : Rx.readF v with
 | bad pl cc =>
   rw [hr] at hp
   obtain ⟨he, hc⟩ := hp
   exact ⟨k, n, n', c, c', A, B, _, _, he, by simp; omega, hb⟩
 | ok a m p =>
   rw [hr] at hp
   exact ⟨k, n, n', c, c', A, B, _, _, hp, rfl, hb⟩
def dmtB (m : Mt) : Bool := Lb.nameB m.2.1 && (Rg.valB m.2.2 && (decide (m.1 = 1) || (decide (m.1 = 2) || ((decide (m.1 = 3) || decide (m.1 = 4)) && patB m.2.2))))
theorem dmt_is (m : Mt) : dmtB m = mtB m := by
 unfold dmtB mtB Rg.namedB
 rw [Bool.and_assoc]
 congr 2
 by_cases h : m.1 = 3 ∨ m.1 = 4
 · rw [if_pos h]
   have h1 : decide (m.1 = 1) = false := decide_eq_false (by omega)
   have h2 : decide (m.1 = 2) = false := decide_eq_false (by omega)
   have h3 : (decide (m.1 = 3) || decide (m.1 = 4)) = true := by simpa using h
   rw [h1, h2, h3]; simp
 · rw [if_neg h]
   have h3 : (decide (m.1 = 3) || decide (m.1 = 4)) = false := by simpa using h
   rw [h3, Bool.false_and, Bool.or_false]
   simp
theorem dmright_any (op : Int) (nm v : ByteArray) (hs : nm.size ≤ 65536) (w : World) : Calls Tryz.prog 24 #[.agg #[.int .i64 op, .string nm, .string v]] w fun e w' => e = .returned (.bool (dmtB (op, nm, v))) ∧ Below w.heap.size w w' := by
 obtain ⟨r, hr⟩ : ∃ r, dmtB (op, nm, v) = r := ⟨_, rfl⟩
 rw [hr]
 unfold dmtB at hr
 dsimp only at hr
 obtain ⟨a, ha⟩ : ∃ a, Lb.nameB nm = a := ⟨_, rfl⟩
 obtain ⟨b, hb⟩ : ∃ b, Rg.valB v = b := ⟨_, rfl⟩
 obtain ⟨p, hp⟩ : ∃ p, patB v = p := ⟨_, rfl⟩
 have h1 := fun W => parse_code v W
 have h2 := fun W => Dn.refname_any nm hs W
 have h3 := fun W => Dn.refvalue_any v W
 rw [hp] at h1
 rw [ha] at h2
 rw [hb] at h3
 rw [ha, hb, hp] at hr
 have H1 := hid h1
 have H2 := hid h2
 have H3 := hid h3
 have HR := hid hr
 clear hr ha hb hp h1 h2 h3
 have HB0 := hid (show Below w.heap.size w (w.alloc (.cells #[.int .i64 op, .string nm, .string v] 39)) from (Below.refl _ _).alloc (Nat.le_refl _) _)
 have HK0 := hid (Blk.new w 39 #[.int .i64 op, .string nm, .string v])
 go_enter Tryz.func24, Tryz.ntmps24
 go_wp2_with fail
 refine (H1.out _).mono ?_
 rintro e w1 ⟨k, n, n', c, c', A, B, x, q, rfl, hq, hb1⟩
 have HB1 := hid (HB0.out.trans (hb1.mono HB0.out.size))
 have HK1 := hid (HK0.out.below hb1)
 clear hb1 H1 HB0 HK0
 have hb2 : Below w.heap.size w (w1.alloc (.cells #[.int .u8 k, .slice A n c, .slice B n' c'] 84)) := HB1.out.alloc HB1.out.size _
 have hk2 := HK1.out.alloc (.cells #[.int .u8 k, .slice A n c, .slice B n' c'] 84)
 have HB2 := hid hb2
 have HK2 := hid hk2
 have c0 := hk2.cell 0
 have c1 := hk2.cell 1
 have c2 := hk2.cell 2
 simp at c0 c1 c2
 clear hb2 hk2
 cases a with
 | false =>
   obtain rfl : false = r := HR.out
   go_wp2_with (first | (go_at_call 51; refine (H2.out _).mono ?_; rintro e w2 ⟨rfl, rfl⟩) | (go_at_call 22; refine (H3.out _).mono ?_; rintro e w2 ⟨rfl, rfl⟩))
   go_ret
   exact ⟨rfl, HB2.out⟩
 | true =>
   cases b with
   | false =>
     obtain rfl : false = r := HR.out
     go_wp2_with (first | (go_at_call 51; refine (H2.out _).mono ?_; rintro e w2 ⟨rfl, rfl⟩) | (go_at_call 22; refine (H3.out _).mono ?_; rintro e w2 ⟨rfl, rfl⟩))
     go_ret
     exact ⟨rfl, HB2.out⟩
   | true =>
     have hr2 := HR.out
     rw [Bool.true_and, Bool.true_and] at hr2
     have hr3 : (op == 1 || (op == 2 || ((op == 3 || op == 4) && (q == 0)))) = r := by
      rw [← hr2, hq]
      rfl
     have HR3 := hid hr3
     clear hr2 hr3 HR hq
     have go : ∀ x1 x2 x3 x4 x5 : Bool, (op == 1) = x1 → (op == 2) = x2 → (op == 3) = x3 → (op == 4) = x4 → (q == 0) = x5 → True := fun _ _ _ _ _ _ _ _ _ _ => trivial
     cases e1 : (op == 1) <;> cases e2 : (op == 2) <;> cases e3 : (op == 3) <;> cases e4 : (op == 4) <;> cases e5 : (q == 0)
     all_goals (
      have hr4 := HR3.out
      rw [e1, e2, e3, e4, e5] at hr4
      have hr5 := hr4.symm
      simp at hr5
      subst hr5
      clear hr4
      go_wp2_with (first | (go_at_call 51; refine (H2.out _).mono ?_; rintro e w2 ⟨rfl, rfl⟩) | (go_at_call 22; refine (H3.out _).mono ?_; rintro e w2 ⟨rfl, rfl⟩))
      go_ret
      exact ⟨rfl, HB2.out⟩)
end Go.Proofs.YticmkabafmmlhaaGreatDoor.Ck

set_option linter.unusedVariables false
set_option linter.unusedSimpArgs false
namespace Go.Proofs.YticmkabafmmlhaaGreatDoor.Ck
open Go.RowKit Lx
theorem chars_head {c : UInt8} {r : List UInt8} : charsB (c :: r) = true ↔ isL c = true ∧ ∀ x, x ∈ c :: r → isW x = true := by
 rw [chars_all]
 constructor
 · intro h
   refine ⟨?_, fun x hx => ?_⟩
   · have := h 0 (by simp)
     simpa using this
   · obtain ⟨i, hi, rfl⟩ := List.getElem_of_mem hx
     have := h i hi
     rw [List.getD_eq_getElem?_getD, List.getElem?_eq_getElem hi] at this
     unfold isW
     rw [Bool.or_eq_true] at this ⊢
     rcases this with h1 | h1
     · exact .inl h1
     · exact .inr (Bool.and_eq_true_iff.1 h1).2
 · rintro ⟨h0, h⟩ i hi
   by_cases e : i = 0
   · subst e
     rw [show (c :: r).getD 0 0 = c from rfl, h0]; rfl
   · have hx := h ((c :: r).getD i 0) (by rw [List.getD_eq_getElem?_getD, List.getElem?_eq_getElem hi]; exact List.getElem_mem hi)
     unfold isW at hx
     rw [decide_eq_true e, Bool.true_and]
     exact hx
theorem word_chars (c : UInt8) (r : List UInt8) : isWordL (c :: r) = charsB (c :: r) := by
 rw [Bool.eq_iff_iff, chars_head]
 unfold isWordL
 rw [Bool.and_eq_true, List.all_eq_true]
 constructor
 · rintro ⟨h1, h2⟩
   refine ⟨h1, fun x hx => ?_⟩
   rcases List.mem_cons.1 hx with rfl | hx
   · exact letter_word _ h1
   · exact h2 x hx
 · rintro ⟨h1, h2⟩
   exact ⟨h1, fun x hx => h2 x (List.mem_cons_of_mem _ hx)⟩
theorem freeD_is (s : ByteArray) : freeB s = freeD s := by
 unfold freeB freeD wordB
 cases hl : s.data.toList with
 | nil =>
   have e : s.size = 0 := by rw [Lib.size_eq, hl]; rfl
   rw [e, decide_eq_false (show ¬ 0 < 0 by omega)]
   simp [isWordL]
 | cons c r =>
   have h0 : 0 < s.size := by rw [Lib.size_eq, hl]; simp
   rw [decide_eq_true h0, Bool.true_and, word_chars]
   cases keyB s.toList <;> cases groupB s.toList <;> cases decide (s.size ≤ 200) <;> rfl
def xH (h : Hd) : Hd :=
 if h.k = 1 then ⟨h.k, 0, h.v, ⟨#[]⟩, none, 0, [], 0, 0, false, 0, 0, none, 0, [], false, none, 0⟩
 else if h.k = 2 then ⟨h.k, 0, 0, h.s, none, 0, [], 0, 0, false, 0, 0, none, 0, [], false, none, 0⟩
 else if h.k = 3 then ⟨h.k, 0, 0, h.s, h.ma, h.mc, h.ms, h.wd, h.off, h.ha, h.tm, 0, none, 0, [], false, none, 0⟩
 else if h.k = 4 then ⟨h.k, 0, 0, h.s, none, 0, [], 0, 0, false, 0, 0, none, 0, [], false, h.ka, h.kc⟩
 else if h.k = 5 then ⟨h.k, 0, 0, h.s, none, 0, [], 0, 0, false, 0, h.how, h.na, h.nc, h.ns, false, h.ka, h.kc⟩
 else if h.k = 6 then ⟨h.k, h.o, 0, ⟨#[]⟩, none, 0, [], 0, 0, false, 0, h.how, h.na, h.nc, h.ns, h.bo, h.ka, h.kc⟩
 else if h.k = 7 then ⟨h.k, 0, 0, ⟨#[]⟩, none, 0, [], 0, 0, false, 0, 0, none, 0, [], false, h.ka, h.kc⟩
 else ⟨h.k, 0, 0, ⟨#[]⟩, none, 0, [], 0, 0, false, 0, 0, none, 0, [], false, none, 0⟩
def xK (h : Hd) (ks : List Tr) : List Tr := if 4 ≤ h.k ∧ h.k ≤ 7 then ks else []
theorem xH_1 {h : Hd} (hk : h.k = 1) : xH h = ⟨h.k, 0, h.v, ⟨#[]⟩, none, 0, [], 0, 0, false, 0, 0, none, 0, [], false, none, 0⟩ := by
 unfold xH; rw [if_pos hk]
theorem head_1 {h : Hd} {ks : List Tr} (hk : h.k = 1) : headF (xH h) h (xK h ks) ks = bareF h.o 0 h.s h.ms.length h.wd h.off h.ha h.tm h.how h.ns.length h.bo ks.length := by
 have hx : xK h ks = [] := if_neg (by omega)
 rw [xH_1 hk, hx]
 unfold headF bareF
 rw [decide_eq_decide]
 constructor
 · rintro ⟨_, a1, a2, a3, a4, a5, a6, a7, a8, a9, a10, a11, a12⟩
   exact ⟨a1.symm, rfl, a3.symm.trans Rg.toList_nil, a4.symm, a5.symm, a6.symm, a7.symm, a8.symm, a9.symm, a10.symm, a11.symm, a12.symm⟩
 · rintro ⟨b1, b2, b3, b4, b5, b6, b7, b8, b9, b10, b11, b12⟩
   exact ⟨rfl, b1.symm, rfl, Rg.toList_nil.trans b3.symm, b4.symm, b5.symm, b6.symm, b7.symm, b8.symm, b9.symm, b10.symm, b11.symm, b12.symm⟩
theorem xH_2 {h : Hd} (hk : h.k = 2) : xH h = ⟨h.k, 0, 0, h.s, none, 0, [], 0, 0, false, 0, 0, none, 0, [], false, none, 0⟩ := by
 unfold xH; rw [if_neg (show ¬ h.k = 1 by omega), if_pos hk]
theorem head_2 {h : Hd} {ks : List Tr} (hk : h.k = 2) : headF (xH h) h (xK h ks) ks = bareF h.o h.v ⟨#[]⟩ h.ms.length h.wd h.off h.ha h.tm h.how h.ns.length h.bo ks.length := by
 have hx : xK h ks = [] := if_neg (by omega)
 rw [xH_2 hk, hx]
 unfold headF bareF
 rw [decide_eq_decide]
 constructor
 · rintro ⟨_, a1, a2, a3, a4, a5, a6, a7, a8, a9, a10, a11, a12⟩
   exact ⟨a1.symm, a2.symm, Rg.toList_nil, a4.symm, a5.symm, a6.symm, a7.symm, a8.symm, a9.symm, a10.symm, a11.symm, a12.symm⟩
 · rintro ⟨b1, b2, b3, b4, b5, b6, b7, b8, b9, b10, b11, b12⟩
   exact ⟨rfl, b1.symm, b2.symm, rfl, b4.symm, b5.symm, b6.symm, b7.symm, b8.symm, b9.symm, b10.symm, b11.symm, b12.symm⟩
theorem xH_3 {h : Hd} (hk : h.k = 3) : xH h = ⟨h.k, 0, 0, h.s, h.ma, h.mc, h.ms, h.wd, h.off, h.ha, h.tm, 0, none, 0, [], false, none, 0⟩ := by
 unfold xH; rw [if_neg (show ¬ h.k = 1 by omega), if_neg (show ¬ h.k = 2 by omega), if_pos hk]
theorem head_3 {h : Hd} {ks : List Tr} (hk : h.k = 3) : headF (xH h) h (xK h ks) ks = bareF h.o h.v ⟨#[]⟩ 0 0 0 false 0 h.how h.ns.length h.bo ks.length := by
 have hx : xK h ks = [] := if_neg (by omega)
 rw [xH_3 hk, hx]
 unfold headF bareF
 rw [decide_eq_decide]
 constructor
 · rintro ⟨_, a1, a2, a3, a4, a5, a6, a7, a8, a9, a10, a11, a12⟩
   exact ⟨a1.symm, a2.symm, Rg.toList_nil, rfl, rfl, rfl, rfl, rfl, a9.symm, a10.symm, a11.symm, a12.symm⟩
 · rintro ⟨b1, b2, b3, b4, b5, b6, b7, b8, b9, b10, b11, b12⟩
   exact ⟨rfl, b1.symm, b2.symm, rfl, rfl, rfl, rfl, rfl, rfl, b9.symm, b10.symm, b11.symm, b12.symm⟩
theorem xH_4 {h : Hd} (hk : h.k = 4) : xH h = ⟨h.k, 0, 0, h.s, none, 0, [], 0, 0, false, 0, 0, none, 0, [], false, h.ka, h.kc⟩ := by
 unfold xH; rw [if_neg (show ¬ h.k = 1 by omega), if_neg (show ¬ h.k = 2 by omega), if_neg (show ¬ h.k = 3 by omega), if_pos hk]
theorem head_4 {h : Hd} {ks : List Tr} (hk : h.k = 4) : headF (xH h) h (xK h ks) ks = bareF h.o h.v ⟨#[]⟩ h.ms.length h.wd h.off h.ha h.tm h.how h.ns.length h.bo 0 := by
 have hx : xK h ks = ks := if_pos (by omega)
 rw [xH_4 hk, hx]
 unfold headF bareF
 rw [decide_eq_decide]
 constructor
 · rintro ⟨_, a1, a2, a3, a4, a5, a6, a7, a8, a9, a10, a11, a12⟩
   exact ⟨a1.symm, a2.symm, Rg.toList_nil, a4.symm, a5.symm, a6.symm, a7.symm, a8.symm, a9.symm, a10.symm, a11.symm, rfl⟩
 · rintro ⟨b1, b2, b3, b4, b5, b6, b7, b8, b9, b10, b11, b12⟩
   exact ⟨rfl, b1.symm, b2.symm, rfl, b4.symm, b5.symm, b6.symm, b7.symm, b8.symm, b9.symm, b10.symm, b11.symm, rfl⟩
theorem xH_5 {h : Hd} (hk : h.k = 5) : xH h = ⟨h.k, 0, 0, h.s, none, 0, [], 0, 0, false, 0, h.how, h.na, h.nc, h.ns, false, h.ka, h.kc⟩ := by
 unfold xH; rw [if_neg (show ¬ h.k = 1 by omega), if_neg (show ¬ h.k = 2 by omega), if_neg (show ¬ h.k = 3 by omega), if_neg (show ¬ h.k = 4 by omega), if_pos hk]
theorem head_5 {h : Hd} {ks : List Tr} (hk : h.k = 5) : headF (xH h) h (xK h ks) ks = bareF h.o h.v ⟨#[]⟩ h.ms.length h.wd h.off h.ha h.tm 0 0 h.bo 0 := by
 have hx : xK h ks = ks := if_pos (by omega)
 rw [xH_5 hk, hx]
 unfold headF bareF
 rw [decide_eq_decide]
 constructor
 · rintro ⟨_, a1, a2, a3, a4, a5, a6, a7, a8, a9, a10, a11, a12⟩
   exact ⟨a1.symm, a2.symm, Rg.toList_nil, a4.symm, a5.symm, a6.symm, a7.symm, a8.symm, rfl, rfl, a11.symm, rfl⟩
 · rintro ⟨b1, b2, b3, b4, b5, b6, b7, b8, b9, b10, b11, b12⟩
   exact ⟨rfl, b1.symm, b2.symm, rfl, b4.symm, b5.symm, b6.symm, b7.symm, b8.symm, rfl, rfl, b11.symm, rfl⟩
theorem xH_6 {h : Hd} (hk : h.k = 6) : xH h = ⟨h.k, h.o, 0, ⟨#[]⟩, none, 0, [], 0, 0, false, 0, h.how, h.na, h.nc, h.ns, h.bo, h.ka, h.kc⟩ := by
 unfold xH; rw [if_neg (show ¬ h.k = 1 by omega), if_neg (show ¬ h.k = 2 by omega), if_neg (show ¬ h.k = 3 by omega), if_neg (show ¬ h.k = 4 by omega), if_neg (show ¬ h.k = 5 by omega), if_pos hk]
theorem head_6 {h : Hd} {ks : List Tr} (hk : h.k = 6) : headF (xH h) h (xK h ks) ks = bareF 0 h.v h.s h.ms.length h.wd h.off h.ha h.tm 0 0 false 0 := by
 have hx : xK h ks = ks := if_pos (by omega)
 rw [xH_6 hk, hx]
 unfold headF bareF
 rw [decide_eq_decide]
 constructor
 · rintro ⟨_, a1, a2, a3, a4, a5, a6, a7, a8, a9, a10, a11, a12⟩
   exact ⟨rfl, a2.symm, a3.symm.trans Rg.toList_nil, a4.symm, a5.symm, a6.symm, a7.symm, a8.symm, rfl, rfl, rfl, rfl⟩
 · rintro ⟨b1, b2, b3, b4, b5, b6, b7, b8, b9, b10, b11, b12⟩
   exact ⟨rfl, rfl, b2.symm, Rg.toList_nil.trans b3.symm, b4.symm, b5.symm, b6.symm, b7.symm, b8.symm, rfl, rfl, rfl, rfl⟩
theorem xH_7 {h : Hd} (hk : h.k = 7) : xH h = ⟨h.k, 0, 0, ⟨#[]⟩, none, 0, [], 0, 0, false, 0, 0, none, 0, [], false, h.ka, h.kc⟩ := by
 unfold xH; rw [if_neg (show ¬ h.k = 1 by omega), if_neg (show ¬ h.k = 2 by omega), if_neg (show ¬ h.k = 3 by omega), if_neg (show ¬ h.k = 4 by omega), if_neg (show ¬ h.k = 5 by omega), if_neg (show ¬ h.k = 6 by omega), if_pos hk]
theorem head_7 {h : Hd} {ks : List Tr} (hk : h.k = 7) : headF (xH h) h (xK h ks) ks = bareF h.o h.v h.s h.ms.length h.wd h.off h.ha h.tm h.how h.ns.length h.bo 0 := by
 have hx : xK h ks = ks := if_pos (by omega)
 rw [xH_7 hk, hx]
 unfold headF bareF
 rw [decide_eq_decide]
 constructor
 · rintro ⟨_, a1, a2, a3, a4, a5, a6, a7, a8, a9, a10, a11, a12⟩
   exact ⟨a1.symm, a2.symm, a3.symm.trans Rg.toList_nil, a4.symm, a5.symm, a6.symm, a7.symm, a8.symm, a9.symm, a10.symm, a11.symm, rfl⟩
 · rintro ⟨b1, b2, b3, b4, b5, b6, b7, b8, b9, b10, b11, b12⟩
   exact ⟨rfl, b1.symm, b2.symm, Rg.toList_nil.trans b3.symm, b4.symm, b5.symm, b6.symm, b7.symm, b8.symm, b9.symm, b10.symm, b11.symm, rfl⟩
def dok (h : Hd) (n : Nat) : Bool :=
 if h.k = 1 then decide (h.v ≤ 9218868437227405312) || decide (h.v = 9221120237041090561)
 else if h.k = 2 then Rg.valB h.s
 else if h.k = 3 then ((h.s.toList.isEmpty || freeD h.s) && (decide (h.ms.length ≤ 10) && decide (PureOk h))) && h.ms.all dmtB
 else if h.k = 4 then freeD h.s && decide (n ≤ 4)
 else if h.k = 5 then groupB h.s.toList && (howF h.how h.ns && decide (n ≤ 4))
 else if h.k = 6 then (decide (1 ≤ h.o) && decide (h.o ≤ 11)) && (howF h.how h.ns && decide (n = 2))
 else if h.k = 7 then decide (n = 1)
 else false
theorem num_is {v : Nat} (hv : v < 18446744073709551616) : (decide (v ≤ 9218868437227405312) || decide (v = 9221120237041090561)) = numOk v := by
 unfold numOk noneB
 rw [Bool.eq_iff_iff, Bool.or_eq_true, Bool.or_eq_true, Bool.and_eq_true, decide_eq_true_eq, decide_eq_true_eq, Bool.not_eq_true', Bool.not_eq_true', Bool.and_eq_false_iff, beq_eq_false_iff_ne, bne_eq_false_iff_eq, decide_eq_false_iff_not]
 omega
theorem val_is (s : ByteArray) : Rg.valB s = valB s := by
 unfold valB mtB Rg.namedB
 have e : Lb.nameB ⟨#[95, 95, 110, 97, 109, 101, 95, 95]⟩ = true := by decide +kernel
 simp only [e, Bool.true_and]
 simp
theorem all_good (l : List Mt) : (l.all dmtB = true) = GoodM l l.length := by
 refine propext ?_
 rw [List.all_eq_true]
 constructor
 · intro h i hi
   rw [List.getD_eq_getElem?_getD, List.getElem?_eq_getElem hi]
   show mtB l[i] = true
   rw [← dmt_is]
   exact h _ (List.getElem_mem hi)
 · intro h x hx
   obtain ⟨i, hi, rfl⟩ := List.getElem_of_mem hx
   have := h i hi
   rw [List.getD_eq_getElem?_getD, List.getElem?_eq_getElem hi] at this
   rw [dmt_is]
   exact this
theorem dms_is (h : Hd) : (((h.s.toList.isEmpty || freeD h.s) && (decide (h.ms.length ≤ 10) && decide (PureOk h))) && h.ms.all dmtB) = (nameOk h.s && (msB h.ms && decide (PureOk h))) := by
 unfold nameOk msB
 rw [freeD_is]
 rw [Bool.eq_iff_iff, Bool.and_eq_true, Bool.and_eq_true, Bool.and_eq_true, Bool.and_eq_true, Bool.and_eq_true, decide_eq_true_eq, decide_eq_true_eq, decide_eq_true_eq, all_good]
 constructor
 · rintro ⟨⟨a, b, c⟩, d⟩; exact ⟨a, ⟨b, d⟩, c⟩
 · rintro ⟨a, ⟨b, d⟩, c⟩; exact ⟨⟨a, b, c⟩, d⟩
theorem doc_ok (h : Hd) (ks : List Tr) (hv : h.v < 18446744073709551616) : (dok h ks.length && headF (xH h) h (xK h ks) ks) = okHd h ks.length := by
 unfold dok okHd
 by_cases h1 : h.k = 1
 · rw [if_pos h1, if_pos h1, head_1 h1, num_is hv]; rfl
 rw [if_neg h1, if_neg h1]
 by_cases h2 : h.k = 2
 · rw [if_pos h2, if_pos h2, head_2 h2, val_is]; rfl
 rw [if_neg h2, if_neg h2]
 by_cases h3 : h.k = 3
 · rw [if_pos h3, if_pos h3, head_3 h3, dms_is]; rfl
 rw [if_neg h3, if_neg h3]
 by_cases h4 : h.k = 4
 · rw [if_pos h4, if_pos h4, head_4 h4, ← freeD_is]; rfl
 rw [if_neg h4, if_neg h4]
 by_cases h5 : h.k = 5
 · rw [if_pos h5, if_pos h5, head_5 h5]; rfl
 rw [if_neg h5, if_neg h5]
 by_cases h6 : h.k = 6
 · rw [if_pos h6, if_pos h6, head_6 h6]; rfl
 rw [if_neg h6, if_neg h6]
 by_cases h7 : h.k = 7
 · rw [if_pos h7, if_pos h7, head_7 h7]; rfl
 rw [if_neg h7, if_neg h7]; rfl
end Go.Proofs.YticmkabafmmlhaaGreatDoor.Ck

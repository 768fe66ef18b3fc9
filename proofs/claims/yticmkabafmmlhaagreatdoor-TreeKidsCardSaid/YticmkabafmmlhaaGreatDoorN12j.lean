/- regex.Check, matcher.Right, isValue, isText: what they answer, as functions. Condition: the tables as they are laid. -/
import Derived.Test.YticmkabafmmlhaaGreatDoorN10j
import Derived.Test.YticmkabafmmlhaaGreatDoorKWfj
set_option linter.unusedVariables false
set_option linter.unusedSimpArgs false
set_option maxRecDepth 100000
set_option maxHeartbeats 4000000
namespace Go.Proofs.YticmkabafmmlhaaGreatDoor.Ck
open Go.RowKit
open Lib (hid)
def patB (v : ByteArray) : Bool := match Rx.readF v with | .ok _ _ _ => true | .bad _ _ => false
def NotNil (e : Value) : Prop := ∃ f, e = .iface 175 (.pointer (some f))
theorem check_any (v : ByteArray) (w : World) (h9 : 10 ≤ w.heap.size) (hT : Rg.TzT w) : Calls Tryz.prog 104 #[.string v] w fun e w' => (∃ x, e = .returned x ∧ (if patB v = true then x = .nilIface else NotNil x)) ∧ Below w.heap.size w w' := by
 have HRD := hid (Rg.read_any v w h9 hT)
 unfold patB
 cases hr : Rx.readF v with
 | bad pl c =>
   rw [hr] at HRD
   clear hT hr
   go_enter Tryz.func104, Tryz.ntmps104
   go_wp2_with fail
   refine (HRD.out).mono ?_
   rintro e w1 ⟨hb, err, rfl, f, rfl, _⟩
   have HB := hid hb
   clear hb HRD
   go_wp2_with fail
   go_ret
   exact ⟨⟨_, rfl, ⟨_, rfl⟩⟩, HB.out⟩
 | ok a m p =>
   rw [hr] at HRD
   clear hT hr
   go_enter Tryz.func104, Tryz.ntmps104
   go_wp2_with fail
   refine (HRD.out).mono ?_
   rintro e w1 ⟨hb, b, rfl, _, _⟩
   have HB := hid hb
   clear hb HRD
   go_wp2_with fail
   go_ret
   exact ⟨rfl, HB.out⟩
def mtB (m : Mt) : Bool := Rg.namedB m.2.1 m.2.2 && (if m.1 = 3 ∨ m.1 = 4 then patB m.2.2 else decide (m.1 = 1 ∨ m.1 = 2))
theorem named_is (op : Int) (nm v : ByteArray) (r : Bool) (h : Rg.namedB nm v = r) (w : World) (hT : Rg.Tabs w) : Calls Tryz.prog 103 #[.agg #[.int .i64 op, .string nm, .string v]] w fun e w' => e = .returned (.bool r) ∧ Below w.heap.size w w' := by
 subst h; exact Rg.named_any op nm v w hT
theorem mright_any (op : Int) (nm v : ByteArray) (w : World) (h9 : 10 ≤ w.heap.size) (hT : Rg.TzT w) (hU : Rg.Tabs w) : Calls Tryz.prog 88 #[.agg #[.int .i64 op, .string nm, .string v]] w fun e w' => e = .returned (.bool (mtB (op, nm, v))) ∧ Below w.heap.size w w' := by
 have hb0 : Below w.heap.size w (w.alloc (.cells #[.int .i64 op, .string nm, .string v] 39)) := (Below.refl _ _).alloc (Nat.le_refl _) _
 obtain ⟨n, hn⟩ : ∃ n, Rg.namedB nm v = n := ⟨_, rfl⟩
 have HN := hid (named_is op nm v n hn (w.alloc (.cells #[.int .i64 op, .string nm, .string v] 39)) (hU.below (by have := hU.size; omega) hb0))
 have HC := hid (fun W (hW : Below w.heap.size w W) => check_any v W (by have := hW.size; omega) (hT.below hW))
 have HB := hid hb0
 have HK := hid (Blk.new w 39 #[.int .i64 op, .string nm, .string v])
 obtain ⟨r, hr⟩ : ∃ r, mtB (op, nm, v) = r := ⟨_, rfl⟩
 rw [hr]
 unfold mtB at hr
 dsimp only at hr
 rw [hn] at hr
 clear hb0 hn hT hU
 by_cases h34 : op = 3 ∨ op = 4
 · rw [if_pos h34] at hr
   have go : ∀ x3 x4 : Bool, (op == 3) = x3 → (op == 4) = x4 → (x3 || x4) = true → Calls Tryz.prog 88 #[.agg #[.int .i64 op, .string nm, .string v]] w fun e w' => e = .returned (.bool r) ∧ Below w.heap.size w w' := by
    intro x3 x4 h3 h4 hx
    clear h34
    cases x3 <;> cases x4 <;> simp at hx
    all_goals
     go_enter Tryz.func88, Tryz.ntmps88
     go_wp2_with fail
     refine (HN.out).mono ?_
     rintro e w1 ⟨rfl, hb1⟩
     have HB1 := hid (HB.out.trans (hb1.mono HB.out.size))
     have c2 := (HK.out.below hb1).cell 2
     simp at c2
     clear hb1
     cases n with
     | false =>
       obtain rfl : false = r := by simpa using hr
       go_wp2_with fail
       go_ret
       exact ⟨rfl, HB1.out⟩
     | true =>
       have hr2 : patB v = r := by simpa using hr
       go_wp2_with fail
       refine (HC.out _ HB1.out).mono ?_
       rintro e w2 ⟨⟨x, rfl, hx2⟩, hb2⟩
       have HB2 := hid (HB1.out.trans (hb2.mono HB1.out.size))
       clear hb2
       cases r with
       | true =>
         rw [hr2, if_pos rfl] at hx2
         subst hx2
         go_wp2_with fail
         go_ret
         exact ⟨rfl, HB2.out⟩
       | false =>
         rw [hr2, if_neg (by decide)] at hx2
         obtain ⟨f, rfl⟩ := hx2
         go_wp2_with fail
         go_ret
         exact ⟨rfl, HB2.out⟩
   exact go _ _ rfl rfl (by rcases h34 with h | h <;> rw [h] <;> rfl)
 · rw [if_neg h34] at hr
   have h3 : (op == 3) = false := by simp; omega
   have h4 : (op == 4) = false := by simp; omega
   clear HC
   go_enter Tryz.func88, Tryz.ntmps88
   go_wp2_with fail
   refine (HN.out).mono ?_
   rintro e w1 ⟨rfl, hb1⟩
   have HB1 := hid (HB.out.trans (hb1.mono HB.out.size))
   have c0 := (HK.out.below hb1).cell 0
   simp at c0
   clear hb1
   cases n with
   | false =>
     obtain rfl : false = r := by simpa using hr
     go_wp2_with fail
     go_ret
     exact ⟨rfl, HB1.out⟩
   | true =>
     rw [Bool.true_and] at hr
     by_cases h1 : op = 1
     · have e1 : (op == 1) = true := by simp; omega
       obtain rfl : true = r := by rw [← hr, decide_eq_true (by omega)]
       clear h1 h34 hr
       go_wp2_with fail
       go_ret
       exact ⟨rfl, HB1.out⟩
     · have e1 : (op == 1) = false := by simp; omega
       have e2 : (op == 2) = r := by rw [← hr, Bool.eq_iff_iff, beq_iff_eq, decide_eq_true_eq]; omega
       clear h1 h34 hr
       go_wp2_with fail
       go_ret
       exact ⟨rfl, HB1.out⟩
theorem mright_is (op : Int) (nm v : ByteArray) (r : Bool) (h : mtB (op, nm, v) = r) (w : World) (h9 : 10 ≤ w.heap.size) (hT : Rg.TzT w) (hU : Rg.Tabs w) : Calls Tryz.prog 88 #[.agg #[.int .i64 op, .string nm, .string v]] w fun e w' => e = .returned (.bool r) ∧ Below w.heap.size w w' := by
 subst h; exact mright_any op nm v w h9 hT hU
def valB (s : ByteArray) : Bool := mtB (1, ⟨#[95, 95, 110, 97, 109, 101, 95, 95]⟩, s)
theorem value_any (s : ByteArray) (w : World) (h9 : 10 ≤ w.heap.size) (hT : Rg.TzT w) (hU : Rg.Tabs w) : Calls Tryz.prog 68 #[.string s] w fun e w' => e = .returned (.bool (valB s)) ∧ Below w.heap.size w w' := by
 obtain ⟨r, hr⟩ : ∃ r, valB s = r := ⟨_, rfl⟩
 rw [hr]
 have HM := hid (mright_is 1 ⟨#[95, 95, 110, 97, 109, 101, 95, 95]⟩ s r hr w h9 hT hU)
 clear hr hT hU
 go_enter Tryz.func68, Tryz.ntmps68
 go_wp2_with fail
 refine (HM.out).mono ?_
 rintro e w1 ⟨rfl, hb1⟩
 have HB := hid hb1
 clear hb1
 go_wp2_with fail
 go_ret
 exact ⟨rfl, HB.out⟩
theorem value_is (s : ByteArray) (r : Bool) (h : valB s = r) (w : World) (h9 : 10 ≤ w.heap.size) (hT : Rg.TzT w) (hU : Rg.Tabs w) : Calls Tryz.prog 68 #[.string s] w fun e w' => e = .returned (.bool r) ∧ Below w.heap.size w w' := by
 subst h; exact value_any s w h9 hT hU
def textOk (h : Hd) (n : Nat) : Bool := valB h.s && bareF h.o h.v ⟨#[]⟩ h.ms.length h.wd h.off h.ha h.tm h.how h.ns.length h.bo n
theorem text_any (h : Hd) (ks : List Tr) (w : World) (h9 : 10 ≤ w.heap.size) (hT : Rg.TzT w) (hU : Rg.Tabs w) : Calls Tryz.prog 39 #[valT (.mk h ks)] w fun e w' => e = .returned (.bool (textOk h ks.length)) ∧ Below w.heap.size w w' := by
 obtain ⟨b, hb⟩ : ∃ b, bareF h.o h.v ⟨#[]⟩ h.ms.length h.wd h.off h.ha h.tm h.how h.ns.length h.bo ks.length = b := ⟨_, rfl⟩
 obtain ⟨f, hf⟩ : ∃ f, valB h.s = f := ⟨_, rfl⟩
 unfold textOk
 rw [hb, hf]
 have HBR := hid (fun W => bare_is (k := h.k) (mp := h.ma) (mc := h.mc) (np := h.na) (nc := h.nc) (kp := h.ka) (kc := h.kc) hb W)
 have hB : ∀ o, Below w.heap.size w (w.alloc o) := fun o => (Below.refl _ _).alloc (Nat.le_refl _) _
 let g : Hd := ⟨h.k, h.o, h.v, ⟨#[]⟩, h.ma, h.mc, h.ms, h.wd, h.off, h.ha, h.tm, h.how, h.na, h.nc, h.ns, h.bo, h.ka, h.kc⟩
 have HF := hid (value_is h.s f hf (w.alloc (.cells (arr g ks.length) 49)) (by have := (hB (.cells (arr g ks.length) 49)).size; omega) (hT.below (hB _)) (hU.below (by have := hU.size; omega) (hB _)))
 have HK := hid (Blk.new w 49 (arr g ks.length))
 have HB := hid hB
 rw [valT_arr]
 clear hb hB hf hT hU
 unfold exV at HBR
 unfold arr at *
 dsimp only [g] at *
 go_enter Tryz.func39, Tryz.ntmps39
 go_wp2_with fail
 refine (HF.out).mono ?_
 rintro e w1 ⟨rfl, hb1⟩
 have HK1 := hid (HK.out.below hb1)
 have HB1 := hid ((HB.out _).trans (hb1.mono (HB.out _).size))
 obtain ⟨c0, c1, c2, c3, c4, c5, c6, c7, c8, c9, c10, c11, c12⟩ := blk13 (h := g) (n := ks.length) HK1.out
 dsimp only [g] at c0 c1 c2 c3 c4 c5 c6 c7 c8 c9 c10 c11 c12
 clear hb1 HF HB HK
 cases f with
 | false =>
   go_wp2_with fail
   go_ret
   exact ⟨rfl, HB1.out⟩
 | true =>
   go_wp2_with fail
   refine (HBR.out _).mono ?_
   rintro e w4 ⟨rfl, hb4⟩
   have HB4 := hid (HB1.out.trans (hb4.mono HB1.out.size))
   clear hb4
   go_wp2_with fail
   go_ret
   exact ⟨rfl, HB4.out⟩
end Go.Proofs.YticmkabafmmlhaaGreatDoor.Ck

set_option linter.unusedVariables false
set_option linter.unusedSimpArgs false
set_option maxRecDepth 100000
set_option maxHeartbeats 4000000
namespace Go.Proofs.YticmkabafmmlhaaGreatDoor.Ck
open Go.RowKit Lx
open Lib (hid)
def GoodM (l : List Mt) (k : Nat) : Prop := ∀ i, i < k → mtB (l.getD i m0) = true
instance (l : List Mt) (k : Nat) : Decidable (GoodM l k) := by unfold GoodM; infer_instance
def msB (l : List Mt) : Bool := decide (l.length ≤ 10 ∧ GoodM l l.length)
theorem goodM_succ {l : List Mt} {k : Nat} (h : GoodM l k) (h1 : mtB (l.getD k m0) = true) : GoodM l (k + 1) := by
 intro i hi
 by_cases e : i = k
 · subst e; exact h1
 · exact h i (by omega)
theorem ms_any (A : Option Addr) (l : List Mt) (c : Nat) (w : World) (hM : Mts w A l) (h9 : 10 ≤ w.heap.size) (hT : Rg.TzT w) (hU : Rg.Tabs w) :
 Calls Tryz.prog 70 #[.slice A l.length c] w fun e w' => e = .returned (.bool (msB l)) ∧ Below w.heap.size w w' := by
 obtain ⟨r, hr⟩ : ∃ r, msB l = r := ⟨_, rfl⟩
 rw [hr]
 have HR := hid hr
 have HM := hid hM
 have HC := hid (fun op nm v r (h : mtB (op, nm, v) = r) W (hW : Below w.heap.size w W) => mright_is op nm v r h W (by have := hW.size; omega) (hT.below hW) (hU.below (by have := hU.size; omega) hW))
 clear hr hM hT hU
 obtain ⟨n, hn⟩ : ∃ n, l.length = n := ⟨_, rfl⟩
 rw [hn]
 have HL := hid hn
 clear hn
 by_cases h10 : 10 < n
 · have d10 : (10 : Int) < (n : Int) := by omega
   obtain rfl : false = r := by rw [← HR.out]; unfold msB; rw [HL.out, decide_eq_false]; omega
   clear h10 HR
   go_enter Tryz.func70, Tryz.ntmps70
   go_wp2_with fail
   go_ret
   exact ⟨rfl, Below.refl _ _⟩
 · have d10 : ¬ (10 : Int) < (n : Int) := by omega
   have hr2 : decide (GoodM l n) = r := by
    rw [← HR.out]; unfold msB
    rw [HL.out, Bool.eq_iff_iff, decide_eq_true_eq, decide_eq_true_eq]
    exact ⟨fun g => ⟨by omega, g⟩, fun g => g.2⟩
   have HR2 := hid hr2
   clear HR hr2 h10
   go_enter Tryz.func70, Tryz.ntmps70
   go_wp2_with fail
   go_loopw [10] (fun s5 wx => ∃ k : Nat, k ≤ n ∧ s5 = .int .i64 (k : Int) ∧ Hid (GoodM l k) ∧ Hid (Below w.heap.size w wx)) (fun i _ => n - (intOf i).toNat)
   case atStart => exact ⟨0, Nat.zero_le _, rfl, fun i hi => absurd hi (Nat.not_lt_zero _), Below.refl _ _⟩
   case round =>
    obtain ⟨k, hkn, rfl, HG, HBX⟩ := hrel
    by_cases hlt : k < n
    · obtain ⟨b, off, rfl, hb, hc⟩ := HM.out (by rw [HL.out]; omega)
      obtain ⟨x0, x1, x2⟩ := hc k (by rw [HL.out]; exact hlt)
      have hx0 := (HBX.out.cell (p := ⟨b, off + k * 3, none⟩) hb).trans x0
      have hx1 := (HBX.out.cell (p := ⟨b, off + k * 3 + 1, none⟩) hb).trans x1
      have hx2 := (HBX.out.cell (p := ⟨b, off + k * 3 + 2, none⟩) hb).trans x2
      have hki : (k : Int) < (n : Int) := by omega
      have hsz := HBX.out.size
      clear hc x0 x1 x2
      obtain ⟨⟨op, nm, v⟩, hm⟩ : ∃ m, l.getD k m0 = m := ⟨_, rfl⟩
      rw [hm] at hx0 hx1 hx2
      dsimp only at hx0 hx1 hx2
      obtain ⟨q, hq⟩ : ∃ q, mtB (op, nm, v) = q := ⟨_, rfl⟩
      have HW : ∀ o, Below w.heap.size w (wr.alloc o) := fun o => HBX.out.alloc hsz o
      have HMR := hid (HC.out op nm v q hq (wr.alloc (.cells #[.int .i64 op, .string nm, .string v] 39)) (HW _))
      have HWW := hid HW
      have HQ : Hid (mtB (l.getD k m0) = q) := by rw [hm]; exact hq
      clear hm hq HW
      cases q with
      | true =>
        go_wp2_with fail
        refine (HMR.out).mono ?_
        rintro e w3 ⟨rfl, hb3⟩
        have HB3 := hid ((HWW.out _).trans (hb3.mono (HWW.out _).size))
        clear hb3
        go_wp2_with fail
        go_roundw
        case rel => exact ⟨k + 1, by omega, by go_num, goodM_succ HG.out HQ.out, HB3⟩
        case measure => (first | omega | (simp only [intOf]; omega))
      | false =>
        have hf : r = false := by
         rw [← HR2.out, decide_eq_false]
         intro g
         have := g k hlt
         rw [HQ.out] at this
         cases this
        subst hf
        go_wp2_with fail
        refine (HMR.out).mono ?_
        rintro e w3 ⟨rfl, hb3⟩
        have HB3 := hid ((HWW.out _).trans (hb3.mono (HWW.out _).size))
        clear hb3
        go_wp2_with fail
        go_ret
        exact ⟨rfl, HB3.out⟩
    · have hf : r = true := by
       have : k = n := by omega
       subst this
       rw [← HR2.out, decide_eq_true HG.out]
      subst hf
      go_wp2_with fail
      go_ret
      exact ⟨rfl, HBX.out⟩
theorem ms_is (A : Option Addr) (l : List Mt) (c : Nat) (r : Bool) (h : msB l = r) (w : World) (hM : Mts w A l) (h9 : 10 ≤ w.heap.size) (hT : Rg.TzT w) (hU : Rg.Tabs w) :
 Calls Tryz.prog 70 #[.slice A l.length c] w fun e w' => e = .returned (.bool r) ∧ Below w.heap.size w w' := by
 subst h; exact ms_any A l c w hM h9 hT hU
end Go.Proofs.YticmkabafmmlhaaGreatDoor.Ck

/- isNum, isLess: what they answer, as functions. No condition. -/
import Derived.Test.YtmodehfedhgcbaaGreatDoorN3
import Derived.Test.YtmodehfedhgcbaaGreatDoorN4
import Ieee.Arith
namespace Go.Proofs.YtmodehfedhgcbaaGreatDoor.Ck
open Go.RowKit Ieee
set_option linter.unusedVariables false
set_option linter.unusedSimpArgs false

/-- a store into the newest block -/
theorem set_new (w : World) (xs : Array Value) (t : TypeId) (j : Nat) (v : Value) : (w.alloc (.cells xs t)).setCell ⟨w.heap.size, j, none⟩ v = w.alloc (.cells (xs.setIfInBounds j v) t) := by
  unfold World.setCell World.alloc
  congr 1
  apply Array.ext
  · simp
  · intro i h1 h2
    simp only [Array.size_modify, Array.size_push] at h1 h2
    rw [Array.getElem_modify]
    by_cases hi : w.heap.size = i
    · subst hi
      simp
    · rw [if_neg hi, Array.getElem_push_lt (by omega), Array.getElem_push_lt (by omega)]
/-! numbers by their bits -/
def noneB (v : Nat) : Bool := (v / 4503599627370496 % 2048 == 2047) && (v % 4503599627370496 != 0)
theorem order_self (v : Nat) (hv : v < 18446744073709551616) : (double.order v v == some .eq) = !noneB v := by
  have b1 : double.binade = 4503599627370496 := by decide
  have b2 : double.infRung = 9218868437227405312 := by decide
  have b3 : double.signWeight = 9223372036854775808 := by decide
  unfold Format.order
  unfold Format.read
  rw [b1, b2, b3]
  dsimp only
  have hn : noneB v = decide (9218868437227405312 < v % 9223372036854775808) := by
    unfold noneB
    rw [Bool.eq_iff_iff]
    simp only [Bool.and_eq_true, beq_iff_eq, bne_iff_ne, decide_eq_true_eq]
    omega
  rw [hn]
  by_cases h1 : v % 9223372036854775808 < 4503599627370496
  · rw [if_pos h1, decide_eq_false (by omega)]
    simp [Datum.order]
  · rw [if_neg h1]
    by_cases h2 : v % 9223372036854775808 < 9218868437227405312
    · rw [if_pos h2, decide_eq_false (by omega)]
      simp [Datum.order]
    · rw [if_neg h2]
      by_cases h3 : v % 9223372036854775808 = 9218868437227405312
      · rw [if_pos h3, decide_eq_false (by omega)]
        simp [Datum.order]
      · rw [if_neg h3, decide_eq_true (by omega)]
        simp [Datum.order]
theorem order_none (v : Nat) : double.order v 9221120237041090561 = none := by
  unfold Format.order
  obtain ⟨a, b, h⟩ : ∃ a b, double.read 9221120237041090561 = .nan a b := ⟨false, 2251799813685249, by decide +kernel⟩
  rw [h]
  cases double.read v <;> rfl
theorem frombits (n : Nat) (w : World) : (callFunc 54 #[.int .u64 (n : Int)]).run Tryz.prog w = .ok (.value (.float .f64 n)) w := by kernel_rfl
theorem isnum_any (x : Nat) (r : Bool) (h : (double.order x x == some .eq) = r) (w : World) : Calls Tryz.prog 65 #[.float .f64 x] w fun e w' => e = .returned (.bool r) ∧ w = w' := by
  have h' : (FloatKind.f64.format.order x x == some .eq) = r := h
  clear h
  go_enter Tryz.func65, Tryz.ntmps65
  go_wp2
  go_ret
  exact ⟨rfl, rfl⟩
set_option maxRecDepth 100000 in
set_option maxHeartbeats 4000000 in
theorem cmp_none (x : Nat) (nx : Bool) (h3 : (double.order x x == some .eq) = nx) (w : World) :
    Calls Tryz.prog 52 #[.int .u64 (x : Int), .int .u64 9221120237041090561] w fun e w' => e = .returned (.int .i64 (if nx = true then 1 else 0)) ∧ w = w' := by
  have HX := Lib.hid (fun W => isnum_any x nx h3 W)
  have HY := Lib.hid (fun W => isnum_any 9221120237041090561 false (by decide +kernel) W)
  have hbx := fun w => frombits x w
  have hby : ∀ w, (callFunc 54 #[.int .u64 9221120237041090561]).run Tryz.prog w = .ok (.value (.float .f64 9221120237041090561)) w := fun w => frombits 9221120237041090561 w
  have h1' : (FloatKind.f64.format.order x 9221120237041090561 == some .lt) = false := by
    show (double.order x 9221120237041090561 == some .lt) = false
    rw [order_none]; rfl
  have h2' : (FloatKind.f64.format.order x 9221120237041090561 == some .gt) = false := by
    show (double.order x 9221120237041090561 == some .gt) = false
    rw [order_none]; rfl
  clear h3
  cases nx
  all_goals
    go_enter Tryz.func52, Tryz.ntmps52
    go_wp2_with (first | (go_at_call_of 65 (Value.float FloatKind.f64 x); refine (HX.out _).mono ?_; rintro e w1 ⟨rfl, rfl⟩) | (go_at_call_of 65 (Value.float FloatKind.f64 9221120237041090561); refine (HY.out _).mono ?_; rintro e w1 ⟨rfl, rfl⟩))
    go_ret
    exact ⟨rfl, rfl⟩
theorem tobits (n : Nat) (w : World) : (callFunc 66 #[.float .f64 n]).run Tryz.prog w = .ok (.value (.int .u64 (n : Int))) w := by kernel_rfl
theorem signbit_any (x : Nat) (hx : x < 18446744073709551616) (w : World) : Calls Tryz.prog 53 #[.float .f64 x] w fun e w' => e = .returned (.bool (decide (9223372036854775808 ≤ x))) ∧ w = w' := by
  obtain ⟨r, hr⟩ : ∃ r, decide (9223372036854775808 ≤ x) = r := ⟨_, rfl⟩
  rw [hr]
  have hb := fun w => tobits x w
  have HR := Lib.hid hr
  clear hr
  go_enter Tryz.func53, Tryz.ntmps53
  go_wp2
  go_ret
  refine ⟨congrArg (fun x => Ending.returned (Value.bool x)) ?_, rfl⟩
  rw [← HR.out, Bool.eq_iff_iff, decide_eq_true_eq, decide_eq_true_eq]
  unfold wrap64
  omega
theorem signbit_is (x : Nat) (hx : x < 18446744073709551616) (r : Bool) (h : decide (9223372036854775808 ≤ x) = r) (w : World) : Calls Tryz.prog 53 #[.float .f64 x] w fun e w' => e = .returned (.bool r) ∧ w = w' := by
  subst h; exact signbit_any x hx w
theorem bare_is {k o : Int} {v : Nat} {s : ByteArray} {mp : Option Addr} {nm mc : Nat} {wd off : Int} {ha : Bool} {tm how : Int} {np : Option Addr} {nn nc : Nat} {bo : Bool} {kp : Option Addr} {nk kc : Nat} {r : Bool} (h : bareF o v s nm wd off ha tm how nn bo nk = r) (w : World) :
    Calls Tryz.prog 55 #[exV k o v s (.slice mp nm mc) wd off ha tm how (.slice np nn nc) bo (.slice kp nk kc)] w fun e w' => e = .returned (.bool r) ∧ Below w.heap.size w w' := by
  subst h; exact bare_any k o v s mp nm mc wd off ha tm how np nn nc bo kp nk kc w
def lessF (h : Hd) (n : Nat) : Bool := decide (n = 1) && bareF h.o h.v h.s h.ms.length h.wd h.off h.ha h.tm h.how h.ns.length h.bo 0
set_option maxRecDepth 100000 in
set_option maxHeartbeats 4000000 in
theorem less_any (h : Hd) (ks : List Tr) (w : World) : Calls Tryz.prog 39 #[valT (.mk h ks)] w fun e w' => e = .returned (.bool (lessF h ks.length)) ∧ Below w.heap.size w w' := by
  obtain ⟨b, hb⟩ : ∃ b, bareF h.o h.v h.s h.ms.length h.wd h.off h.ha h.tm h.how h.ns.length h.bo 0 = b := ⟨_, rfl⟩
  unfold lessF
  rw [hb, valT_arr]
  have HBR := Lib.hid (fun W => bare_is (k := h.k) (mp := h.ma) (mc := h.mc) (np := h.na) (nc := h.nc) (kp := none) (kc := 0) hb W)
  have hB : ∀ o, Below w.heap.size w (w.alloc o) := fun o => (Below.refl _ _).alloc (Nat.le_refl _) _
  have HB := Lib.hid hB
  clear hb hB
  unfold exV at HBR
  unfold arr
  by_cases h1 : ks.length = 1
  · have e1 : ((ks.length : Int) == 1) = true := by simp; omega
    rw [decide_eq_true h1, Bool.true_and]
    clear h1
    go_enter Tryz.func39, Tryz.ntmps39
    go_wp2_with (go_at_call 55; refine (HBR.out _).mono ?_; rintro e w2 ⟨rfl, hb2⟩)
    go_ret
    exact ⟨rfl, (HB.out _).trans (hb2.mono (HB.out _).size)⟩
  · have e1 : ((ks.length : Int) == 1) = false := by simp; omega
    rw [decide_eq_false h1, Bool.false_and]
    clear h1
    go_enter Tryz.func39, Tryz.ntmps39
    go_wp2_with fail
    go_ret
    exact ⟨rfl, HB.out _⟩
def numOk (v : Nat) : Bool := decide (v = 9221120237041090561) || (!noneB v && !decide (9223372036854775808 ≤ v))
def numF (h : Hd) (n : Nat) : Bool := numOk h.v && bareF h.o 0 h.s h.ms.length h.wd h.off h.ha h.tm h.how h.ns.length h.bo n
set_option maxRecDepth 100000 in
set_option maxHeartbeats 4000000 in
theorem num_any (h : Hd) (ks : List Tr) (w : World) (hv : h.v < 18446744073709551616) : Calls Tryz.prog 33 #[valT (.mk h ks)] w fun e w' => e = .returned (.bool (numF h ks.length)) ∧ Below w.heap.size w w' := by
  obtain ⟨b, hb⟩ : ∃ b, bareF h.o 0 h.s h.ms.length h.wd h.off h.ha h.tm h.how h.ns.length h.bo ks.length = b := ⟨_, rfl⟩
  unfold numF numOk
  rw [hb, valT_arr]
  have HBR := Lib.hid (fun W => bare_is (k := h.k) (mp := h.ma) (mc := h.mc) (np := h.na) (nc := h.nc) (kp := h.ka) (kc := h.kc) hb W)
  have hz : ((0 : Nat) : Int) = 0 := rfl
  have hB : ∀ o, Below w.heap.size w (w.alloc o) := fun o => (Below.refl _ _).alloc (Nat.le_refl _) _
  have HB := Lib.hid hB
  obtain ⟨nx, hnx⟩ : ∃ nx, noneB h.v = nx := ⟨_, rfl⟩
  obtain ⟨sx, hsx⟩ : ∃ sx, decide (9223372036854775808 ≤ h.v) = sx := ⟨_, rfl⟩
  obtain ⟨cx, hcx⟩ : ∃ cx : Int, (if (!nx) = true then (1 : Int) else 0) = cx := ⟨_, rfl⟩
  have HCM := Lib.hid (fun W => cmp_none h.v (!nx) (by rw [← hnx]; exact order_self h.v hv) W)
  rw [hcx] at HCM
  have HSG := Lib.hid (fun W => signbit_is h.v hv sx hsx W)
  have hfb := fun w => frombits h.v w
  rw [hnx, hsx]
  clear hb hB hnx hsx
  unfold exV at HBR
  rw [hz] at HBR
  clear hz
  unfold arr
  by_cases h1 : h.v = 9221120237041090561
  · have e1 : ((h.v : Int) == 9221120237041090561) = true := by simp; omega
    rw [decide_eq_true h1, Bool.true_or, Bool.true_and]
    clear h1
    cases nx
    all_goals
      simp at hcx
      subst hcx
      go_enter Tryz.func33, Tryz.ntmps33
      go_wp2_with fail
      refine (HCM.out _).mono ?_
      rintro e w3 ⟨rfl, rfl⟩
      go_upto_region 4 with fail
      go_wp2_with fail
      refine (HBR.out _).mono ?_
      rintro e w2 ⟨rfl, hb2⟩
      go_wp2_with fail
      go_ret
      exact ⟨rfl, (HB.out _).trans (hb2.mono (HB.out _).size)⟩
  · have e1 : ((h.v : Int) == 9221120237041090561) = false := by simp; omega
    rw [decide_eq_false h1, Bool.false_or]
    clear h1
    cases nx with
    | true =>
      simp at hcx
      subst hcx
      clear HSG
      go_enter Tryz.func33, Tryz.ntmps33
      go_wp2_with fail
      refine (HCM.out _).mono ?_
      rintro e w3 ⟨rfl, rfl⟩
      go_upto_region 4 with fail
      go_wp2_with fail
      go_ret
      exact ⟨rfl, HB.out _⟩
    | false =>
      simp at hcx
      subst hcx
      go_enter Tryz.func33, Tryz.ntmps33
      go_wp2_with fail
      refine (HCM.out _).mono ?_
      rintro e w3 ⟨rfl, rfl⟩
      go_upto_region 4 with fail
      go_wp2_with fail
      refine (HSG.out _).mono ?_
      rintro e w3 ⟨rfl, rfl⟩
      cases sx with
      | true =>
        go_wp2_with fail
        go_ret
        exact ⟨rfl, HB.out _⟩
      | false =>
        go_wp2_with fail
        refine (HBR.out _).mono ?_
        rintro e w2 ⟨rfl, hb2⟩
        go_wp2_with fail
        go_ret
        exact ⟨rfl, (HB.out _).trans (hb2.mono (HB.out _).size)⟩
end Go.Proofs.YtmodehfedhgcbaaGreatDoor.Ck

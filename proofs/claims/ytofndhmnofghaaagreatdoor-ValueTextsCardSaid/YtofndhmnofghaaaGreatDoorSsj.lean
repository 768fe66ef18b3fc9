/- What the program's Parse and the document's Parse make of any text: one relation, ParR. Conditions: the text has at most 65536 bytes, the tables lie in memory. -/
import Derived.Test.YtofndhmnofghaaaGreatDoorSnj
import Derived.Test.YtofndhmnofghaaaGreatDoorSrj
import Derived.Test.YtofndhmnofghaaaGreatDoorE3j
namespace Go.Proofs.YtofndhmnofghaaaGreatDoor.Sl
open Go.RowKit Ieee
set_option linter.unusedVariables false

def numT (s : ByteArray) : Bool := decide (s.size ≤ 200) && decB s
abbrev wN : List UInt8 := [78, 97, 78]
abbrev wI : List UInt8 := [73, 110, 102]
abbrev wP : List UInt8 := [43, 73, 110, 102]
abbrev wM : List UInt8 := [45, 73, 110, 102]
structure NoW (s : ByteArray) : Prop where
  a : s.data.toList ≠ wN
  b : s.data.toList ≠ wI
  c : s.data.toList ≠ wP
  d : s.data.toList ≠ wM
/-- what a text is read as -/
inductive ParR (s : ByteArray) : Int → Bool → Prop
  | none : s.data.toList = wN → ParR s 9221120237041090561 true
  | inf : s.data.toList = wI ∨ s.data.toList = wP → ParR s 9218868437227405312 true
  | minf : s.data.toList = wM → ParR s 18442240474082181120 true
  | num (b : Nat) : NoW s → numT s = true → PfR s b → ParR s (b : Int) true
  | bad : NoW s → numT s = false → ParR s 0 false
theorem ParR.det {s : ByteArray} {v v' : Int} {ok ok' : Bool} (h : ParR s v ok) (g : ParR s v' ok') : v = v' ∧ ok = ok' := by
  cases h with
  | none h =>
    cases g with
    | none g => exact ⟨rfl, rfl⟩
    | inf g => rw [h] at g; rcases g with g | g <;> cases g
    | minf g => rw [h] at g; cases g
    | num b g => exact absurd h g.a
    | bad g => exact absurd h g.a
  | inf h =>
    cases g with
    | none g => rw [g] at h; rcases h with h | h <;> cases h
    | inf g => exact ⟨rfl, rfl⟩
    | minf g => rw [g] at h; rcases h with h | h <;> cases h
    | num b g => rcases h with h | h; exact absurd h g.b; exact absurd h g.c
    | bad g => rcases h with h | h; exact absurd h g.b; exact absurd h g.c
  | minf h =>
    cases g with
    | none g => rw [h] at g; cases g
    | inf g => rw [h] at g; rcases g with g | g <;> cases g
    | minf g => exact ⟨rfl, rfl⟩
    | num b g => exact absurd h g.d
    | bad g => exact absurd h g.d
  | num b h h1 h2 =>
    cases g with
    | none g => exact absurd g h.a
    | inf g => rcases g with g | g; exact absurd g h.b; exact absurd g h.c
    | minf g => exact absurd g h.d
    | num c g g1 g2 => exact ⟨by rw [PfR.det _ _ _ h2 g2], rfl⟩
    | bad g g1 => rw [h1] at g1; cases g1
  | bad h h1 =>
    cases g with
    | none g => exact absurd g h.a
    | inf g => rcases g with g | g; exact absurd g h.b; exact absurd g h.c
    | minf g => exact absurd g h.d
    | num c g g1 g2 => rw [h1] at g1; cases g1
    | bad g g1 => exact ⟨rfl, rfl⟩
theorem ParR.no {s : ByteArray} {v : Int} (h : ParR s v false) : v = 0 := by cases h; rfl
theorem bytes_of {s : ByteArray} {l : List UInt8} (h : s.data.toList = l) : s = ⟨l.toArray⟩ := by
  obtain ⟨⟨x⟩⟩ := s
  have : x = l := h
  rw [this]
theorem noword {s : ByteArray} (h : NoW s) : (s.toList == [78, 97, 78]) = false ∧ (s.toList == [73, 110, 102]) = false ∧ (s.toList == [43, 73, 110, 102]) = false ∧ (s.toList == [45, 73, 110, 102]) = false := by
  rw [ByteArray.toList_eq]
  exact ⟨beq_eq_false_iff_ne.2 h.a, beq_eq_false_iff_ne.2 h.b, beq_eq_false_iff_ne.2 h.c, beq_eq_false_iff_ne.2 h.d⟩
theorem bits64_at (b : Nat) (w : World) : (callFunc 22 #[.float .f64 b]).run Tryz.prog w = .ok (.value (.int .u64 (b : Int))) w := by kernel_rfl
def numEr : Bool → Value
  | true => .nilIface
  | false => .iface 45 (.int .i64 13)
def ValP (s : ByteArray) (w : World) (e : Ending) (w' : World) : Prop :=
  (∃ (v : Int) (ok : Bool), e = .returned (.tuple #[.int .u64 v, numEr ok]) ∧ ParR s v ok) ∧ Below w.heap.size w w'
def RefP (s : ByteArray) (w : World) (e : Ending) (w' : World) : Prop :=
  (∃ (v : Int) (ok : Bool), e = .returned (.tuple #[.int .u64 v, .bool ok]) ∧ ParR s v ok) ∧ Below w.heap.size w w'
theorem refbits_any (b : Nat) (w : World) : Calls Tryz.prog 27 #[.float .f64 b] w fun e w' => e = .returned (.int .u64 (b : Int)) ∧ w = w' := by
  have hb := fun b w => bits64_at b w
  go_enter Tryz.func27, Tryz.ntmps27
  go_wp2_with fail
  go_ret
  exact ⟨rfl, rfl⟩
section
variable {Q qo qc P off c F fo fc : Nat}
set_option maxRecDepth 100000 in
set_option maxHeartbeats 1000000 in
theorem value_num (s : ByteArray) (w : World) (hT : Tabs Q qo qc P off c F fo fc w) (hw : NoW s) (hs : s.size ≤ 65536) :
    Calls Tryz.prog 14 #[.string s] w (ValP s w) := by
  have HW := Lib.hid hw
  obtain ⟨n1, n2, n3, n4⟩ := noword hw
  have hb := fun b w => bits64_at b w
  clear hw
  by_cases h200 : s.size ≤ 200
  · have d : decide ((200 : Int) < (s.size : Int)) = false := decide_eq_false (by omega)
    have HD := Lib.hid (dec_any s (by omega))
    have h400 : s.size ≤ 400 := by omega
    cases hd : decB s with
    | true =>
      have HA := Lib.hid (decB_al hd)
      have HT := Lib.hid hT
      have HN : Hid (numT s = true) := by show _ = _; unfold numT; rw [hd, decide_eq_true h200]; rfl
      rw [hd] at HD
      clear hd hT h200
      go_enter Tryz.func14, Tryz.ntmps14
      go_wp2_with fail
      refine (HD.out _).mono ?_
      rintro e w1 ⟨rfl, hb1⟩
      have HB1 := Lib.hid hb1
      have HF := Lib.hid (float_any s w1 (HT.out.below hb1) h400 HA.out)
      clear hb1
      go_wp2_with fail
      refine (HF.out).mono ?_
      rintro e w2 ⟨⟨b, er, rfl, hpf⟩, hb2⟩
      have HB2 := Lib.hid (HB1.out.trans (hb2.mono HB1.out.size))
      have HP := Lib.hid (ParR.num b HW.out HN.out hpf)
      clear hb2 hpf
      go_wp2_with fail
      go_ret2
      exact ⟨⟨(b : Int), true, rfl, HP.out⟩, HB2.out⟩
    | false =>
      have HP : Hid (ParR s 0 false) := ParR.bad HW.out (by unfold numT; rw [hd, Bool.and_false])
      rw [hd] at HD
      clear hd hT h200
      go_enter Tryz.func14, Tryz.ntmps14
      go_wp2_with fail
      refine (HD.out _).mono ?_
      rintro e w1 ⟨rfl, hb1⟩
      have HB1 := Lib.hid hb1
      clear hb1
      go_wp2_with fail
      go_ret2
      exact ⟨⟨0, false, rfl, HP.out⟩, HB1.out⟩
  · have d : decide ((200 : Int) < (s.size : Int)) = true := decide_eq_true (by omega)
    have HP : Hid (ParR s 0 false) := ParR.bad HW.out (by unfold numT; rw [decide_eq_false h200]; rfl)
    clear hT h200
    go_enter Tryz.func14, Tryz.ntmps14
    go_wp2_with fail
    go_ret2
    exact ⟨⟨0, false, rfl, HP.out⟩, Below.refl _ _⟩
theorem frombits19 (n : Nat) (w : World) : (callFunc 19 #[.int .u64 (n : Int)]).run Tryz.prog w = .ok (.value (.float .f64 n)) w := by kernel_rfl
set_option maxRecDepth 100000 in
theorem inf_pos (w : World) : Calls Tryz.prog 23 #[.int .i64 1] w (fun e w' => e = .returned (.float .f64 9218868437227405312) ∧ w = w') := by
  have hb : ∀ w, (callFunc 19 #[.int .u64 9218868437227405312]).run Tryz.prog w = .ok (.value (.float .f64 9218868437227405312)) w := fun w => frombits19 9218868437227405312 w
  go_enter Tryz.func23, Tryz.ntmps23
  go_wp2
  go_ret
  exact ⟨rfl, rfl⟩
set_option maxRecDepth 100000 in
theorem inf_neg (w : World) : Calls Tryz.prog 23 #[.int .i64 (-1)] w (fun e w' => e = .returned (.float .f64 18442240474082181120) ∧ w = w') := by
  have hb : ∀ w, (callFunc 19 #[.int .u64 18442240474082181120]).run Tryz.prog w = .ok (.value (.float .f64 18442240474082181120)) w := fun w => frombits19 18442240474082181120 w
  go_enter Tryz.func23, Tryz.ntmps23
  go_wp2
  go_ret
  exact ⟨rfl, rfl⟩
set_option maxRecDepth 100000 in
theorem vw_a (s : ByteArray) (w : World) (h1 : (s.toList == [78, 97, 78]) = true) : Calls Tryz.prog 14 #[.string s] w (fun e w' => e = .returned (.tuple #[.int .u64 9221120237041090561, .nilIface]) ∧ w = w') := by
  go_enter Tryz.func14, Tryz.ntmps14
  go_wp2
  go_ret2
  exact ⟨rfl, rfl⟩
set_option maxRecDepth 100000 in
theorem vw_b (s : ByteArray) (w : World) (h1 : (s.toList == [78, 97, 78]) = false) (h2 : (s.toList == [73, 110, 102]) = true) : Calls Tryz.prog 14 #[.string s] w (fun e w' => e = .returned (.tuple #[.int .u64 9218868437227405312, .nilIface]) ∧ w = w') := by
  have hb : ∀ w, (callFunc 22 #[.float .f64 9218868437227405312]).run Tryz.prog w = .ok (.value (.int .u64 9218868437227405312)) w := fun w => bits64_at 9218868437227405312 w
  go_enter Tryz.func14, Tryz.ntmps14
  go_wp2_with fail
  refine (inf_pos _).mono ?_
  rintro e w1 ⟨rfl, rfl⟩
  go_wp2_with fail
  go_ret2
  exact ⟨rfl, rfl⟩
set_option maxRecDepth 100000 in
theorem vw_c (s : ByteArray) (w : World) (h1 : (s.toList == [78, 97, 78]) = false) (h2 : (s.toList == [73, 110, 102]) = false) (h3 : (s.toList == [43, 73, 110, 102]) = true) : Calls Tryz.prog 14 #[.string s] w (fun e w' => e = .returned (.tuple #[.int .u64 9218868437227405312, .nilIface]) ∧ w = w') := by
  have hb : ∀ w, (callFunc 22 #[.float .f64 9218868437227405312]).run Tryz.prog w = .ok (.value (.int .u64 9218868437227405312)) w := fun w => bits64_at 9218868437227405312 w
  go_enter Tryz.func14, Tryz.ntmps14
  go_wp2_with fail
  refine (inf_pos _).mono ?_
  rintro e w1 ⟨rfl, rfl⟩
  go_wp2_with fail
  go_ret2
  exact ⟨rfl, rfl⟩
set_option maxRecDepth 100000 in
theorem vw_d (s : ByteArray) (w : World) (h1 : (s.toList == [78, 97, 78]) = false) (h2 : (s.toList == [73, 110, 102]) = false) (h3 : (s.toList == [43, 73, 110, 102]) = false) (h4 : (s.toList == [45, 73, 110, 102]) = true) : Calls Tryz.prog 14 #[.string s] w (fun e w' => e = .returned (.tuple #[.int .u64 18442240474082181120, .nilIface]) ∧ w = w') := by
  have hb : ∀ w, (callFunc 22 #[.float .f64 18442240474082181120]).run Tryz.prog w = .ok (.value (.int .u64 18442240474082181120)) w := fun w => bits64_at 18442240474082181120 w
  go_enter Tryz.func14, Tryz.ntmps14
  go_wp2_with fail
  refine (inf_neg _).mono ?_
  rintro e w1 ⟨rfl, rfl⟩
  go_wp2_with fail
  go_ret2
  exact ⟨rfl, rfl⟩
set_option maxRecDepth 100000 in
theorem refvalue_num (s : ByteArray) (w : World) (hT : Tabs Q qo qc P off c F fo fc w) (hw : NoW s) (hs : s.size ≤ 65536) :
    Calls Tryz.prog 15 #[.string s] w (RefP s w) := by
  have HW := Lib.hid hw
  obtain ⟨n1, n2, n3, n4⟩ := noword hw
  clear hw
  have HBI := Lib.hid refbits_any
  by_cases h200 : s.size ≤ 200
  · have d : decide ((200 : Int) < (s.size : Int)) = false := decide_eq_false (by omega)
    have HD := Lib.hid (plain04_any s w hs)
    have h400 : s.size ≤ 400 := by omega
    cases hd : decB s with
    | true =>
      have HA := Lib.hid (decB_al hd)
      have HF := Lib.hid (float_any s w hT h400 HA.out)
      have HN : Hid (numT s = true) := by show _ = _; unfold numT; rw [hd, decide_eq_true h200]; rfl
      rw [hd] at HD
      clear hd hT h200
      go_enter Tryz.func15, Tryz.ntmps15
      go_wp2_with fail
      refine (HD.out).mono ?_
      rintro e w1 ⟨rfl, rfl⟩
      go_wp2_with fail
      refine (HF.out).mono ?_
      rintro e w2 ⟨⟨b, er, rfl, hpf⟩, hb2⟩
      have HB2 := Lib.hid hb2
      have HP := Lib.hid (ParR.num b HW.out HN.out hpf)
      clear hb2 hpf
      go_wp2_with fail
      refine (HBI.out _ _).mono ?_
      rintro e w3 ⟨rfl, rfl⟩
      go_wp2_with fail
      go_ret2
      exact ⟨⟨(b : Int), true, rfl, HP.out⟩, HB2.out⟩
    | false =>
      have HP : Hid (ParR s 0 false) := ParR.bad HW.out (by unfold numT; rw [hd, Bool.and_false])
      rw [hd] at HD
      clear hd hT h200
      go_enter Tryz.func15, Tryz.ntmps15
      go_wp2_with fail
      refine (HD.out).mono ?_
      rintro e w1 ⟨rfl, rfl⟩
      go_wp2_with fail
      go_ret2
      exact ⟨⟨0, false, rfl, HP.out⟩, Below.refl _ _⟩
  · have d : decide ((200 : Int) < (s.size : Int)) = true := decide_eq_true (by omega)
    have HP : Hid (ParR s 0 false) := ParR.bad HW.out (by unfold numT; rw [decide_eq_false h200]; rfl)
    clear hT h200
    go_enter Tryz.func15, Tryz.ntmps15
    go_wp2_with fail
    go_ret2
    exact ⟨⟨0, false, rfl, HP.out⟩, Below.refl _ _⟩
set_option maxRecDepth 100000 in
theorem rw_a (s : ByteArray) (w : World) (h1 : (s.toList == [78, 97, 78]) = true) : Calls Tryz.prog 15 #[.string s] w (fun e w' => e = .returned (.tuple #[.int .u64 9221120237041090561, .bool true]) ∧ w = w') := by
  go_enter Tryz.func15, Tryz.ntmps15
  go_wp2
  go_ret2
  exact ⟨rfl, rfl⟩
set_option maxRecDepth 100000 in
theorem rw_b (s : ByteArray) (w : World) (h1 : (s.toList == [78, 97, 78]) = false) (h2 : (s.toList == [73, 110, 102]) = true) : Calls Tryz.prog 15 #[.string s] w (fun e w' => e = .returned (.tuple #[.int .u64 9218868437227405312, .bool true]) ∧ w = w') := by
  go_enter Tryz.func15, Tryz.ntmps15
  go_wp2
  go_ret2
  exact ⟨rfl, rfl⟩
set_option maxRecDepth 100000 in
theorem rw_c (s : ByteArray) (w : World) (h1 : (s.toList == [78, 97, 78]) = false) (h2 : (s.toList == [73, 110, 102]) = false) (h3 : (s.toList == [43, 73, 110, 102]) = true) : Calls Tryz.prog 15 #[.string s] w (fun e w' => e = .returned (.tuple #[.int .u64 9218868437227405312, .bool true]) ∧ w = w') := by
  go_enter Tryz.func15, Tryz.ntmps15
  go_wp2
  go_ret2
  exact ⟨rfl, rfl⟩
set_option maxRecDepth 100000 in
theorem rw_d (s : ByteArray) (w : World) (h1 : (s.toList == [78, 97, 78]) = false) (h2 : (s.toList == [73, 110, 102]) = false) (h3 : (s.toList == [43, 73, 110, 102]) = false) (h4 : (s.toList == [45, 73, 110, 102]) = true) : Calls Tryz.prog 15 #[.string s] w (fun e w' => e = .returned (.tuple #[.int .u64 18442240474082181120, .bool true]) ∧ w = w') := by
  go_enter Tryz.func15, Tryz.ntmps15
  go_wp2
  go_ret2
  exact ⟨rfl, rfl⟩
theorem eqt {s : ByteArray} {l : List UInt8} (h : s.data.toList = l) : (s.toList == l) = true := by rw [ByteArray.toList_eq, h]; simp
theorem eqf {s : ByteArray} {l : List UInt8} (h : s.data.toList ≠ l) : (s.toList == l) = false := by rw [ByteArray.toList_eq]; exact beq_eq_false_iff_ne.2 h
theorem value_any (s : ByteArray) (w : World) (hT : Tabs Q qo qc P off c F fo fc w) (hs : s.size ≤ 65536) : Calls Tryz.prog 14 #[.string s] w (ValP s w) := by
  by_cases h1 : s.data.toList = wN
  · refine (vw_a s w (eqt h1)).mono ?_
    rintro e w' ⟨rfl, rfl⟩
    exact ⟨⟨_, true, rfl, .none h1⟩, Below.refl _ _⟩
  by_cases h2 : s.data.toList = wI
  · refine (vw_b s w (eqf h1) (eqt h2)).mono ?_
    rintro e w' ⟨rfl, rfl⟩
    exact ⟨⟨_, true, rfl, .inf (.inl h2)⟩, Below.refl _ _⟩
  by_cases h3 : s.data.toList = wP
  · refine (vw_c s w (eqf h1) (eqf h2) (eqt h3)).mono ?_
    rintro e w' ⟨rfl, rfl⟩
    exact ⟨⟨_, true, rfl, .inf (.inr h3)⟩, Below.refl _ _⟩
  by_cases h4 : s.data.toList = wM
  · refine (vw_d s w (eqf h1) (eqf h2) (eqf h3) (eqt h4)).mono ?_
    rintro e w' ⟨rfl, rfl⟩
    exact ⟨⟨_, true, rfl, .minf h4⟩, Below.refl _ _⟩
  exact value_num s w hT ⟨h1, h2, h3, h4⟩ hs
theorem refvalue_any (s : ByteArray) (w : World) (hT : Tabs Q qo qc P off c F fo fc w) (hs : s.size ≤ 65536) : Calls Tryz.prog 15 #[.string s] w (RefP s w) := by
  by_cases h1 : s.data.toList = wN
  · refine (rw_a s w (eqt h1)).mono ?_
    rintro e w' ⟨rfl, rfl⟩
    exact ⟨⟨_, true, rfl, .none h1⟩, Below.refl _ _⟩
  by_cases h2 : s.data.toList = wI
  · refine (rw_b s w (eqf h1) (eqt h2)).mono ?_
    rintro e w' ⟨rfl, rfl⟩
    exact ⟨⟨_, true, rfl, .inf (.inl h2)⟩, Below.refl _ _⟩
  by_cases h3 : s.data.toList = wP
  · refine (rw_c s w (eqf h1) (eqf h2) (eqt h3)).mono ?_
    rintro e w' ⟨rfl, rfl⟩
    exact ⟨⟨_, true, rfl, .inf (.inr h3)⟩, Below.refl _ _⟩
  by_cases h4 : s.data.toList = wM
  · refine (rw_d s w (eqf h1) (eqf h2) (eqf h3) (eqt h4)).mono ?_
    rintro e w' ⟨rfl, rfl⟩
    exact ⟨⟨_, true, rfl, .minf h4⟩, Below.refl _ _⟩
  exact refvalue_num s w hT ⟨h1, h2, h3, h4⟩ hs
end
end Go.Proofs.YtofndhmnofghaaaGreatDoor.Sl

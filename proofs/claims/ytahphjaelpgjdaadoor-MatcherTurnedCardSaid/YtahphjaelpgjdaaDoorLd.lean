/- Whether one matcher holds of labels, by the program. Condition: the variables as they are laid. -/
import Derived.Test.YtahphjaelpgjdaaDoorLc
import Derived.Test.YtahphjaelpgjdaaDoorWh
namespace Go.Proofs.YtahphjaelpgjdaaDoor
open Go.RowKit Rx
set_option linter.unusedVariables false

def likeF (v s : ByteArray) : Bool × Bool := match readF v with
  | .bad _ _ => (false, false)
  | .ok _ m p => if 4000 < s.size then (false, false) else (runF m p s, true)
theorem likeF_bad {v : ByteArray} {pl c : Nat} (hr : readF v = .bad pl c) (s : ByteArray) : likeF v s = (false, false) := by
  unfold likeF; rw [hr]
theorem likeF_far {v s : ByteArray} {a : Nat} {m : Mach} {p : Pc} (hr : readF v = .ok a m p) (hs : 4000 < s.size) : likeF v s = (false, false) := by
  unfold likeF; rw [hr]; show (if 4000 < s.size then ((false, false) : Bool × Bool) else (runF m p s, true)) = _; rw [if_pos hs]
theorem likeF_near {v s : ByteArray} {a : Nat} {m : Mach} {p : Pc} (hr : readF v = .ok a m p) (hs : ¬ 4000 < s.size) : likeF v s = (runF m p s, true) := by
  unfold likeF; rw [hr]; show (if 4000 < s.size then ((false, false) : Bool × Bool) else (runF m p s, true)) = _; rw [if_neg hs]
theorem like_match (v s : ByteArray) (w : World) (h5 : 5 ≤ w.heap.size) (hT : TzT w) : Calls Tryd.prog 7 #[.string v, .string s] w fun e w' =>
    ∃ err, e = .returned (.tuple #[.bool (likeF v s).1, err]) ∧ (((∃ f : Nat, err = .iface 70 (.pointer (some ⟨f, 0, none⟩)) ∨ err = .iface 55 (.int .i64 11)) ∧ (likeF v s).2 = false) ∨ (err = .nilIface ∧ (likeF v s).2 = true)) ∧ Below w.heap.size w w' := by
  refine (match_any v s w h5 hT).mono ?_
  rintro e w' ⟨hb, h⟩
  cases hr : readF v with
  | bad pl c =>
    rw [hr] at h
    rw [likeF_bad hr s]
    obtain ⟨err, h1, f, h2, _⟩ := h
    exact ⟨err, h1, .inl ⟨⟨f, .inl h2⟩, rfl⟩, hb⟩
  | ok a m p =>
    rw [hr] at h
    by_cases hs : 4000 < s.size
    · simp only [if_pos hs] at h
      rw [likeF_far hr hs]
      exact ⟨_, h, .inl ⟨⟨0, .inr rfl⟩, rfl⟩, hb⟩
    · simp only [if_neg hs] at h
      rw [likeF_near hr hs]
      exact ⟨_, h, .inr ⟨rfl, rfl⟩, hb⟩
set_option maxRecDepth 100000 in
set_option maxHeartbeats 4000000 in
theorem like_any (op : Int) (nm v s : ByteArray) (w : World) (h5 : 5 ≤ w.heap.size) (hT : TzT w) : Calls Tryd.prog 30 #[.agg #[.int .i64 op, .string nm, .string v], .string s] w fun e w' =>
    e = .returned (.tuple #[.bool (likeF v s).1, .bool (likeF v s).2]) ∧ Below w.heap.size w w' := by
  have HM := Lib.hid (like_match v s (w.alloc (.cells #[.int .i64 op, .string nm, .string v] 79)) (by simp; omega) (hT.below ((Below.refl _ _).alloc (Nat.le_refl _) _)))
  generalize likeF v s = r at *
  obtain ⟨r1, r2⟩ := r
  clear hT
  go_enter Tryd.func30, Tryd.ntmps30
  go_wp2_with fail
  refine (HM.out).mono ?_
  rintro e w1 ⟨err, rfl, herr, hb⟩
  have HB : Hid (Below w.heap.size w w1) := ((Below.refl w.heap.size w).alloc (Nat.le_refl _) _).trans (hb.mono (by simp))
  clear hb HM
  rcases herr with ⟨⟨f, rfl | rfl⟩, h2⟩ | ⟨rfl, h2⟩
  · subst h2
    go_wp2
    go_quiet (fail)
    go_wp2
    go_ret2
    exact ⟨rfl, bel_drawn HB.out _⟩
  · subst h2
    go_wp2
    go_quiet (fail)
    go_wp2
    go_ret2
    exact ⟨rfl, bel_drawn HB.out _⟩
  · subst h2
    go_wp2
    go_quiet (fail)
    go_wp2
    go_ret2
    exact ⟨rfl, bel_drawn HB.out _⟩
theorem asked_is (op : Int) (nm v s : ByteArray) (w : World) : Calls Tryd.prog 29 #[.agg #[.int .i64 op, .string nm, .string v], .string s] w fun e w' =>
    e = .returned (.tuple #[.bool (v.toList == s.toList), .bool true]) ∧ Below w.heap.size w w' := by
  generalize hr : (v.toList == s.toList) = r
  go_enter Tryd.func29, Tryd.ntmps29
  go_wp2
  go_ret2
  exact ⟨by rw [← hr]; rfl, (Below.refl _ _).alloc (Nat.le_refl _) _⟩
def wayF (op : Int) (v s : ByteArray) : Bool := if op = 2 then !(v.toList == s.toList) else if op = 1 then (v.toList == s.toList) else if op = 4 then (likeF v s).2 && !(likeF v s).1 else if op = 3 then (likeF v s).2 && (likeF v s).1 else false
def holdsF (op : Int) (nm v : ByteArray) (l : List Lb.Lab) : Bool := namedB nm v && wayF op v (getF l nm)
theorem cellsT3 {w : World} {g : Nat} {t : TypeId} {a b c : Value} (h : Blk w g t #[a, b, c]) : w.cell? ⟨g, 0, none⟩ = some a ∧ w.cell? ⟨g, 1, none⟩ = some b ∧ w.cell? ⟨g, 2, none⟩ = some c := ⟨h.cell 0, h.cell 1, h.cell 2⟩
set_option maxRecDepth 100000 in
set_option maxHeartbeats 4000000 in
theorem holds_1 (nm v : ByteArray) (A : Option Addr) (cap : Nat) (l : List Lb.Lab) (w : World) (h5 : 5 ≤ w.heap.size) (hT : TzT w) (hU : Tabs w) (hL : Lbs w A l) (hl : l.length ≤ 65536) :
    Calls Tryd.prog 14 #[.agg #[.int .i64 1, .string nm, .string v], .slice A l.length cap] w fun e w' => e = .returned (.bool (holdsF 1 nm v l)) ∧ Below w.heap.size w w' := by
  have hb0 : Below w.heap.size w (w.alloc (.cells #[.int .i64 1, .string nm, .string v] 37)) := (Below.refl _ _).alloc (Nat.le_refl _) _
  have HN := Lib.hid (named_any 1 nm v (w.alloc (.cells #[.int .i64 1, .string nm, .string v] 37)) (hU.below (by omega) hb0))
  have HX := Lib.hid (Blk.new w 37 #[.int .i64 1, .string nm, .string v])
  have HB := Lib.hid hb0
  have HT := Lib.hid hT
  have HL := Lib.hid hL
  generalize hr : holdsF 1 nm v l = r
  unfold holdsF at hr
  have HR := Lib.hid hr
  clear hr hT hU hL hb0
  cases hn : namedB nm v with
  | false =>
    rw [hn] at HN HR
    have HF : Hid (false = r) := HR.out
    clear HR hn HX
    go_enter Tryd.func14, Tryd.ntmps14
    go_wp2_with fail
    refine (HN.out).mono ?_
    rintro e w1 ⟨rfl, hb⟩
    have HB1 : Hid (Below w.heap.size w w1) := HB.out.trans (hb.mono (by simp))
    clear hb HN
    go_wp2
    go_ret
    exact ⟨by rw [← HF.out]; rfl, HB1.out⟩
  | true =>
    rw [hn] at HN HR
    have HF : Hid (wayF 1 v (getF l nm) = r) := HR.out
    clear HR hn
    go_enter Tryd.func14, Tryd.ntmps14
    go_wp2_with fail
    refine (HN.out).mono ?_
    rintro e w1 ⟨rfl, hb⟩
    have HB1 : Hid (Below w.heap.size w w1) := HB.out.trans (hb.mono (by simp))
    have HX1 := Lib.hid (HX.out.below hb)
    clear hb HN HX HB
    have hsz := HB1.out.size
    obtain ⟨y0, y1, y2⟩ := cellsT3 HX1.out
    go_wp2_with fail
    have HX2 : Hid (Blk w1.drew w.heap.size 37 #[.int .i64 1, .string nm, .string v]) := HX1.out
    have HB2 : Hid (Below w.heap.size w w1.drew) := HB1.out.drew
    have HL2 : Hid (Lbs w1.drew A l) := HL.out.below HB2.out
    go_region_with (first
      | (go_at_call 31; refine (get_any A cap l nm _ HL2.out hl).mono ?_; rintro e w2 ⟨rfl, hb2⟩
         have HB3 := Lib.hid (HB2.out.trans (below_le hb2 HB2.out.size))
         have HX3 := Lib.hid (HX2.out.below hb2)
         obtain ⟨y0, y1, y2⟩ := cellsT3 HX3.out
         clear hb2)
      | (go_at_call 29; refine (asked_is 1 nm v (getF l nm) _).mono ?_; rintro e w3 ⟨rfl, hb3⟩
         have HB4 := Lib.hid (HB3.out.trans (below_le hb3 HB3.out.size))
         have HX4 := Lib.hid (HX3.out.below hb3)
         obtain ⟨y0, y1, y2⟩ := cellsT3 HX4.out
         clear hb3))
    all_goals
      generalize hq : (v.toList == (getF l nm).toList) = q at *
      have HE : Hid (q = r) := by have := HF.out; unfold wayF at this; rw [hq] at this; exact this
      clear HF hq
      go_wp2
      go_ret
      exact ⟨by rw [← HE.out]; rfl, HB4.out⟩
set_option maxRecDepth 100000 in
set_option maxHeartbeats 4000000 in
theorem holds_2 (nm v : ByteArray) (A : Option Addr) (cap : Nat) (l : List Lb.Lab) (w : World) (h5 : 5 ≤ w.heap.size) (hT : TzT w) (hU : Tabs w) (hL : Lbs w A l) (hl : l.length ≤ 65536) :
    Calls Tryd.prog 14 #[.agg #[.int .i64 2, .string nm, .string v], .slice A l.length cap] w fun e w' => e = .returned (.bool (holdsF 2 nm v l)) ∧ Below w.heap.size w w' := by
  have hb0 : Below w.heap.size w (w.alloc (.cells #[.int .i64 2, .string nm, .string v] 37)) := (Below.refl _ _).alloc (Nat.le_refl _) _
  have HN := Lib.hid (named_any 2 nm v (w.alloc (.cells #[.int .i64 2, .string nm, .string v] 37)) (hU.below (by omega) hb0))
  have HX := Lib.hid (Blk.new w 37 #[.int .i64 2, .string nm, .string v])
  have HB := Lib.hid hb0
  have HT := Lib.hid hT
  have HL := Lib.hid hL
  generalize hr : holdsF 2 nm v l = r
  unfold holdsF at hr
  have HR := Lib.hid hr
  clear hr hT hU hL hb0
  cases hn : namedB nm v with
  | false =>
    rw [hn] at HN HR
    have HF : Hid (false = r) := HR.out
    clear HR hn HX
    go_enter Tryd.func14, Tryd.ntmps14
    go_wp2_with fail
    refine (HN.out).mono ?_
    rintro e w1 ⟨rfl, hb⟩
    have HB1 : Hid (Below w.heap.size w w1) := HB.out.trans (hb.mono (by simp))
    clear hb HN
    go_wp2
    go_ret
    exact ⟨by rw [← HF.out]; rfl, HB1.out⟩
  | true =>
    rw [hn] at HN HR
    have HF : Hid (wayF 2 v (getF l nm) = r) := HR.out
    clear HR hn
    go_enter Tryd.func14, Tryd.ntmps14
    go_wp2_with fail
    refine (HN.out).mono ?_
    rintro e w1 ⟨rfl, hb⟩
    have HB1 : Hid (Below w.heap.size w w1) := HB.out.trans (hb.mono (by simp))
    have HX1 := Lib.hid (HX.out.below hb)
    clear hb HN HX HB
    have hsz := HB1.out.size
    obtain ⟨y0, y1, y2⟩ := cellsT3 HX1.out
    go_wp2_with fail
    have HX2 : Hid (Blk w1.drew w.heap.size 37 #[.int .i64 2, .string nm, .string v]) := HX1.out
    have HB2 : Hid (Below w.heap.size w w1.drew) := HB1.out.drew
    have HL2 : Hid (Lbs w1.drew A l) := HL.out.below HB2.out
    go_region_with (first
      | (go_at_call 31; refine (get_any A cap l nm _ HL2.out hl).mono ?_; rintro e w2 ⟨rfl, hb2⟩
         have HB3 := Lib.hid (HB2.out.trans (below_le hb2 HB2.out.size))
         have HX3 := Lib.hid (HX2.out.below hb2)
         obtain ⟨y0, y1, y2⟩ := cellsT3 HX3.out
         clear hb2)
      | (go_at_call 29; refine (asked_is 2 nm v (getF l nm) _).mono ?_; rintro e w3 ⟨rfl, hb3⟩
         have HB4 := Lib.hid (HB3.out.trans (below_le hb3 HB3.out.size))
         have HX4 := Lib.hid (HX3.out.below hb3)
         obtain ⟨y0, y1, y2⟩ := cellsT3 HX4.out
         clear hb3))
    all_goals
      generalize hq : (v.toList == (getF l nm).toList) = q at *
      have HE : Hid ((!q) = r) := by have := HF.out; unfold wayF at this; rw [hq] at this; exact this
      clear HF hq
      go_wp2
      go_ret
      exact ⟨by rw [← HE.out]; rfl, HB4.out⟩
set_option maxRecDepth 100000 in
set_option maxHeartbeats 4000000 in
theorem holds_3 (nm v : ByteArray) (A : Option Addr) (cap : Nat) (l : List Lb.Lab) (w : World) (h5 : 5 ≤ w.heap.size) (hT : TzT w) (hU : Tabs w) (hL : Lbs w A l) (hl : l.length ≤ 65536) :
    Calls Tryd.prog 14 #[.agg #[.int .i64 3, .string nm, .string v], .slice A l.length cap] w fun e w' => e = .returned (.bool (holdsF 3 nm v l)) ∧ Below w.heap.size w w' := by
  have hb0 : Below w.heap.size w (w.alloc (.cells #[.int .i64 3, .string nm, .string v] 37)) := (Below.refl _ _).alloc (Nat.le_refl _) _
  have HN := Lib.hid (named_any 3 nm v (w.alloc (.cells #[.int .i64 3, .string nm, .string v] 37)) (hU.below (by omega) hb0))
  have HX := Lib.hid (Blk.new w 37 #[.int .i64 3, .string nm, .string v])
  have HB := Lib.hid hb0
  have HT := Lib.hid hT
  have HL := Lib.hid hL
  generalize hr : holdsF 3 nm v l = r
  unfold holdsF at hr
  have HR := Lib.hid hr
  clear hr hT hU hL hb0
  cases hn : namedB nm v with
  | false =>
    rw [hn] at HN HR
    have HF : Hid (false = r) := HR.out
    clear HR hn HX
    go_enter Tryd.func14, Tryd.ntmps14
    go_wp2_with fail
    refine (HN.out).mono ?_
    rintro e w1 ⟨rfl, hb⟩
    have HB1 : Hid (Below w.heap.size w w1) := HB.out.trans (hb.mono (by simp))
    clear hb HN
    go_wp2
    go_ret
    exact ⟨by rw [← HF.out]; rfl, HB1.out⟩
  | true =>
    rw [hn] at HN HR
    have HF : Hid (wayF 3 v (getF l nm) = r) := HR.out
    clear HR hn
    go_enter Tryd.func14, Tryd.ntmps14
    go_wp2_with fail
    refine (HN.out).mono ?_
    rintro e w1 ⟨rfl, hb⟩
    have HB1 : Hid (Below w.heap.size w w1) := HB.out.trans (hb.mono (by simp))
    have HX1 := Lib.hid (HX.out.below hb)
    clear hb HN HX HB
    have hsz := HB1.out.size
    obtain ⟨y0, y1, y2⟩ := cellsT3 HX1.out
    go_wp2_with fail
    have HX2 : Hid (Blk w1.drew w.heap.size 37 #[.int .i64 3, .string nm, .string v]) := HX1.out
    have HB2 : Hid (Below w.heap.size w w1.drew) := HB1.out.drew
    have HL2 : Hid (Lbs w1.drew A l) := HL.out.below HB2.out
    go_region_with (first
      | (go_at_call 31; refine (get_any A cap l nm _ HL2.out hl).mono ?_; rintro e w2 ⟨rfl, hb2⟩
         have HB3 := Lib.hid (HB2.out.trans (below_le hb2 HB2.out.size))
         have HX3 := Lib.hid (HX2.out.below hb2)
         obtain ⟨y0, y1, y2⟩ := cellsT3 HX3.out
         clear hb2)
      | (go_at_call 30; refine (like_any 3 nm v (getF l nm) _ (by have := HB3.out.size; omega) (HT.out.below HB3.out)).mono ?_; rintro e w3 ⟨rfl, hb3⟩
         have HB4 := Lib.hid (HB3.out.trans (below_le hb3 HB3.out.size))
         have HX4 := Lib.hid (HX3.out.below hb3)
         obtain ⟨y0, y1, y2⟩ := cellsT3 HX4.out
         clear hb3))
    all_goals
      generalize hq : likeF v (getF l nm) = q at *
      have HE : Hid ((q.2 && q.1) = r) := by have := HF.out; unfold wayF at this; rw [hq] at this; exact this
      clear HF hq
      obtain ⟨q1, q2⟩ := q
      cases q2 with
      | false =>
        go_wp2
        go_ret
        exact ⟨by rw [← HE.out]; rfl, HB4.out⟩
      | true =>
        cases q1 with
        | false =>
          go_wp2
          go_ret
          exact ⟨by rw [← HE.out]; rfl, HB4.out⟩
        | true =>
          go_wp2
          go_ret
          exact ⟨by rw [← HE.out]; rfl, HB4.out⟩
set_option maxRecDepth 100000 in
set_option maxHeartbeats 4000000 in
theorem holds_4 (nm v : ByteArray) (A : Option Addr) (cap : Nat) (l : List Lb.Lab) (w : World) (h5 : 5 ≤ w.heap.size) (hT : TzT w) (hU : Tabs w) (hL : Lbs w A l) (hl : l.length ≤ 65536) :
    Calls Tryd.prog 14 #[.agg #[.int .i64 4, .string nm, .string v], .slice A l.length cap] w fun e w' => e = .returned (.bool (holdsF 4 nm v l)) ∧ Below w.heap.size w w' := by
  have hb0 : Below w.heap.size w (w.alloc (.cells #[.int .i64 4, .string nm, .string v] 37)) := (Below.refl _ _).alloc (Nat.le_refl _) _
  have HN := Lib.hid (named_any 4 nm v (w.alloc (.cells #[.int .i64 4, .string nm, .string v] 37)) (hU.below (by omega) hb0))
  have HX := Lib.hid (Blk.new w 37 #[.int .i64 4, .string nm, .string v])
  have HB := Lib.hid hb0
  have HT := Lib.hid hT
  have HL := Lib.hid hL
  generalize hr : holdsF 4 nm v l = r
  unfold holdsF at hr
  have HR := Lib.hid hr
  clear hr hT hU hL hb0
  cases hn : namedB nm v with
  | false =>
    rw [hn] at HN HR
    have HF : Hid (false = r) := HR.out
    clear HR hn HX
    go_enter Tryd.func14, Tryd.ntmps14
    go_wp2_with fail
    refine (HN.out).mono ?_
    rintro e w1 ⟨rfl, hb⟩
    have HB1 : Hid (Below w.heap.size w w1) := HB.out.trans (hb.mono (by simp))
    clear hb HN
    go_wp2
    go_ret
    exact ⟨by rw [← HF.out]; rfl, HB1.out⟩
  | true =>
    rw [hn] at HN HR
    have HF : Hid (wayF 4 v (getF l nm) = r) := HR.out
    clear HR hn
    go_enter Tryd.func14, Tryd.ntmps14
    go_wp2_with fail
    refine (HN.out).mono ?_
    rintro e w1 ⟨rfl, hb⟩
    have HB1 : Hid (Below w.heap.size w w1) := HB.out.trans (hb.mono (by simp))
    have HX1 := Lib.hid (HX.out.below hb)
    clear hb HN HX HB
    have hsz := HB1.out.size
    obtain ⟨y0, y1, y2⟩ := cellsT3 HX1.out
    go_wp2_with fail
    have HX2 : Hid (Blk w1.drew w.heap.size 37 #[.int .i64 4, .string nm, .string v]) := HX1.out
    have HB2 : Hid (Below w.heap.size w w1.drew) := HB1.out.drew
    have HL2 : Hid (Lbs w1.drew A l) := HL.out.below HB2.out
    go_region_with (first
      | (go_at_call 31; refine (get_any A cap l nm _ HL2.out hl).mono ?_; rintro e w2 ⟨rfl, hb2⟩
         have HB3 := Lib.hid (HB2.out.trans (below_le hb2 HB2.out.size))
         have HX3 := Lib.hid (HX2.out.below hb2)
         obtain ⟨y0, y1, y2⟩ := cellsT3 HX3.out
         clear hb2)
      | (go_at_call 30; refine (like_any 4 nm v (getF l nm) _ (by have := HB3.out.size; omega) (HT.out.below HB3.out)).mono ?_; rintro e w3 ⟨rfl, hb3⟩
         have HB4 := Lib.hid (HB3.out.trans (below_le hb3 HB3.out.size))
         have HX4 := Lib.hid (HX3.out.below hb3)
         obtain ⟨y0, y1, y2⟩ := cellsT3 HX4.out
         clear hb3))
    all_goals
      generalize hq : likeF v (getF l nm) = q at *
      have HE : Hid ((q.2 && !q.1) = r) := by have := HF.out; unfold wayF at this; rw [hq] at this; exact this
      clear HF hq
      obtain ⟨q1, q2⟩ := q
      cases q2 with
      | false =>
        go_wp2
        go_ret
        exact ⟨by rw [← HE.out]; rfl, HB4.out⟩
      | true =>
        cases q1 with
        | false =>
          go_wp2
          go_ret
          exact ⟨by rw [← HE.out]; rfl, HB4.out⟩
        | true =>
          go_wp2
          go_ret
          exact ⟨by rw [← HE.out]; rfl, HB4.out⟩
end Go.Proofs.YtahphjaelpgjdaaDoor

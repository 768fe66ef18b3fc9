/- The lexer on a word: one token, that is the text. Condition: the text is a word. -/
import Derived.Test.YticmkabafmmlhaaGreatDoorT1j
import Derived.Test.YticmkabafmmlhaaGreatDoorC3j
import Derived.Deep.Slices
import Derived.ChangeSame
import Derived.Maps.AppendAt
import Derived.Laws.AppendOwnNone
import Derived.Laws.OwnMore
set_option linter.unusedVariables false
set_option maxRecDepth 100000
namespace Go.Proofs.YticmkabafmmlhaaGreatDoor
open Go.RowKit Lx
open Lib (hid)
abbrev Z0 : Value := .agg #[.int .i64 0, .int .i64 0, .string ⟨#[]⟩]
abbrev tokV (k p : Nat) (t : ByteArray) : Value := .agg #[.int .i64 (k : Int), .int .i64 (p : Int), .string t]
def KindP (p : Nat) (r : Option (Nat × List UInt8 × Nat)) (w : World) (e : Ending) (w' : World) : Prop :=
 e = .returned (match r with
  | none => .tuple #[Z0, .int .i64 (p : Int)]
  | some (k, t, n) => .tuple #[tokV k p ⟨t.toArray⟩, .int .i64 ((p + n : Nat) : Int)]) ∧ Below w.heap.size w w'
theorem kind_some {p k n q : Nat} {t : List UInt8} {tt : ByteArray} {w w' : World} (hq : p + n = q) (ht : (⟨t.toArray⟩ : ByteArray) = tt) (hb : Below w.heap.size w w') : KindP p (some (k, t, n)) w (.returned (.tuple #[tokV k p tt, .int .i64 (q : Int)])) w' := by
 subst hq ht; exact ⟨rfl, hb⟩
theorem kind_none {p : Nat} {w w' : World} (hb : Below w.heap.size w w') : KindP p none w (.returned (.tuple #[Z0, .int .i64 (p : Int)])) w' := ⟨rfl, hb⟩
def wordF (l : List UInt8) : Option (Nat × List UInt8 × Nat) :=
 match l with
 | [] => none
 | c :: r => if Lx.isL c = true then some (1, (c :: r).takeWhile isW, ((c :: r).takeWhile isW).length) else none
theorem wordF_cons (c : UInt8) (r : List UInt8) : wordF (c :: r) = if Lx.isL c = true then some (1, (c :: r).takeWhile isW, ((c :: r).takeWhile isW).length) else none := rfl
theorem sl_to (s : ByteArray) (p q : Nat) (h1 : p ≤ q) (h2 : q ≤ s.size) (w : World) : (Instr.slice 172 (.string s) (some (.int .i64 (p : Int))) (some (.int .i64 (q : Int))) none).run Tryz.prog w = .ok (.string (s.extract p q)) w := by
 have := run_slice_string (P := Tryz.prog) w 172 s .i64 .i64 (p : Int) (q : Int) Tryz.underlying172 (by omega) (by omega) (by omega)
 simpa using this
theorem slice_take (s : ByteArray) (p n : Nat) (h : p + n ≤ s.size) : s.extract p (p + n) = ⟨((s.data.toList.drop p).take n).toArray⟩ := by
 refine Sp.str_ext ?_
 rw [Lib.extract_data]
 simp
theorem tw_take (l : List UInt8) (f : UInt8 → Bool) : l.take (l.takeWhile f).length = l.takeWhile f := by
 induction l with
 | nil => rfl
 | cons c l ih =>
   rw [List.takeWhile_cons]
   cases f c with
   | true => simp [ih]
   | false => rfl
theorem word_any (s : ByteArray) (p : Nat) (w : World) (hp : p < s.size) (hs : s.size ≤ 65536) :
 Calls Tryz.prog 156 #[.string s, .int .i64 (p : Int)] w (KindP p (wordF (s.data.toList.drop p)) w) := by
 have hd := drop_byte s p hp
 have HL := hid (letter_any s[p])
 cases hl : Lx.isL s[p] with
 | true =>
   obtain ⟨n, hn⟩ : ∃ n, ((s.data.toList.drop p).takeWhile isW).length = n := ⟨_, rfl⟩
   have hle : n ≤ s.size - p := by
    have := (List.takeWhile_sublist isW (l := s.data.toList.drop p)).length_le
    rw [List.length_drop, ← Lib.size_eq] at this
    omega
   have HW := hid (fun W => whileW_any s p W (by omega) hs)
   have ht : (s.data.toList.drop p).takeWhile isW = (s.data.toList.drop p).take n := by rw [← hn, tw_take]
   have HF : Hid (wordF (s.data.toList.drop p) = some (1, (s.data.toList.drop p).take n, n)) := by
    show _ = _
    rw [← ht, ← hn, hd, wordF_cons, if_pos hl]
   have HS := hid (slice_take s p n (by omega))
   rw [hn] at HW
   rw [hl] at HL
   rw [HF.out]
   clear hd hl hn ht HF
   have sl := fun wx => sl_to s p (p + n) (by omega) (by omega) wx
   rw [HS.out] at sl
   clear HS
   generalize htt : (⟨((s.data.toList.drop p).take n).toArray⟩ : ByteArray) = tt at *
   have HTT := hid htt
   clear htt
   generalize hq : p + n = q at *
   have HQ := hid hq
   clear hq
   go_enter Tryz.func156, Tryz.ntmps156
   go_wp2_with fail
   refine (HL.out _).mono ?_
   rintro e w1 ⟨rfl, rfl⟩
   go_wp2_with fail
   refine (HW.out _).mono ?_
   rintro e w1 ⟨rfl, rfl⟩
   go_wp2_with fail
   refine bodyPost_ret (v := .tuple #[tokV 1 p tt, .int .i64 (q : Int)]) (by simp [results, Tryz.results156, go_sem]) rfl (kind_some HQ.out HTT.out (by go_grown))
 | false =>
   have HF : Hid (wordF (s.data.toList.drop p) = none) := by
    show _ = _
    rw [hd, wordF_cons, hl]; rfl
   rw [hl] at HL
   rw [HF.out]
   clear hd hl HF
   go_enter Tryz.func156, Tryz.ntmps156
   go_wp2_with fail
   refine (HL.out _).mono ?_
   rintro e w1 ⟨rfl, rfl⟩
   go_wp2_with fail
   refine bodyPost_ret (v := .tuple #[Z0, .int .i64 (p : Int)]) (by simp [results, Tryz.results156, go_sem]) rfl (kind_none (by go_grown))
end Go.Proofs.YticmkabafmmlhaaGreatDoor

set_option linter.unusedVariables false
set_option linter.unusedSimpArgs false
set_option maxRecDepth 100000
set_option maxHeartbeats 2000000
namespace Go.Proofs.YticmkabafmmlhaaGreatDoor
open Go.RowKit Lx
open Lib (hid)
theorem grown_of_below {W W' : World} (hb : Below W.heap.size W W') (row : Option Nat) : W.grownBy W' row :=
 ⟨hb.os, hb.tape, hb.output, hb.size, fun k hk _ => hb.block k hk⟩
theorem own_below {w w' : World} {base : Nat} {e : TypeId} {size : Nat} {v : Value} {n : Nat} {xs : List Value} (h : w.ownsRow base e size v n xs) (hb : Below w.heap.size w w') : w'.ownsRow base e size v n xs :=
 h.kept (grown_of_below hb none) (by
  cases hv : v.ownBlock with
  | none => exact .inl rfl
  | some g => exact .inr (by simp))
theorem info_parts3 {i : Option TypeInfo} {z : Option Value} {s b : Nat} (h : i.map (fun i => (i.zero, i.size, i.bytes)) = some (z, s, b)) : ∃ i0, i = some i0 ∧ i0.zero = z ∧ i0.size = s ∧ i0.bytes = b := by
 cases i with
 | none => cases h
 | some i0 =>
   simp only [Option.map_some, Option.some.injEq, Prod.mk.injEq] at h
   exact ⟨i0, rfl, h.1, h.2.1, h.2.2⟩
theorem tok_info : (Tryz.prog.info? 149).map (fun i => (i.zero, i.size, i.bytes)) = some (some (.agg #[.int .i64 0, .int .i64 0, .string ⟨#[]⟩]), 3, 32) := by kernel_rfl
theorem triple_at (W : World) (x0 x1 x2 : Value) (g : Nat) (h : g = W.heap.size) (t : TypeId) : ∀ j u, ([x0, x1, x2] : List Value)[j]? = some u → (W.alloc (.cells #[x0, x1, x2] t)).cell? ((⟨g, 0, none⟩ : Addr).add j) = some u := by
 subst h
 intro j u hu
 match j, hu with
 | 0, hu => simp at hu; subst hu; simp [Addr.add, World.cell?_alloc_at]
 | 1, hu => simp at hu; subst hu; simp [Addr.add, World.cell?_alloc_at]
 | 2, hu => simp at hu; subst hu; simp [Addr.add, World.cell?_alloc_at]
 | j + 3, hu => simp at hu
theorem res_tok {fn : Func} (h : fn.results = #[.cell 4 149, .tmp 5]) {tmps : Array Value} {B : Nat} (h4 : tmps.getD 4 undef = .pointer (some ⟨B, 0, none⟩)) {e : Value} (h5 : tmps.getD 5 undef = e) {W : World} {x y z : Value} (hb : Blk W B 149 #[x, y, z]) :
 (results fn tmps).run Tryz.prog W = .ok (.tuple #[.agg #[x, y, z], e]) W := by
 have c0 := hb.cell 0
 have c1 := hb.cell 1
 have c2 := hb.cell 2
 simp at c0 c1 c2
 rw [Array.getD_eq_getD_getElem?] at h4 h5
 simp [results, h, h4, h5, go_sem, c0, c1, c2]
theorem kind_some_eq (p k n : Nat) (t : List UInt8) (w : World) : KindP p (some (k, t, n)) w = fun e w' => e = .returned (.tuple #[tokV k p ⟨t.toArray⟩, .int .i64 ((p + n : Nat) : Int)]) ∧ Below w.heap.size w w' := rfl
def isWordL (l : List UInt8) : Bool := match l with | [] => false | c :: r => Lx.isL c && r.all isW
theorem letter_word (c : UInt8) (h : Lx.isL c = true) : isW c = true := by unfold isW; rw [h]; rfl
theorem tw_all {p : UInt8 → Bool} : ∀ l : List UInt8, (∀ x ∈ l, p x = true) → l.takeWhile p = l
 | [], _ => rfl
 | x :: l, h => by rw [List.takeWhile_cons, if_pos (h x List.mem_cons_self), tw_all l fun y hy => h y (List.mem_cons_of_mem _ hy)]
theorem word_tok {l : List UInt8} (h : isWordL l = true) : wordF l = some (1, l, l.length) ∧ blankN false l = 0 ∧ 0 < l.length := by
 match l, h with
 | c :: r, h =>
   unfold isWordL at h
   rw [Bool.and_eq_true] at h
   have ht : (c :: r).takeWhile isW = c :: r := by
    refine tw_all (c :: r) fun x hx => ?_
    rcases List.mem_cons.1 hx with rfl | hx
    · exact letter_word _ h.1
    · exact List.all_eq_true.1 h.2 x hx
   refine ⟨by rw [wordF_cons, if_pos h.1, ht], ?_, by simp⟩
   exact blank_letter c r h.1
theorem next_word (s : ByteArray) (w : World) (hl : isWordL s.data.toList = true) (hs : s.size ≤ 65536) :
 Calls Tryz.prog 125 #[.string s, .int .i64 0] w fun e w' => e = .returned (.tuple #[tokV 1 0 s, .int .i64 (s.size : Int)]) ∧ Below w.heap.size w w' := by
 obtain ⟨h1, _, h3⟩ := word_tok hl
 have hsz : s.data.toList.length = s.size := (Lib.size_eq s).symm
 have hp : 0 < s.size := by omega
 have hk := word_any s 0
 have HW1 : Hid (∀ W, Calls Tryz.prog 156 #[.string s, .int .i64 0] W fun e w' => e = .returned (.tuple #[tokV 1 0 s, .int .i64 (s.size : Int)]) ∧ Below W.heap.size W w') := fun W => by
  have := hk W hp hs
  rw [List.drop_zero, h1, kind_some_eq] at this
  refine this.mono ?_
  rintro e w' ⟨rfl, hb⟩
  refine ⟨?_, hb⟩
  rw [Nat.zero_add, hsz]
 obtain ⟨w2, hw2⟩ : ∃ w2, (w.alloc (.cells #[.int .i64 0, .int .i64 0, .string ⟨#[]⟩] 149)).alloc (.cells #[.func (.func 156) #[] #[], .func (.func 157) #[] #[], .func (.func 158) #[] #[], .func (.func 159) #[] #[]] 215) = w2 := ⟨_, rfl⟩
 have hb0 : Below w.heap.size w w2 := by rw [← hw2]; exact ((Below.refl _ _).alloc (Nat.le_refl _) _).alloc (by simp) _
 have HB0 := hid hb0
 have HL0 : Hid (Blk w2 w.heap.size 149 #[.int .i64 0, .int .i64 0, .string ⟨#[]⟩]) := by show Blk _ _ _ _; rw [← hw2]; exact (Blk.new w 149 _).alloc _
 have HF0 : Hid (Blk w2 (w.heap.size + 1) 215 #[.func (.func 156) #[] #[], .func (.func 157) #[] #[], .func (.func 158) #[] #[], .func (.func 159) #[] #[]]) := by
  show Blk _ _ _ _
  rw [← hw2]
  have := Blk.new (w.alloc (.cells #[.int .i64 0, .int .i64 0, .string ⟨#[]⟩] 149)) 215 #[.func (.func 156) #[] #[], .func (.func 157) #[] #[], .func (.func 158) #[] #[], .func (.func 159) #[] #[]]
  simpa using this
 have hgt : (0 : Int) < (s.size : Int) := by omega
 clear hk h1 h3 hsz hl hp hs hb0
 go_enter Tryz.func125, Tryz.ntmps125
 go_wp2_with fail
 clear hw2
 refine wp_loop_rounds 5 ?_
 rw [rounds_succ]
 have f0i := HF0.out.cell 0
 simp at f0i
 go_wp2_with fail
 refine (HW1.out _).mono ?_
 rintro e w9 ⟨rfl, hb9⟩
 have HB9 := hid (HB0.out.trans (hb9.mono HB0.out.size))
 have HL9 := hid (HL0.out.below hb9)
 clear hb9
 have c0 : ∀ o, (w9.alloc o).cell? ⟨w.heap.size, 0, none⟩ = some (.int .i64 0) := fun o => by have := (HL9.out.alloc o).cell 0; simpa using this
 have c1 : ∀ o, (w9.alloc o).cell? ⟨w.heap.size, 1, none⟩ = some (.int .i64 0) := fun o => by have := (HL9.out.alloc o).cell 1; simpa using this
 have c2 : ∀ o, (w9.alloc o).cell? ⟨w.heap.size, 2, none⟩ = some (.string ⟨#[]⟩) := fun o => by have := (HL9.out.alloc o).cell 2; simpa using this
 have f0 : ∀ o, (w9.alloc o).frozen? ⟨w.heap.size, 0, none⟩ = false := fun o => (HL9.out.alloc o).frozen 0
 have f1 : ∀ o, (w9.alloc o).frozen? ⟨w.heap.size, 1, none⟩ = false := fun o => (HL9.out.alloc o).frozen 1
 have f2 : ∀ o, (w9.alloc o).frozen? ⟨w.heap.size, 2, none⟩ = false := fun o => (HL9.out.alloc o).frozen 2
 have HBF : Hid (∀ o, Blk ((((w9.alloc o).setCell ⟨w.heap.size, 0, none⟩ (.int .i64 1)).setCell ⟨w.heap.size, 1, none⟩ (.int .i64 0)).setCell ⟨w.heap.size, 2, none⟩ (.string s)) w.heap.size 149 #[.int .i64 1, .int .i64 0, .string s]) := fun o => (((HL9.out.alloc o).set_ 0 (.int .i64 1)).set_ 1 (.int .i64 0)).set_ 2 (.string s)
 have hsz := HB9.out.size
 go_wp2_with fail
 refine bodyPost_ret (res_tok (by kernel_rfl) rfl rfl (HBF.out _)) rfl ⟨rfl, ?_⟩
 have := HB9.out
 go_grown
theorem lex_word (s : ByteArray) (w : World) (hl : isWordL s.data.toList = true) (hs : s.size ≤ 200) :
 Calls Tryz.prog 105 #[.string s] w fun e w' => ∃ b c, e = .returned (.tuple #[.slice (some ⟨b, 0, none⟩) 1 c, .nilIface]) ∧ w'.cell? ⟨b, 0, none⟩ = some (.int .i64 1) ∧ w'.cell? ⟨b, 2, none⟩ = some (.string s) ∧ Below w.heap.size w w' := by
 obtain ⟨i1, hi1, hy0, hy1, hy2⟩ := info_parts3 tok_info
 obtain ⟨_, h2, h3⟩ := word_tok hl
 have hsz : s.data.toList.length = s.size := (Lib.size_eq s).symm
 have HN := hid (fun W => next_word s W hl (by omega))
 have hb0 := fun W => blank_any s 0 W (Nat.zero_le _) (by omega)
 have hbn := fun W => blank_any s s.size W (Nat.le_refl _) (by omega)
 have hd0 : s.data.toList.drop s.size = [] := drop_none s _ (Nat.le_refl _)
 simp only [List.drop_zero, h2, Nat.add_zero] at hb0
 simp only [hd0, show blankN false [] = 0 from rfl, Nat.add_zero] at hbn
 have HB0 := hid hb0
 have HBN := hid hbn
 have d4 : ¬ (4000 : Int) < (s.size : Int) := by omega
 have d0 : (0 : Int) < (s.size : Int) := by omega
 have dn : ¬ (s.size : Int) < (s.size : Int) := by omega
 have de : ((s.size : Int) == 0) = false := beq_eq_false_iff_ne.2 (by omega)
 clear hb0 hbn hd0 h2 h3 hsz hl hs
 go_enter Tryz.func105, Tryz.ntmps105
 go_wp2_with fail
 refine (HB0.out _).mono ?_
 rintro e w1 ⟨rfl, hb1⟩
 have HB1 := hid hb1
 clear hb1
 go_wp2_with fail
 refine wp_loop_rounds 3 ?_
 rw [rounds_succ]
 go_wp2_with fail
 refine (HN.out _).mono ?_
 rintro e w2 ⟨rfl, hb2⟩
 have HB2 := hid (HB1.out.trans (hb2.mono HB1.out.size))
 clear hb2
 have hs2 := HB2.out.size
 have HO2 : Hid (w2.ownsRow w.heap.size 149 3 (.slice none 0 0) 0 []) := World.ownsRow_nil _ _ _ _
 go_wp2_with (at_builtin; refine wpList_append_own _ rfl _ _ 145 rfl w.heap.size 149 i1 _ 3 32 Tryz.underlying145 hi1 hy0 hy1 hy2 rfl (by decide) _ _ _ rfl ((HO2.out.alloc _).alloc _) _ 1 1 [.int .i64 1, .int .i64 0, .string s] rfl rfl ?c1 ?c2 ?c3 ?c4 ?c5 ?_)
 case c1 => exact triple_at _ _ _ _ _ (by simp) _
 case c2 => intro u hu; simp at hu; rcases hu with rfl | rfl | rfl <;> rfl
 case c3 => unfold maxLen; omega
 case c4 => omega
 case c5 => simp; omega
 intro v' w3 hown3 hgr3 _
 have HO3 := hid hown3
 have HB3 : Hid (Below w.heap.size w w3) := ((HB2.out.alloc hs2 _).alloc (by simp; omega) _).grown hgr3 (by simp; omega) (fun g hg => (HO2.out.lt g hg).1)
 clear hown3 hgr3
 go_wp2_with fail
 refine (HBN.out _).mono ?_
 rintro e w4 ⟨rfl, hb4⟩
 have HB4 := hid (HB3.out.trans (hb4.mono HB3.out.size))
 have HO4 := hid (own_below HO3.out hb4)
 clear hb4
 go_wp2_with fail
 rw [rounds_succ]
 go_wp2_with fail
 go_ret2
 have h := HO4.out
 rcases h.2 with ⟨_, hn⟩ | ⟨g, cap, cur, hv, _⟩
 · cases hn
 · subst hv
   have c := h.cells (g := g) rfl
   exact ⟨g, cap, rfl, by have := c 0 _ rfl; simpa [Addr.add] using this, by have := c 2 _ rfl; simpa [Addr.add] using this, HB4.out⟩
end Go.Proofs.YticmkabafmmlhaaGreatDoor

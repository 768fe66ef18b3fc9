import Derived.Test.YtaggmakaceafgaaGreatDoorC3
import Derived.Test.YtaggmakaceafgaaGreatDoorV1
import Derived.Test.YtaggmakaceafgaaGreatDoorT3
namespace Go.Proofs.YtaggmakaceafgaaGreatDoor
open Go.RowKit Lx
set_option linter.unusedVariables false

/-! words, numbers and spans -/
abbrev Z0 : Value := .agg #[.int .i64 0, .int .i64 0, .string ⟨#[]⟩]
abbrev tokV (k p : Nat) (t : ByteArray) : Value := .agg #[.int .i64 (k : Int), .int .i64 (p : Int), .string t]
/-- what a kind hands back: a token and its end, or nothing -/
def KindP (p : Nat) (r : Option (Nat × List UInt8 × Nat)) (w : World) (e : Ending) (w' : World) : Prop :=
  e = .returned (match r with
    | none => .tuple #[Z0, .int .i64 (p : Int)]
    | some (k, t, n) => .tuple #[tokV k p ⟨t.toArray⟩, .int .i64 ((p + n : Nat) : Int)]) ∧ Below w.heap.size w w'
theorem kind_some {p k n q : Nat} {t : List UInt8} {tt : ByteArray} {w w' : World} (hq : p + n = q) (ht : (⟨t.toArray⟩ : ByteArray) = tt) (hb : Below w.heap.size w w') : KindP p (some (k, t, n)) w (.returned (.tuple #[tokV k p tt, .int .i64 (q : Int)])) w' := by
  subst hq ht; exact ⟨rfl, hb⟩
theorem kind_none {p : Nat} {w w' : World} (hb : Below w.heap.size w w') : KindP p none w (.returned (.tuple #[Z0, .int .i64 (p : Int)])) w' := ⟨rfl, hb⟩
def wordF (l : List UInt8) : Option (Nat × List UInt8 × Nat) :=
  match l with
  | [] => none
  | c :: r => if Lx.isL c = true then some (1, (c :: r).takeWhile isW, ((c :: r).takeWhile isW).length) else none
theorem wordF_cons (c : UInt8) (r : List UInt8) : wordF (c :: r) = if Lx.isL c = true then some (1, (c :: r).takeWhile isW, ((c :: r).takeWhile isW).length) else none := rfl
theorem sl_to (s : ByteArray) (p q : Nat) (h1 : p ≤ q) (h2 : q ≤ s.size) (w : World) : (Instr.slice 39 (.string s) (some (.int .i64 (p : Int))) (some (.int .i64 (q : Int))) none).run Tryz.prog w = .ok (.string (s.extract p q)) w := by
  have := run_slice_string (P := Tryz.prog) w 39 s .i64 .i64 (p : Int) (q : Int) Tryz.underlying39 (by omega) (by omega) (by omega)
  simpa using this
theorem slice_take (s : ByteArray) (p n : Nat) (h : p + n ≤ s.size) : s.extract p (p + n) = ⟨((s.data.toList.drop p).take n).toArray⟩ := by
  refine Sp.str_ext ?_
  rw [Lib.extract_data]
  simp
theorem tw_take (l : List UInt8) (f : UInt8 → Bool) : l.take (l.takeWhile f).length = l.takeWhile f := by
  induction l with
  | nil => rfl
  | cons c l ih =>
    rw [List.takeWhile_cons]
    cases f c with
    | true => simp [ih]
    | false => rfl
set_option maxRecDepth 100000 in
theorem word_any (s : ByteArray) (p : Nat) (w : World) (hp : p < s.size) (hs : s.size ≤ 65536) :
    Calls Tryz.prog 21 #[.string s, .int .i64 (p : Int)] w (KindP p (wordF (s.data.toList.drop p)) w) := by
  have hd := drop_byte s p hp
  have HL := Lib.hid (letter_any s[p])
  cases hl : Lx.isL s[p] with
  | true =>
    obtain ⟨n, hn⟩ : ∃ n, ((s.data.toList.drop p).takeWhile isW).length = n := ⟨_, rfl⟩
    have hle : n ≤ s.size - p := by
      have := (List.takeWhile_sublist isW (l := s.data.toList.drop p)).length_le
      rw [List.length_drop, ← Lib.size_eq] at this
      omega
    have HW := Lib.hid (fun W => whileW_any s p W (by omega) hs)
    have ht : (s.data.toList.drop p).takeWhile isW = (s.data.toList.drop p).take n := by rw [← hn, tw_take]
    have HF : Hid (wordF (s.data.toList.drop p) = some (1, (s.data.toList.drop p).take n, n)) := by
      show _ = _
      rw [← ht, ← hn, hd, wordF_cons, if_pos hl]
    have HS := Lib.hid (slice_take s p n (by omega))
    rw [hn] at HW
    rw [hl] at HL
    rw [HF.out]
    clear hd hl hn ht HF
    have sl := fun wx => sl_to s p (p + n) (by omega) (by omega) wx
    rw [HS.out] at sl
    clear HS
    generalize htt : (⟨((s.data.toList.drop p).take n).toArray⟩ : ByteArray) = tt at *
    have HTT := Lib.hid htt
    clear htt
    generalize hq : p + n = q at *
    have HQ := Lib.hid hq
    clear hq
    go_enter Tryz.func21, Tryz.ntmps21
    go_wp2_with fail
    refine (HL.out _).mono ?_
    rintro e w1 ⟨rfl, rfl⟩
    go_wp2_with fail
    refine (HW.out _).mono ?_
    rintro e w1 ⟨rfl, rfl⟩
    go_wp2_with fail
    refine bodyPost_ret (v := .tuple #[tokV 1 p tt, .int .i64 (q : Int)]) (by simp [results, Tryz.results21, go_sem]) rfl (kind_some HQ.out HTT.out (by go_grown))
  | false =>
    have HF : Hid (wordF (s.data.toList.drop p) = none) := by
      show _ = _
      rw [hd, wordF_cons, hl]; rfl
    rw [hl] at HL
    rw [HF.out]
    clear hd hl HF
    go_enter Tryz.func21, Tryz.ntmps21
    go_wp2_with fail
    refine (HL.out _).mono ?_
    rintro e w1 ⟨rfl, rfl⟩
    go_wp2_with fail
    refine bodyPost_ret (v := .tuple #[Z0, .int .i64 (p : Int)]) (by simp [results, Tryz.results21, go_sem]) rfl (kind_none (by go_grown))
end Go.Proofs.YtaggmakaceafgaaGreatDoor

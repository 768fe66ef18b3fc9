/- labelsOf; key.put and key.Of: labels as one text. Conditions: the table of powers of ten as it is laid; few labels. -/
import Derived.Test.YtencpjhpedenbaaGreatDoorG1
import Derived.Test.YtencpjhpedenbaaGreatDoorShelfI
import Derived.Lib.ItoaNum
namespace Go.Proofs.YtencpjhpedenbaaGreatDoor
open Go.RowKit Lb
set_option linter.unusedVariables false
set_option linter.unusedSimpArgs false
set_option maxRecDepth 100000
set_option maxHeartbeats 4000000

def PT (w : World) : Prop := Lib.TabIs Tryz.prog w "internal/strconv.uint64pow10" .u64 Lib.pow10Tab
theorem pow_global : Tryz.prog.globalNamed "internal/strconv.uint64pow10" = some 3 := by kernel_rfl
theorem PT.below {w w' : World} {B : Nat} (h : PT w) (hB : 4 ≤ B) (hb : Below B w w') : PT w' := by
  unfold PT Lib.TabIs World.var? at h ⊢
  rw [pow_global] at h ⊢
  simp only [Option.bind_some] at h ⊢
  rw [hb.block 3 (by omega)]
  exact h
theorem itoa_nat (n : Nat) : Lib.itoa (n : Int) = Lib.decDigits n := by
  unfold Lib.itoa
  rw [if_neg (by omega)]
  rfl
theorem itoa_any (n : Nat) (r : List UInt8) (hr : Lib.decDigits n = r) (hn : n ≤ 1000000) (w : World) (hP : PT w) :
    Calls Tryz.prog 76 #[.int .i64 n] w fun e w' => e = .returned (.string ⟨r.toArray⟩) ∧ Below w.heap.size w w' := by
  refine (Tryz.strconv_Itoa n (by omega) (by omega) w hP).mono fun e w' ⟨h1, k, os, h2⟩ => ⟨?_, ?_⟩
  · rw [h1, itoa_nat, hr]
  · subst h2
    exact ⟨rfl, rfl, rfl, by rw [Sort.size_grow]; show w.heap.size ≤ w.heap.size + _; omega, fun i hi => Sort.heap_grow_old (w.drewN k) os hi⟩
theorem digits_le : ∀ (k n : Nat), n < 10 ^ (k + 1) → Lib.nDigits n ≤ k + 1
  | 0, n, h => by rw [Lib.nDigits_small (by simpa using h)]; omega
  | k + 1, n, h => by
    by_cases h1 : n < 10
    · rw [Lib.nDigits_small h1]; omega
    · rw [Lib.nDigits_big h1]
      have := digits_le k (n / 10) (by rw [Nat.pow_succ] at h; omega)
      omega
theorem dec_len (n : Nat) (hn : n ≤ 1000000) : (Lib.decDigits n).length ≤ 40 := by
  rw [Lib.decDigits_length]
  have := digits_le 6 n (by omega)
  omega
def putF (s : ByteArray) : List UInt8 := Lib.decDigits s.size ++ [58] ++ s.data.toList
def keyF (l : List Lab) : List UInt8 := l.flatMap fun x => putF x.1 ++ putF x.2
theorem builder_below {T e : TypeId} {B b : Nat} {bs : List Value} {W W' : World} (h : Lib.IsBuilderF T e B b bs W) (hb : Below W.heap.size W W') : Lib.IsBuilderF T e B b bs W' := by
  have key : ∀ q, Lib.BuilderAtF T e B b q bs W → Lib.BuilderAtF T e B b q bs W' := fun q hq => by
    have hl : b < W.heap.size := World.block_lt_of_cell? W ⟨b, 0, none⟩ hq.cell0
    obtain ⟨h1, v, h2, h3, h4⟩ := hq
    refine ⟨h1, v, (hb.block b hl).trans h2, h3.kept (grown_of_below hb) ?_, h4⟩
    cases v.ownBlock with
    | none => exact .inl rfl
    | some g => exact .inr (by simp)
  rcases h with h | h
  · exact .inl (key _ h)
  · exact .inr (key _ h)
theorem byteCells_append (a b : List UInt8) : Lib.byteCells (a ++ b) = Lib.byteCells a ++ Lib.byteCells b := by simp [Lib.byteCells]
theorem strCells_is (s : ByteArray) : Lib.strCells s = Lib.byteCells s.data.toList := rfl
theorem byteCells_len (l : List UInt8) : (Lib.byteCells l).length = l.length := List.length_map ..
def PutP (B b : Nat) (r : List UInt8) (w : World) (e : Ending) (w' : World) : Prop := e = .returned (.tuple #[]) ∧ Lib.IsBuilderF 92 5 B b (Lib.byteCells r) w' ∧ Below B w w' ∧ Lib.OthersKept 5 (some b) w w'
theorem put_any (B b : Nat) (acc : List UInt8) (s : ByteArray) (w : World) (h : Lib.IsBuilderF 92 5 B b (Lib.byteCells acc) w) (hl : acc.length ≤ 1000000) (hs : s.size ≤ 1000) (hBw : B ≤ w.heap.size) (hP : PT w) (hB4 : 4 ≤ B) :
    Calls Tryz.prog 59 #[.pointer (some ⟨b, 0, none⟩), .string s] w (PutP B b (acc ++ putF s) w) := by
  obtain ⟨r, hr⟩ : ∃ r, Lib.decDigits s.size = r := ⟨_, rfl⟩
  have hrl : r.length ≤ 40 := by rw [← hr]; exact dec_len _ (by omega)
  have HI := Lib.hid (itoa_any s.size r hr (by omega) w hP)
  have hput : putF s = r ++ [58] ++ s.data.toList := by unfold putF; rw [hr]
  rw [hput]
  have HW := Lib.hid (fun W (l : List UInt8) (t : ByteArray) (hh : Lib.IsBuilderF 92 5 B b (Lib.byteCells l) W) (h1 : l.length + t.size ≤ 140737488355328) (h2 : B ≤ W.heap.size) => (Tryz.Builder_WriteString_k B b (Lib.byteCells l) t W hh (by rw [byteCells_len]; exact h1) h2))
  have HB1 := Lib.hid (fun W (l : List UInt8) (hh : Lib.IsBuilderF 92 5 B b (Lib.byteCells l) W) (h1 : l.length + 1 ≤ 140737488355328) (h2 : B ≤ W.heap.size) => (Tryz.Builder_WriteByte_k B b (Lib.byteCells l) 58 W hh (by rw [byteCells_len]; exact h1) h2))
  have H0 := Lib.hid h
  clear h hP hr hput
  go_enter Tryz.func59, Tryz.ntmps59
  go_wp2_with fail
  refine (HI.out).mono ?_
  rintro e w1 ⟨rfl, hb1⟩
  have H1 := Lib.hid (builder_below H0.out hb1)
  have hs1 := hb1.size
  have K1 : Hid (Below B w w1) := hb1.mono hBw
  have O1 : Hid (Lib.OthersKept 5 (some b) w w1) := fun k o hk _ _ => (hb1.block k (Array.getElem?_eq_some_iff.1 hk).1).trans hk
  clear hb1
  go_wp2_with fail
  refine (HW.out w1 acc ⟨r.toArray⟩ H1.out (by show acc.length + r.toArray.size ≤ _; rw [List.size_toArray]; omega) (by omega)).mono ?_
  rintro e w2 ⟨rfl, hb2, k2, o2⟩
  have O2 := Lib.hid (O1.out.trans o2)
  have H2 : Hid (Lib.IsBuilderF 92 5 B b (Lib.byteCells (acc ++ r)) w2) := by
    rw [byteCells_append]
    have := hb2
    exact Or.inr this
  have K2 := Lib.hid (K1.out.trans k2)
  have hs2 := k2.size
  clear hb2 k2 o2
  go_wp2_with fail
  refine (HB1.out w2 (acc ++ r) H2.out (by simp; omega) (by omega)).mono ?_
  rintro e w3 ⟨rfl, hb3, k3, o3⟩
  have O3 := Lib.hid (O2.out.trans o3)
  have H3 : Hid (Lib.IsBuilderF 92 5 B b (Lib.byteCells (acc ++ r ++ [58])) w3) := by
    rw [byteCells_append]
    exact Or.inr hb3
  have K3 := Lib.hid (K2.out.trans k3)
  have hs3 := k3.size
  clear hb3 k3 o3
  go_wp2_with fail
  refine (HW.out w3 (acc ++ r ++ [58]) s H3.out (by simp; omega) (by omega)).mono ?_
  rintro e w4 ⟨rfl, hb4, k4, o4⟩
  have O4 := Lib.hid (O3.out.trans o4)
  have H4 : Hid (Lib.IsBuilderF 92 5 B b (Lib.byteCells (acc ++ (r ++ [58] ++ s.data.toList))) w4) := by
    rw [← List.append_assoc, ← List.append_assoc, byteCells_append]
    have := hb4
    rw [strCells_is] at this
    exact Or.inr this
  have K4 := Lib.hid (K3.out.trans k4)
  clear hb4 k4 o4
  go_wp2
  go_end0
  exact ⟨rfl, H4.out, K4.out, O4.out⟩

theorem putF_len (s : ByteArray) (hs : s.size ≤ 1000) : (putF s).length ≤ 1041 := by
  have := dec_len s.size (by omega)
  have : s.data.toList.length = s.size := by simp
  unfold putF
  simp only [List.length_append, List.length_cons, List.length_nil]
  omega
def ShortL (l : List Lab) : Prop := l.length ≤ 40 ∧ ∀ i, i < l.length → (l.getD i e0).1.size ≤ 400 ∧ (l.getD i e0).2.size ≤ 400
theorem short_L {l : List Lab} (h : shortB l = true) : ShortL l := by
  simp only [shortB, Bool.and_eq_true, decide_eq_true_eq] at h
  refine ⟨h.2, fun i hi => ?_⟩
  have := h.1 i hi
  simp only [shB, Bool.and_eq_true, decide_eq_true_eq] at this
  exact this
theorem key_next (l : List Lab) (k : Nat) (h : k < l.length) : keyF (l.take (k + 1)) = keyF (l.take k) ++ putF (l.getD k e0).1 ++ putF (l.getD k e0).2 := by
  rw [take_next l k h]
  unfold keyF
  simp [List.flatMap_append]
theorem key_len {l : List Lab} (h : ShortL l) : ∀ k, k ≤ l.length → (keyF (l.take k)).length ≤ k * 2082
  | 0, _ => by simp [keyF]
  | k + 1, hk => by
    rw [key_next l k (by omega)]
    have := key_len h k (by omega)
    have h1 := putF_len (l.getD k e0).1 (by have := (h.2 k (by omega)).1; omega)
    have h2 := putF_len (l.getD k e0).2 (by have := (h.2 k (by omega)).2; omega)
    simp only [List.length_append]
    omega
theorem keyof_any (A : Option Addr) (cap : Nat) (l : List Lab) (w : World) (hL : Lbs w A l) (hS : ShortL l) (hP : PT w) (h6 : 4 ≤ w.heap.size) :
    Calls Tryz.prog 44 #[.slice A l.length cap] w fun e w' => e = .returned (.string ⟨(keyF l).toArray⟩) ∧ Below w.heap.size w w' := by
  have hall : keyF (l.take l.length) = keyF l := by rw [List.take_length]
  have HALL := Lib.hid hall
  have HLE := Lib.hid (fun k hk => key_len hS k hk)
  have HNX := Lib.hid (fun k hk => key_next l k hk)
  have HSZ := Lib.hid hS.2
  have hl40 := hS.1
  have h00 : keyF (l.take 0) = [] := by simp [keyF]
  have H00 := Lib.hid h00
  obtain ⟨r, hr⟩ : ∃ r, keyF l = r := ⟨_, rfl⟩
  rw [hr] at HALL ⊢
  obtain ⟨K, hK⟩ : ∃ K : Nat → List UInt8, ∀ k, keyF (l.take k) = K k := ⟨_, fun _ => rfl⟩
  simp only [hK] at HALL HLE HNX H00
  have HP := Lib.hid (fun W (hW : Below w.heap.size w W) => hP.below h6 hW)
  have HL := Lib.hid hL
  clear hr hK hall hS h00 hL hP
  generalize hn : l.length = n at *
  have HN := Lib.hid hn
  clear hn
  go_enter Tryz.func44, Tryz.ntmps44
  go_wp2_with fail
  have hbu : Lib.IsBuilderF 92 5 w.heap.size w.heap.size (Lib.byteCells []) (w.alloc (.cells #[.pointer none, .slice none 0 0] 92)) := Lib.IsBuilderF.of (Lib.fresh_isBuilder 92 5 w)
  have HBU := Lib.hid hbu
  have HB0 : Hid (Below w.heap.size w (w.alloc (.cells #[.pointer none, .slice none 0 0] 92))) := (Below.refl _ _).alloc (Nat.le_refl _) _
  clear hbu
  generalize w.alloc (.cells #[.pointer none, .slice none 0 0] 92) = w0 at *
  go_loopw [8] (fun i wr => ∃ k : Nat, k ≤ n ∧ i = .int .i64 k ∧ Hid (Lib.IsBuilderF 92 5 w.heap.size w.heap.size (Lib.byteCells (K k)) wr) ∧ Hid (Below w.heap.size w wr)) (fun i _ => n - (intOf i).toNat)
  case atStart => exact ⟨0, Nat.zero_le _, rfl, by rw [H00.out]; exact HBU.out, HB0⟩
  case round =>
    obtain ⟨k, hk, rfl, HBD, HB⟩ := hrel
    by_cases hlt : k < n
    · have hkl : k < l.length := by rw [HN.out]; exact hlt
      obtain ⟨b0, off, rfl, hb0, hc⟩ := HL.out (by omega)
      have hx : wr.cell? ⟨b0, off + k * 2, none⟩ = some (.string (l.getD k e0).1) := (HB.out.cell (p := ⟨b0, off + k * 2, none⟩) hb0).trans (hc k hkl).1
      have hy : wr.cell? ⟨b0, off + k * 2 + 1, none⟩ = some (.string (l.getD k e0).2) := (HB.out.cell (p := ⟨b0, off + k * 2 + 1, none⟩) hb0).trans (hc k hkl).2
      have hsz := HB.out.size
      obtain ⟨hx4, hy4⟩ := HSZ.out k hlt
      have hkl2 := HLE.out k hk
      have HNK := Lib.hid (HNX.out k hlt)
      have hlt0 : w.heap.size < wr.heap.size := by rcases HBD.out with h | h <;> exact h.lt
      have d : decide (k < n) = true := by simpa using hlt
      clear hc
      generalize (l.getD k e0).1 = x at *
      generalize (l.getD k e0).2 = y at *
      have HX1 : Hid (Below w.heap.size w (wr.alloc (.cells #[.string x, .string y] 61))) := HB.out.alloc hsz _
      have HX2 := Lib.hid (Blk.new wr 61 #[.string x, .string y])
      have HX3 := Lib.hid (builder_below HBD.out ((Below.refl wr.heap.size wr).alloc (Nat.le_refl _) (.cells #[.string x, .string y] 61)))
      have hs1 : wr.heap.size < (wr.alloc (.cells #[.string x, .string y] 61)).heap.size := by simp
      have PX := Lib.hid (put_any w.heap.size w.heap.size (K k) x _ HX3.out (by omega) (by omega) (by omega) (HP.out _ HX1.out) h6)
      go_upto_region 5 with fail
      generalize wr.alloc (.cells #[.string x, .string y] 61) = w1 at *
      have c0 := HX2.out.cell 0
      simp at c0
      go_wp2_with fail
      refine (PX.out).mono ?_
      rintro e w2 ⟨rfl, q1, q2, q3⟩
      have Q1 := Lib.hid q1
      have HX4 : Hid (Blk w2 wr.heap.size 61 #[.string x, .string y]) := q3 _ _ HX2.out (by intro e; injection e with e; rw [e] at hlt0; exact Nat.lt_irrefl _ hlt0) (by intro c fz e; cases e)
      have HB2 := Lib.hid (HX1.out.trans q2)
      have hs2 := q2.size
      have hpl := putF_len x (by omega)
      have PY := Lib.hid (put_any w.heap.size w.heap.size (K k ++ putF x) y _ Q1.out (by rw [List.length_append]; omega) (by omega) (by omega) (HP.out _ HB2.out) h6)
      have c1 := HX4.out.cell 1
      simp at c1
      clear q1 q2 q3 c0
      go_wp2_with fail
      refine (PY.out).mono ?_
      rintro e w3 ⟨rfl, q1, q2, _⟩
      have Q3 : Hid (Lib.IsBuilderF 92 5 w.heap.size w.heap.size (Lib.byteCells (K (k + 1))) w3) := by rw [HNK.out]; exact q1
      have HB3 := Lib.hid (HB2.out.trans q2)
      clear q1 q2 c1
      go_wp2
      go_roundw
      case rel => exact ⟨k + 1, by omega, by go_num, Q3, HB3⟩
      case measure => simp [intOf]; omega
    · have d : decide (k < n) = false := by simpa using hlt
      have hkn : k = n := by omega
      have hKr : K k = r := by rw [hkn]; exact HALL.out
      have HQ := Lib.hid (Tryz.Builder_String_any_k w.heap.size w.heap.size r wr (by have := HBD.out; rw [hKr] at this; exact this) HB.out.size)
      clear hkn hKr
      go_wp2_with fail
      refine (HQ.out).mono ?_
      rintro e w2 ⟨rfl, _, q2, _⟩
      go_wp2
      go_ret
      exact ⟨rfl, HB.out.trans q2⟩
end Go.Proofs.YtencpjhpedenbaaGreatDoor

/- span.Text: the text of a span, as a function. Condition: the units and the table of powers as they are laid. -/
import Derived.Test.YticmkabafmmlhaaGreatDoorT1j
import Derived.Test.YticmkabafmmlhaaGreatDoorShelfRj
import Derived.Laws.Rows
import Derived.Lib.SmallJoins
import Derived.Deep.RegionHeld3
set_option linter.unusedVariables false
set_option maxRecDepth 100000
set_option maxHeartbeats 4000000
namespace Go.Proofs.YticmkabafmmlhaaGreatDoor.Sp
open Go.RowKit Go.Shelf
open Lib (hid)
def Pow (w : World) : Prop := Lib.TabIs Tryz.prog w "internal/strconv.uint64pow10" .u64 Lib.pow10Tab
theorem Pow.below {w w' : World} (h : Pow w) (hb : Below w.heap.size w w') : Pow w' := Joins.tab_stays (g := 3) (by kernel_rfl) h hb (Nat.le_refl _)
theorem itoa_nat (n : Nat) : Lib.itoa (n : Int) = Lib.decDigits n := by
 unfold Lib.itoa
 rw [if_neg (by omega)]
 rfl
theorem format_any (n : Nat) (hn : n ≤ 35184372088832) (w : World) (hP : Pow w) :
 Calls Tryz.prog 58 #[.int .i64 n, .int .i64 10] w fun e w' => e = .returned (.string ⟨(Lib.decDigits n).toArray⟩) ∧ Below w.heap.size w w' := by
 refine (Tryz.strconv_FormatInt_10 n (by omega) (by omega) w hP).mono fun e w' ⟨h1, k, os, h2⟩ => ⟨?_, ?_⟩
 · rw [h1, itoa_nat]
 · subst h2
   exact ⟨rfl, rfl, rfl, by rw [Sort.size_grow]; show w.heap.size ≤ w.heap.size + _; omega, fun i hi => Sort.heap_grow_old (w.drewN k) os hi⟩
def Units (w : World) : Prop := ∀ k, k < 7 → w.cell? ⟨2, k * 2, none⟩ = some (.string ⟨(nameAt k).toArray⟩) ∧ w.cell? ⟨2, k * 2 + 1, none⟩ = some (.int .i64 (sizeAt k : Nat))
theorem Units.size {w : World} (h : Units w) : 2 < w.heap.size := World.block_lt_of_cell? _ _ (h 0 (by decide)).1
theorem sizes_le : ∀ k, k < 7 → sizeAt k ≤ 31536000000 := by decide
theorem size_list (l : List UInt8) : (⟨l.toArray⟩ : ByteArray).size = l.length := by rw [Lib.size_eq]
def textGo : Nat → Nat → Nat → List UInt8
 | 0, _, _ => []
 | f + 1, k, v => (if v / sizeAt k > 0 then Lib.decDigits (v / sizeAt k) ++ nameAt k else []) ++ textGo f (k + 1) (v % sizeAt k)
def textF (v : Nat) : List UInt8 := if v = 0 then [48, 115] else textGo 7 0 v
def leftGo : Nat → Nat → Nat → Nat
 | 0, _, v => v
 | f + 1, k, v => leftGo f (k + 1) (v % sizeAt k)
theorem left_le : ∀ f k v, leftGo f k v ≤ v
 | 0, _, _ => Nat.le_refl _
 | f + 1, k, v => by unfold leftGo; exact Nat.le_trans (left_le f (k + 1) _) (Nat.mod_le _ _)
def unitCells : Array Value := #[.string ⟨#[121]⟩, .int .i64 31536000000, .string ⟨#[119]⟩, .int .i64 604800000, .string ⟨#[100]⟩, .int .i64 86400000, .string ⟨#[104]⟩, .int .i64 3600000, .string ⟨#[109]⟩, .int .i64 60000, .string ⟨#[115]⟩, .int .i64 1000, .string ⟨#[109, 115]⟩, .int .i64 1]
def UnitsB (w : World) : Prop := ∃ t fr, w.heap[2]? = some (.cells unitCells t fr)
theorem UnitsB.units {w : World} (h : UnitsB w) : Units w := by
 obtain ⟨t, fr, h⟩ := h
 intro k hk
 have key : ∀ o v, unitCells[o]? = some v → w.cell? ⟨2, o, none⟩ = some v := fun o v ho => by simp [World.cell?, h, ho]
 match k, hk with
 | 0, _ => exact ⟨key _ _ rfl, key _ _ rfl⟩
 | 1, _ => exact ⟨key _ _ rfl, key _ _ rfl⟩
 | 2, _ => exact ⟨key _ _ rfl, key _ _ rfl⟩
 | 3, _ => exact ⟨key _ _ rfl, key _ _ rfl⟩
 | 4, _ => exact ⟨key _ _ rfl, key _ _ rfl⟩
 | 5, _ => exact ⟨key _ _ rfl, key _ _ rfl⟩
 | 6, _ => exact ⟨key _ _ rfl, key _ _ rfl⟩
theorem UnitsB.below {w w' : World} {B : Nat} (h : UnitsB w) (hB : 2 < B) (hb : Below B w w') : UnitsB w' := by
 obtain ⟨t, fr, h⟩ := h
 exact ⟨t, fr, (hb.block 2 hB).trans h⟩
theorem unit_at (k : Nat) (hk : k < 7) (w : World) : (Instr.index 137 (.agg unitCells) (.int .i64 (k : Nat))).run Tryz.prog w = .ok (.agg #[.string ⟨(nameAt k).toArray⟩, .int .i64 (sizeAt k : Nat)]) w := by
 match k, hk with
 | 0, _ => exact (show (Instr.index 137 (.agg unitCells) (.int .i64 0)).run Tryz.prog w = .ok (.agg #[.string ⟨(nameAt 0).toArray⟩, .int .i64 (sizeAt 0 : Nat)]) w by kernel_rfl)
 | 1, _ => exact (show (Instr.index 137 (.agg unitCells) (.int .i64 1)).run Tryz.prog w = .ok (.agg #[.string ⟨(nameAt 1).toArray⟩, .int .i64 (sizeAt 1 : Nat)]) w by kernel_rfl)
 | 2, _ => exact (show (Instr.index 137 (.agg unitCells) (.int .i64 2)).run Tryz.prog w = .ok (.agg #[.string ⟨(nameAt 2).toArray⟩, .int .i64 (sizeAt 2 : Nat)]) w by kernel_rfl)
 | 3, _ => exact (show (Instr.index 137 (.agg unitCells) (.int .i64 3)).run Tryz.prog w = .ok (.agg #[.string ⟨(nameAt 3).toArray⟩, .int .i64 (sizeAt 3 : Nat)]) w by kernel_rfl)
 | 4, _ => exact (show (Instr.index 137 (.agg unitCells) (.int .i64 4)).run Tryz.prog w = .ok (.agg #[.string ⟨(nameAt 4).toArray⟩, .int .i64 (sizeAt 4 : Nat)]) w by kernel_rfl)
 | 5, _ => exact (show (Instr.index 137 (.agg unitCells) (.int .i64 5)).run Tryz.prog w = .ok (.agg #[.string ⟨(nameAt 5).toArray⟩, .int .i64 (sizeAt 5 : Nat)]) w by kernel_rfl)
 | 6, _ => exact (show (Instr.index 137 (.agg unitCells) (.int .i64 6)).run Tryz.prog w = .ok (.agg #[.string ⟨(nameAt 6).toArray⟩, .int .i64 (sizeAt 6 : Nat)]) w by kernel_rfl)
theorem infoU : (Tryz.prog.info? 137).map (·.size) = some unitCells.size := by kernel_rfl
def textTo (v : Nat) (k : Nat) : List UInt8 := textGo k 0 v
def leftTo (v : Nat) (k : Nat) : Nat := leftGo k 0 v
theorem left_snoc : ∀ f k v, leftGo (f + 1) k v = leftGo f k v % sizeAt (k + f)
 | 0, _, _ => rfl
 | f + 1, k, v => by rw [leftGo, left_snoc f (k + 1), leftGo, show k + 1 + f = k + (f + 1) by omega]
theorem text_snoc : ∀ f k v, textGo (f + 1) k v = textGo f k v ++ (if leftGo f k v / sizeAt (k + f) > 0 then Lib.decDigits (leftGo f k v / sizeAt (k + f)) ++ nameAt (k + f) else [])
 | 0, _, _ => by simp [textGo, leftGo]
 | f + 1, k, v => by
   rw [textGo, text_snoc f (k + 1)]
   conv => rhs; rw [textGo, leftGo]
   rw [List.append_assoc, show k + 1 + f = k + (f + 1) by omega]
theorem textTo_succ (v k : Nat) : textTo v (k + 1) = textTo v k ++ (if leftTo v k / sizeAt k > 0 then Lib.decDigits (leftTo v k / sizeAt k) ++ nameAt k else []) := by
 have := text_snoc k 0 v
 rwa [Nat.zero_add] at this
theorem leftTo_succ (v k : Nat) : leftTo v (k + 1) = leftTo v k % sizeAt k := by
 have := left_snoc k 0 v
 rwa [Nat.zero_add] at this
theorem leftTo_le (v k : Nat) : leftTo v k ≤ v := left_le k 0 v
theorem dec_len : ∀ (k n : Nat), n < 10 ^ (k + 1) → (Lib.decDigits n).length ≤ k + 1
 | 0, n, h => by
   rw [Lib.decDigits, dif_pos (by simpa using h)]
   simp
 | k + 1, n, h => by
   rw [Lib.decDigits]
   split
   · simp
   · have := dec_len k (n / 10) (Nat.div_lt_of_lt_mul (by rw [Nat.pow_succ, Nat.mul_comm] at h; exact h))
     simp
     omega
theorem dec_short (n : Nat) (h : n ≤ 35184372088832) : (Lib.decDigits n).length ≤ 14 := dec_len 13 n (by omega)
theorem names_len : ∀ k, k < 7 → (nameAt k).length ≤ 2 := by decide
theorem textTo_len (v : Nat) (hv : v ≤ 35184372088832) : ∀ k, k ≤ 7 → (textTo v k).length ≤ k * 16
 | 0, _ => by simp [textTo, textGo]
 | k + 1, h => by
   have ih := textTo_len v hv k (by omega)
   have h1 := leftTo_le v k
   have h2 : leftTo v k / sizeAt k ≤ leftTo v k := Nat.div_le_self _ _
   have h3 := dec_short (leftTo v k / sizeAt k) (by omega)
   have h4 := names_len k (by omega)
   rw [textTo_succ]
   split <;> simp <;> omega
theorem add_str (a b : List UInt8) (h : a.length + b.length ≤ 65536) (w : World) : (Op.stringOp .add ⟨a.toArray⟩ ⟨b.toArray⟩).run Tryz.prog w = .ok (.string ⟨(a ++ b).toArray⟩) w := by
 rw [run_string_add_sum _ _ _ (by rw [size_list, size_list]; omega)]
 congr 2
theorem bel_drew {B : Nat} {w w' : World} (h : Hid (Below B w w')) : Hid (Below B w w'.drew) := (⟨h.out.os, h.out.tape, h.out.output, h.out.size, h.out.block⟩ : Below B w w'.drew)
theorem kept4 {w w' w3 : World} {b : Nat} {x y : Value} (h0 : w'.cell? ⟨b, 0, none⟩ = some x) (h1 : w'.cell? ⟨b, 1, none⟩ = some y) (h2 : b < w'.heap.size) (h3 : Hid (Below w.heap.size w w')) (hb : Hid (Below w'.heap.size w' w3)) :
 w3.cell? ⟨b, 0, none⟩ = some x ∧ w3.cell? ⟨b, 1, none⟩ = some y ∧ b < w3.heap.size ∧ Hid (Below w.heap.size w w3) :=
 ⟨(hb.out.cell (p := ⟨b, 0, none⟩) h2).trans h0, (hb.out.cell (p := ⟨b, 1, none⟩) h2).trans h1, Nat.lt_of_lt_of_le h2 hb.out.size, h3.out.trans (hb.out.mono h3.out.size)⟩
theorem text_loop (v : Nat) (w : World) (hU : UnitsB w) (hP : Pow w) (h0 : v ≠ 0) (hv : v ≤ 35184372088832) :
 Calls Tryz.prog 83 #[.int .i64 v] w fun e w' => e = .returned (.tuple #[.string ⟨(textTo v 7).toArray⟩, .nilIface]) ∧ Below w.heap.size w w' := by
 have hB := hU.units.size
 obtain ⟨t0, fr0, hblk⟩ := hU
 have HF := hid (fun (n : Nat) (hn : n ≤ 35184372088832) W (hW : Below w.heap.size w W) => format_any n hn W (hP.below hW))
 have d1 : ((v : Int) == 0) = false := beq_eq_false_iff_ne.2 (by omega)
 have d2 : decide ((v : Int) < 0) = false := by simp
 have d3 : decide ((35184372088832 : Int) < (v : Int)) = false := by simp; omega
 have HI := hid (fun k hk w => unit_at k hk w)
 have hinfo := infoU
 generalize hcs : unitCells = cs at *
 clear hP hcs
 go_enter Tryz.func83, Tryz.ntmps83
 go_wp2_with (first | (refine wpList_load_row rfl 137 _ rfl 2 rfl t0 cs fr0 _ hblk Tryz.underlying137 rfl hinfo ?_))
 clear hblk hinfo
 go_loopg [0, 4, 18] 7 (fun g a b c wx => ∃ k : Nat, k + g = 7 ∧ a = .int .i64 (leftTo v k : Nat) ∧ b = .string ⟨(textTo v k).toArray⟩ ∧ c = .int .i64 k ∧ Hid (Below w.heap.size w wx))
 case atStart => exact ⟨0, by omega, rfl, rfl, rfl, Below.refl _ _⟩
 case round =>
  clear d1 d2 d3
  obtain ⟨k, hkg, rfl, rfl, rfl, HB⟩ := hrel
  by_cases hk : k < 7
  · have hix := fun w => HI.out k hk w
    have hz := sizes_pos k hk
    have hzl := sizes_le k hk
    have hll := leftTo_le v k
    have HTS := hid (textTo_succ v k)
    have HLS := hid (leftTo_succ v k)
    have HNL := hid (names_len k hk)
    have HTL := hid (Nat.le_trans (textTo_len v hv k (by omega)) (by omega : k * 16 ≤ 112))
    generalize leftTo v k = L at *
    generalize nameAt k = nm at *
    generalize sizeAt k = z at *
    generalize textTo v k = tx at *
    have hq : (L : Int) / (z : Int) = ((L / z : Nat) : Int) := by simp
    have hr : (L : Int) % (z : Int) = ((L % z : Nat) : Int) := by simp
    have hql : L / z ≤ L := Nat.div_le_self _ _
    have hrl : L % z ≤ L := Nat.mod_le _ _
    rw [← HLS.out] at hr hrl
    generalize L / z = q at *
    by_cases hq0 : 0 < q
    · rw [if_pos hq0] at HTS
      have HTX : Hid ((⟨(textTo v (k + 1)).toArray⟩ : ByteArray) = ⟨(tx ++ (Lib.decDigits q ++ nm)).toArray⟩) := congrArg (fun l : List UInt8 => (⟨l.toArray⟩ : ByteArray)) HTS.out
      go_wp2_with fail
      have hb0 : wr.heap.size < (wr.alloc (.cells #[.string ⟨nm.toArray⟩, .int .i64 z] 136)).heap.size := by simp
      have c0 : (wr.alloc (.cells #[.string ⟨nm.toArray⟩, .int .i64 z] 136)).cell? ⟨wr.heap.size, 0, none⟩ = some (.string ⟨nm.toArray⟩) := by rw [World.cell?_alloc_at _ _ _ _ rfl]; rfl
      have c1 : (wr.alloc (.cells #[.string ⟨nm.toArray⟩, .int .i64 z] 136)).cell? ⟨wr.heap.size, 1, none⟩ = some (.int .i64 z) := by rw [World.cell?_alloc_at _ _ _ _ rfl]; rfl
      have HB2 := hid (HB.out.trans (((Below.refl wr.heap.size wr).alloc (Nat.le_refl _) (.cells #[.string ⟨nm.toArray⟩, .int .i64 z] 136)).mono HB.out.size))
      generalize wr.alloc (.cells #[.string ⟨nm.toArray⟩, .int .i64 z] 136) = w2 at *
      generalize hbb : wr.heap.size = b at *
      have h3 := dec_short q (by omega)
      have h4 : nm.length ≤ 2 := HNL.out
      have h5 : tx.length ≤ 112 := HTL.out
      have a1 := fun W => add_str (Lib.decDigits q) nm (by omega) W
      have a2 := fun W => add_str tx (Lib.decDigits q ++ nm) (by rw [List.length_append]; omega) W
      have HFQ := hid (fun W (hW : Hid (Below w.heap.size w W)) => HF.out q (by omega) W hW.out)
      generalize (⟨(tx ++ (Lib.decDigits q ++ nm)).toArray⟩ : ByteArray) = E2 at *
      generalize (⟨(Lib.decDigits q ++ nm).toArray⟩ : ByteArray) = E1 at *
      generalize (⟨(Lib.decDigits q).toArray⟩ : ByteArray) = E0 at *
      generalize (⟨nm.toArray⟩ : ByteArray) = NM at *
      generalize (⟨tx.toArray⟩ : ByteArray) = TX at *
      clear hbb
      go_region_held3 (fun w' => w'.cell? ⟨b, 0, none⟩ = some (.string NM) ∧ w'.cell? ⟨b, 1, none⟩ = some (.int .i64 z) ∧ b < w'.heap.size ∧ Hid (Below w.heap.size w w'))
       (first | exact ⟨c0, c1, hb0, bel_drew HB2⟩ | exact kept4 (w' := w2.drew) c0 c1 hb0 (bel_drew HB2) HB3)
       (first | (go_at_call 58; refine (HFQ.out _ (bel_drew HB2)).mono ?_; rintro e w3 ⟨rfl, hb3⟩; have HB3 := hid hb3; clear hb3))
      obtain ⟨c0', c1', hb0', HB3'⟩ := kept4 (w' := w2.drew) c0 c1 hb0 (bel_drew HB2) HB3
      clear c0 c1 hb0 a1 a2
      obtain ⟨g, rfl⟩ : ∃ g, gk = g + 1 := ⟨gk - 1, by omega⟩
      go_wp2
      go_roundg g
      case measure => omega
      case rel => exact ⟨k + 1, by omega, by rw [hr], by rw [HTX.out], by go_num, HB3'⟩
    · rw [if_neg hq0, List.append_nil] at HTS
      obtain rfl : q = 0 := by omega
      have HTX : Hid ((⟨(textTo v (k + 1)).toArray⟩ : ByteArray) = ⟨tx.toArray⟩) := congrArg (fun l : List UInt8 => (⟨l.toArray⟩ : ByteArray)) HTS.out
      obtain ⟨g, rfl⟩ : ∃ g, gk = g + 1 := ⟨gk - 1, by omega⟩
      go_wp2
      go_roundg g
      case measure => omega
      case rel => exact ⟨k + 1, by omega, by rw [hr], by rw [HTX.out], by go_num, HB.out.trans (((Below.refl wr.heap.size wr).alloc (Nat.le_refl _) _).mono HB.out.size)⟩
  · obtain rfl : k = 7 := by omega
    go_wp2
    go_ret2
    exact ⟨rfl, HB.out⟩
theorem text_yes (v : Nat) (w : World) (hU : UnitsB w) (hP : Pow w) (hv : v ≤ 35184372088832) :
 Calls Tryz.prog 83 #[.int .i64 v] w fun e w' => e = .returned (.tuple #[.string ⟨(textF v).toArray⟩, .nilIface]) ∧ Below w.heap.size w w' := by
 by_cases h0 : v = 0
 · subst h0
   have d1 : (((0 : Nat) : Int) == 0) = true := rfl
   clear hU hP
   go_enter Tryz.func83, Tryz.ntmps83
   go_wp2
   go_ret2
   exact ⟨rfl, Below.refl _ _⟩
 · refine (text_loop v w hU hP h0 hv).mono fun e w' ⟨h1, h2⟩ => ⟨?_, h2⟩
   rw [h1]
   unfold textF
   rw [if_neg h0]
   rfl
end Go.Proofs.YticmkabafmmlhaaGreatDoor.Sp

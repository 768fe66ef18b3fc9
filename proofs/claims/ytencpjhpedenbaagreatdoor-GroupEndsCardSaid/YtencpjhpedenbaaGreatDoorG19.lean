/- whole at 1; slices.Clone of labels. Conditions: at most 60 elements. -/
import Derived.Test.YtencpjhpedenbaaGreatDoorG18
import Derived.Test.YtencpjhpedenbaaGreatDoorG11
namespace Go.Proofs.YtencpjhpedenbaaGreatDoor
open Go.RowKit Lb
set_option linter.unusedVariables false
set_option linter.unusedSimpArgs false
set_option maxRecDepth 100000
set_option maxHeartbeats 2000000

abbrev oneF : Nat := 4607182418800017408
theorem one_order (n : Nat) (h1 : 1 ≤ n) (h2 : n ≤ 60) : Ieee.double.order oneF (Ieee.double.write (.number false n 0)) = if n = 1 then some .eq else some .lt := by
  have key : ∀ m : Fin 61, 1 ≤ m.1 → Ieee.double.order oneF (Ieee.double.write (.number false m.1 0)) = if m.1 = 1 then some .eq else some .lt := by decide +kernel
  exact key ⟨n, by omega⟩ h1
theorem whole_one (n : Nat) (h1 : 1 ≤ n) (h2 : n ≤ 60) (w : World) :
    Calls Tryz.prog 50 #[.int .u64 4607182418800017408, .int .i64 n] w fun e w' => e = .returned (.int .i64 1) ∧ w = w' := by
  have ho := one_order n h1 h2
  have hf := fun w => frombits_any 4607182418800017408 (by decide) w
  have ho' : FloatKind.f64.format.order 4607182418800017408 (FloatKind.f64.format.write (.number false n 0)) = if n = 1 then some .eq else some .lt := ho
  have he : FloatKind.f64.format.order 4607182418800017408 4607182418800017408 = some .eq := by decide +kernel
  clear ho
  by_cases hn : n = 1
  · subst hn
    rw [if_pos rfl] at ho'
    go_enter Tryz.func50, Tryz.ntmps50
    go_wp2
    go_ret
    exact ⟨rfl, rfl⟩
  · rw [if_neg hn] at ho'
    have ho2 : FloatKind.f64.format.order 4607182418800017408 (floatOfInt FloatKind.f64 (n : Int)) = some .lt := ho'
    have o1 : (FloatKind.f64.format.order 4607182418800017408 (floatOfInt FloatKind.f64 (n : Int)) == some .gt) = false := by rw [ho2]; rfl
    have o2 : (FloatKind.f64.format.order 4607182418800017408 (floatOfInt FloatKind.f64 (n : Int)) == some .eq) = false := by rw [ho2]; rfl
    have cv : ∀ w, (convert 32 3 (.float .f64 4607182418800017408)).run Tryz.prog w = .ok (.int .i64 1) w := fun w => by kernel_rfl
    have e1 : (FloatKind.f64.format.order 4607182418800017408 4607182418800017408 == some .gt) = false := by rw [he]; rfl
    have e2 : (FloatKind.f64.format.order 4607182418800017408 4607182418800017408 == some .eq) = true := by rw [he]; rfl
    clear ho' ho2 hn he
    go_enter Tryz.func50, Tryz.ntmps50
    go_wp2
    go_ret
    exact ⟨rfl, rfl⟩
theorem one_cell2 (l : List Lab) : ∀ u ∈ flatL l, u.oneCell' = true := by
  induction l with
  | nil => intro u hu; simp [flatL] at hu
  | cons p l ih =>
    intro u hu
    simp only [flatL, List.mem_cons] at hu
    rcases hu with rfl | rfl | hu
    · rfl
    · rfl
    · exact ih u hu
theorem Lbs.cells {w : World} {ad : Addr} {l : List Lab} (h : Lbs w (some ad) l) : ∀ j u, (flatL l)[j]? = some u → w.cell? (ad.add j) = some u := by
  intro j u hu
  have hj : j < (flatL l).length := by
    rcases Nat.lt_or_ge j (flatL l).length with h1 | h1
    · exact h1
    · rw [List.getElem?_eq_none h1] at hu; cases hu
  rw [flatL_length] at hj
  obtain ⟨b, off, e, _, hc⟩ := h (by omega)
  injection e with e
  subst e
  rw [add_plain]
  have f := flatL_at l (j / 2) (by omega)
  have c := hc (j / 2) (by omega)
  by_cases hp : j % 2 = 0
  · have ej : j / 2 * 2 = j := by omega
    rw [ej] at f c
    rw [← hu, f.1]; exact c.1
  · have ej : j / 2 * 2 + 1 = j := by omega
    have eo : off + j / 2 * 2 + 1 = off + j := by omega
    rw [ej] at f
    rw [eo] at c
    rw [← hu, f.2]; exact c.2
def ClL (l : List Lab) (n : Nat) (w : World) (e : Ending) (w' : World) : Prop := ∃ A c, e = .returned (.slice A n c) ∧ Lbs w' A l ∧ (A = none → c = 0) ∧ Below w.heap.size w w'
theorem clonel_any (A : Option Addr) (c n : Nat) (l : List Lab) (w : World) (hn : l.length = n) (hL : Lbs w A l) (hA : A = none → c = 0) (hl : n ≤ 65536) :
    Calls Tryz.prog 52 #[.slice A n c] w (ClL l n w) := by
  obtain ⟨i1, hi1, hy0, hy1, hy2⟩ := info_parts lab_info
  have qE : ∀ (w : World) (a : Option Addr) (n c : Nat), (binOp .eql 34 (.slice a n c) (.slice none 0 0)).run Tryz.prog w = .ok (.bool a.isNone) w := fun w a n c => Lib.run_eql_slice_nil w 34 61 a n c 0 0 Tryz.underlying34
  cases A with
  | none =>
    obtain rfl := hA rfl
    have hl0 : l = [] := by
      rcases Nat.eq_zero_or_pos l.length with h0 | h0
      · exact List.eq_nil_of_length_eq_zero h0
      · obtain ⟨b, off, e, _⟩ := hL h0
        cases e
    subst hl0
    obtain rfl : 0 = n := hn
    clear hL hA hl
    go_enter Tryz.func52, Tryz.ntmps52
    go_wp2
    go_ret
    exact ⟨none, 0, rfl, (fun h => absurd h (by simp)), (fun _ => rfl), Below.refl _ _⟩
  | some a =>
    have hb3 : 0 + n ≤ maxLen := by unfold maxLen; omega
    have hb4 : (0 + n) * 32 ≤ 140737488355328 := by omega
    have HL := Lib.hid hL
    have HN := Lib.hid hn
    clear hA hL hn
    have ma : 0 ≤ maxLen := Nat.zero_le _
    have OA1 : Hid ((w.alloc (.cells #[] 61)).ownsRow w.heap.size 61 2 (.slice (some ⟨w.heap.size, 0, none⟩) 0 0) 0 []) := World.ownsRow_made w #[] 0 (Nat.le_refl _) ma rfl
    have BL1 : Hid (Below w.heap.size w (w.alloc (.cells #[] 61))) := (Below.refl _ _).alloc (Nat.le_refl _) _
    have HR1 := Lib.hid (HL.out.below BL1.out).cells
    have HFL : Hid ((flatL l).length = n * 2) := by rw [← HN.out]; exact flatL_length l
    have H1 := Lib.hid (one_cell2 l)
    go_enter Tryz.func52, Tryz.ntmps52
    go_wp2_with (at_builtin; refine wpList_append_own _ rfl _ _ 34 rfl w.heap.size 61 i1 _ 2 32 Tryz.underlying34 hi1 hy0 hy1 hy2 rfl (by decide) _ _ _ rfl OA1.out _ n _ (flatL l) rfl HFL.out HR1.out H1.out hb3 hb4 BL1.out.size ?_)
    intro v' w3 hown3 hgr3 _
    obtain ⟨A', c', hv, ho⟩ := own_lbs HN.out hown3
    have HB3 := Lib.hid (BL1.out.grown hgr3 BL1.out.size (fun g hg => (OA1.out.lt g hg).1))
    have HO := Lib.hid ho
    subst hv
    clear hown3 hgr3 ho
    go_wp2
    go_ret
    exact ⟨A', c', rfl, HO.out.1, HO.out.2.1, HB3.out⟩
end Go.Proofs.YtencpjhpedenbaaGreatDoor

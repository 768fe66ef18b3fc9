import Derived.Test.YtmnhoafhoaklcaaW4
namespace Go.Proofs.Ytmnhoafhoaklcaa
open Go.RowKit Pk
set_option linter.unusedVariables false

/-- a list of points as cells -/
def flat : List Pt → List Value
  | [] => []
  | p :: l => .int .i64 p.1 :: .int .u64 p.2 :: flat l

theorem flat_append (a b : List Pt) : flat (a ++ b) = flat a ++ flat b := by
  induction a with
  | nil => rfl
  | cons p a ih => simp [flat, ih]
theorem flat_length (l : List Pt) : (flat l).length = l.length * 2 := by
  induction l with
  | nil => rfl
  | cons p a ih => simp [flat, ih]; omega
theorem flat_at (l : List Pt) (i : Nat) (h : i < l.length) : (flat l)[i * 2]? = some (.int .i64 (l.getD i d0).1) ∧ (flat l)[i * 2 + 1]? = some (.int .u64 (l.getD i d0).2) := by
  induction l generalizing i with
  | nil => simp at h
  | cons p a ih =>
    cases i with
    | zero => simp [flat]
    | succ i =>
      have := ih i (by simpa using h)
      simp only [flat]
      rw [show (i + 1) * 2 = i * 2 + 1 + 1 by omega]
      simpa using this

/-- a slice of its own: it reads as a list; nil has no room -/
def Own (w : World) (A : Option Addr) (c : Nat) (l : List Pt) : Prop := Pts w A l ∧ (A = none → c = 0)
theorem own_pts {w : World} {base : Nat} {v : Value} {l : List Pt} (h : w.ownsRow base 31 2 v l.length (flat l)) : ∃ A c, v = .slice A l.length c ∧ Own w A c l := by
  rcases h.2 with ⟨hv, hn⟩ | ⟨g, cap, cur, hv, _⟩
  · exact ⟨none, 0, by rw [hv, hn], fun h0 => by omega, fun _ => rfl⟩
  · subst hv
    refine ⟨_, cap, rfl, fun h0 => ⟨g, 0, rfl, (h.lt g rfl).2, fun i hi => ?_⟩, fun h => by cases h⟩
    have c := h.cells (g := g) rfl
    have f := flat_at l i hi
    have e1 : (⟨g, 0, none⟩ : Addr).add (i * 2) = ⟨g, 0 + i * 2, none⟩ := by unfold Addr.add; split <;> simp_all
    have e2 : (⟨g, 0, none⟩ : Addr).add (i * 2 + 1) = ⟨g, 0 + i * 2 + 1, none⟩ := by unfold Addr.add; simp
    rw [← e1, ← e2]
    exact ⟨c _ _ f.1, c _ _ f.2⟩

theorem pt_info : (Try.prog.info? 31).map (fun i => (i.zero, i.size, i.bytes)) = some (some (.agg #[.int .i64 0, .int .u64 0]), 2, 16) := by kernel_rfl

/-- what is kept of the first k -/
def kept (l : List Pt) (k : Nat) : List Pt := (l.take k).filter fresh

theorem kept_le (l : List Pt) (k : Nat) : (kept l k).length ≤ k :=
  Nat.le_trans (List.length_filter_le _ _) (List.length_take_le _ _)
theorem kept_next (l : List Pt) (k : Nat) (h : k < l.length) : kept l (k + 1) = kept l k ++ (if fresh (l.getD k d0) = true then [l.getD k d0] else []) := by
  unfold kept
  rw [List.take_succ_eq_append_getElem h, List.filter_append]
  have e : l.getD k d0 = l[k] := by simp [h]
  rw [e]
  congr 1
  by_cases hf : fresh l[k] = true <;> simp [hf]
theorem kept_all (l : List Pt) : kept l l.length = l.filter fresh := by unfold kept; rw [List.take_length]
theorem kept_stale {l : List Pt} {k : Nat} (h : k < l.length) (hs : ((l.getD k d0).2 == stale) = true) : kept l (k + 1) = kept l k := by
  rw [kept_next l k h, if_neg (by simp only [fresh, hs]; decide), List.append_nil]
theorem kept_fresh {l : List Pt} {k : Nat} (h : k < l.length) (hs : ((l.getD k d0).2 == stale) = false) : kept l (k + 1) = kept l k ++ [((l.getD k d0).1, (l.getD k d0).2)] := by
  rw [kept_next l k h, if_pos (by simp only [fresh, hs]; rfl)]
theorem stale_is (t v : Int) (w : World) (r : Bool) (h : (v == stale) = r) : Calls Try.prog 15 #[.agg #[.int .i64 t, .int .u64 v]] w fun e w' => e = .returned (.bool r) ∧ w.alloc (.cells #[.int .i64 t, .int .u64 v] 34) = w' := by
  subst h
  exact (stale_any t v w).mono fun _ _ ⟨he, hw⟩ => ⟨he, hw.symm⟩
theorem pair_at (W : World) (x v : Int) (g : Nat) (h : g = W.heap.size) (t : TypeId) : ∀ j u, ([.int .i64 x, .int .u64 v] : List Value)[j]? = some u → (W.alloc (.cells #[.int .i64 x, .int .u64 v] t)).cell? ((⟨g, 0, none⟩ : Addr).add j) = some u := by
  subst h
  intro j u hu
  match j, hu with
  | 0, hu => simp at hu; subst hu; simp [Addr.add, World.cell?_alloc_at]
  | 1, hu => simp at hu; subst hu; simp [Addr.add, World.cell?_alloc_at]
  | j + 2, hu => simp at hu

set_option maxHeartbeats 2000000 in
theorem without_any (A : Option Addr) (cap : Nat) (l : List Pt) (w : World) (hp : Pts w A l) (hl : l.length ≤ 65536) :
    Calls Try.prog 16 #[.slice A l.length cap, .func (.func 15) #[] #[]] w fun e w' => ∃ A' c, e = .returned (.slice A' (l.filter fresh).length c) ∧ Own w' A' c (l.filter fresh) ∧ Below w.heap.size w w' := by
  obtain ⟨i0, hi0, hz0, hz1, hz2⟩ := info_parts pt_info
  have hmk : i0.bytes * l.length ≤ 281474976710656 := by rw [hz2]; omega
  have HP := Lib.hid hp
  generalize hn : l.length = n at *
  have HN := Lib.hid hn
  clear hn hp
  go_enter Try.func16, Try.ntmps16
  go_wp2_with (at_make; refine wpList_make_own _ rfl _ _ 22 rfl w.heap.size 31 i0 _ 2 Try.underlying22 hi0 hz0 hz1 .i64 .i64 _ n rfl rfl rfl hmk (by unfold maxLen; omega) (Nat.le_refl _) ?_; intro w1 hown1 hgr1)
  have hb1 : Below w.heap.size w w1 := (Below.refl _ _).grown hgr1 (Nat.le_refl _) (by simp)
  have HB1 := Lib.hid hb1
  have HO1 := Lib.hid hown1
  clear hb1 hown1 hgr1
  go_loopw [5, 13] (fun v i wr => ∃ k : Nat, k ≤ n ∧ i = .int .i64 k ∧ Hid (wr.ownsRow w.heap.size 31 2 v (kept l k).length (flat (kept l k))) ∧ Hid (Below w.heap.size w wr)) (fun _ i _ => n - (intOf i).toNat)
  case atStart => exact ⟨0, Nat.zero_le _, rfl, HO1, HB1⟩
  case round =>
    obtain ⟨k, hk, rfl, HO, HB⟩ := hrel
    by_cases hlt : k < n
    · have hkl : k < l.length := by rw [HN.out]; exact hlt
      obtain ⟨b0, off, rfl, hb0, hc⟩ := HP.out (by omega)
      have hx : wr.cell? ⟨b0, off + k * 2, none⟩ = some (.int .i64 (l.getD k d0).1) := (HB.out.cell (p := ⟨b0, off + k * 2, none⟩) hb0).trans (hc k hkl).1
      have hv : wr.cell? ⟨b0, off + k * 2 + 1, none⟩ = some (.int .u64 (l.getD k d0).2) := (HB.out.cell (p := ⟨b0, off + k * 2 + 1, none⟩) hb0).trans (hc k hkl).2
      have hsz := HB.out.size
      have hkl2 := kept_le l k
      clear hc
      cases hs : ((l.getD k d0).2 == stale) with
      | true =>
        have HK := Lib.hid (kept_stale hkl hs)
        have HS := Lib.hid hs
        clear hs
        generalize (l.getD k d0).1 = x at *
        generalize (l.getD k d0).2 = y at *
        go_wp2_with fail
        refine (stale_is _ _ _ true HS.out).mono ?_
        rintro e w' ⟨rfl, rfl⟩
        go_wp2
        go_roundw
        case rel => exact ⟨k + 1, by omega, by go_num, by rw [HK.out]; exact (HO.out.alloc _).alloc _, (HB.out.alloc hsz _).alloc (by simp; omega) _⟩
        case measure => simp [intOf]; omega
      | false =>
        have HK := Lib.hid (kept_fresh hkl hs)
        have HS := Lib.hid hs
        clear hs
        generalize (l.getD k d0).1 = x at *
        generalize (l.getD k d0).2 = y at *
        go_wp2_with fail
        refine (stale_is _ _ _ false HS.out).mono ?_
        rintro e w' ⟨rfl, rfl⟩
        go_wp2_with (at_builtin; refine wpList_append_own _ rfl _ _ 22 rfl w.heap.size 31 i0 _ 2 16 Try.underlying22 hi0 hz0 hz1 hz2 rfl (by decide) _ _ _ rfl (((HO.out.alloc _).alloc _).alloc _) _ 1 1 [.int .i64 x, .int .u64 y] rfl rfl ?c1 ?c2 ?c3 ?c4 ?c5 ?_)
        case c1 => exact pair_at _ x y _ (by simp) _
        case c2 => intro u hu; simp at hu; rcases hu with rfl | rfl <;> rfl
        case c3 => unfold maxLen; omega
        case c4 => omega
        case c5 => simp; omega
        intro v' w2 hown2 hgr2 _
        have HO2 := Lib.hid hown2
        have HG2 := Lib.hid hgr2
        clear hown2 hgr2
        go_wp2
        go_roundw
        case rel =>
          refine ⟨k + 1, by omega, by go_num, ?_, ?_⟩
          · rw [HK.out, flat_append, List.length_append]; exact HO2.out
          · exact (((HB.out.alloc hsz _).alloc (by simp; omega) _).alloc (by simp; omega) _).grown HG2.out (by simp; omega) (fun g hg => (HO.out.lt g hg).1)
        case measure => simp [intOf]; omega
    · have hall : kept l k = l.filter fresh := by rw [← kept_all, HN.out, show n = k by omega]
      obtain ⟨A', c, hv, hpts⟩ := own_pts HO.out
      rw [hall] at hv hpts
      subst hv
      have HPT := Lib.hid hpts
      clear hpts
      go_wp2
      go_ret
      exact ⟨_, _, rfl, HPT.out, HB.out⟩
end Go.Proofs.Ytmnhoafhoaklcaa

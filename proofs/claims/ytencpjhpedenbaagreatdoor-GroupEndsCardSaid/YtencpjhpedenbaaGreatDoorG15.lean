/- slices.Clone of elements; vector.Make. Conditions: few elements, few labels each, no two with the same labels. -/
import Derived.Test.YtencpjhpedenbaaGreatDoorG14
import Derived.Test.YtencpjhpedenbaaGreatDoorG11
namespace Go.Proofs.YtencpjhpedenbaaGreatDoor
open Go.RowKit Lb
set_option linter.unusedVariables false
set_option linter.unusedSimpArgs false
set_option maxRecDepth 100000
set_option maxHeartbeats 2000000

def ClP (r : List VV) (w : World) (e : Ending) (w' : World) : Prop :=
  ∃ v', e = .returned v' ∧ w'.ownsRow w.heap.size 36 2 v' r.length (flatV r) ∧ Below w.heap.size w w'
theorem clone_any (A : Option Addr) (c n : Nat) (r : List VV) (w : World) (hn : r.length = n) (hR : Raw w A r) (h1 : ∀ x ∈ r, x.1.oneCell' = true ∧ x.2.oneCell' = true) (hA : A = none → n = 0 ∧ c = 0) (hA2 : n = 0 → A = none) (hl : n ≤ 65536) :
    Calls Tryz.prog 46 #[.slice A n c] w (ClP r w) := by
  obtain ⟨i1, hi1, hy0, hy1, hy2⟩ := info_parts elem_info
  have qE : ∀ (w : World) (a : Option Addr) (n c : Nat), (binOp .eql 23 (.slice a n c) (.slice none 0 0)).run Tryz.prog w = .ok (.bool a.isNone) w := fun w a n c => Lib.run_eql_slice_nil w 23 36 a n c 0 0 Tryz.underlying23
  unfold ClP
  rw [hn]
  cases A with
  | none =>
    obtain ⟨rfl, rfl⟩ := hA rfl
    have hr : r = [] := List.eq_nil_of_length_eq_zero hn
    subst hr
    clear hR h1 hA hA2 hl hn
    go_enter Tryz.func46, Tryz.ntmps46
    go_wp2
    go_ret
    exact ⟨_, rfl, World.ownsRow_nil _ _ _ _, Below.refl _ _⟩
  | some a =>
    have hb3 : 0 + n ≤ maxLen := by unfold maxLen; omega
    have hb4 : (0 + n) * 32 ≤ 140737488355328 := by omega
    have HR := Lib.hid hR
    have H1 := Lib.hid (flatV_one h1)
    have HN := Lib.hid hn
    clear hA hA2 hR h1 hn
    have ma : 0 ≤ maxLen := Nat.zero_le _
    have OA1 : Hid ((w.alloc (.cells #[] 36)).ownsRow w.heap.size 36 2 (.slice (some ⟨w.heap.size, 0, none⟩) 0 0) 0 []) := World.ownsRow_made w #[] 0 (Nat.le_refl _) ma rfl
    have BL1 : Hid (Below w.heap.size w (w.alloc (.cells #[] 36))) := (Below.refl _ _).alloc (Nat.le_refl _) _
    have HR1 := Lib.hid (HR.out.below BL1.out).cells
    have HFL : Hid ((flatV r).length = n * 2) := by rw [← HN.out]; exact flatV_length r
    go_enter Tryz.func46, Tryz.ntmps46
    go_wp2_with (at_builtin; refine wpList_append_own _ rfl _ _ 23 rfl w.heap.size 36 i1 _ 2 32 Tryz.underlying23 hi1 hy0 hy1 hy2 rfl (by decide) _ _ _ rfl OA1.out _ n _ (flatV r) rfl HFL.out HR1.out H1.out hb3 hb4 BL1.out.size ?_)
    intro v' w3 hown3 hgr3 _
    have HO3 := Lib.hid hown3
    have HB3 := Lib.hid (BL1.out.grown hgr3 BL1.out.size (fun g hg => (OA1.out.lt g hg).1))
    clear hown3 hgr3
    go_wp2
    go_ret
    exact ⟨_, rfl, HO3.out, HB3.out⟩

def MakeP (S : List El) (w : World) (e : Ending) (w' : World) : Prop :=
  ∃ S' A c, S'.Perm S ∧ e = .returned (.tuple #[.slice A S.length c, .nilIface]) ∧ Els w' A S' ∧ Below w.heap.size w w'
theorem sort_none (p : Option Addr) (cap : Nat) (fv : Value) (w : World) : Calls Tryz.prog 47 #[.slice p 0 cap, fv] w fun e w' => e = .returned (.tuple #[]) ∧ w = w' :=
  (AnyF.slices_SortFunc_none Tryz.sortTag p cap fv w).mono fun e w' ⟨h1, h2⟩ => ⟨h1, h2.symm⟩
theorem perm_fst {S S' : List El} (h : S'.Perm S) (hn : (S.map (·.1)).Nodup) : (S'.map (·.1)).Nodup := (h.map (·.1)).nodup_iff.2 hn
theorem nodup_at {S : List El} (h : (S.map (·.1)).Nodup) {k : Nat} (hk : k + 1 < S.length) : cmpL (S.getD k z0).1 (S.getD (k + 1) z0).1 ≠ 0 := by
  intro e
  have e2 := cmpL_zero e
  have h1 : (S.map (·.1))[k]'(by simp; omega) = (S.map (·.1))[k + 1]'(by simp; omega) := by
    simp only [List.getElem_map]
    rw [show S.getD k z0 = S[k] by simp [show k < S.length by omega], show S.getD (k + 1) z0 = S[k + 1] by simp [hk]] at e2
    exact e2
  have := (List.getElem_inj h).1 h1
  omega
theorem cmpe_q (A B : Option Addr) (ca cb n m : Nat) (a b : List Lab) (x y r : Int) (hn : a.length = n) (hm : b.length = m) (h : cmpL a b = r) (w : World) (hA : Lbs w A a) (hB : Lbs w B b) (ha : n ≤ 65536) (hb : m ≤ 65536) :
    Calls Tryz.prog 48 #[.agg #[.slice A n ca, .int .u64 x], .agg #[.slice B m cb, .int .u64 y]] w fun e w' => e = .returned (.int .i64 r) ∧ Below w.heap.size w w' :=
  (cmpe_any A B ca cb n m a b x y r hn hm h w hA hB ha hb).mono fun e w' ⟨h1, h2⟩ => ⟨h1, h2.below⟩
theorem make_any (A : Option Addr) (c n : Nat) (r : List VV) (S : List El) (w : World) (hR : Raw w A r) (hE : ElVs w r S) (hn : S.length = n) (hA : A = none → n = 0 ∧ c = 0) (hA2 : n = 0 → A = none) (hl : n ≤ 65536) (hll : ∀ i, i < S.length → (S.getD i z0).1.length ≤ 65536) (hnd : (S.map (·.1)).Nodup) :
    Calls Tryz.prog 29 #[.slice A n c] w (MakeP S w) := by
  have hrn : r.length = n := by rw [hE.1]; exact hn
  have HC := Lib.hid (clone_any A c n r w hrn hR hE.one hA hA2 hl)
  unfold ClP at HC
  rw [hrn] at HC
  by_cases h0 : n = 0
  · subst h0
    have hS : S = [] := List.eq_nil_of_length_eq_zero hn
    subst hS
    have hr : r = [] := List.eq_nil_of_length_eq_zero hrn
    subst hr
    clear hR hE hn hA hA2 hl hll hnd hrn
    have HSN := Lib.hid (fun p cap W => sort_none p cap (.func (.func 48) #[] #[]) W)
    go_enter Tryz.func29, Tryz.ntmps29
    go_wp2_with fail
    refine (HC.out).mono ?_
    rintro e w1 ⟨v', rfl, ho, hb⟩
    obtain ⟨A', c', rfl, hraw, _⟩ := Raw.of_own (n := 0) rfl ho
    have HB := Lib.hid hb
    have HRW := Lib.hid hraw
    clear ho hb hraw
    go_wp2_with fail
    refine (HSN.out A' c' w1).mono ?_
    rintro e w2 ⟨rfl, rfl⟩
    go_wp2
    go_loop [5] (fun i => i = .int .i64 1) (fun _ => 0)
    case atStart => exact rfl
    case round =>
      obtain rfl := hrel
      go_wp2
      go_ret2
      exact ⟨[], A', c', List.Perm.refl _, rfl, Els.nil _ _, HB.out⟩
  · have h0' : 0 < n := by omega
    unfold MakeP
    rw [hn]
    have HSA := Lib.hid (fun w1 g cap (hb : Below w.heap.size w w1) (hg : w.heap.size ≤ g) (ho : w1.ownsRow w.heap.size 36 2 (.slice (some ⟨g, 0, none⟩) n cap) n (flatV r)) => by
      have := sorts_any w w1 w.heap.size g cap r S hE hb hg (by rw [hn]; exact ho) (by omega) (by omega) hll
      rw [hn] at this
      exact this : ∀ w1 g cap, Below w.heap.size w w1 → w.heap.size ≤ g → w1.ownsRow w.heap.size 36 2 (.slice (some ⟨g, 0, none⟩) n cap) n (flatV r) → Calls Tryz.prog 47 #[.slice (some ⟨g, 0, none⟩) n cap, .func (.func 48) #[] #[]] w1 (SortP w g S w1))
    have HND := Lib.hid hnd
    have HLL := Lib.hid hll
    have HN := Lib.hid hn
    clear hR hE hn hA hA2 hll hnd hrn h0
    go_enter Tryz.func29, Tryz.ntmps29
    go_wp2_with fail
    refine (HC.out).mono ?_
    rintro e w1 ⟨v', rfl, ho, hb⟩
    obtain ⟨g, cap, rfl, hg, hg2⟩ := ho.form h0'
    have HB := Lib.hid hb
    have HG := Lib.hid hg
    have HO := Lib.hid ho
    clear ho hb hg
    go_wp2_with fail
    refine (HSA.out w1 g cap HB.out HG.out HO.out).mono ?_
    rintro e w2 ⟨r', S', hp, hE', rfl, hraw, hb2⟩
    have hb2' := hb2.mono HG.out
    have HB2 := Lib.hid (HB.out.trans hb2')
    have HP := Lib.hid hp
    have HE' := Lib.hid hE'
    have HRW := Lib.hid hraw
    have hS'n : S'.length = n := by rw [hp.length_eq]; exact HN.out
    have HS'N := Lib.hid hS'n
    have HLL' : Hid (∀ i, i < S'.length → (S'.getD i z0).1.length ≤ 65536) := fun i hi => by
      have hm : S'.getD i z0 ∈ S := hp.subset (by rw [show S'.getD i z0 = S'[i] by simp [hi]]; exact List.getElem_mem hi)
      obtain ⟨j, hj, e⟩ := List.getElem_of_mem hm
      have := HLL.out j hj
      rw [show S.getD j z0 = S[j] by simp [hj], e] at this
      exact this
    have HND' := Lib.hid (fun k (hk : k + 1 < S'.length) => nodup_at (perm_fst hp HND.out) hk)
    clear hp hE' hraw hb2 hb2' hS'n
    go_wp2
    go_loopw [5] (fun i wr => ∃ k : Nat, 1 ≤ k ∧ k ≤ n ∧ i = .int .i64 k ∧ Hid (Below w2.heap.size w2 wr)) (fun i _ => n - (intOf i).toNat)
    case atStart => exact ⟨1, Nat.le_refl _, h0', rfl, Below.refl _ _⟩
    case round =>
      obtain ⟨k, hk1, hk, rfl, HBR⟩ := hrel
      have HBW := Lib.hid (HB2.out.trans (HBR.out.mono HB2.out.size))
      by_cases hlt : k < n
      · have hER : Els wr (some ⟨g, 0, none⟩) S' := ⟨r', HRW.out.below HBR.out, HE'.out.below HBW.out⟩
        obtain ⟨b1, o1, LA, lc, e1, hbl, c1, c2, hL1, _⟩ := hER.at_ (i := k) (by rw [HS'N.out]; exact hlt)
        injection e1 with e1; injection e1 with e1 e1'; subst e1; subst e1'
        obtain ⟨b1, o1, LB, lb, e1, _, c3, c4, hL2, _⟩ := hER.at_ (i := k - 1) (by rw [HS'N.out]; omega)
        injection e1 with e1; injection e1 with e1 e1'; subst e1; subst e1'
        rw [Nat.zero_add] at c1 c2 c3 c4
        have hne := HND'.out (k - 1) (by rw [HS'N.out]; omega)
        rw [show k - 1 + 1 = k by omega] at hne
        have l1 := HLL'.out k (by rw [HS'N.out]; exact hlt)
        have l2 := HLL'.out (k - 1) (by rw [HS'N.out]; omega)
        obtain ⟨q, hq⟩ : ∃ q, cmpL (S'.getD (k - 1) z0).1 (S'.getD k z0).1 = q := ⟨_, rfl⟩
        rw [hq] at hne
        have hqb : (q == 0) = false := by simpa using hne
        have HCQ := Lib.hid (fun W (hW : Below wr.heap.size wr W) x y => cmpe_q LB LA lb lc _ _ _ _ x y q rfl rfl hq W (hL2.below hW) (hL1.below hW) l2 l1)
        have hkn : (k : Int) < (n : Int) := by omega
        have hk1i : (1 : Int) ≤ (k : Int) := by omega
        have hkm : ((k - 1 : Nat) : Int) < (n : Int) := by omega
        have hwr : IntKind.i64.wrap ((k : Int) - 1) = ((k - 1 : Nat) : Int) := by rw [IntWalk.i64_in _ (by omega)]; omega
        have BD : Hid (Below wr.heap.size wr wr.drew) := (Below.refl _ _).drew
        clear hER hL1 hL2 hq hne l1 l2
        generalize (S'.getD (k - 1) z0).1.length = n1 at *
        generalize (S'.getD k z0).1.length = n2 at *
        generalize (S'.getD (k - 1) z0).2 = v1 at *
        generalize (S'.getD k z0).2 = v2 at *
        generalize k - 1 = j at *
        go_wp2_with fail
        go_still_tail 9, (by kernel_rfl)
        go_wp2_with fail
        refine (HCQ.out _ BD.out _ _).mono ?_
        rintro e w3 ⟨rfl, hb3⟩
        have HB3 : Hid (Below w2.heap.size w2 w3) := HBR.out.trans ((BD.out.trans (hb3.mono BD.out.size)).mono HBR.out.size)
        clear hb3
        go_wp2
        go_roundw
        case rel => exact ⟨k + 1, by omega, by omega, by go_num, HB3⟩
        case measure => simp [intOf]; omega
      · have d : decide (k < n) = false := by simpa using hlt
        have HEE : Hid (Els wr (some ⟨g, 0, none⟩) S') := ⟨r', HRW.out.below HBR.out, HE'.out.below HBW.out⟩
        go_wp2
        go_ret2
        exact ⟨S', _, cap, HP.out, rfl, HEE.out, HBW.out⟩
end Go.Proofs.YtencpjhpedenbaaGreatDoor

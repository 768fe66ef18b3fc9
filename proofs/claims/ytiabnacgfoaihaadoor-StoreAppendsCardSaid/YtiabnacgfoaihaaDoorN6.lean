import Derived.Test.YtiabnacgfoaihaaDoorM2
namespace Go.Proofs.YtiabnacgfoaihaaDoor
open Go.RowKit Lb
set_option linter.unusedVariables false

/-- a slice of its own: it reads as a list; nil has no room -/
def OwnL (w : World) (A : Option Addr) (c : Nat) (l : List Lab) : Prop := Lbs w A l ∧ (A = none → c = 0)
/-- what Make leaves -/
def MadeP (l : List Lab) (w : World) (e : Ending) (w' : World) : Prop :=
  Below w.heap.size w w' ∧ ((makeF l = none ∧ e = .returned (.tuple #[.slice none 0 0, .iface 53 (.int .i64 1)])) ∨ ∃ o A c, makeF l = some o ∧ e = .returned (.tuple #[.slice A o.length c, .nilIface]) ∧ OwnL w' A c o)

theorem tag_info : (Tryd.prog.info? 71).map (fun i => (i.zero, i.size, i.bytes)) = some (some (.agg #[.string ⟨#[]⟩, .string ⟨#[]⟩]), 2, 32) := by kernel_rfl
theorem lab_info : (Tryd.prog.info? 52).map (fun i => (i.zero, i.size, i.bytes)) = some (some (.agg #[.string ⟨#[]⟩, .string ⟨#[]⟩]), 2, 32) := by kernel_rfl
theorem name_is (s : ByteArray) (r : Bool) (h : nameB s = r) (w : World) : Calls Tryd.prog 38 #[.string s] w fun e w' => e = .returned (.bool r) ∧ w = w' := by
  subst h; exact name_any s w
theorem value_is (s : ByteArray) (r : Bool) (h : valB s = r) (w : World) (hT : Tabs w) : Calls Tryd.prog 39 #[.string s] w fun e w' => e = .returned (.bool r) ∧ Below w.heap.size w w' := by
  subst h; exact value_any s w hT
theorem take_next (l : List Lab) (k : Nat) (h : k < l.length) : l.take (k + 1) = l.take k ++ [((l.getD k e0).1, (l.getD k e0).2)] := by
  have e : l.getD k e0 = l[k] := by simp [h]
  rw [List.take_succ_eq_append_getElem h, e]
theorem pair_atL (W : World) (x y : ByteArray) (g : Nat) (h : g = W.heap.size) (t : TypeId) : ∀ j u, ([.string x, .string y] : List Value)[j]? = some u → (W.alloc (.cells #[.string x, .string y] t)).cell? ((⟨g, 0, none⟩ : Addr).add j) = some u := by
  subst h
  intro j u hu
  match j, hu with
  | 0, hu => simp at hu; subst hu; simp [Addr.add, World.cell?_alloc_at]
  | 1, hu => simp at hu; subst hu; simp [Addr.add, World.cell?_alloc_at]
  | j + 2, hu => simp at hu
theorem not_nil (a : Addr) (n c : Nat) : Hid (Value.slice (some a) n c ≠ .slice none 0 0) := fun h => by cases h
theorem grown_of_below {a w : World} (h : Below a.heap.size a w) : a.grownBy w none := ⟨h.os, h.tape, h.output, h.size, fun i hi _ => h.block i hi⟩
theorem own_below {w w' : World} {base : Nat} {e : TypeId} {size : Nat} {v : Value} {n : Nat} {xs : List Value} (h : w.ownsRow base e size v n xs) (hb : Below w.heap.size w w') : w'.ownsRow base e size v n xs :=
  h.kept (grown_of_below hb) (by
    cases hv : v.ownBlock with
    | none => exact .inl rfl
    | some g => exact .inr (by simp))

set_option maxRecDepth 100000 in
set_option maxHeartbeats 4000000 in
theorem make_any (A : Option Addr) (cap : Nat) (l : List Lab) (w : World) (hL : Lbs w A l) (hT : Tabs w) (hl : l.length ≤ 65536) :
    Calls Tryd.prog 22 #[.slice A l.length cap] w (MadeP l w) := by
  obtain ⟨i0, hi0, hz0, hz1, hz2⟩ := info_parts tag_info
  obtain ⟨i1, hi1, hy0, hy1, hy2⟩ := info_parts lab_info
  have hmk : i0.bytes * l.length ≤ 281474976710656 := by rw [hz2]; omega
  have HL := Lib.hid hL
  have HT := Lib.hid hT
  have hT3 := hT.size
  generalize hn : l.length = n at *
  have HN := Lib.hid hn
  clear hn hL hT
  go_enter Tryd.func22, Tryd.ntmps22
  go_wp2_with (at_make; refine wpList_make_own _ rfl _ _ 70 rfl w.heap.size 71 i0 _ 2 Tryd.underlying70 hi0 hz0 hz1 .i64 .i64 _ n rfl rfl rfl hmk (by unfold maxLen; omega) (Nat.le_refl _) ?_; intro w1 hown1 hgr1)
  have HB1 : Hid (Below w.heap.size w w1) := (Below.refl _ _).grown hgr1 (Nat.le_refl _) (by simp)
  have HO1 := Lib.hid hown1
  clear hown1 hgr1 hmk
  go_loopw [4, 15] (fun v i wr => ∃ k : Nat, k ≤ n ∧ i = .int .i64 k ∧ Hid (wr.ownsRow w.heap.size 71 2 v k (flatL (l.take k))) ∧ Hid (v ≠ .slice none 0 0) ∧ Hid (Below w.heap.size w wr) ∧ Hid (Ok l k)) (fun _ i _ => n - (intOf i).toNat)
  case atStart => exact ⟨0, Nat.zero_le _, rfl, HO1, not_nil _ _ _, HB1, ok_zero l⟩
  case round =>
    obtain ⟨k, hk, rfl, HO, HV, HB, HK⟩ := hrel
    by_cases hlt : k < n
    · have hkl : k < l.length := by rw [HN.out]; exact hlt
      obtain ⟨b0, off, rfl, hb0, hc⟩ := HL.out (by omega)
      have hx : wr.cell? ⟨b0, off + k * 2, none⟩ = some (.string (l.getD k e0).1) := (HB.out.cell (p := ⟨b0, off + k * 2, none⟩) hb0).trans (hc k hkl).1
      have hy : wr.cell? ⟨b0, off + k * 2 + 1, none⟩ = some (.string (l.getD k e0).2) := (HB.out.cell (p := ⟨b0, off + k * 2 + 1, none⟩) hb0).trans (hc k hkl).2
      have hsz := HB.out.size
      have HTK := Lib.hid (take_next l k hkl)
      have HBAD := Lib.hid (@make_bad l k hkl)
      have HOK := Lib.hid (@ok_succ l k HK.out)
      have HTW : Hid (Tabs wr) := HT.out.below hT3 HB.out
      have hok : okB (l.getD k e0) = (nameB (l.getD k e0).1 && valB (l.getD k e0).2) := rfl
      rw [hok] at HBAD HOK
      clear hc hok
      generalize (l.getD k e0).1 = x at *
      generalize (l.getD k e0).2 = y at *
      cases h1 : nameB x with
      | false =>
        have hm := HBAD.out (by rw [h1]; rfl)
        have HM := Lib.hid hm
        have H1 := Lib.hid h1
        clear hm h1
        go_wp2_with fail
        refine (name_is _ false H1.out _).mono ?_
        rintro e w' ⟨rfl, rfl⟩
        go_wp2
        go_ret2
        exact ⟨HB.out.alloc hsz _, .inl ⟨HM.out, rfl⟩⟩
      | true =>
        cases h2 : valB y with
        | false =>
          have hm := HBAD.out (by rw [h1, h2]; rfl)
          have HM := Lib.hid hm
          have H1 := Lib.hid h1
          have H2 := Lib.hid h2
          clear hm h1 h2
          go_wp2_with fail
          refine (name_is _ true H1.out _).mono ?_
          rintro e w' ⟨rfl, rfl⟩
          go_wp2_with fail
          refine (value_is _ false H2.out _ (HTW.out.below (B := wr.heap.size) (by omega) ((Below.refl _ _).alloc (Nat.le_refl _) _))).mono ?_
          rintro e w2 ⟨rfl, hb2⟩
          go_wp2
          go_ret2
          exact ⟨(HB.out.alloc hsz _).trans (hb2.mono (by simp; omega)), .inl ⟨HM.out, rfl⟩⟩
        | true =>
          have HOK2 : Hid (Ok l (k + 1)) := HOK.out (by rw [h1, h2]; rfl)
          have H1 := Lib.hid h1
          have H2 := Lib.hid h2
          clear h1 h2 HOK HBAD
          go_wp2_with fail
          refine (name_is _ true H1.out _).mono ?_
          rintro e w' ⟨rfl, rfl⟩
          go_wp2_with fail
          refine (value_is _ true H2.out _ (HTW.out.below (B := wr.heap.size) (by omega) ((Below.refl _ _).alloc (Nat.le_refl _) _))).mono ?_
          rintro e w2 ⟨rfl, hb2⟩
          have q1 : w2.cell? ⟨wr.heap.size, 0, none⟩ = some (.string x) := by
            rw [hb2.cell (p := ⟨wr.heap.size, 0, none⟩) (by simp), World.cell?_alloc_at _ _ _ _ rfl]; rfl
          have q2 : w2.cell? ⟨wr.heap.size, 1, none⟩ = some (.string y) := by
            rw [hb2.cell (p := ⟨wr.heap.size, 1, none⟩) (by simp), World.cell?_alloc_at _ _ _ _ rfl]; rfl
          have hs2 : wr.heap.size < w2.heap.size := by have := hb2.size; simp at this; omega
          have HO2 := Lib.hid (own_below (HO.out.alloc _) hb2)
          have HB2 := Lib.hid ((HB.out.alloc hsz _).trans (hb2.mono (by simp; omega)))
          clear hb2
          go_wp2_with (at_builtin; refine wpList_append_own _ rfl _ _ 70 rfl w.heap.size 71 i0 _ 2 32 Tryd.underlying70 hi0 hz0 hz1 hz2 rfl (by decide) _ _ _ rfl (HO2.out.alloc _) _ 1 1 [.string x, .string y] rfl rfl ?c1 ?c2 ?c3 ?c4 ?c5 ?_)
          case c1 => exact pair_atL _ x y _ (by simp) _
          case c2 => intro u hu; simp at hu; rcases hu with rfl | rfl <;> rfl
          case c3 => unfold maxLen; omega
          case c4 => omega
          case c5 => simp; omega
          intro v' w3 hown3 hgr3 hnil3
          have HO3 := Lib.hid hown3
          have HG3 := Lib.hid hgr3
          have HV3 : Hid (v' ≠ .slice none 0 0) := hnil3
          clear hown3 hgr3 hnil3
          go_wp2
          go_roundw
          case rel =>
            refine ⟨k + 1, by omega, by go_num, ?_, HV3, ?_, HOK2⟩
            · rw [HTK.out, flatL_append]; exact HO3.out
            · exact (HB2.out.alloc (by omega) _).grown HG3.out (by simp; omega) (fun g hg => (HO.out.lt g hg).1)
          case measure => simp [intOf]; omega
    · have hkn : k = n := by omega
      subst hkn
      rcases HO.out.2 with ⟨hnil, _⟩ | ⟨g, c2, cur, hv, _⟩
      · exact absurd hnil HV.out
      subst hv
      have hgb := (HO.out.lt g rfl)
      have own' : wr.ownsRow w.heap.size 71 2 (.slice (some ⟨g, 0, none⟩) l.length c2) l.length (flatL l) := by
        have := HO.out
        rw [← HN.out, List.take_length] at this
        exact this
      have hs := sort_any w.heap.size g c2 l wr own' (by rw [HN.out]; omega)
      rw [HN.out] at hs
      have HS := Lib.hid hs
      have hlen : (sortL l).length = k := by rw [sortL_length]; exact HN.out
      have HLen := Lib.hid hlen
      have HKL : Hid (Ok l l.length) := by rw [HN.out]; exact HK
      have HTW := Lib.hid (fun j => @make_twice l j)
      have HMA := Lib.hid (@make_many l)
      have HSO := Lib.hid (@make_some l HKL.out)
      clear own' hs hlen HO HV HK HKL HN HL hlt HO1 HB1
      generalize hls : sortL l = ls at *
      clear hls
      go_wp2_with fail
      refine (HS.out).mono ?_
      rintro e w2 ⟨rfl, hs2, hb2⟩
      have HS2 := Lib.hid hs2
      have HB2 : Hid (Below w.heap.size w w2) := HB.out.trans (hb2.mono hgb.1)
      have hg2 : g < w2.heap.size := by have := hb2.size; omega
      have hw2 := HB2.out.size
      clear hs2 hb2 HB HS
      go_wp2
      go_loopw [7, 39] (fun v i wr => ∃ j : Nat, j ≤ k ∧ i = .int .i64 j ∧ Hid (wr.ownsRow w2.heap.size 52 2 v (stay ls j).length (flatL (stay ls j))) ∧ Hid (Below w2.heap.size w2 wr) ∧ Hid (Apart ls j)) (fun _ i _ => k - (intOf i).toNat)
      case atStart => exact ⟨0, Nat.zero_le _, rfl, World.ownsRow_nil _ _ _ _, Below.refl _ _, apart_zero ls⟩
      case round =>
        obtain ⟨j, hj, rfl, HO, HB, HA⟩ := hrel
        by_cases hlt : j < k
        · have hjl : j < ls.length := by rw [HLen.out]; exact hlt
          obtain ⟨b9, off9, he9, _, hc⟩ := HS2.out (by omega)
          injection he9 with he9
          injection he9 with e1 e2 e3
          subst e1
          subst e2
          have hx : wr.cell? ⟨g, j * 2, none⟩ = some (.string (ls.getD j e0).1) := by
            have := (HB.out.cell (p := ⟨g, 0 + j * 2, none⟩) hg2).trans (hc j hjl).1
            rwa [Nat.zero_add] at this
          have hy : wr.cell? ⟨g, j * 2 + 1, none⟩ = some (.string (ls.getD j e0).2) := by
            have := (HB.out.cell (p := ⟨g, 0 + j * 2 + 1, none⟩) hg2).trans (hc j hjl).2
            rwa [Nat.zero_add] at this
          have hp : 0 < j → wr.cell? ⟨g, (j - 1) * 2, none⟩ = some (.string (ls.getD (j - 1) e0).1) := fun h0 => by
            have := (HB.out.cell (p := ⟨g, 0 + (j - 1) * 2, none⟩) hg2).trans (hc (j - 1) (by omega)).1
            rwa [Nat.zero_add] at this
          have hsz := HB.out.size
          have hgr : g < wr.heap.size := by omega
          have hst := stay_le ls j
          have HTW2 := Lib.hid (HTW.out j)
          have HAN := Lib.hid (@apart_succ ls j HA.out)
          have HIN := Lib.hid (@stay_in ls j hjl)
          have HOUT := Lib.hid (@stay_out ls j hjl)
          have HBW : Hid (Below w.heap.size w wr) := HB2.out.trans (HB.out.mono hw2)
          clear hc HTW HS2
          generalize (ls.getD j e0).1 = x at *
          generalize (ls.getD j e0).2 = y at *
          generalize (ls.getD (j - 1) e0).1 = p at *
          by_cases hdup : 0 < j ∧ (p.toList == x.toList) = true
          · obtain ⟨h0, hd⟩ := hdup
            have hm := HTW2.out h0 hjl hd
            have HM := Lib.hid hm
            have hp' := hp h0
            have hj0 : (0 : Int) < (j : Int) := by omega
            have d0 : decide (0 < j) = true := by simpa using h0
            clear hm hp
            go_wp2_with fail
            go_quiet (fail)
            go_wp2
            go_ret2
            exact ⟨bel_drawn (HBW.out.alloc (by omega) _) _, .inl ⟨HM.out, rfl⟩⟩
          · have HAP : Hid (Apart ls (j + 1)) := HAN.out (fun h0 => by
              cases hd : (p.toList == x.toList) with
              | false => rfl
              | true => exact absurd ⟨h0, hd⟩ hdup)
            by_cases h0 : 0 < j
            · have hd : (p.toList == x.toList) = false := by
                cases hd : (p.toList == x.toList) with
                | false => rfl
                | true => exact absurd ⟨h0, hd⟩ hdup
              have hp' := hp h0
              have hj0 : (0 : Int) < (j : Int) := by omega
              have d0 : decide (0 < j) = true := by simpa using h0
              clear hp hdup HAN HTW2
              cases hy0' : y.toList.isEmpty with
              | true =>
                have HK := Lib.hid (HOUT.out hy0')
                clear HIN HOUT
                go_wp2_with fail
                go_quiet (fail)
                go_wp2
                go_roundw
                case rel => exact ⟨j + 1, by omega, by go_num, by rw [HK.out]; exact HO.out.alloc _, bel_drawn (HB.out.alloc hsz _) _, HAP⟩
                case measure => simp [intOf]; omega
              | false =>
                have HK := Lib.hid (HIN.out hy0')
                clear HIN HOUT
                go_wp2_with fail
                go_quiet (fail)
                have HO' : Hid (((wr.alloc (.cells #[.string x, .string y] 71)).drewN nq).ownsRow w2.heap.size 52 2 _ (stay ls j).length (flatL (stay ls j))) := HO.out.alloc _
                go_wp2_with (at_builtin; refine wpList_append_own _ rfl _ _ 23 rfl w2.heap.size 52 i1 _ 2 32 Tryd.underlying23 hi1 hy0 hy1 hy2 rfl (by decide) _ _ _ rfl (HO'.out.alloc _) _ 1 1 [.string x, .string y] rfl rfl ?c1 ?c2 ?c3 ?c4 ?c5 ?_)
                case c1 => exact pair_atL _ x y _ (by simp) _
                case c2 => intro u hu; simp at hu; rcases hu with rfl | rfl <;> rfl
                case c3 => unfold maxLen; omega
                case c4 => omega
                case c5 => simp; omega
                intro v' w3 hown3 hgr3 _
                have HO3 := Lib.hid hown3
                have HG3 := Lib.hid hgr3
                clear hown3 hgr3
                go_wp2
                go_roundw
                case rel =>
                  refine ⟨j + 1, by omega, by go_num, ?_, ?_, HAP⟩
                  · rw [HK.out, flatL_append, List.length_append]; exact HO3.out
                  · exact ((bel_drawn (HB.out.alloc hsz _) nq).alloc (by simp; omega) _).grown HG3.out (by simp; omega) (fun g hg => (HO.out.lt g hg).1)
                case measure => simp [intOf]; omega
            · have d0 : decide (0 < j) = false := by simpa using h0
              clear hp hdup HAN HTW2
              cases hy0' : y.toList.isEmpty with
              | true =>
                have HK := Lib.hid (HOUT.out hy0')
                clear HIN HOUT
                go_wp2_with fail
                go_quiet (fail)
                go_wp2
                go_roundw
                case rel => exact ⟨j + 1, by omega, by go_num, by rw [HK.out]; exact HO.out.alloc _, bel_drawn (HB.out.alloc hsz _) _, HAP⟩
                case measure => simp [intOf]; omega
              | false =>
                have HK := Lib.hid (HIN.out hy0')
                clear HIN HOUT
                go_wp2_with fail
                go_quiet (fail)
                have HO' : Hid (((wr.alloc (.cells #[.string x, .string y] 71)).drewN nq).ownsRow w2.heap.size 52 2 _ (stay ls j).length (flatL (stay ls j))) := HO.out.alloc _
                go_wp2_with (at_builtin; refine wpList_append_own _ rfl _ _ 23 rfl w2.heap.size 52 i1 _ 2 32 Tryd.underlying23 hi1 hy0 hy1 hy2 rfl (by decide) _ _ _ rfl (HO'.out.alloc _) _ 1 1 [.string x, .string y] rfl rfl ?c1 ?c2 ?c3 ?c4 ?c5 ?_)
                case c1 => exact pair_atL _ x y _ (by simp) _
                case c2 => intro u hu; simp at hu; rcases hu with rfl | rfl <;> rfl
                case c3 => unfold maxLen; omega
                case c4 => omega
                case c5 => simp; omega
                intro v' w3 hown3 hgr3 _
                have HO3 := Lib.hid hown3
                have HG3 := Lib.hid hgr3
                clear hown3 hgr3
                go_wp2
                go_roundw
                case rel =>
                  refine ⟨j + 1, by omega, by go_num, ?_, ?_, HAP⟩
                  · rw [HK.out, flatL_append, List.length_append]; exact HO3.out
                  · exact ((bel_drawn (HB.out.alloc hsz _) nq).alloc (by simp; omega) _).grown HG3.out (by simp; omega) (fun g hg => (HO.out.lt g hg).1)
                case measure => simp [intOf]; omega
        · have hall : stay ls j = ls.filter full := by rw [← stay_all, HLen.out, show k = j by omega]
          have hap : Apart ls ls.length := by rw [HLen.out, show k = j by omega]; exact HA.out
          rcases HO.out.2 with ⟨hnil, hz⟩ | ⟨g3, c3, cur3, hv3, _⟩
          · subst hnil
            rw [hall] at hz
            have hm := HSO.out hap (by omega)
            have hf0 : ls.filter full = [] := List.eq_nil_of_length_eq_zero hz
            rw [hf0] at hm
            have HM := Lib.hid hm
            have HBW : Hid (Below w.heap.size w wr) := HB2.out.trans (HB.out.mono hw2)
            clear hm hz hf0 hall hap
            go_wp2
            go_ret2
            exact ⟨HBW.out, .inr ⟨[], none, 0, HM.out, rfl, fun h => by simp at h, fun _ => rfl⟩⟩
          · subst hv3
            have HBW : Hid (Below w.heap.size w wr) := HB2.out.trans (HB.out.mono hw2)
            have hpt : Lbs wr (some ⟨g3, 0, none⟩) (ls.filter full) := by
              intro _
              refine ⟨g3, 0, rfl, (HO.out.lt g3 rfl).2, fun i hi => ?_⟩
              rw [← hall] at hi ⊢
              have c := HO.out.cells (g := g3) rfl
              have f := flatL_at (stay ls j) i hi
              have e1 : (⟨g3, 0, none⟩ : Addr).add (i * 2) = ⟨g3, 0 + i * 2, none⟩ := by unfold Addr.add; split <;> simp_all
              have e2 : (⟨g3, 0, none⟩ : Addr).add (i * 2 + 1) = ⟨g3, 0 + i * 2 + 1, none⟩ := by unfold Addr.add; simp
              rw [← e1, ← e2]
              exact ⟨c _ _ f.1, c _ _ f.2⟩
            rw [hall]
            have HPT := Lib.hid hpt
            by_cases hmany : 16 < (ls.filter full).length
            · have HM := Lib.hid (HMA.out hmany)
              clear hpt hall hap
              generalize (ls.filter full).length = m at *
              have hm16 : (16 : Int) < (m : Int) := by omega
              go_wp2
              go_ret2
              exact ⟨HBW.out, .inl ⟨HM.out, rfl⟩⟩
            · have HM := Lib.hid (HSO.out hap hmany)
              clear hpt hall hap
              generalize ls.filter full = lo at *
              generalize hlo : lo.length = m at *
              have HLO := Lib.hid hlo
              clear hlo
              have hm16 : ¬ (16 : Int) < (m : Int) := by omega
              go_wp2
              go_ret2
              obtain rfl := HLO.out
              exact ⟨HBW.out, .inr ⟨lo, _, c3, HM.out, rfl, HPT.out, fun h => by cases h⟩⟩
end Go.Proofs.YtiabnacgfoaihaaDoor

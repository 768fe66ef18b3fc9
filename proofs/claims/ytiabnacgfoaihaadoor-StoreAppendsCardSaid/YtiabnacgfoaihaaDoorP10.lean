import Derived.Test.YtiabnacgfoaihaaDoorP9
import Derived.Test.YtiabnacgfoaihaaDoorP7
namespace Go.Proofs.YtiabnacgfoaihaaDoor
open Go.RowKit Lb
set_option linter.unusedVariables false

theorem refname_is (s : ByteArray) (hs : s.size ≤ 65536) (r : Bool) (h : nameB s = r) (w : World) : Calls Tryd.prog 36 #[.string s] w fun e w' => e = .returned (.bool r) ∧ w = w' := by
  subst h; exact refname_any s hs w
theorem refvalue_is (s : ByteArray) (r : Bool) (h : valB s = r) (w : World) : Calls Tryd.prog 37 #[.string s] w fun e w' => e = .returned (.bool r) ∧ w = w' := by
  subst h; exact refvalue_any s w

/-- what the document's Make leaves -/
def RefP (l : List Lab) (w : World) (e : Ending) (w' : World) : Prop :=
  Below w.heap.size w w' ∧ ((makeF l = none ∧ e = .returned (.tuple #[.slice none 0 0, .bool false])) ∨ ∃ o A c, makeF l = some o ∧ e = .returned (.tuple #[.slice A o.length c, .bool true]) ∧ OwnL w' A c o)

/-- what is built of the first k: where it lies -/
def Built (w : World) (base : Nat) (v : Value) (o : List Lab) : Prop :=
  ∃ A c, v = .slice A o.length c ∧ Lbs w A o ∧ (A = none → c = 0) ∧ o.length ≤ c ∧ c ≤ maxLen ∧ (∀ ad, A = some ad → ∃ g f, ad = ⟨g, f, none⟩ ∧ g < w.heap.size)
theorem Built.below {w w' : World} {base : Nat} {v : Value} {o : List Lab} (h : Built w base v o) (hb : Below w.heap.size w w') : Built w' base v o := by
  obtain ⟨A, c, h1, h2, h3, h4, h5, h6⟩ := h
  exact ⟨A, c, h1, h2.below hb, h3, h4, h5, fun ad h => by obtain ⟨g, f, e, hg⟩ := h6 ad h; exact ⟨g, f, e, Nat.lt_of_lt_of_le hg hb.size⟩⟩

theorem Lbs.drop2 {w : World} {b off : Nat} {l : List Lab} (h : Lbs w (some ⟨b, off, none⟩) l) (a c : Nat) (hc : l.length ≤ c) : Lbs w (if c = a then some ⟨b, off, none⟩ else some ⟨b, off + a * 2, none⟩) (l.drop a) := by
  by_cases e : c = a
  · intro h0
    simp at h0
    omega
  · rw [if_neg e]; exact h.drop a

set_option maxRecDepth 100000 in
set_option maxHeartbeats 8000000 in
theorem refmake_any (A : Option Addr) (cap : Nat) (l : List Lab) (w : World) (hL : Lbs w A l) (hs : ∀ i, i < l.length → (l.getD i e0).1.size ≤ 65536) (hl : l.length ≤ 4096) :
    Calls Tryd.prog 19 #[.slice A l.length cap] w (RefP l w) := by
  obtain ⟨i1, hi1, hy0, hy1, hy2⟩ := info_parts lab_info
  have HL := Lib.hid hL
  have HS0 := Lib.hid hs
  clear hL hs
  generalize hn : l.length = n at *
  have HN := Lib.hid hn
  clear hn
  go_enter Tryd.func19, Tryd.ntmps19
  go_wp2
  go_loopw [4, 5] (fun v i wr => ∃ k : Nat, k ≤ n ∧ i = .int .i64 k ∧ Hid (Built wr w.heap.size v (sortL (stay l k))) ∧ Hid (Below w.heap.size w wr) ∧ Hid (Ok l k) ∧ Hid (Dist l k)) (fun _ i _ => n - (intOf i).toNat)
  case atStart => exact ⟨0, Nat.zero_le _, rfl, ⟨none, 0, by simp [stay, sortL], fun h => absurd h (by simp [stay, sortL]), fun _ => rfl, by simp [stay, sortL], by unfold maxLen; omega, fun ad h => by cases h⟩, Below.refl _ _, ok_zero l, dist_zero l⟩
  case round =>
    obtain ⟨k, hk, rfl, HO, HB, HK, HD⟩ := hrel
    by_cases hlt : k < n
    · have hkl : k < l.length := by rw [HN.out]; exact hlt
      have hxs := HS0.out k hlt
      obtain ⟨b0, off, rfl, hb0, hc⟩ := HL.out (by omega)
      have hx : wr.cell? ⟨b0, off + k * 2, none⟩ = some (.string (l.getD k e0).1) := (HB.out.cell (p := ⟨b0, off + k * 2, none⟩) hb0).trans (hc k hkl).1
      have hy : wr.cell? ⟨b0, off + k * 2 + 1, none⟩ = some (.string (l.getD k e0).2) := (HB.out.cell (p := ⟨b0, off + k * 2 + 1, none⟩) hb0).trans (hc k hkl).2
      have HC0 : Hid (∀ j, j < k → wr.cell? ⟨b0, off + j * 2, none⟩ = some (.string (l.getD j e0).1)) := fun j hj => (HB.out.cell (p := ⟨b0, off + j * 2, none⟩) hb0).trans (hc j (by omega)).1
      have hsz := HB.out.size
      have HBAD := Lib.hid (@make_bad l k hkl)
      have HOK := Lib.hid (@ok_succ l k HK.out)
      have HDUP := Lib.hid (fun j (hj : j < k) => @dup_none l j k hj hkl)
      have HDS := Lib.hid (@dist_succ l k hkl HD.out)
      have HSO := Lib.hid (@stay_out l k hkl)
      have HSI := Lib.hid (@stay_in l k hkl)
      have hok : okB (l.getD k e0) = (nameB (l.getD k e0).1 && valB (l.getD k e0).2) := rfl
      rw [hok] at HBAD HOK
      have d : decide (k < n) = true := by simpa using hlt
      clear hc hok
      generalize (l.getD k e0).1 = x at *
      generalize (l.getD k e0).2 = y at *
      cases h1 : nameB x with
      | false =>
        have HM := Lib.hid (HBAD.out (by rw [h1]; rfl))
        have H1 := Lib.hid h1
        clear h1
        go_wp2_with fail
        refine (refname_is _ hxs false H1.out _).mono ?_
        rintro e w' ⟨rfl, rfl⟩
        go_wp2
        go_ret2
        exact ⟨HB.out, .inl ⟨HM.out, rfl⟩⟩
      | true =>
        cases h2 : valB y with
        | false =>
          have HM := Lib.hid (HBAD.out (by rw [h1, h2]; rfl))
          have H1 := Lib.hid h1
          have H2 := Lib.hid h2
          clear h1 h2
          go_wp2_with fail
          refine (refname_is _ hxs true H1.out _).mono ?_
          rintro e w' ⟨rfl, rfl⟩
          go_wp2_with fail
          refine (refvalue_is _ false H2.out _).mono ?_
          rintro e w' ⟨rfl, rfl⟩
          go_wp2
          go_ret2
          exact ⟨HB.out, .inl ⟨HM.out, rfl⟩⟩
        | true =>
          have HOK2 : Hid (Ok l (k + 1)) := HOK.out (by rw [h1, h2]; rfl)
          have H1 := Lib.hid h1
          have H2 := Lib.hid h2
          clear h1 h2 HOK HBAD
          go_wp2_with fail
          refine (refname_is _ hxs true H1.out _).mono ?_
          rintro e w' ⟨rfl, rfl⟩
          go_wp2_with fail
          refine (refvalue_is _ true H2.out _).mono ?_
          rintro e w' ⟨rfl, rfl⟩
          go_wp2
          go_loopw [6] (fun i wq => ∃ j nd : Nat, j ≤ k ∧ i = .int .i64 j ∧ wq = wr.drewN nd ∧ Hid (Unlike l x j)) (fun i _ => k - (intOf i).toNat)
          case atStart => exact ⟨0, 0, Nat.zero_le _, rfl, rfl, unlike_zero l x⟩
          case round =>
            obtain ⟨j, nd, hj, rfl, rfl, HU⟩ := hrel
            by_cases hjt : j < k
            · have dj : decide (j < k) = true := by simpa using hjt
              have dj2 : decide (j < n) = true := by simp; omega
              have hz := HC0.out j hjt
              have HUS := Lib.hid (@unlike_succ l x j HU.out)
              have HDJ := Lib.hid (HDUP.out j hjt)
              generalize (l.getD j e0).1 = z at *
              cases hzx : (z.toList == x.toList) with
              | true =>
                have HM := Lib.hid (HDJ.out ((seqB_iff _ _).1 hzx))
                go_wp2_with fail
                go_quiet (fail)
                go_wp2
                go_ret2
                exact ⟨bel_drawn (bel_drawn HB.out _) _, .inl ⟨HM.out, rfl⟩⟩
              | false =>
                have HU2 : Hid (Unlike l x (j + 1)) := HUS.out (fun e => by subst e; simp at hzx)
                go_wp2_with fail
                go_quiet (fail)
                go_wp2
                go_roundw
                case rel => exact ⟨j + 1, _, by omega, by go_num, rfl, HU2⟩
                case measure => simp [intOf]; omega
            · have dj : decide (j < k) = false := by simpa using hjt
              obtain rfl : j = k := by omega
              have HD2 : Hid (Dist l (j + 1)) := HDS.out HU.out
              have HBd : Hid (Below w.heap.size w (wr.drewN nd)) := bel_drawn HB.out _
              have HOd : Hid (Built (wr.drewN nd) w.heap.size u4 (sortL (stay l j))) := HO.out
              have hx' : (wr.drewN nd).cell? ⟨b0, off + j * 2, none⟩ = some (.string x) := hx
              have hy' : (wr.drewN nd).cell? ⟨b0, off + j * 2 + 1, none⟩ = some (.string y) := hy
              generalize wr.drewN nd = wd at *
              clear hx hy HC0 HDUP HDS HO
              cases hye : y.toList.isEmpty with
              | true =>
                have HST := Lib.hid (HSO.out hye)
                go_wp2
                go_roundw
                case rel => exact ⟨j + 1, by omega, by go_num, by rw [HST.out]; exact HOd, HBd, HOK2, HD2⟩
                case measure => simp [intOf]; omega
              | false =>
                have HST := Lib.hid (HSI.out hye)
                have HLE := Lib.hid (stay_le l j)
                have HLS := Lib.hid (sortL_length (stay l j))
                have HNM : Hid (∀ a, a < (sortL (stay l j)).length → ((sortL (stay l j)).getD a e0).1 ≠ x) := by
                  intro a ha
                  have hm : (sortL (stay l j)).getD a e0 ∈ stay l j := by
                    rw [show (sortL (stay l j)).getD a e0 = (sortL (stay l j))[a] by simp [ha]]
                    exact (sortL_perm _).mem_iff.1 (List.getElem_mem ha)
                  have hm2 := (List.mem_filter.1 hm).1
                  obtain ⟨i, hi, he⟩ := List.getElem_of_mem hm2
                  have hi2 : i < j := by simp at hi; omega
                  rw [← he, List.getElem_take]
                  have := HU.out i hi2
                  rw [show l.getD i e0 = l[i] by simp [show i < l.length by omega]] at this
                  exact this
                have HSRT := Lib.hid (fun a ha hb hf => @insert_sorts (sortL (stay l j)) (stay l j) (x, y) a ha rfl hb hf)
                have HEND := Lib.hid (behind_end (sortL (stay l j)) x)
                rw [← HST.out] at HSRT
                generalize hoo : sortL (stay l j) = o at *
                clear hoo
                obtain ⟨A', c, hv, ho1, ho2, ho3, ho4, ho5⟩ := HOd.out
                subst hv
                have HOL := Lib.hid ho1
                have hlo : o.length ≤ n := by have := HLE.out; have := HLS.out; omega
                clear ho1 HOd HLE HLS HSO HSI
                generalize hom : o.length = m at *
                have HOM := Lib.hid hom
                clear hom
                go_wp2
                go_loopw [7] (fun i wq => ∃ a nd : Nat, a ≤ m ∧ i = .int .i64 a ∧ wq = wd.drewN nd ∧ Hid (Behind o x a)) (fun i _ => (intOf i).toNat)
                case atStart => exact ⟨m, 0, Nat.le_refl _, rfl, rfl, by have := HEND.out; exact this⟩
                case round =>
                  obtain ⟨a, nd, ha, rfl, rfl, HBH⟩ := hrel
                  cases A' with
                  | none =>
                    have hc0 : c = 0 := ho2 rfl
                    subst hc0
                    have hm0 : m = 0 := by omega
                    subst hm0
                    have ha0 : a = 0 := by omega
                    subst ha0
                    have HSQ := Lib.hid (HSRT.out 0 (Nat.zero_le _) HBH.out (.inl rfl))
                    go_wp2_with fail
                    go_quiet (fail)
                    have HB0 : Hid (Below w.heap.size w (wd.drewN (nd + nq))) := bel_drawn HBd.out _
                    have HOL0 : Hid (Lbs (wd.drewN (nd + nq)) none o) := HOL.out
                    have hx0 : (wd.drewN (nd + nq)).cell? ⟨b0, off + j * 2, none⟩ = some (.string x) := hx'
                    have hy0' : (wd.drewN (nd + nq)).cell? ⟨b0, off + j * 2 + 1, none⟩ = some (.string y) := hy'
                    rw [World.drewN_drewN]
                    generalize wd.drewN (nd + nq) = w0 at *
                    have hs0 := HB0.out.size
                    go_wp2_with (at_builtin; refine wpList_append_lbs rfl (.tmp 73) (.tmp 76) rfl w0.heap.size (.slice none 0 0) 0 [] rfl (World.ownsRow_nil _ _ _ _) none 0 0 (o.take 0) ?c0 rfl (HOL0.out.take 0) (fun h => by first | rfl | cases h) (by omega) (Nat.le_refl _) ?_)
                    case c0 => rw [List.length_take, HOM.out]; omega
                    intro v1 w1 own1 gr1
                    have K1 : Hid (Below w0.heap.size w0 w1) := (Below.refl _ _).grown gr1 (Nat.le_refl _) (fun g hg => by cases hg)
                    have OW1 := Lib.hid own1
                    clear own1 gr1
                    have hx1 : w1.cell? ⟨b0, off + j * 2, none⟩ = some (.string x) := (K1.out.cell (p := ⟨b0, off + j * 2, none⟩) (by show b0 < _; omega)).trans hx0
                    have hy1' : w1.cell? ⟨b0, off + j * 2 + 1, none⟩ = some (.string y) := (K1.out.cell (p := ⟨b0, off + j * 2 + 1, none⟩) (by show b0 < _; omega)).trans hy0'
                    have hs1 := K1.out.size
                    go_wp2_with (at_builtin; refine wpList_append_own _ rfl _ _ 23 rfl w0.heap.size 52 i1 _ 2 32 Tryd.underlying23 hi1 hy0 hy1 hy2 rfl (by decide) _ _ _ rfl (OW1.out.alloc _) _ 1 1 [.string x, .string y] rfl rfl ?c1 ?c2 ?c3 ?c4 ?c5 ?_)
                    case c1 => exact pair_atL _ x y _ (by simp) _
                    case c2 => intro u hu; simp at hu; rcases hu with rfl | rfl <;> rfl
                    case c3 => unfold maxLen; omega
                    case c4 => omega
                    case c5 => simp; omega
                    intro v2 w2 own2 gr2 hnil; clear hnil
                    have OW2 := Lib.hid own2
                    have K2 : Hid (Below w0.heap.size w0 w2) := (K1.out.alloc hs1 _).grown gr2 (by simp; omega) (fun g hg => (OW1.out.lt g hg).1)
                    clear own2 gr2
                    have hs2 := K2.out.size
                    go_wp2_with (at_builtin; refine wpList_append_lbs rfl (.tmp 85) (.tmp 88) rfl w0.heap.size v2 _ _ rfl OW2.out none 0 0 (o.drop 0) ?c0 rfl (HOL0.out.below K2.out) (fun h => by first | rfl | cases h) (by omega) hs2 ?_)
                    case c0 => rw [List.length_drop, HOM.out]
                    intro v3 w3 own3 gr3
                    have OW3 := Lib.hid own3
                    have K3 : Hid (Below w0.heap.size w0 w3) := K2.out.grown gr3 hs2 (fun g hg => (OW2.out.lt g hg).1)
                    clear own3 gr3
                    have HBT : Hid (Built w3 w.heap.size v3 (sortL (stay l (j + 1)))) := by
                      have hl3 : (sortL (stay l (j + 1))).length = 0 + 1 + 0 := by rw [HSQ.out]; simp [HOM.out]; try omega
                      have q : w3.ownsRow w0.heap.size 52 2 v3 (0 + 1 + 0) (flatL (sortL (stay l (j + 1)))) := by
                        rw [HSQ.out, flatL_append]
                        have := OW3.out
                        simpa [flatL] using this
                      obtain ⟨A3, c3, e1, e2, e3, e4, e5⟩ := own_lbs2 hl3 q
                      exact ⟨A3, c3, by rw [e1, hl3], e2.1, e2.2, by rw [hl3]; exact e3, e4, fun ad h => by obtain ⟨g, e, hg⟩ := e5 ad h; exact ⟨g, 0, e, hg⟩⟩
                    have HB3 : Hid (Below w.heap.size w w3) := HB0.out.trans (K3.out.mono hs0)
                    clear OW3 K3 OW2 K2 OW1 K1
                    go_wp2
                    go_roundw
                    case rel => exact ⟨j + 1, by omega, by go_num, HBT, HB3, HOK2, HD2⟩
                    case measure => simp [intOf]; omega
                  | some ad =>
                    obtain ⟨g, f, rfl, hg⟩ := ho5 _ rfl
                    have hac : a ≤ c := by omega
                    have hcm : c ≤ 9223372036854775807 := by unfold maxLen at ho4; omega
                    by_cases ha0 : a = 0
                    · have HSQ := Lib.hid (HSRT.out a ha HBH.out (.inl ha0))
                      have da : decide (0 < a) = false := by simp; omega
                      have HA0 := Lib.hid ha0
                      clear ha0
                      go_wp2_with fail
                      go_quiet (fail)
                      have HB0 : Hid (Below w.heap.size w (wd.drewN (nd + nq))) := bel_drawn HBd.out _
                      have HOL0 : Hid (Lbs (wd.drewN (nd + nq)) (some ⟨g, f, none⟩) o) := HOL.out
                      have hx0 : (wd.drewN (nd + nq)).cell? ⟨b0, off + j * 2, none⟩ = some (.string x) := hx'
                      have hy0' : (wd.drewN (nd + nq)).cell? ⟨b0, off + j * 2 + 1, none⟩ = some (.string y) := hy'
                      rw [World.drewN_drewN]
                      generalize wd.drewN (nd + nq) = w0 at *
                      have hs0 := HB0.out.size
                      go_wp2_with (at_builtin; refine wpList_append_lbs rfl (.tmp 73) (.tmp 76) rfl w0.heap.size (.slice none 0 0) 0 [] rfl (World.ownsRow_nil _ _ _ _) (some ⟨g, f, none⟩) a c (o.take a) ?c0 rfl (HOL0.out.take a) (fun h => by first | rfl | cases h) (by omega) (Nat.le_refl _) ?_)
                      case c0 => rw [List.length_take, HOM.out]; omega
                      intro v1 w1 own1 gr1
                      have K1 : Hid (Below w0.heap.size w0 w1) := (Below.refl _ _).grown gr1 (Nat.le_refl _) (fun g hg => by cases hg)
                      have OW1 := Lib.hid own1
                      clear own1 gr1
                      have hx1 : w1.cell? ⟨b0, off + j * 2, none⟩ = some (.string x) := (K1.out.cell (p := ⟨b0, off + j * 2, none⟩) (by show b0 < _; omega)).trans hx0
                      have hy1' : w1.cell? ⟨b0, off + j * 2 + 1, none⟩ = some (.string y) := (K1.out.cell (p := ⟨b0, off + j * 2 + 1, none⟩) (by show b0 < _; omega)).trans hy0'
                      have hs1 := K1.out.size
                      go_wp2_with (at_builtin; refine wpList_append_own _ rfl _ _ 23 rfl w0.heap.size 52 i1 _ 2 32 Tryd.underlying23 hi1 hy0 hy1 hy2 rfl (by decide) _ _ _ rfl (OW1.out.alloc _) _ 1 1 [.string x, .string y] rfl rfl ?c1 ?c2 ?c3 ?c4 ?c5 ?_)
                      case c1 => exact pair_atL _ x y _ (by simp) _
                      case c2 => intro u hu; simp at hu; rcases hu with rfl | rfl <;> rfl
                      case c3 => unfold maxLen; omega
                      case c4 => omega
                      case c5 => simp; omega
                      intro v2 w2 own2 gr2 hnil; clear hnil
                      have OW2 := Lib.hid own2
                      have K2 : Hid (Below w0.heap.size w0 w2) := (K1.out.alloc hs1 _).grown gr2 (by simp; omega) (fun g hg => (OW1.out.lt g hg).1)
                      clear own2 gr2
                      have hs2 := K2.out.size
                      rcases Decidable.em (c = a) with hca | hca
                      · go_wp2_with (at_builtin; refine wpList_append_lbs rfl (.tmp 85) (.tmp 88) rfl w0.heap.size v2 _ _ rfl OW2.out _ _ _ (o.drop a) ?c0 rfl (by have q := (HOL0.out.below K2.out).drop2 a c (by rw [HOM.out]; omega); first | exact q | (rw [if_pos hca] at q; exact q) | (rw [if_neg hca] at q; exact q)) (fun h => by first | (cases h; done) | (split at h <;> cases h)) (by omega) hs2 ?_)
                        case c0 => rw [List.length_drop, HOM.out]
                        intro v3 w3 own3 gr3
                        have OW3 := Lib.hid own3
                        have K3 : Hid (Below w0.heap.size w0 w3) := K2.out.grown gr3 hs2 (fun g hg => (OW2.out.lt g hg).1)
                        clear own3 gr3
                        have HBT : Hid (Built w3 w.heap.size v3 (sortL (stay l (j + 1)))) := by
                          have hl3 : (sortL (stay l (j + 1))).length = a + 1 + (m - a) := by rw [HSQ.out]; simp [HOM.out]; try omega
                          have q : w3.ownsRow w0.heap.size 52 2 v3 (a + 1 + (m - a)) (flatL (sortL (stay l (j + 1)))) := by
                            rw [HSQ.out, flatL_append]
                            have := OW3.out
                            simpa [flatL] using this
                          obtain ⟨A3, c3, e1, e2, e3, e4, e5⟩ := own_lbs2 hl3 q
                          exact ⟨A3, c3, by rw [e1, hl3], e2.1, e2.2, by rw [hl3]; exact e3, e4, fun ad h => by obtain ⟨g, e, hg⟩ := e5 ad h; exact ⟨g, 0, e, hg⟩⟩
                        have HB3 : Hid (Below w.heap.size w w3) := HB0.out.trans (K3.out.mono hs0)
                        clear OW3 K3 OW2 K2 OW1 K1
                        go_wp2
                        go_roundw
                        case rel => exact ⟨j + 1, by omega, by go_num, HBT, HB3, HOK2, HD2⟩
                        case measure => simp [intOf]; omega
                      · go_wp2_with (at_builtin; refine wpList_append_lbs rfl (.tmp 85) (.tmp 88) rfl w0.heap.size v2 _ _ rfl OW2.out _ _ _ (o.drop a) ?c0 rfl (by have q := (HOL0.out.below K2.out).drop2 a c (by rw [HOM.out]; omega); first | exact q | (rw [if_pos hca] at q; exact q) | (rw [if_neg hca] at q; exact q)) (fun h => by first | (cases h; done) | (split at h <;> cases h)) (by omega) hs2 ?_)
                        case c0 => rw [List.length_drop, HOM.out]
                        intro v3 w3 own3 gr3
                        have OW3 := Lib.hid own3
                        have K3 : Hid (Below w0.heap.size w0 w3) := K2.out.grown gr3 hs2 (fun g hg => (OW2.out.lt g hg).1)
                        clear own3 gr3
                        have HBT : Hid (Built w3 w.heap.size v3 (sortL (stay l (j + 1)))) := by
                          have hl3 : (sortL (stay l (j + 1))).length = a + 1 + (m - a) := by rw [HSQ.out]; simp [HOM.out]; try omega
                          have q : w3.ownsRow w0.heap.size 52 2 v3 (a + 1 + (m - a)) (flatL (sortL (stay l (j + 1)))) := by
                            rw [HSQ.out, flatL_append]
                            have := OW3.out
                            simpa [flatL] using this
                          obtain ⟨A3, c3, e1, e2, e3, e4, e5⟩ := own_lbs2 hl3 q
                          exact ⟨A3, c3, by rw [e1, hl3], e2.1, e2.2, by rw [hl3]; exact e3, e4, fun ad h => by obtain ⟨g, e, hg⟩ := e5 ad h; exact ⟨g, 0, e, hg⟩⟩
                        have HB3 : Hid (Below w.heap.size w w3) := HB0.out.trans (K3.out.mono hs0)
                        clear OW3 K3 OW2 K2 OW1 K1
                        go_wp2
                        go_roundw
                        case rel => exact ⟨j + 1, by omega, by go_num, HBT, HB3, HOK2, HD2⟩
                        case measure => simp [intOf]; omega
                    · have da : decide (0 < a) = true := by simp; omega
                      have da' : (0 : Int) < (a : Int) := by omega
                      have hal : a - 1 < o.length := by rw [HOM.out]; omega
                      obtain ⟨g', o', he, hb1, hc1⟩ := HOL.out (by omega)
                      injection he with he
                      injection he with he1 he2
                      subst he1
                      subst he2
                      have hz := (hc1 (a - 1) hal).1
                      have hnx := HNM.out (a - 1) (by omega)
                      have HPR := Lib.hid (fun h1 => @behind_pred o x (a - 1) (by rw [show a - 1 + 1 = a by omega]; exact HBH.out) h1)
                      have HEX := Lib.hid (fun h1 => HSRT.out a ha HBH.out (.inr h1))
                      clear hc1 hal
                      generalize (o.getD (a - 1) e0).1 = z at *
                      cases hzx : Op.bytesLess z.toList x.toList with
                      | true =>
                        have HSQ := Lib.hid (HEX.out hzx)
                        go_wp2_with fail
                        go_quiet (fail)
                        have HB0 : Hid (Below w.heap.size w (wd.drewN (nd + nq))) := bel_drawn HBd.out _
                        have HOL0 : Hid (Lbs (wd.drewN (nd + nq)) (some ⟨g, f, none⟩) o) := HOL.out
                        have hx0 : (wd.drewN (nd + nq)).cell? ⟨b0, off + j * 2, none⟩ = some (.string x) := hx'
                        have hy0' : (wd.drewN (nd + nq)).cell? ⟨b0, off + j * 2 + 1, none⟩ = some (.string y) := hy'
                        rw [World.drewN_drewN]
                        generalize wd.drewN (nd + nq) = w0 at *
                        have hs0 := HB0.out.size
                        go_wp2_with (at_builtin; refine wpList_append_lbs rfl (.tmp 73) (.tmp 76) rfl w0.heap.size (.slice none 0 0) 0 [] rfl (World.ownsRow_nil _ _ _ _) (some ⟨g, f, none⟩) a c (o.take a) ?c0 rfl (HOL0.out.take a) (fun h => by first | rfl | cases h) (by omega) (Nat.le_refl _) ?_)
                        case c0 => rw [List.length_take, HOM.out]; omega
                        intro v1 w1 own1 gr1
                        have K1 : Hid (Below w0.heap.size w0 w1) := (Below.refl _ _).grown gr1 (Nat.le_refl _) (fun g hg => by cases hg)
                        have OW1 := Lib.hid own1
                        clear own1 gr1
                        have hx1 : w1.cell? ⟨b0, off + j * 2, none⟩ = some (.string x) := (K1.out.cell (p := ⟨b0, off + j * 2, none⟩) (by show b0 < _; omega)).trans hx0
                        have hy1' : w1.cell? ⟨b0, off + j * 2 + 1, none⟩ = some (.string y) := (K1.out.cell (p := ⟨b0, off + j * 2 + 1, none⟩) (by show b0 < _; omega)).trans hy0'
                        have hs1 := K1.out.size
                        go_wp2_with (at_builtin; refine wpList_append_own _ rfl _ _ 23 rfl w0.heap.size 52 i1 _ 2 32 Tryd.underlying23 hi1 hy0 hy1 hy2 rfl (by decide) _ _ _ rfl (OW1.out.alloc _) _ 1 1 [.string x, .string y] rfl rfl ?c1 ?c2 ?c3 ?c4 ?c5 ?_)
                        case c1 => exact pair_atL _ x y _ (by simp) _
                        case c2 => intro u hu; simp at hu; rcases hu with rfl | rfl <;> rfl
                        case c3 => unfold maxLen; omega
                        case c4 => omega
                        case c5 => simp; omega
                        intro v2 w2 own2 gr2 hnil; clear hnil
                        have OW2 := Lib.hid own2
                        have K2 : Hid (Below w0.heap.size w0 w2) := (K1.out.alloc hs1 _).grown gr2 (by simp; omega) (fun g hg => (OW1.out.lt g hg).1)
                        clear own2 gr2
                        have hs2 := K2.out.size
                        rcases Decidable.em (c = a) with hca | hca
                        · go_wp2_with (at_builtin; refine wpList_append_lbs rfl (.tmp 85) (.tmp 88) rfl w0.heap.size v2 _ _ rfl OW2.out _ _ _ (o.drop a) ?c0 rfl (by have q := (HOL0.out.below K2.out).drop2 a c (by rw [HOM.out]; omega); first | exact q | (rw [if_pos hca] at q; exact q) | (rw [if_neg hca] at q; exact q)) (fun h => by first | (cases h; done) | (split at h <;> cases h)) (by omega) hs2 ?_)
                          case c0 => rw [List.length_drop, HOM.out]
                          intro v3 w3 own3 gr3
                          have OW3 := Lib.hid own3
                          have K3 : Hid (Below w0.heap.size w0 w3) := K2.out.grown gr3 hs2 (fun g hg => (OW2.out.lt g hg).1)
                          clear own3 gr3
                          have HBT : Hid (Built w3 w.heap.size v3 (sortL (stay l (j + 1)))) := by
                            have hl3 : (sortL (stay l (j + 1))).length = a + 1 + (m - a) := by rw [HSQ.out]; simp [HOM.out]; try omega
                            have q : w3.ownsRow w0.heap.size 52 2 v3 (a + 1 + (m - a)) (flatL (sortL (stay l (j + 1)))) := by
                              rw [HSQ.out, flatL_append]
                              have := OW3.out
                              simpa [flatL] using this
                            obtain ⟨A3, c3, e1, e2, e3, e4, e5⟩ := own_lbs2 hl3 q
                            exact ⟨A3, c3, by rw [e1, hl3], e2.1, e2.2, by rw [hl3]; exact e3, e4, fun ad h => by obtain ⟨g, e, hg⟩ := e5 ad h; exact ⟨g, 0, e, hg⟩⟩
                          have HB3 : Hid (Below w.heap.size w w3) := HB0.out.trans (K3.out.mono hs0)
                          clear OW3 K3 OW2 K2 OW1 K1
                          go_wp2
                          go_roundw
                          case rel => exact ⟨j + 1, by omega, by go_num, HBT, HB3, HOK2, HD2⟩
                          case measure => simp [intOf]; omega
                        · go_wp2_with (at_builtin; refine wpList_append_lbs rfl (.tmp 85) (.tmp 88) rfl w0.heap.size v2 _ _ rfl OW2.out _ _ _ (o.drop a) ?c0 rfl (by have q := (HOL0.out.below K2.out).drop2 a c (by rw [HOM.out]; omega); first | exact q | (rw [if_pos hca] at q; exact q) | (rw [if_neg hca] at q; exact q)) (fun h => by first | (cases h; done) | (split at h <;> cases h)) (by omega) hs2 ?_)
                          case c0 => rw [List.length_drop, HOM.out]
                          intro v3 w3 own3 gr3
                          have OW3 := Lib.hid own3
                          have K3 : Hid (Below w0.heap.size w0 w3) := K2.out.grown gr3 hs2 (fun g hg => (OW2.out.lt g hg).1)
                          clear own3 gr3
                          have HBT : Hid (Built w3 w.heap.size v3 (sortL (stay l (j + 1)))) := by
                            have hl3 : (sortL (stay l (j + 1))).length = a + 1 + (m - a) := by rw [HSQ.out]; simp [HOM.out]; try omega
                            have q : w3.ownsRow w0.heap.size 52 2 v3 (a + 1 + (m - a)) (flatL (sortL (stay l (j + 1)))) := by
                              rw [HSQ.out, flatL_append]
                              have := OW3.out
                              simpa [flatL] using this
                            obtain ⟨A3, c3, e1, e2, e3, e4, e5⟩ := own_lbs2 hl3 q
                            exact ⟨A3, c3, by rw [e1, hl3], e2.1, e2.2, by rw [hl3]; exact e3, e4, fun ad h => by obtain ⟨g, e, hg⟩ := e5 ad h; exact ⟨g, 0, e, hg⟩⟩
                          have HB3 : Hid (Below w.heap.size w w3) := HB0.out.trans (K3.out.mono hs0)
                          clear OW3 K3 OW2 K2 OW1 K1
                          go_wp2
                          go_roundw
                          case rel => exact ⟨j + 1, by omega, by go_num, HBT, HB3, HOK2, HD2⟩
                          case measure => simp [intOf]; omega
                      | false =>
                        have hne : (z.toList == x.toList) = false := beq_false_of_ne hnx
                        have HBP : Hid (Behind o x (a - 1)) := HPR.out (by
                          cases hq : sl x z with
                          | true => rfl
                          | false => exact absurd (less_tri _ _ hzx hq) (fun e => by rw [e] at hne; simp at hne))
                        go_wp2_with fail
                        go_quiet (fail)
                        go_wp2
                        go_roundw
                        case rel => exact ⟨a - 1, _, by omega, by go_num, rfl, HBP⟩
                        case measure => simp [intOf]; omega
    · obtain rfl : k = n := by omega
      have d : decide (k < k) = false := by simp
      have hst : stay l k = l.filter full := by have := stay_all l; rw [HN.out] at this; exact this
      have HMK := Lib.hid (@make_named l (by rw [HN.out]; exact HK.out) (by have := HD.out; unfold Dist at this; rw [List.take_of_length_le (by rw [HN.out]; omega)] at this; exact this))
      rw [← hst] at HMK
      generalize sortL (stay l k) = o at *
      obtain ⟨A', c, hv, ho1, ho2, _⟩ := HO.out
      subst hv
      have HOL : Hid (OwnL wr A' c o) := ⟨ho1, ho2⟩
      clear ho1 ho2 hst HO
      by_cases h16 : o.length ≤ 16
      · have hd : decide (16 < o.length) = false := by simp; omega
        have HM : Hid (makeF l = some o) := by have := HMK.out; rw [if_pos h16] at this; exact this
        clear HMK
        go_wp2
        go_ret2
        exact ⟨HB.out, .inr ⟨o, A', c, HM.out, rfl, HOL.out⟩⟩
      · have hd : decide (16 < o.length) = true := by simp; omega
        have hd' : (16 : Int) < (o.length : Int) := by omega
        have HM : Hid (makeF l = none) := by have := HMK.out; rw [if_neg h16] at this; exact this
        clear HMK
        go_wp2
        go_ret2
        exact ⟨HB.out, .inl ⟨HM.out, rfl⟩⟩
end Go.Proofs.YtiabnacgfoaihaaDoor

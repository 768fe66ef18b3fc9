/- A kid's text lies in its parent's; how long the text of a right tree is. No condition. -/
import Derived.Test.YticmkabafmmlhaaGreatDoorPkj
import Derived.Test.YticmkabafmmlhaaGreatDoorN15j
import Derived.Test.YticmkabafmmlhaaGreatDoorPnj
import Derived.Test.YticmkabafmmlhaaGreatDoorPqj
import Derived.Test.YticmkabafmmlhaaGreatDoorN18j
import Derived.Lib.UnsafeStr
set_option linter.unusedVariables false
set_option linter.unusedSimpArgs false
namespace Go.Proofs.YticmkabafmmlhaaGreatDoor.Ck
open Go.RowKit
theorem okR : OkR okHd := by
 have bare0 : ∀ {o : Int} {v : Nat} {s : ByteArray} {nm : Nat} {wd off : Int} {ha : Bool} {tm how : Int} {nn : Nat} {bo : Bool} {nk : Nat}, bareF o v s nm wd off ha tm how nn bo nk = true → nk = 0 := fun h => by
  unfold bareF at h
  exact (of_decide_eq_true h).2.2.2.2.2.2.2.2.2.2.2
 refine ⟨fun h n hk hc => ?_, fun h n hk => ?_, fun h n hk h6 => ?_, fun h n hk h7 => ?_⟩
 · unfold okHd at hk
   rcases hc with hc | hc | hc
   · rw [if_pos hc] at hk
     unfold numF at hk
     exact bare0 (Bool.and_eq_true_iff.1 hk).2
   · rw [if_neg (by omega), if_pos hc] at hk
     unfold textOk at hk
     exact bare0 (Bool.and_eq_true_iff.1 hk).2
   · rw [if_neg (by omega), if_neg (by omega), if_pos hc] at hk
     unfold pickOk at hk
     exact bare0 (Bool.and_eq_true_iff.1 hk).2
 · by_cases ho : h.k < 1 ∨ 7 < h.k
   · rw [ok_out ho] at hk; cases hk
   · omega
 · unfold okHd at hk
   rw [if_neg (by omega), if_neg (by omega), if_neg (by omega), if_neg (by omega), if_neg (by omega), if_pos h6] at hk
   unfold pairOk at hk
   simp only [Bool.and_eq_true, decide_eq_true_eq] at hk
   exact hk.1.2.2
 · unfold okHd at hk
   rw [if_neg (by omega), if_neg (by omega), if_neg (by omega), if_neg (by omega), if_neg (by omega), if_neg (by omega), if_pos h7] at hk
   unfold lessF at hk
   simp only [Bool.and_eq_true, decide_eq_true_eq] at hk
   exact hk.1
theorem kid_in (h : Hd) (ks : List Tr) (i : Nat) (hi : i < ks.length) (hok : okHd h ks.length = true) : InT (printF (ks.getD i t0)) (printF (.mk h ks)) := by
 have hb := okR.bare _ _ hok
 have hk := okR.kind _ _ hok
 rw [printF, if_neg (by omega), if_neg (by omega), if_neg (by omega)]
 have ha : InT (printF (ks.getD i t0)) (argF (fun k => (printL ks).getD k []) ks.length) := by
  have := in_arg (fun k => (printL ks).getD k []) ks.length hi
  rwa [printL_at ks i hi] at this
 by_cases h4 : h.k = 4
 · rw [if_pos h4]
   exact ((ha.left _).right _).left _
 rw [if_neg h4]
 by_cases h5 : h.k = 5
 · rw [if_pos h5]
   exact ((ha.left _).right _).left _
 rw [if_neg h5]
 by_cases h6 : h.k = 6
 · rw [if_pos h6]
   have hn := okR.pair _ _ hok h6
   by_cases e : i = 0
   · subst e
     have := in_wrap (wrapF h 0 (ks.getD 0 t0)) ((printL ks).getD 0 [])
     rw [printL_at ks 0 hi] at this ⊢
     exact this.right _
   · obtain rfl : i = 1 := by omega
     have := in_wrap (wrapF h 1 (ks.getD 1 t0)) ((printL ks).getD 1 [])
     rw [printL_at ks 1 hi] at this ⊢
     exact (this.left _).left _
 · rw [if_neg h6]
   have hn := okR.less _ _ hok (by omega)
   obtain rfl : i = 0 := by omega
   have := in_wrap (kindF (ks.getD 0 t0) == 6) ((printL ks).getD 0 [])
   rw [printL_at ks 0 hi] at this ⊢
   exact this.left _
theorem pure_of (h : Hd) (n : Nat) (hk : h.k = 3) (hok : okHd h n = true) : PureOk h := by
 unfold okHd at hok
 rw [if_neg (by omega), if_neg (by omega), if_pos hk] at hok
 unfold pickOk at hok
 simp only [Bool.and_eq_true, decide_eq_true_eq] at hok
 exact hok.1.2.2
theorem pickOk_of (h : Hd) (n : Nat) (hk : h.k = 3) (hok : okHd h n = true) : PickOk h := by
 obtain ⟨p1, p2, p3, p4, _, p6, p7, _⟩ := pure_of h n hk hok
 exact ⟨p1, p2, p3, p4, p6, p7, by have := long_len h.wd (by omega) p2; omega, by have := long_len h.off p3 p4; omega⟩
theorem short_mem {h : Hd} {ks : List Tr} (hs : shortF (.mk h ks) = true) : ∀ x, x ∈ ks → shortF x = true := by
 rw [shortF, Bool.and_eq_true, Bool.and_eq_true, Bool.and_eq_true, Bool.and_eq_true] at hs
 obtain ⟨_, _, _, _, h5⟩ := hs
 have : ∀ (l : List Tr), shortL l = true → ∀ x, x ∈ l → shortF x = true := by
  intro l
  induction l with
  | nil => intro _ x h; cases h
  | cons y l ih =>
    intro h1 x h2
    rw [shortL, Bool.and_eq_true] at h1
    rcases List.mem_cons.1 h2 with rfl | h2
    · exact h1.1
    · exact ih h1.2 x h2
 exact this ks h5
theorem print_len : ∀ t : Tr, allF okHd t = true → shortF t = true → (printF t).length + 2 ≤ 20000 * szF t
 | .mk h ks, ha, hs => by
   have kl : ∀ x, x ∈ ks → allF okHd x = true → shortF x = true → (printF x).length + 2 ≤ 20000 * szF x := fun x hx => print_len x
   rw [allF, Bool.and_eq_true] at ha
   have hs0 := hs
   rw [shortF, Bool.and_eq_true, Bool.and_eq_true, Bool.and_eq_true, Bool.and_eq_true, decide_eq_true_eq, decide_eq_true_eq] at hs
   obtain ⟨_, s1, s2, s3, s4⟩ := hs
   have kk : ∀ k, k < ks.length → (printF (ks.getD k t0)).length + 2 ≤ 20000 * szF (ks.getD k t0) := fun k hk => by
    have hm : ks.getD k t0 ∈ ks := by rw [List.getD_eq_getElem?_getD, List.getElem?_eq_getElem hk]; exact List.getElem_mem hk
    exact kl _ hm (allL_mem ha.2 hm) (short_mem hs0 _ hm)
   have ka : (argF (fun k => (printL ks).getD k []) ks.length).length ≤ 20000 * szL ks := by
    have h1 := argF_len (fun k => (printL ks).getD k []) ks.length
    have h2 : sumN (fun k => ((printL ks).getD k []).length + 2) ks.length ≤ sumN (fun k => 20000 * szF (ks.getD k t0)) ks.length := sumN_le _ _ _ fun k hk => by
     have := kk k hk
     rw [← printL_at ks k hk] at this
     exact this
    rw [sumN_mul, sumN_sz] at h2
    omega
   have hb := okR.bare _ _ ha.1
   have hkd := okR.kind _ _ ha.1
   rw [printF, szF]
   by_cases h1 : h.k = 1
   · rw [if_pos h1]
     have := num_len h.v
     omega
   rw [if_neg h1]
   by_cases h2 : h.k = 2
   · rw [if_pos h2]
     have := quote_len h.s.data.toList
     rw [← Lib.size_eq] at this
     omega
   rw [if_neg h2]
   by_cases h3 : h.k = 3
   · rw [if_pos h3]
     have := pick_len h (pickOk_of h _ h3 ha.1) s1 s2
     omega
   rw [if_neg h3]
   rw [Lib.size_eq] at s1
   by_cases h4 : h.k = 4
   · rw [if_pos h4]
     simp only [List.length_append, List.length_cons, List.length_nil]
     omega
   rw [if_neg h4]
   by_cases h5 : h.k = 5
   · rw [if_pos h5]
     have := how_len h byS withoutS (by decide) (by decide) s3
     have : (sepT h.how).length ≤ 1 := by unfold sepT; split <;> decide
     simp only [List.length_append, List.length_cons, List.length_nil]
     omega
   rw [if_neg h5]
   by_cases h6 : h.k = 6
   · rw [if_pos h6]
     have hn := okR.pair _ _ ha.1 h6
     have := how_len h onS ignoringS (by decide) (by decide) s3
     have := op_len h.o
     have : (boolT h.bo).length ≤ 5 := by unfold boolT; split <;> decide
     have w0 := wrap_len (wrapF h 0 (ks.getD 0 t0)) ((printL ks).getD 0 [])
     have w1 := wrap_len (wrapF h 1 (ks.getD 1 t0)) ((printL ks).getD 1 [])
     have k0 := kk 0 (by omega)
     have k1 := kk 1 (by omega)
     have hz : szL ks = szF (ks.getD 0 t0) + szF (ks.getD 1 t0) := by
      rw [← sumN_sz ks, hn]
      simp [sumN]
     rw [printL_at ks 0 (by omega)] at w0 ⊢
     rw [printL_at ks 1 (by omega)] at w1 ⊢
     unfold rightT
     simp only [List.length_append, List.length_cons, List.length_nil]
     omega
   · rw [if_neg h6]
     have hn := okR.less _ _ ha.1 (by omega)
     have w0 := wrap_len (kindF (ks.getD 0 t0) == 6) ((printL ks).getD 0 [])
     have k0 := kk 0 (by omega)
     have hz : szL ks = szF (ks.getD 0 t0) := by
      rw [← sumN_sz ks, hn]
      simp [sumN]
     rw [printL_at ks 0 (by omega)] at w0 ⊢
     simp only [List.length_append, List.length_cons, List.length_nil]
     omega
end Go.Proofs.YticmkabafmmlhaaGreatDoor.Ck

set_option linter.unusedVariables false
set_option linter.unusedSimpArgs false
namespace Go.Proofs.YticmkabafmmlhaaGreatDoor.Ck
open Go.RowKit
theorem mt_op {m : Mt} (h : mtB m = true) : 1 ≤ m.1 ∧ m.1 ≤ 4 := by
 unfold mtB at h
 rw [Bool.and_eq_true] at h
 have h2 := h.2
 split at h2
 · omega
 · rw [decide_eq_true_eq] at h2; omega
theorem how_of {how : Int} {l : List ByteArray} (h : howF how l = true) : how = 0 ∨ how = 1 ∨ how = 2 := by
 unfold howF at h
 split at h
 · exact .inl ‹_›
 · rw [decide_eq_true_eq] at h
   exact .inr h.1
theorem ok_pick {h : Hd} {n : Nat} (hk : h.k = 3) (hok : okHd h n = true) : h.ms.length ≤ 10 ∧ GoodM h.ms h.ms.length := by
 unfold okHd at hok
 rw [if_neg (by omega), if_neg (by omega), if_pos hk] at hok
 unfold pickOk at hok
 simp only [Bool.and_eq_true] at hok
 have := hok.1.2.1
 unfold msB at this
 rwa [decide_eq_true_eq] at this
theorem ok_group {h : Hd} {n : Nat} (hk : h.k = 5) (hok : okHd h n = true) : n ≤ 4 ∧ (h.how = 0 ∨ h.how = 1 ∨ h.how = 2) := by
 unfold okHd at hok
 rw [if_neg (by omega), if_neg (by omega), if_neg (by omega), if_neg (by omega), if_pos hk] at hok
 unfold groupOk at hok
 simp only [Bool.and_eq_true, decide_eq_true_eq] at hok
 exact ⟨hok.1.2.2, how_of hok.1.2.1⟩
theorem ok_pair {h : Hd} {n : Nat} (hk : h.k = 6) (hok : okHd h n = true) : (1 ≤ h.o ∧ h.o ≤ 11) ∧ (h.how = 0 ∨ h.how = 1 ∨ h.how = 2) := by
 unfold okHd at hok
 rw [if_neg (by omega), if_neg (by omega), if_neg (by omega), if_neg (by omega), if_neg (by omega), if_pos hk] at hok
 unfold pairOk at hok
 simp only [Bool.and_eq_true, decide_eq_true_eq] at hok
 exact ⟨hok.1.1, how_of hok.1.2.1⟩
structure Gd (w0 : World) (t : Tr) : Prop where
 l : Lies w0 t
 a : allF okHd t = true
 s : shortF t = true
theorem Gd.kid {w0 : World} {h : Hd} {ks : List Tr} (g : Gd w0 (.mk h ks)) {i : Nat} (hi : i < ks.length) : Gd w0 (ks.getD i t0) ∧ szF (ks.getD i t0) < szF (.mk h ks) := by
 have hm : ks.getD i t0 ∈ ks := by rw [List.getD_eq_getElem?_getD, List.getElem?_eq_getElem hi]; exact List.getElem_mem hi
 have hl := g.l
 have ha := g.a
 rw [Lies] at hl
 rw [allF, Bool.and_eq_true] at ha
 refine ⟨⟨hl.2.2.2.2.2.mem hm, allL_mem ha.2 hm, short_mem g.s _ hm⟩, ?_⟩
 have := szL_mem hm
 rw [szF]; omega
theorem right_of {w0 : World} {b : Nat} {h : Hd} {ks : List Tr} (g : Gd w0 (.mk h ks)) (hk : h.k = 6) (ih : PartC w0 b 16 (ks.getD 1 t0) (printF (ks.getD 1 t0))) : PartC w0 b 61 (.mk h ks) (rightQ (.mk h ks)) := by
 have ha := g.a
 have hl := g.l
 rw [allF, Bool.and_eq_true] at ha
 rw [Lies] at hl
 obtain ⟨ho, h02⟩ := ok_pair hk ha.1
 have hn := okR.pair _ _ ha.1 hk
 exact right_put h ks _ _ ho (by omega) hl.2.2.2.2.1 rfl ih (how_put h ks.length onS ignoringS h02 hl.2.2.2.1 hl.1.nc hl.1.ns)
theorem put_tree {w0 : World} {b : Nat} (hE : Env w0) : ∀ (n : Nat) (t : Tr), szF t ≤ n → Gd w0 t → PartC w0 b 16 t (printF t) := by
 intro n
 induction n with
 | zero => intro t h; have := szF_pos t; omega
 | succ n ih =>
   intro t hn g
   obtain ⟨h, ks⟩ := t
   have hz := (short_size g.s).2
   have hl := g.l
   have ha := g.a
   rw [allF, Bool.and_eq_true] at ha
   rw [Lies] at hl
   obtain ⟨hok, _, hM, hN, hT, _⟩ := hl
   have hs := g.s
   rw [shortF, Bool.and_eq_true, Bool.and_eq_true, Bool.and_eq_true, Bool.and_eq_true, decide_eq_true_eq, decide_eq_true_eq] at hs
   obtain ⟨_, s1, s2, s3, _⟩ := hs
   have hkd := okR.kind _ _ ha.1
   have hkid : ∀ k, k < ks.length → PartC w0 b 16 (ks.getD k t0) ((printL ks).getD k []) := fun k hk => by
    have := g.kid hk
    rw [printL_at ks k hk]
    exact ih _ (by omega) this.1
   have hln : ks.length ≤ 700 := by
    have := szL_length ks
    rw [szF] at hz
    omega
   rw [printF]
   by_cases h1 : h.k = 1
   · rw [if_pos h1]
     exact part_put h ks _ 1 h1 (by decide) (by decide) (num_put h ks hE hok.v)
   rw [if_neg h1]
   by_cases h2 : h.k = 2
   · rw [if_pos h2]
     exact part_put h ks _ 2 h2 (by decide) (by decide) (text_put h ks hE (by omega))
   rw [if_neg h2]
   by_cases h3 : h.k = 3
   · rw [if_pos h3]
     obtain ⟨m1, m2⟩ := ok_pick h3 ha.1
     refine part_put h ks _ 3 h3 (by decide) (by decide) (pick_put h ks _ hE (mats_put h.ma h.mc h.ms hE hM (fun k hk => ?_) (by omega)) (pickOk_of h _ h3 ha.1))
     have ho := mt_op (m2 k hk)
     have hm := List.all_eq_true.1 s2 (h.ms.getD k m0) (by rw [List.getD_eq_getElem?_getD, List.getElem?_eq_getElem hk]; exact List.getElem_mem hk)
     unfold mtOk at hm
     rw [Bool.and_eq_true, decide_eq_true_eq, decide_eq_true_eq] at hm
     exact ⟨ho.1, ho.2, by omega⟩
   rw [if_neg h3]
   by_cases h4 : h.k = 4
   · rw [if_pos h4]
     exact part_put h ks _ 4 h4 (by decide) (by decide) (call_put h ks _ (args_put h ks (fun k => (printL ks).getD k []) hkid hT hln))
   rw [if_neg h4]
   by_cases h5 : h.k = 5
   · rw [if_pos h5]
     obtain ⟨_, h02⟩ := ok_group h5 ha.1
     exact part_put h ks _ 5 h5 (by decide) (by decide) (group_put h ks _ _ (how_put h ks.length byS withoutS h02 hN hok.nc hok.ns) (args_put h ks (fun k => (printL ks).getD k []) hkid hT hln))
   rw [if_neg h5]
   by_cases h6 : h.k = 6
   · rw [if_pos h6]
     have e : wrapT (wrapF h 0 (ks.getD 0 t0)) ((printL ks).getD 0 []) ++ rightT h (wrapF h 1 (ks.getD 1 t0)) ((printL ks).getD 1 []) = printF (.mk h ks) := by
      rw [printF, if_neg h1, if_neg h2, if_neg h3, if_neg h4, if_neg h5, if_pos h6]
     rw [e]
     refine part_put h ks _ 6 h6 (by decide) (by decide) (pair_put (fun q => Gd w0 q ∧ szF q ≤ n + 1 ∧ (q.h.k = 6 ∨ szF q ≤ n)) ⟨fun q hq hk => ?_, fun q hq hk => ?_, fun q hq hk => ?_⟩ _ ⟨g, hn, .inl h6⟩ (by omega))
     · obtain ⟨h, ks⟩ := q
       have ga := hq.1.a
       have gl := hq.1.l
       rw [allF, Bool.and_eq_true] at ga
       rw [Lies] at gl
       have hn2 : ks.length = 2 := okR.pair _ _ ga.1 hk
       have k1 := hq.1.kid (i := 1) (by omega)
       exact ⟨hk, hn2, gl.2.2.2.2.1, right_of hq.1 hk (ih _ (by have := hq.2.1; omega) k1.1)⟩
     · obtain ⟨h, ks⟩ := q
       have ga := hq.1.a
       rw [allF, Bool.and_eq_true] at ga
       have hn2 : ks.length = 2 := okR.pair _ _ ga.1 hk
       have k0 := hq.1.kid (i := 0) (by omega)
       have := hq.2.1
       exact ⟨⟨k0.1, by show szF (ks.getD 0 t0) ≤ _; omega, .inr (by show szF (ks.getD 0 t0) ≤ _; omega)⟩, k0.2⟩
     · rcases hq.2.2 with h | h
       · exact absurd h hk
       · exact ih q h hq.1
   · rw [if_neg h6]
     have h7 : h.k = 7 := by omega
     have hn1 := okR.less _ _ ha.1 h7
     exact part_put h ks _ 7 h7 (by decide) (by decide) (less_put h ks _ (by omega) hT (hkid 0 (by omega)))
end Go.Proofs.YticmkabafmmlhaaGreatDoor.Ck

set_option linter.unusedVariables false
set_option linter.unusedSimpArgs false
set_option maxHeartbeats 4000000
namespace Go.Proofs.YticmkabafmmlhaaGreatDoor.Ck
open Go.RowKit
open Lib (hid)
set_option maxRecDepth 100000
theorem ptr65 : Tryz.prog.underlying 65 = some (.pointer 5) := by kernel_rfl
theorem cells5 : Tryz.prog.cellsOf 5 = 1 := by kernel_rfl
theorem str_any (B b : Nat) (l : List UInt8) (w : World) (h : Wr B b l w) (hBw : B ≤ w.heap.size) :
 Calls Tryz.prog 17 #[.pointer (some ⟨b, 0, none⟩)] w fun e w' => e = .returned (.string ⟨l.toArray⟩) ∧ Below B w w' := by
 obtain ⟨p, hB, v, hbk, hown, hne⟩ : ∃ p, WrP B b p l w := by
  rcases h with h | h
  · exact ⟨_, h⟩
  · exact ⟨_, h⟩
 clear h
 have hUN : ∀ (W : World) (q : Option Addr), (Builtin.unsafeString_ #[65, 3] 9 #[.pointer q, .int .i64 0]).run Tryz.prog W = .ok (.string .empty) W := fun W q => Lib.run_unsafeString_none W _ _ _ q
 have hlt : b < w.heap.size := (Array.getElem?_eq_some_iff.1 hbk).1
 rcases hown.2 with ⟨rfl, h0⟩ | ⟨g, cap, cur, rfl, hbg, hg, hnc, hcm, hcs, htake⟩
 · have hl : l = [] := List.length_eq_zero_iff.1 h0
   subst hl
   have c1 : w.drew.cell? ⟨b, 1, none⟩ = some (.slice none 0 0) := by
    have : w.drew.heap[b]? = some (.cells #[p, .slice none 0 0] 46 (0, 0)) := hbk
    rw [Lib.cell_of_heap this]; rfl
   have hSD : (Builtin.unsafeSliceData_ #[42] 65 #[.slice none 0 0]).run Tryz.prog w.drew = .ok (.pointer none) w.drew := rfl
   clear hown
   go_enter Tryz.func17, Tryz.ntmps17
   go_wp2
   go_region
   all_goals (go_wp2; go_ret; exact ⟨rfl, Below.drew (Below.refl B w)⟩)
 · by_cases hl0 : l.length = 0
   · have hl : l = [] := List.length_eq_zero_iff.1 hl0
     subst hl
     by_cases hc0 : cap = 0
     · subst hc0
       have c1 : w.drew.cell? ⟨b, 1, none⟩ = some (.slice (some ⟨g, 0, none⟩) 0 0) := by
        have : w.drew.heap[b]? = some (.cells #[p, .slice (some ⟨g, 0, none⟩) 0 0] 46 (0, 0)) := hbk
        rw [Lib.cell_of_heap this]; rfl
       have hSD : (Builtin.unsafeSliceData_ #[42] 65 #[.slice (some ⟨g, 0, none⟩) 0 0]).run Tryz.prog w.drew = .ok (.pointer (some ⟨w.drew.heap.size, 0, none⟩)) (w.drew.alloc (.view ⟨g, 0, none⟩ 5)) :=
        Lib.run_unsafeSliceData_zero w.drew _ _ 5 ptr65 ⟨g, 0, none⟩ 0 (5, cur.size) (by have hg' : w.drew.heap[g]? = some (.cells cur 5 (0, 0)) := hg; simp [World.shape?, hg'])
       have c2 : (w.drew.alloc (.view ⟨g, 0, none⟩ 5)).cell? ⟨b, 1, none⟩ = some (.slice (some ⟨g, 0, none⟩) 0 0) := by
        have : (w.drew.alloc (.view ⟨g, 0, none⟩ 5)).heap[b]? = _ := (Lib.alloc_old w.drew _ b hlt).trans hbk
        rw [Lib.cell_of_heap this]; rfl
       have c3 : (w.alloc (.view ⟨g, 0, none⟩ 5)).drew.cell? ⟨b, 1, none⟩ = some (.slice (some ⟨g, 0, none⟩) 0 0) := c2
       have c0 : w.cell? ⟨b, 1, none⟩ = some (.slice (some ⟨g, 0, none⟩) 0 0) := c1
       clear hown
       go_enter Tryz.func17, Tryz.ntmps17
       go_wp2
       go_region
       all_goals (go_wp2; go_ret; exact ⟨rfl, (Below.drew (Below.refl B w)).alloc hBw _⟩)
     · have c1 : w.drew.cell? ⟨b, 1, none⟩ = some (.slice (some ⟨g, 0, none⟩) 0 cap) := by
        have : w.drew.heap[b]? = some (.cells #[p, .slice (some ⟨g, 0, none⟩) 0 cap] 46 (0, 0)) := hbk
        rw [Lib.cell_of_heap this]; rfl
       have hSD : (Builtin.unsafeSliceData_ #[42] 65 #[.slice (some ⟨g, 0, none⟩) 0 cap]).run Tryz.prog w.drew = .ok (.pointer (some ⟨g, 0, none⟩)) w.drew :=
        Lib.run_unsafeSliceData_row _ _ _ _ _ _ hc0
       clear hc0 hown
       go_enter Tryz.func17, Tryz.ntmps17
       go_wp2
       go_region
       all_goals (go_wp2; go_ret; exact ⟨rfl, Below.drew (Below.refl B w)⟩)
   · have h0 : l ≠ [] := fun e => hl0 (by rw [e]; rfl)
     have c1 : w.drew.cell? ⟨b, 1, none⟩ = some (.slice (some ⟨g, 0, none⟩) l.length cap) := by
      have : w.drew.heap[b]? = some (.cells #[p, .slice (some ⟨g, 0, none⟩) l.length cap] 46 (0, 0)) := hbk
      rw [Lib.cell_of_heap this]; rfl
     have hSD : (Builtin.unsafeSliceData_ #[42] 65 #[.slice (some ⟨g, 0, none⟩) l.length cap]).run Tryz.prog w.drew = .ok (.pointer (some ⟨g, 0, none⟩)) w.drew :=
      Lib.run_unsafeSliceData_row _ _ _ _ _ _ (by omega)
     have hUS : (Builtin.unsafeString_ #[65, 3] 9 #[.pointer (some ⟨g, 0, none⟩), .int .i64 l.length]).run Tryz.prog w.drew = .ok (.string ⟨l.toArray⟩) (w.drew.freeze ⟨g, 0, none⟩ l.length) := by
      refine Lib.run_unsafeString_row w.drew 65 3 9 5 ptr65 cells5 g cur.size (by have hg' : w.drew.heap[g]? = some (.cells cur 5 (0, 0)) := hg; simp [World.shape?, hg']) l h0 (by omega) (by unfold maxLen at hcm; omega) ?_
      intro j x hx
      have := hown.cells (g := g) rfl j (.int .u8 x.toNat) (by simp [byteC, hx])
      exact this
     clear hUN hown htake hg hcs
     go_enter Tryz.func17, Tryz.ntmps17
     go_wp2
     go_region
     all_goals (go_wp2; go_ret; exact ⟨rfl, Lib.below_freeze (Below.drew (Below.refl B w)) (p := ⟨g, 0, none⟩) hbg _⟩)
theorem wr_new (w : World) : Wr w.heap.size w.heap.size [] (w.alloc (.cells #[.pointer none, .slice none 0 0] 46)) :=
 .inl ⟨Nat.le_refl _, .slice none 0 0, heap_alloc_new _ _, World.ownsRow_nil _ _ _ _, by simp [Value.ownBlock]⟩
theorem right_gd {w : World} {t : Tr} (hL : Lies w t) (hr : rightF okHd t = true) (hs : shortF t = true) : Gd w t := by
 unfold rightF at hr
 rw [Bool.and_eq_true] at hr
 exact ⟨hL, hr.2, hs⟩
theorem print_any (t : Tr) (w : World) (hT : Tabl w) (hE : Env w) (hL : Lies w t) (hr : rightF okHd t = true) (hs : shortF t = true) (s : ByteArray) (hps : (⟨(printF t).toArray⟩ : ByteArray) = s) :
 Calls Tryz.prog 7 #[valT t] w fun e w' => e = .returned (.tuple #[.string s, .nilIface]) ∧ Below w.heap.size w w' := by
 subst hps
 have hz := (short_size hs).2
 have hal : allF okHd t = true := by unfold rightF at hr; rw [Bool.and_eq_true] at hr; exact hr.2
 have hlen := print_len t hal hs
 have hB : ∀ o, Below w.heap.size w (w.alloc o) := fun o => (Below.refl _ _).alloc (Nat.le_refl _) _
 have HB := hid hB
 have HRI := hid (fun W (hW : Below w.heap.size w W) => right_any t W (hT.below hW) (hL.below hW) (by omega) hr)
 have HPA := hid (fun W (hW : Below w.heap.size w W) => by
  have hbW : Below W.heap.size W (W.alloc (.cells #[.pointer none, .slice none 0 0] 46)) := (Below.refl _ _).alloc (Nat.le_refl _) _
  have := put_tree (w0 := W) (b := W.heap.size) (hE.below hW) (szF t) t (Nat.le_refl _) (right_gd (hL.below hW) hr hs) [] _ (wr_new W) hbW (by rw [List.length_nil]; omega)
  rw [List.nil_append] at this
  exact this)
 unfold OutP at HPA
 obtain ⟨h, ks⟩ := t
 generalize printF (.mk h ks) = out at *
 have HK := hid (Blk.new w 27 (arr h ks.length))
 rw [valT_arr] at HRI HPA ⊢
 clear hz hal hlen hr hs hL hT hE hB
 unfold arr at *
 go_enter Tryz.func7, Tryz.ntmps7
 go_wp2_with fail
 refine (HRI.out _ (HB.out _)).mono ?_
 rintro e w1 ⟨rfl, hb1⟩
 have HB1 := hid ((HB.out _).trans (hb1.mono (HB.out _).size))
 have HK1 := hid (HK.out.below hb1)
 have HK2 := hid (HK1.out.alloc (.cells #[.pointer none, .slice none 0 0] 46))
 have hbn : Below w.heap.size w (w1.alloc (.cells #[.pointer none, .slice none 0 0] 46)) := HB1.out.alloc HB1.out.size _
 clear hb1 HK
 obtain ⟨c0, c1, c2, c3, c4, c5, c6, c7, c8, c9, c10, c11, c12⟩ := blk13 (h := h) (n := ks.length) HK2.out
 go_wp2_with fail
 refine (HPA.out _ HB1.out).mono ?_
 rintro e w2 ⟨rfl, hw2, hb2, hk2⟩
 have HW2 := hid hw2
 have HB2 : Hid (Below w.heap.size w w2) := hid (hbn.trans (hb2.mono HB1.out.size))
 have HS2 := hid (str_any w1.heap.size w1.heap.size out w2 hw2 (by have := hw2.lt; omega))
 clear hw2 hb2 hk2 c0 c1 c2 c3 c4 c5 c6 c7 c8 c9 c10 c11 c12 hbn HK2
 go_wp2_with fail
 refine (HS2.out).mono ?_
 rintro e w3 ⟨rfl, hb3⟩
 have HB3 := hid (HB2.out.trans (hb3.mono HB1.out.size))
 clear hb3
 go_wp2_with fail
 go_ret2
 exact ⟨rfl, HB3.out⟩
end Go.Proofs.YticmkabafmmlhaaGreatDoor.Ck

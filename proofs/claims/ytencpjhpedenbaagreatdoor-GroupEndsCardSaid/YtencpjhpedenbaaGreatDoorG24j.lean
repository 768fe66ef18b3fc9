/- Apply, where a name gives one number a group. Conditions: a vector as it came in, few elements, their labels short. -/
import Derived.Test.YtencpjhpedenbaaGreatDoorG22j
import Derived.Test.YtencpjhpedenbaaGreatDoorG12
import Derived.Test.YtencpjhpedenbaaGreatDoorG15
import Derived.Test.YtencpjhpedenbaaGreatDoorG6
import Derived.Deep.AppendLies
namespace Go.Proofs.YtencpjhpedenbaaGreatDoor
open Go.RowKit Lb
set_option linter.unusedVariables false
set_option linter.unusedSimpArgs false
set_option maxRecDepth 100000
set_option maxHeartbeats 1000000

theorem tobits (n : Nat) (w : World) : (callFunc 10 #[.float .f64 n]).run Tryz.prog w = .ok (.value (.int .u64 (n : Int))) w := by kernel_rfl
def NumC (F : Nat) (fv : List El → Nat) (P : List El → Prop) : Prop := ∀ (W : World) (LA EA : Option Addr) (nl lc ec n : Nat) (S : List El), P S → S.length = n → Els W EA S → 0 < n → n ≤ 60 → Calls Tryz.prog F #[.agg #[.slice LA nl lc, .slice EA n ec]] W fun e w' => e = .returned (.float .f64 (fv S)) ∧ Below W.heap.size W w'
def finN (fv : List El → Nat) (p : Pl) : El := (p.1, Vl.normI (fv p.2 : Nat))
def AppP (how : Int) (ns : List ByteArray) (S : List El) (fin : Pl → El) (w : World) (e : Ending) (w' : World) : Prop :=
  ∃ σ, PInv how ns S S.length σ ∧ ∃ S' A c, S'.Perm (σ.map fin) ∧ e = .returned (.tuple #[.slice A S'.length c, .nilIface]) ∧ Els w' A S' ∧ Below w.heap.size w w'
theorem norm_bits {v : Int} (h : Vl.Bits v) : Vl.Bits (Vl.normI v) := by
  unfold Vl.normI
  split
  · exact ⟨by decide, by decide⟩
  · exact h
theorem fin_small {how : Int} {ns : List ByteArray} {S : List El} {k : Nat} {σ : List Pl} {fv : List El → Nat} (h : PInv how ns S k σ) (hsh : ∀ i, i < S.length → ShortL (S.getD i z0).1) : ∀ i, i < (σ.map (finN fv)).length → ((σ.map (finN fv)).getD i z0).1.length ≤ 65536 := by
  intro i hi
  have hi' : i < σ.length := by simpa using hi
  rw [show (σ.map (finN fv)).getD i z0 = finN fv σ[i] by simp [hi']]
  obtain ⟨x, hx, e⟩ := h.labs σ[i] (List.getElem_mem hi')
  show σ[i].1.length ≤ _
  obtain ⟨j, hj, ej⟩ := List.getElem_of_mem hx
  have := (labF_short how ns (hsh j hj)).1
  rw [show S.getD j z0 = S[j] by simp [hj], ej, ← e] at this
  omega
theorem fin_nodup {how : Int} {ns : List ByteArray} {S : List El} {k : Nat} {σ : List Pl} {fv : List El → Nat} (h : PInv how ns S k σ) : ((σ.map (finN fv)).map (·.1)).Nodup := by
  rw [List.map_map]
  have e : ((fun x : El => x.1) ∘ finN fv) = fun p : Pl => p.1 := rfl
  rw [e]
  exact h.keys.imp (fun hk e => hk (by rw [e]))
theorem vec_q (A : Option Addr) (cap n : Nat) (S : List El) (hn : S.length = n) (w : World) (hE : Els w A S) (hT : Tabs w) (hl : n ≤ 60) (hm : ∀ i, i < S.length → (S.getD i z0).1.length ≤ 40) (hv : vecB S = true) :
    Calls Tryz.prog 26 #[.slice A n cap] w fun e w' => e = .returned (.bool true) ∧ Below w.heap.size w w' := by
  subst hn; exact vec_any A cap S w hE hT hl hm hv
theorem piles_q (how : Int) (A NA : Option Addr) (cap nc n m : Nat) (S : List El) (ns : List ByteArray) (hn : S.length = n) (hm : ns.length = m) (w : World) (hE : Els w A S) (hN : Sts w NA ns) (hl : n ≤ 60) (hns : m ≤ 65536) (hsh : ∀ i, i < S.length → ShortL (S.getD i z0).1) (hP : PT w) (h4 : 4 ≤ w.heap.size) :
    Calls Tryz.prog 27 #[.int .i64 how, .slice NA m nc, .slice A n cap] w (PilesP how ns S w) := by
  subst hn; subst hm; exact piles_any how A NA cap nc S ns w hE hN hl hns hsh hP h4
theorem apply_num (nm : ByteArray) (F : Nat) (fv : List El → Nat) (P : List El → Prop) (how : Int) (A NA : Option Addr) (cap nc : Nat) (kk : Int) (S : List El) (ns : List ByteArray) (w : World)
    (hnm : nm.size ≤ 1000000) (h1 : ∃ p ∈ numL, p.1 = nm) (h2 : ∀ p ∈ numL, p.1 = nm → p.2 = .func (.func F) #[] #[]) (h3 : ∀ p ∈ bestL, p.1 ≠ nm) (hF : NumC F fv P) (hPP : ∀ σ, PInv how ns S S.length σ → ∀ p ∈ σ, P p.2) (hcf : ∀ args w, (callFunc F args).run Tryz.prog w = .ok (.enter F args) w) (hfv : ∀ l, fv l < 18446744073709551616)
    (hE : Els w A S) (hN : Sts w NA ns) (hl : S.length ≤ 60) (hns : ns.length ≤ 65536) (hsh : ∀ i, i < S.length → ShortL (S.getD i z0).1) (hv : vecB S = true) (hT : Tabs w) (hP : PT w) (h4 : 4 ≤ w.heap.size) (hh0 : 0 ≤ how) (hh2 : how ≤ 2) :
    Calls Tryz.prog 8 #[.string nm, .int .i64 how, .slice NA ns.length nc, .int .u64 kk, .slice A S.length cap] w (AppP how ns S (finN fv) w) := by
  obtain ⟨i1, hi1, hy0, hy1, hy2⟩ := info_parts elem_info
  have hmm := @run_makeMap Tryz.prog
  have htb := tobits
  have HE := Lib.hid hE
  have HNS := Lib.hid hN
  have HSH := Lib.hid hsh
  have HTT := Lib.hid hT
  have HP := Lib.hid hP
  have HV := Lib.hid hv
  have HF := Lib.hid hF
  have HPP := Lib.hid hPP
  have HFV := Lib.hid hfv
  have HC3 := Lib.hid h3
  have HC2 := Lib.hid h2
  have HC1 := Lib.hid h1
  unfold AppP
  obtain ⟨v1, v2, v3, v4, v5, hp, hmv, hbv, hsv⟩ := nums_put w
  obtain ⟨u1, u2, hq, hmu, hbu, hsu⟩ := bests_put v5
  obtain ⟨r1, r2, r3, r4, r5⟩ := hp
  obtain ⟨s1, s2⟩ := hq
  have HB2 := Lib.hid (hbv.trans (hbu.mono hbv.size))
  have HMN := Lib.hid (hmv.below hbu)
  have HMB := Lib.hid hmu
  clear hE hN hsh hT hP hv hF hPP hfv h1 h2 h3 hmv hbv hbu hsv hmu
  have d0 : decide (how < 0) = false := by simpa using hh0
  have d2 : decide (2 < how) = false := by simpa using hh2
  rcases num_look HMN.out nm hnm with ⟨p, hp1, hp2, hlk⟩ | ⟨hno, _⟩
  case inr => obtain ⟨p, hp, he⟩ := HC1.out; exact absurd he (hno p hp)
  rcases best_look HMB.out nm hnm with ⟨p', hq1, hq2, _⟩ | ⟨_, hlb⟩
  case inl => exact absurd hq2 (HC3.out p' hq1)
  rw [HC2.out p hp1 hp2] at hlk
  clear hp1 hp2
  generalize hn : S.length = n at *
  have HN := Lib.hid hn
  clear hn
  generalize hm : ns.length = m at *
  have HM := Lib.hid hm
  clear hm
  have HQ26 := Lib.hid (vec_q A cap n S HN.out u2 (HE.out.below HB2.out) (HTT.out.below (by omega) HB2.out) hl (fun i hi => (HSH.out i (by rw [← HN.out]; exact hi)).1) HV.out)
  go_enter Tryz.func8, Tryz.ntmps8
  go_wp2_with fail
  refine (HQ26.out).mono ?_
  rintro e w3 ⟨rfl, hb3⟩
  have HB3 := Lib.hid (HB2.out.trans (hb3.mono HB2.out.size))
  clear hb3
  have hsz3 := HB3.out.size
  have HQ27 := Lib.hid (piles_q how A NA cap nc n m S ns HN.out HM.out w3 (HE.out.below HB3.out) (HNS.out.below HB3.out) hl hns (fun i hi => HSH.out i (by rw [← HN.out]; exact hi)) (HP.out.below h4 HB3.out) (by omega))
  unfold PilesP at HQ27
  clear HQ26 r1 r2 r3 r4 r5 s1 s2 hlk hlb
  go_wp2_with fail
  refine (HQ27.out).mono ?_
  rintro e w4 ⟨σ, XA, xc, rfl, hi4, hp4, hb4⟩
  have HI := Lib.hid hi4
  have HPL := Lib.hid hp4
  have HB4 := Lib.hid (HB3.out.trans (hb4.mono HB3.out.size))
  have hfew := hi4.few
  have HFU := Lib.hid hi4.full
  have HPQ : Hid (∀ p ∈ σ, P p.2) := HPP.out σ (by have := hi4; rw [HN.out] at this; exact this)
  have HSZ := Lib.hid (fun i (hi : i < σ.length) => by have := size_at σ i hi; rw [hi4.size] at this; exact this : ∀ i, i < σ.length → (σ.getD i q0).2.length ≤ S.length)
  clear hi4 hp4 hb4
  obtain ⟨sl, hsl⟩ : ∃ sl, σ.length = sl := ⟨_, rfl⟩
  rw [hsl, HN.out] at hfew
  have HSL := Lib.hid hsl
  rw [hsl]
  clear hsl
  go_wp2
  go_loopw [18, 20, 60] (fun s18 s20 s60 wr => ∃ (k : Nat) (r : List VV), k ≤ sl ∧ s60 = .int .i64 k ∧ Hid (wr.ownsRow w4.heap.size 36 2 s18 k (flatV r)) ∧ Hid (k = 0 → s18 = .slice none 0 0) ∧ Hid (ElVs w4 r ((σ.take k).map (finN fv))) ∧ Hid (Below w4.heap.size w4 wr)) (fun _ _ s60 _ => sl - (intOf s60).toNat)
  case atStart =>
    refine ⟨0, [], Nat.zero_le _, rfl, World.ownsRow_nil _ _ _ _, ?_, ?_, Below.refl _ _⟩
    · first | exact fun _ => rfl | exact trivial
    · exact ⟨by simp, fun i hi => absurd hi (by simp)⟩
  case round =>
    obtain ⟨k, r, hk, rfl, HO, HN0, HR, HB⟩ := hrel
    by_cases hlt : k < sl
    · have hkl : k < σ.length := by rw [HSL.out]; exact hlt
      obtain ⟨b, off, LA, lc, EA, ec, rfl, hb, c1, c2, hL, hlc, hEl⟩ := HPL.out.at_ hkl
      have c1 := (HB.out.cell (p := ⟨b, off + k * 2, none⟩) hb).trans c1
      have c2 := (HB.out.cell (p := ⟨b, off + k * 2 + 1, none⟩) hb).trans c2
      have hfull := HFU.out (σ.getD k q0) (by rw [show σ.getD k q0 = σ[k] by simp [hkl]]; exact List.getElem_mem hkl)
      have hpp := HPQ.out (σ.getD k q0) (by rw [show σ.getD k q0 = σ[k] by simp [hkl]]; exact List.getElem_mem hkl)
      have hsm := HSZ.out k hkl
      rw [HN.out] at hsm
      have HTK : Hid ((σ.take (k + 1)).map (finN fv) = (σ.take k).map (finN fv) ++ [finN fv (σ.getD k q0)]) := by
        show _ = _
        rw [List.take_succ_eq_append_getElem hkl, List.map_append]
        simp [hkl]
      generalize σ.getD k q0 = p at *
      obtain ⟨pl, pe⟩ := p
      simp only at c1 c2 hfull hsm hL hEl hpp
      obtain ⟨ln, hln⟩ : ∃ ln, pl.length = ln := ⟨_, rfl⟩
      obtain ⟨en, hen⟩ : ∃ en, pe.length = en := ⟨_, rfl⟩
      rw [hln] at c1
      rw [hen] at c2 hfull hsm
      have HLN := Lib.hid hln
      have HEN := Lib.hid hen
      have HL := Lib.hid hL
      have HEL := Lib.hid hEl
      have HLC := Lib.hid hlc
      obtain ⟨z, hz⟩ : ∃ z, fv pe = z := ⟨_, rfl⟩
      have HZ := Lib.hid hz
      have hzl : z < 18446744073709551616 := by rw [← hz]; exact HFV.out pe
      have HCF := Lib.hid (fun W (hW : Below w4.heap.size w4 W) => HF.out W LA EA ln lc ec en pe hpp hen (hEl.below hW) hfull (by omega))
      rw [hz] at HCF
      have d : decide (k < sl) = true := by simpa using hlt
      clear hL hEl hlc hln hen hz hpp
      go_upto_region 15 with fail
      have HX1 := Lib.hid (Blk.new wr 50 #[.slice LA ln lc, .slice EA en ec])
      have HX2 : Hid (Below wr.heap.size wr (wr.alloc (.cells #[.slice LA ln lc, .slice EA en ec] 50))) := (Below.refl _ _).alloc (Nat.le_refl _) _
      have hx3 : wr.heap.size < (wr.alloc (.cells #[.slice LA ln lc, .slice EA en ec] 50)).heap.size := by simp
      generalize wr.alloc (.cells #[.slice LA ln lc, .slice EA en ec] 50) = w1 at *
      have HO1 := Lib.hid (own_below HO.out HX2.out)
      have HB1 := Lib.hid (HB.out.trans (HX2.out.mono HB.out.size))
      clear c1 c2
      have x0 := HX1.out.cell 0
      have x1 := HX1.out.cell 1
      simp only [List.getElem?_toArray, List.getElem?_cons_zero, List.getElem?_cons_succ] at x0 x1
      go_upto_region 16 with fail
      refine wp_region_noPanic ?_
      have HBD : Hid (Below w4.heap.size w4 w1.drew) := HB1.out.drew
      have HNQ := Lib.hid (fun W => Vl.norm_any (z : Int) ⟨Int.natCast_nonneg z, by omega⟩ W)
      have HBB := Lib.hid hx3
      have b3 : k + 1 ≤ maxLen := by unfold maxLen; omega
      have b4 : (k + 1) * 32 ≤ 140737488355328 := by omega
      go_region_law
        (first
          | (rw [if_pos (by rfl)]; go_simp; refine (HCF.out _ HBD.out).mono ?_; rintro e w5 ⟨rfl, hb5⟩; dsimp only
             have x0' : w5.cell? ⟨wr.heap.size, 0, none⟩ = some (.slice LA ln lc) := (hb5.cell (p := ⟨wr.heap.size, 0, none⟩) hx3).trans x0
             have HO5 := Lib.hid (own_below (HO1.out.drew) hb5)
             have HB5 := Lib.hid (HBD.out.trans (hb5.mono HBD.out.size))
             clear hb5)
          | (rw [if_pos (by rfl)]; go_simp; refine (HNQ.out _).mono ?_; rintro e w6 ⟨rfl, rfl⟩; dsimp only)
          | (refine step_append_lies _ (by rfl) (.tmp 65) (.tmp 74) 23 (by rfl) w4.heap.size 36 i1 _ 2 32 Tryz.underlying23 hi1 hy0 hy1 hy2 rfl (by decide) u18 k (flatV r) (by rfl) (HO5.out.alloc _) ⟨w5.heap.size, 0, none⟩ 1 1 [.slice LA ln lc, .int .u64 (Vl.normI (z : Int))] (by rfl) (by rfl) (two_new w5 _ _ _ rfl _) (by intro u hu; simp at hu; rcases hu with rfl | rfl <;> rfl) (by decide) b3 b4 (by have := HB5.out.size; simp; omega) _ rfl ?_
             intro g cp w8 hown8 hg8 hor8 hlt8
             have HB8 := Lib.hid ((HB5.out.alloc HB5.out.size (.cells #[.slice LA ln lc, .int .u64 (Vl.normI (z : Int))] 36)).grown hg8 (by have := HB5.out.size; simp; omega) (fun g hg => (HO5.out.lt g hg).1))
             have HO8 := Lib.hid hown8
             clear hown8 hg8 hor8 hlt8))
      all_goals
        refine NoPanic.normal ?_
        clear x0 x1 x0'
        have HR8 : Hid (ElVs w4 (r ++ [(.slice LA ln lc, .int .u64 (Vl.normI (z : Int)))]) ((σ.take (k + 1)).map (finN fv))) := by
          rw [HTK.out]
          refine ElVs.append HR.out (ElVs.single ⟨LA, lc, ?_, HL.out, HLC.out, ?_⟩)
          · rw [← HLN.out]; show _ = (_, Value.int .u64 (Vl.normI (fv pe : Nat))); rw [HZ.out]; rfl
          · show Vl.Bits (Vl.normI (fv pe : Nat)); rw [HZ.out]; exact norm_bits ⟨Int.natCast_nonneg z, by omega⟩
        have HO9 : Hid (w8.ownsRow w4.heap.size 36 2 (.slice (some ⟨g, 0, none⟩) (k + 1) cp) (k + 1) (flatV (r ++ [(.slice LA ln lc, .int .u64 (Vl.normI (z : Int)))]))) := by
          rw [flatV_append]; exact HO8.out
        clear HO8
        go_wp2_with fail
        go_roundw
        case rel => exact ⟨k + 1, _, by omega, by go_num, HO9, by first | exact fun h => by omega | exact trivial, HR8, HB8⟩
        case measure => simp [intOf]; omega
    · have d : decide (k < sl) = false := by simpa using hlt
      obtain rfl : sl = k := by omega
      have hrl : r.length = sl := by rw [HR.out.1, List.length_map, List.length_take, HSL.out]; omega
      obtain ⟨A8, c8, rfl, hraw, han, _, _⟩ := Raw.of_own hrl HO.out
      have hst : σ.take sl = σ := by rw [← HSL.out]; exact List.take_length
      have hR := HR.out
      rw [hst] at hR
      have HMK := Lib.hid (make_any A8 c8 sl r (σ.map (finN fv)) wr hraw (hR.below HB.out) (by rw [List.length_map]; exact HSL.out)
        (fun h => by
          refine ⟨?_, han h⟩
          rcases Nat.eq_zero_or_pos sl with h0 | h0
          · exact h0
          · obtain ⟨b, off, e, _⟩ := hraw (by omega)
            rw [h] at e; cases e)
        (fun h => by
          have e := HN0.out h
          injection e) (by omega) (fin_small HI.out (fun i hi => HSH.out i (by rw [← HN.out]; exact hi))) (fin_nodup HI.out))
      unfold MakeP at HMK
      have hst : 0 < 1 := by omega
      clear hraw han hR hst
      go_wp2_with fail
      refine (HMK.out).mono ?_
      rintro e w9 ⟨S', A9, c9, hp9, rfl, he9, hb9⟩
      have H9 := Lib.hid hp9
      have H10 := Lib.hid he9
      have H11 := Lib.hid (HB4.out.trans ((HB.out.trans (hb9.mono HB.out.size)).mono HB4.out.size))
      clear hp9 he9 hb9
      go_wp2
      go_ret2
      exact ⟨σ, by have := HI.out; rw [HN.out] at this; exact this, S', A9, c9, H9.out, by rw [H9.out.length_eq, List.length_map]; rfl, H10.out, H11.out⟩
end Go.Proofs.YtencpjhpedenbaaGreatDoor

namespace Go.Proofs.YtencpjhpedenbaaGreatDoor
open Go.RowKit Lb
set_option linter.unusedVariables false
set_option linter.unusedSimpArgs false
set_option maxRecDepth 100000
set_option maxHeartbeats 1000000

def BestC (F : Nat) (bx : List El → El) : Prop := ∀ (W : World) (LA EA : Option Addr) (nl lc ec n : Nat) (S : List El), S.length = n → Els W EA S → 0 < n → n ≤ 60 → (∀ i, i < S.length → (S.getD i z0).1.length ≤ 40) → Calls Tryz.prog F #[.agg #[.slice LA nl lc, .slice EA n ec], .int .u64 4607182418800017408] W (BestP (bx S) W)
def finB (bx : List El → El) (p : Pl) : El := bx p.2
theorem one_pile {ns : List ByteArray} {S : List El} {σ : List Pl} (h : PInv 0 ns S S.length σ) : σ = if S.length = 0 then [] else [([], S)] := by
  have := h.one (by decide) (by decide)
  rw [List.take_length] at this
  exact this
theorem getD_mem {l : List El} {i : Nat} (h : i < l.length) : l.getD i z0 ∈ l := by
  rw [show l.getD i z0 = l[i] by simp [h]]; exact List.getElem_mem h
theorem mem_small {S : List El} (hsh : ∀ i, i < S.length → ShortL (S.getD i z0).1) {x : El} (hx : x ∈ S) : x.1.length ≤ 40 := by
  obtain ⟨j, hj, ej⟩ := List.getElem_of_mem hx
  have := (hsh j hj).1
  rw [show S.getD j z0 = S[j] by simp [hj], ej] at this
  exact this
theorem finb_small {how : Int} {ns : List ByteArray} {S : List El} {k : Nat} {σ : List Pl} {bx : List El → El} (h : PInv how ns S k σ) (hbx : ∀ l, 0 < l.length → bx l ∈ l) (hsh : ∀ i, i < S.length → ShortL (S.getD i z0).1) : ∀ i, i < (σ.map (finB bx)).length → ((σ.map (finB bx)).getD i z0).1.length ≤ 65536 := by
  intro i hi
  have hi' : i < σ.length := by simpa using hi
  rw [show (σ.map (finB bx)).getD i z0 = finB bx σ[i] by simp [hi']]
  have := mem_small hsh (h.elems σ[i] (List.getElem_mem hi') _ (hbx _ (h.full σ[i] (List.getElem_mem hi'))))
  show (bx σ[i].2).1.length ≤ _
  omega
theorem finb_nodup {σ : List Pl} {bx : List El → El} (h : σ.length ≤ 1) : ((σ.map (finB bx)).map (·.1)).Nodup := by
  match σ, h with
  | [], _ => exact List.nodup_nil
  | [p], _ => exact List.pairwise_singleton _ _
theorem apply_best (nm : ByteArray) (F : Nat) (bx : List El → El) (A NA : Option Addr) (cap nc : Nat) (S : List El) (ns : List ByteArray) (w : World)
    (hnm : nm.size ≤ 1000000) (h1 : ∃ p ∈ bestL, p.1 = nm) (h2 : ∀ p ∈ bestL, p.1 = nm → p.2 = .func (.func F) #[] #[]) (h3 : ∀ p ∈ numL, p.1 ≠ nm) (hF : BestC F bx) (hcf : ∀ args w, (callFunc F args).run Tryz.prog w = .ok (.enter F args) w) (hfv : ∀ l, 0 < l.length → bx l ∈ l)
    (hE : Els w A S) (hN : Sts w NA ns) (hl : S.length ≤ 60) (hns : ns.length ≤ 65536) (hsh : ∀ i, i < S.length → ShortL (S.getD i z0).1) (hv : vecB S = true) (hT : Tabs w) (hP : PT w) (h4 : 4 ≤ w.heap.size) :
    Calls Tryz.prog 8 #[.string nm, .int .i64 0, .slice NA ns.length nc, .int .u64 4607182418800017408, .slice A S.length cap] w (AppP 0 ns S (finB bx) w) := by
  obtain ⟨i1, hi1, hy0, hy1, hy2⟩ := info_parts elem_info
  have hmm := @run_makeMap Tryz.prog
  have HE := Lib.hid hE
  have HNS := Lib.hid hN
  have HSH := Lib.hid hsh
  have HTT := Lib.hid hT
  have HP := Lib.hid hP
  have HV := Lib.hid hv
  have HF := Lib.hid hF
  have HFV := Lib.hid hfv
  have HC3 := Lib.hid h3
  have HC2 := Lib.hid h2
  have HC1 := Lib.hid h1
  unfold AppP
  obtain ⟨v1, v2, v3, v4, v5, hp, hmv, hbv, hsv⟩ := nums_put w
  obtain ⟨u1, u2, hq, hmu, hbu, hsu⟩ := bests_put v5
  obtain ⟨r1, r2, r3, r4, r5⟩ := hp
  obtain ⟨s1, s2⟩ := hq
  have HB2 := Lib.hid (hbv.trans (hbu.mono hbv.size))
  have HMN := Lib.hid (hmv.below hbu)
  have HMB := Lib.hid hmu
  clear hE hN hsh hT hP hv hF hfv h1 h2 h3 hmv hbv hbu hsv hmu
  rcases best_look HMB.out nm hnm with ⟨p, hp1, hp2, hlk⟩ | ⟨hno, _⟩
  case inr => obtain ⟨p, hp, he⟩ := HC1.out; exact absurd he (hno p hp)
  rcases num_look HMN.out nm hnm with ⟨p', hq1, hq2, _⟩ | ⟨_, hlb⟩
  case inl => exact absurd hq2 (HC3.out p' hq1)
  rw [HC2.out p hp1 hp2] at hlk
  clear hp1 hp2
  generalize hn : S.length = n at *
  have HN := Lib.hid hn
  clear hn
  generalize hm : ns.length = m at *
  have HM := Lib.hid hm
  clear hm
  have HQ26 := Lib.hid (vec_q A cap n S HN.out u2 (HE.out.below HB2.out) (HTT.out.below (by omega) HB2.out) hl (fun i hi => (HSH.out i (by rw [← HN.out]; exact hi)).1) HV.out)
  go_enter Tryz.func8, Tryz.ntmps8
  go_wp2_with fail
  refine (HQ26.out).mono ?_
  rintro e w3 ⟨rfl, hb3⟩
  have HB3 := Lib.hid (HB2.out.trans (hb3.mono HB2.out.size))
  clear hb3
  have hsz3 := HB3.out.size
  have HQ27 := Lib.hid (piles_q 0 A NA cap nc n m S ns HN.out HM.out w3 (HE.out.below HB3.out) (HNS.out.below HB3.out) hl hns (fun i hi => HSH.out i (by rw [← HN.out]; exact hi)) (HP.out.below h4 HB3.out) (by omega))
  unfold PilesP at HQ27
  clear HQ26 r1 r2 r3 r4 r5 s1 s2 hlk hlb
  go_wp2_with fail
  refine (HQ27.out).mono ?_
  rintro e w4 ⟨σ, XA, xc, rfl, hi4, hp4, hb4⟩
  have HI := Lib.hid hi4
  have HPL := Lib.hid hp4
  have HB4 := Lib.hid (HB3.out.trans (hb4.mono HB3.out.size))
  have hfew := hi4.few
  have HFU := Lib.hid hi4.full
  have HSZ := Lib.hid (fun i (hi : i < σ.length) => by have := size_at σ i hi; rw [hi4.size] at this; exact this : ∀ i, i < σ.length → (σ.getD i q0).2.length ≤ S.length)
  have hi4' := hi4
  clear hi4 hp4 hb4
  have hsl1 : σ.length ≤ 1 := by
    rw [one_pile hi4']; split <;> simp
  clear hi4'
  obtain ⟨sl, hsl⟩ : ∃ sl, σ.length = sl := ⟨_, rfl⟩
  rw [hsl, HN.out] at hfew
  rw [hsl] at hsl1
  have HSL := Lib.hid hsl
  rw [hsl]
  clear hsl
  go_wp2
  go_loopw [18, 20, 60] (fun s18 s20 s60 wr => ∃ (k : Nat) (r : List VV), k ≤ sl ∧ s60 = .int .i64 k ∧ Hid (wr.ownsRow w4.heap.size 36 2 s18 k (flatV r)) ∧ Hid (k = 0 → s18 = .slice none 0 0) ∧ Hid (ElVs wr r ((σ.take k).map (finB bx))) ∧ Hid (Below w4.heap.size w4 wr)) (fun _ _ s60 _ => sl - (intOf s60).toNat)
  case atStart =>
    refine ⟨0, [], Nat.zero_le _, rfl, World.ownsRow_nil _ _ _ _, ?_, ?_, Below.refl _ _⟩
    · first | exact fun _ => rfl | exact trivial
    · exact ⟨by simp, fun i hi => absurd hi (by simp)⟩
  case round =>
    obtain ⟨k, r, hk, rfl, HO, HN0, HR, HB⟩ := hrel
    by_cases hlt : k < sl
    · have hkl : k < σ.length := by rw [HSL.out]; exact hlt
      obtain ⟨b, off, LA, lc, EA, ec, rfl, hb, c1, c2, hL, hlc, hEl⟩ := HPL.out.at_ hkl
      have c1 := (HB.out.cell (p := ⟨b, off + k * 2, none⟩) hb).trans c1
      have c2 := (HB.out.cell (p := ⟨b, off + k * 2 + 1, none⟩) hb).trans c2
      have hpm : σ.getD k q0 ∈ σ := by rw [show σ.getD k q0 = σ[k] by simp [hkl]]; exact List.getElem_mem hkl
      have hfull := HFU.out (σ.getD k q0) hpm
      have hlab : ∀ i, i < (σ.getD k q0).2.length → ((σ.getD k q0).2.getD i z0).1.length ≤ 40 := fun i hi => mem_small (fun i hi => HSH.out i (by rw [← HN.out]; exact hi)) (HI.out.elems _ hpm _ (getD_mem hi))
      have hsm := HSZ.out k hkl
      rw [HN.out] at hsm
      have HTK : Hid ((σ.take (k + 1)).map (finB bx) = (σ.take k).map (finB bx) ++ [finB bx (σ.getD k q0)]) := by
        show _ = _
        rw [List.take_succ_eq_append_getElem hkl, List.map_append]
        simp [hkl]
      clear hpm
      generalize σ.getD k q0 = p at *
      obtain ⟨pl, pe⟩ := p
      simp only at c1 c2 hfull hsm hL hEl hlab
      obtain ⟨ln, hln⟩ : ∃ ln, pl.length = ln := ⟨_, rfl⟩
      obtain ⟨en, hen⟩ : ∃ en, pe.length = en := ⟨_, rfl⟩
      rw [hln] at c1
      rw [hen] at c2 hfull hsm
      have HCF := Lib.hid (fun W (hW : Below w4.heap.size w4 W) => HF.out W LA EA ln lc ec en pe hen (hEl.below hW) hfull (by omega) hlab)
      unfold BestP at HCF
      have d : decide (k < sl) = true := by simpa using hlt
      obtain rfl : k = 0 := by omega
      obtain rfl : u18 = .slice none 0 0 := HN0.out rfl
      simp only [Nat.zero_mul, Nat.add_zero] at c1 c2
      clear hL hEl hlc hln hen hlab
      go_upto_region 15 with fail
      have HX1 := Lib.hid (Blk.new wr 50 #[.slice LA ln lc, .slice EA en ec])
      have HX2 : Hid (Below wr.heap.size wr (wr.alloc (.cells #[.slice LA ln lc, .slice EA en ec] 50))) := (Below.refl _ _).alloc (Nat.le_refl _) _
      generalize wr.alloc (.cells #[.slice LA ln lc, .slice EA en ec] 50) = w1 at *
      have HB1 := Lib.hid (HB.out.trans (HX2.out.mono HB.out.size))
      clear c1 c2
      have x0 := HX1.out.cell 0
      have x1 := HX1.out.cell 1
      simp only [List.getElem?_toArray, List.getElem?_cons_zero, List.getElem?_cons_succ] at x0 x1
      go_wp2_with fail
      refine (HCF.out _ HB1.out).mono ?_
      rintro e w5 ⟨A5, c5, rfl, hx5, hb5, ha5⟩
      have HB5 := Lib.hid (HB1.out.trans (hb5.mono HB1.out.size))
      obtain ⟨b5, o5, rfl, _⟩ := hx5.addr (by simp)
      obtain ⟨r5, hraw5, hel5⟩ := hx5
      have HW5 := Lib.hid hraw5
      have HE5 := Lib.hid hel5
      clear hb5 ha5 x0 x1 hraw5 hel5
      go_wp2_with (at_builtin; refine wpList_append_lies _ rfl _ _ 23 rfl w4.heap.size 36 i1 _ 2 32 Tryz.underlying23 hi1 hy0 hy1 hy2 rfl (by decide) _ 0 [] rfl (World.ownsRow_nil _ _ _ _) _ 1 c5 (flatV r5) rfl ?c0 ?c1 ?c2 (by decide) ?c3 ?c4 ?c5 _ rfl ?_)
      case c0 => rw [flatV_length, HE5.out.1]; rfl
      case c1 => exact HW5.out.cells
      case c2 => exact flatV_one HE5.out.one
      case c3 => unfold maxLen; omega
      case c4 => omega
      case c5 => exact HB5.out.size
      intro g cp w8 hown8 hg8 hor8 hlt8
      have hb58 : Below w5.heap.size w5 w8 := (Below.refl _ _).grown hg8 (Nat.le_refl _) (fun g hg => by cases hg)
      have HR8 : Hid (ElVs w8 r5 ((σ.take (0 + 1)).map (finB bx))) := by
        rw [HTK.out]; exact HE5.out.below hb58
      have HB8 := Lib.hid (HB5.out.trans (hb58.mono HB5.out.size))
      have HO9 : Hid (w8.ownsRow w4.heap.size 36 2 (.slice (some ⟨g, 0, none⟩) (0 + 1) cp) (0 + 1) (flatV r5)) := hown8
      clear hown8 hg8 hor8 hlt8 hb58
      go_wp2_with fail
      go_roundw
      case rel => exact ⟨1, r5, by omega, by go_num, HO9, by first | exact fun h => by omega | exact trivial, HR8, HB8⟩
      case measure => simp [intOf]; omega
    · have d : decide (k < sl) = false := by simpa using hlt
      obtain rfl : sl = k := by omega
      have hrl : r.length = sl := by rw [HR.out.1, List.length_map, List.length_take, HSL.out]; omega
      obtain ⟨A8, c8, rfl, hraw, han, _, _⟩ := Raw.of_own hrl HO.out
      have hst : σ.take sl = σ := by rw [← HSL.out]; exact List.take_length
      have hR := HR.out
      rw [hst] at hR
      have HMK := Lib.hid (make_any A8 c8 sl r (σ.map (finB bx)) wr hraw hR (by rw [List.length_map]; exact HSL.out)
        (fun h => by
          refine ⟨?_, han h⟩
          rcases Nat.eq_zero_or_pos sl with h0 | h0
          · exact h0
          · obtain ⟨b, off, e, _⟩ := hraw (by omega)
            rw [h] at e; cases e)
        (fun h => by
          have e := HN0.out h
          injection e) (by omega) (finb_small HI.out HFV.out (fun i hi => HSH.out i (by rw [← HN.out]; exact hi))) (finb_nodup (by rw [HSL.out]; exact hsl1)))
      unfold MakeP at HMK
      have hst : 0 < 1 := by omega
      clear hraw han hR hst
      go_wp2_with fail
      refine (HMK.out).mono ?_
      rintro e w9 ⟨S', A9, c9, hp9, rfl, he9, hb9⟩
      have H9 := Lib.hid hp9
      have H10 := Lib.hid he9
      have H11 := Lib.hid (HB4.out.trans ((HB.out.trans (hb9.mono HB.out.size)).mono HB4.out.size))
      clear hp9 he9 hb9
      go_wp2
      go_ret2
      exact ⟨σ, by have := HI.out; rw [HN.out] at this; exact this, S', A9, c9, H9.out, by rw [H9.out.length_eq, List.length_map]; rfl, H10.out, H11.out⟩
end Go.Proofs.YtencpjhpedenbaaGreatDoor

/- best of one: top and bottom of a group. Conditions: one element at least, at most 60; one asked for. -/
import Derived.Test.YtencpjhpedenbaaGreatDoorG19
import Derived.Deep.RegionLawGrows
namespace Go.Proofs.YtencpjhpedenbaaGreatDoor
open Go.RowKit Lb
set_option linter.unusedVariables false
set_option linter.unusedSimpArgs false
set_option maxRecDepth 100000
set_option maxHeartbeats 4000000

def valI (S : List El) (k : Nat) : Int := (S.getD k z0).2
/-- the best of the first and k more -/
def bestAt (B : Int → Int → Bool) (S : List El) : Nat → Pc
  | 0 => (valI S 0, 0)
  | k + 1 => if lessF B (valI S (k + 1), k + 1) (bestAt B S k) = true then bestAt B S k else (valI S (k + 1), k + 1)
theorem best_in (B : Int → Int → Bool) (S : List El) : ∀ k, (bestAt B S k).2 ≤ k ∧ (bestAt B S k).1 = valI S (bestAt B S k).2
  | 0 => ⟨Nat.le_refl _, rfl⟩
  | k + 1 => by
    have := best_in B S k
    rw [bestAt]
    split
    · exact ⟨by omega, this.2⟩
    · exact ⟨Nat.le_refl _, rfl⟩
def RkAt (BA : Nat → Pc) (w : World) (K fn : Nat) : Nat → Prop
  | 0 => Rk w K fn []
  | k + 1 => Rk w K fn [BA k]
theorem RkAt.below {BA : Nat → Pc} {w w' : World} {K fn : Nat} : ∀ {k : Nat}, RkAt BA w K fn k → Below w.heap.size w w' → RkAt BA w' K fn k
  | 0, h, hb => Rk.below h hb
  | k + 1, h, hb => Rk.below h hb
theorem RkAt.lt {BA : Nat → Pc} {w : World} {K fn : Nat} : ∀ {k : Nat}, RkAt BA w K fn k → K < w.heap.size
  | 0, h => Rk.lt h
  | k + 1, h => Rk.lt h
def BestP (x : El) (w : World) (e : Ending) (w' : World) : Prop := ∃ A c, e = .returned (.slice A 1 c) ∧ Els w' A [x] ∧ Below w.heap.size w w' ∧ (A = none → c = 0)

theorem best_38 (LA EA : Option Addr) (nl lc ec : Nat) (S : List El) (w : World) (hE : Els w EA S) (h0 : 0 < S.length) (hl : S.length ≤ 60) (hll : ∀ i, i < S.length → (S.getD i z0).1.length ≤ 40) :
    Calls Tryz.prog 37 #[.agg #[.slice LA nl lc, .slice EA S.length ec], .int .u64 4607182418800017408, .func (.func 38) #[] #[]] w (BestP (S.getD (bestAt gtI S (S.length - 1)).2 z0) w) := by
  obtain ⟨i1, hi1, hy0, hy1, hy2⟩ := info_parts elem_info
  have HE := Lib.hid hE
  have HLL := Lib.hid hll
  have HBN := Lib.hid (fun k => best_in gtI S k)
  have HB0 := Lib.hid (show bestAt gtI S 0 = (valI S 0, 0) from rfl)
  have HBS := Lib.hid (fun k => show bestAt gtI S (k + 1) = if lessF gtI (valI S (k + 1), k + 1) (bestAt gtI S k) = true then bestAt gtI S k else (valI S (k + 1), k + 1) from rfl)
  have HVB := Lib.hid (fun k (hk : k < S.length) => (hE.at_ hk).elim fun _ ⟨_, _, _, _, _, _, _, _, _, h⟩ => (h : Vl.Bits (valI S k)))
  obtain ⟨x, hx⟩ : ∃ x, S.getD (bestAt gtI S (S.length - 1)).2 z0 = x := ⟨_, rfl⟩
  rw [hx]
  have HX := Lib.hid hx
  have HWO := Lib.hid (fun W => whole_one S.length h0 hl W)
  clear hE hll hx
  generalize bestAt gtI S = BA at *
  generalize hn : S.length = n at *
  have HN := Lib.hid hn
  clear hn
  go_enter Tryz.func37, Tryz.ntmps37
  go_upto_region 1 with fail
  have HP0 := Lib.hid (Blk.new w 50 #[.slice LA nl lc, .slice EA n ec])
  have HB1 : Hid (Below w.heap.size w (w.alloc (.cells #[.slice LA nl lc, .slice EA n ec] 50))) := (Below.refl _ _).alloc (Nat.le_refl _) _
  have hs1 : (w.alloc (.cells #[.slice LA nl lc, .slice EA n ec] 50)).heap.size = w.heap.size + 1 := by simp
  generalize w.alloc (.cells #[.slice LA nl lc, .slice EA n ec] 50) = w1 at *
  have HS1 := Lib.hid hs1
  clear hs1
  have p0 := HP0.out.cell 0
  have p1 := HP0.out.cell 1
  simp only [List.getElem?_toArray, List.getElem?_cons_zero, List.getElem?_cons_succ] at p0 p1
  go_wp2_with fail
  refine (HWO.out _).mono ?_
  rintro e w2 ⟨rfl, rfl⟩
  go_upto_region 3 with fail
  have HK0 : Hid (Rk (w1.alloc (.cells #[.slice none 0 0, .func (.func 38) #[] #[]] 80)) w1.heap.size 38 []) := ⟨_, Blk.new w1 80 _, World.ownsRow_nil _ _ _ _⟩
  have HB2 : Hid (Below w.heap.size w (w1.alloc (.cells #[.slice none 0 0, .func (.func 38) #[] #[]] 80))) := HB1.out.alloc HB1.out.size _
  have HP1 := Lib.hid (HP0.out.alloc (.cells #[.slice none 0 0, .func (.func 38) #[] #[]] 80))
  have hs2 : w1.heap.size < (w1.alloc (.cells #[.slice none 0 0, .func (.func 38) #[] #[]] 80)).heap.size := by simp
  generalize w1.alloc (.cells #[.slice none 0 0, .func (.func 38) #[] #[]] 80) = w2 at *
  have hK : w1.heap.size = w.heap.size + 1 := HS1.out
  generalize w1.heap.size = K at *
  have HKK := Lib.hid hK
  have hKw : w.heap.size < K := by omega
  clear hK p0 p1
  have p1 := HP1.out.cell 1
  simp only [List.getElem?_toArray, List.getElem?_cons_zero, List.getElem?_cons_succ] at p1
  have HOF : Hid (∀ W k v, RkAt BA W K 38 k → k < n → valI S k = v → Calls Tryz.prog 51 #[.pointer (some ⟨K, 0, none⟩), .agg #[.int .u64 v, .int .i64 (k : Nat)], .int .i64 1] W fun e w' => e = .returned (.tuple #[]) ∧ RkAt BA w' K 38 (k + 1) ∧ Below K W w') := by
    intro W k v hR hk hv
    subst hv
    cases k with
    | zero =>
      refine (offer0_38 K (valI S 0, 0) W hR).mono ?_
      rintro e w' ⟨he, hr, hb⟩
      refine ⟨he, ?_, hb⟩
      show Rk w' K 38 [BA 0]
      rw [HB0.out]; exact hr
    | succ k =>
      have hbn := HBN.out k
      refine (offer1_38 K (BA k) (valI S (k + 1), k + 1) W hR (by rw [hbn.2]; exact HVB.out _ (by omega)) (HVB.out _ hk)).mono ?_
      rintro e w' ⟨he, hr, hb⟩
      refine ⟨he, ?_, hb⟩
      show Rk w' K 38 [BA (k + 1)]
      rw [HBS.out k]; exact hr
  go_wp2_with fail
  go_loopw [9, 10, 26] (fun _ _ i wr => ∃ k : Nat, k ≤ n ∧ i = .int .i64 k ∧ Hid (RkAt BA wr K 38 k) ∧ Hid (Below K w2 wr)) (fun _ _ i _ => n - (intOf i).toNat)
  case atStart => exact ⟨0, Nat.zero_le _, rfl, HK0, Below.refl _ _⟩
  case round =>
    obtain ⟨k, hk, rfl, HRK, HBK⟩ := hrel
    have HBW := Lib.hid (HB2.out.trans (HBK.out.mono (by omega)))
    by_cases hlt : k < n
    · have hkl : k < S.length := by rw [HN.out]; exact hlt
      obtain ⟨b, off, LX, lx, rfl, hb, c1, c2, hL, _, hbt⟩ := (HE.out.below HBW.out).at_ hkl
      obtain ⟨v, hv⟩ : ∃ v, valI S k = v := ⟨_, rfl⟩
      have c2' : wr.cell? ⟨b, off + k * 2 + 1, none⟩ = some (.int .u64 v) := by rw [← hv]; exact c2
      have HV := Lib.hid hv
      have HX1 := Lib.hid (Blk.new wr 36 #[.slice LX (S.getD k z0).1.length lx, .int .u64 v])
      have hbx : Below wr.heap.size wr (wr.alloc (.cells #[.slice LX (S.getD k z0).1.length lx, .int .u64 v] 36)) := (Below.refl _ _).alloc (Nat.le_refl _) _
      have HR2 := Lib.hid (RkAt.below HRK.out hbx)
      have hkr := RkAt.lt HRK.out
      have HB3 := Lib.hid (HBK.out.trans (hbx.mono (by omega)))
      have d : decide (k < n) = true := by simpa using hlt
      clear hL hv c2 hbx p1
      generalize (S.getD k z0).1.length = nx at *
      go_upto_region 6 with fail
      generalize wr.alloc (.cells #[.slice LX nx lx, .int .u64 v] 36) = w3 at *
      have x1 := HX1.out.cell 1
      simp only [List.getElem?_toArray, List.getElem?_cons_zero, List.getElem?_cons_succ] at x1
      go_wp2_with fail
      refine (HOF.out w3 k v HR2.out hlt HV.out).mono ?_
      rintro e w4 ⟨rfl, hr4, hb4⟩
      have HR4 := Lib.hid hr4
      have HB4 := Lib.hid (HB3.out.trans hb4)
      clear hr4 hb4 x1
      go_wp2
      go_roundw
      case rel => exact ⟨k + 1, by omega, by go_num, HR4, HB4⟩
      case measure => simp [intOf]; omega
    · have d : decide (k < n) = false := by simpa using hlt
      obtain rfl : n = k := by omega
      obtain ⟨q, hnq⟩ : ∃ q, n = q + 1 := ⟨n - 1, by omega⟩
      have hbn := HBN.out q
      rw [show n - 1 = q by omega] at HX
      have hr1 : Rk wr K 38 [BA q] := by have := HRK.out; rw [hnq] at this; exact this
      obtain ⟨g, c, hk1, hk2, hKg⟩ := hr1.one
      obtain ⟨bp, hbp⟩ : ∃ bp, BA q = bp := ⟨_, rfl⟩
      rw [hbp] at hbn HX hk2
      obtain ⟨bv, ba⟩ := bp
      simp only at hbn HX hk2
      have k0 := hk1.cell 0
      have g0 := hk2.cellAt 0 (by decide)
      have g1 := hk2.cellAt 1 (by decide)
      simp at k0 g0 g1
      have HG0 := Lib.hid g0
      have HG1 := Lib.hid g1
      have hgl := (hk2.lt g rfl).2
      have hban : ba < n := by have := hbn.1; omega
      clear hnq
      have hP2 := HP1.out.below (show Below w2.heap.size w2 w2 from Below.refl _ _)
      have HPR : Hid (Blk wr w.heap.size 50 #[.slice LA nl lc, .slice EA n ec]) := (HBK.out.block w.heap.size hKw).trans HP1.out
      clear hr1 hk1 hk2 hKg hbp hbn p1 hP2 g0 g1
      go_wp2_with fail
      go_loopw [11, 13, 14, 44] (fun s11 _ _ i wz => ∃ (t : Nat) (A : Option Addr) (c : Nat), t ≤ 1 ∧ i = .int .i64 t ∧ s11 = .slice A t c ∧ Hid (t = 0 → A = none ∧ c = 0 ∧ wz = wr) ∧ Hid (t = 1 → Els wz A [x] ∧ Below w.heap.size w wz ∧ (A = none → c = 0))) (fun _ _ _ i _ => 1 - (intOf i).toNat)
      case atStart => exact ⟨0, none, 0, by omega, rfl, rfl, fun _ => ⟨rfl, rfl, rfl⟩, fun h => by omega⟩
      case round =>
        obtain ⟨t, A, c3, ht, rfl, rfl, H0, H1⟩ := hrel
        by_cases ht0 : t = 0
        · subst ht0
          obtain ⟨rfl, rfl, rfl⟩ := H0.out rfl
          clear H0 H1
          have g0 := HG0.out
          have g1 := HG1.out
          have hba : ba < S.length := by rw [HN.out]; exact hban
          obtain ⟨b, off, LX, lx, rfl, hb, c1, c2, hL, hlc, hbt⟩ := (HE.out.below HBW.out).at_ hba
          rw [HX.out] at c1 c2 hL hbt
          have hx40 := HLL.out ba (by omega)
          rw [HX.out] at hx40
          have HL := Lib.hid hL
          have HLC := Lib.hid hlc
          have HBT := Lib.hid hbt
          have hs2' := HBW.out.size
          have hPl := HPR.out.lt
          have HZ1 := Lib.hid (Blk.new wr 83 #[.int .u64 bv, .int .i64 (ba : Nat)])
          have BZ1 : Hid (Below wr.heap.size wr (wr.alloc (.cells #[.int .u64 bv, .int .i64 (ba : Nat)] 83))) := (Below.refl _ _).alloc (Nat.le_refl _) _
          have hzs : wr.heap.size < (wr.alloc (.cells #[.int .u64 bv, .int .i64 (ba : Nat)] 83)).heap.size := by simp
          clear hL hlc hbt hb
          obtain ⟨xl, hxl⟩ : ∃ xl, x.1 = xl := ⟨_, rfl⟩
          obtain ⟨xv, hxv⟩ : ∃ xv, x.2 = xv := ⟨_, rfl⟩
          have hxx : x = (xl, xv) := by rw [← hxl, ← hxv]
          rw [hxl] at c1 HL hx40
          rw [hxv] at c2 HBT
          have HXX := Lib.hid hxx
          obtain ⟨m, hm⟩ : ∃ m, xl.length = m := ⟨_, rfl⟩
          rw [hm] at c1 hx40
          have HM := Lib.hid hm
          clear hxl hxv hxx hm HX HVB HBN HBS HB0 HOF HRK HBK
          have cc1 := cell_far BZ1.out c1
          have cc2 := cell_far BZ1.out c2
          have HPZ := Lib.hid (HPR.out.below BZ1.out)
          go_upto_region 12 with fail
          generalize wr.alloc (.cells #[.int .u64 bv, .int .i64 (ba : Nat)] 83) = wy at *
          have z1 := HZ1.out.cell 1
          have p1 := HPZ.out.cell 1
          simp only [List.getElem?_toArray, List.getElem?_cons_zero, List.getElem?_cons_succ] at z1 p1
          have hbai : (ba : Int) < (n : Int) := by omega
          have HW1 := Lib.hid (Blk.new wy 36 #[.slice LX m lx, .int .u64 xv])
          have BW1 : Hid (Below wy.heap.size wy (wy.alloc (.cells #[.slice LX m lx, .int .u64 xv] 36))) := (Below.refl _ _).alloc (Nat.le_refl _) _
          have hys : wy.heap.size < (wy.alloc (.cells #[.slice LX m lx, .int .u64 xv] 36)).heap.size := by simp
          have BWY : Hid (Below w.heap.size w (wy.alloc (.cells #[.slice LX m lx, .int .u64 xv] 36))) := HBW.out.trans ((BZ1.out.trans (BW1.out.mono BZ1.out.size)).mono hs2')
          have HLY := Lib.hid (HL.out.below (BZ1.out.trans (BW1.out.mono BZ1.out.size)))
          clear k0 g0 g1 c1 c2
          go_upto_region 13 with fail
          generalize wy.alloc (.cells #[.slice LX m lx, .int .u64 xv] 36) = wx at *
          clear z1 p1 cc1 cc2
          have y0 := HW1.out.cell 0
          have y1 := HW1.out.cell 1
          simp only [List.getElem?_toArray, List.getElem?_cons_zero, List.getElem?_cons_succ] at y0 y1
          have HCL := Lib.hid (fun W (hW : Below wx.heap.size wx W) => clonel_any LX lx m xl W HM.out (HLY.out.below hW) HLC.out (by omega))
          unfold ClL at HCL
          go_region_held3 (fun W => W.cell? ⟨wy.heap.size, 0, none⟩ = some (.slice LX m lx) ∧ W.cell? ⟨wy.heap.size, 1, none⟩ = some (.int .u64 xv) ∧ Below wx.heap.size wx W)
            (first | (exact ⟨y0, y1, (Below.refl _ _).drew⟩) | (exact ⟨(hb4.cell (p := ⟨wy.heap.size, 0, none⟩) (Nat.lt_of_lt_of_le hys hS0.2.2.size)).trans hS0.1, (hb4.cell (p := ⟨wy.heap.size, 1, none⟩) (Nat.lt_of_lt_of_le hys hS0.2.2.size)).trans hS0.2.1, hS0.2.2.trans (hb4.mono hS0.2.2.size)⟩) | (have hS7 := ‹World.cell? w4 ⟨wy.heap.size, 0, none⟩ = some (.slice LX m lx) ∧ World.cell? w4 ⟨wy.heap.size, 1, none⟩ = some (.int .u64 xv) ∧ Below wx.heap.size wx w4›; have q := (Below.refl w4.heap.size w4).alloc (Nat.le_refl _) (.cells #[.slice A4 m c4, .int .u64 xv] 36); exact ⟨cell_far q hS7.1, cell_far q hS7.2.1, hS7.2.2.trans (q.mono hS7.2.2.size)⟩) | (exact ⟨cell_far HB8.out hS9.1, cell_far HB8.out hS9.2.1, hS9.2.2.trans (HB8.out.mono hS9.2.2.size)⟩) | assumption | go_keep)
            (first
              | (go_at_call 52; have hS0 := ‹World.cell? _ ⟨wy.heap.size, 0, none⟩ = some (.slice LX m lx) ∧ World.cell? _ ⟨wy.heap.size, 1, none⟩ = some (.int .u64 xv) ∧ Below wx.heap.size wx _›; refine (HCL.out _ hS0.2.2).mono ?_; rintro e w4 ⟨A4, c4, rfl, hl4, hn4, hb4⟩)
              | (have hS9 := ‹World.cell? (w4.alloc (.cells #[.slice A4 m c4, .int .u64 xv] 36)) ⟨wy.heap.size, 0, none⟩ = some (.slice LX m lx) ∧ World.cell? (w4.alloc (.cells #[.slice A4 m c4, .int .u64 xv] 36)) ⟨wy.heap.size, 1, none⟩ = some (.int .u64 xv) ∧ Below wx.heap.size wx (w4.alloc (.cells #[.slice A4 m c4, .int .u64 xv] 36))›
                 refine step_append_grows (by rfl) (.tmp 54) (.tmp 61) 23 (by rfl) 36 i1 _ 2 32 Tryz.underlying23 hi1 hy0 hy1 hy2 rfl (by decide) none 0 0 [] (by rfl) (fun _ => ⟨rfl, rfl⟩) rfl (fun b hb => by cases hb) ⟨w4.heap.size, 0, none⟩ 1 1 [.slice A4 m c4, .int .u64 xv] (by rfl) (by rfl) (two_new w4 _ _ _ rfl _) (by intro u hu; simp at hu; rcases hu with rfl | rfl <;> rfl) (by decide) (by unfold maxLen; omega) (by omega) ?_
                 intro v9 w9 hown9 hg9
                 have HB9 : Hid (Below w4.heap.size w4 w9) := (((Below.refl w4.heap.size w4).alloc (Nat.le_refl _) (.cells #[.slice A4 m c4, .int .u64 xv] 36))).grown hg9 (by simp) (by simp)
                 have HB8 : Hid (Below (w4.alloc (.cells #[.slice A4 m c4, .int .u64 xv] 36)).heap.size (w4.alloc (.cells #[.slice A4 m c4, .int .u64 xv] 36)) w9) := (Below.refl _ _).grown hg9 (by simp) (by simp)
                 have HO9 := Lib.hid hown9
                 have HL9 := Lib.hid (hl4.below HB9.out)
                 clear hown9 hg9))
          have hsz9 := ‹World.cell? w9 ⟨wy.heap.size, 0, none⟩ = some (.slice LX m lx) ∧ World.cell? w9 ⟨wy.heap.size, 1, none⟩ = some (.int .u64 xv) ∧ Below wx.heap.size wx w9›
          obtain ⟨A9, c9, rfl, hraw9, han9, _, _⟩ := Raw.of_own (n := 1) (r := [(.slice A4 m c4, .int .u64 xv)]) rfl (show w9.ownsRow _ _ _ _ _ (flatV [(.slice A4 m c4, .int .u64 xv)]) from HO9.out)
          have HF1 : Hid (Els w9 A9 [x]) := by
            have hX := HXX.out
            subst hX
            exact ⟨_, hraw9, ElVs.single ⟨A4, c4, by rw [← HM.out], HL9.out, hn4, HBT.out⟩⟩
          have HF2 : Hid (Below w.heap.size w w9) := BWY.out.trans (hsz9.2.2.mono BWY.out.size)
          have HF3 : Hid (A9 = none → c9 = 0) := han9
          clear hraw9 han9 hsz9
          go_wp2
          go_roundw
          case rel => exact ⟨1, A9, c9, by omega, by go_num, rfl, fun h => by omega, fun _ => ⟨HF1.out, HF2.out, HF3.out⟩⟩
          case measure => simp [intOf]
        · obtain rfl : t = 1 := by omega
          obtain ⟨hex, hbx, han⟩ := H1.out rfl
          have HEX := Lib.hid hex
          have HBX := Lib.hid hbx
          have HAN := Lib.hid han
          clear hex hbx han H0 H1
          go_wp2
          go_ret
          exact ⟨A, c3, rfl, HEX.out, HBX.out, HAN.out⟩

theorem best_40 (LA EA : Option Addr) (nl lc ec : Nat) (S : List El) (w : World) (hE : Els w EA S) (h0 : 0 < S.length) (hl : S.length ≤ 60) (hll : ∀ i, i < S.length → (S.getD i z0).1.length ≤ 40) :
    Calls Tryz.prog 37 #[.agg #[.slice LA nl lc, .slice EA S.length ec], .int .u64 4607182418800017408, .func (.func 40) #[] #[]] w (BestP (S.getD (bestAt ltI S (S.length - 1)).2 z0) w) := by
  obtain ⟨i1, hi1, hy0, hy1, hy2⟩ := info_parts elem_info
  have HE := Lib.hid hE
  have HLL := Lib.hid hll
  have HBN := Lib.hid (fun k => best_in ltI S k)
  have HB0 := Lib.hid (show bestAt ltI S 0 = (valI S 0, 0) from rfl)
  have HBS := Lib.hid (fun k => show bestAt ltI S (k + 1) = if lessF ltI (valI S (k + 1), k + 1) (bestAt ltI S k) = true then bestAt ltI S k else (valI S (k + 1), k + 1) from rfl)
  have HVB := Lib.hid (fun k (hk : k < S.length) => (hE.at_ hk).elim fun _ ⟨_, _, _, _, _, _, _, _, _, h⟩ => (h : Vl.Bits (valI S k)))
  obtain ⟨x, hx⟩ : ∃ x, S.getD (bestAt ltI S (S.length - 1)).2 z0 = x := ⟨_, rfl⟩
  rw [hx]
  have HX := Lib.hid hx
  have HWO := Lib.hid (fun W => whole_one S.length h0 hl W)
  clear hE hll hx
  generalize bestAt ltI S = BA at *
  generalize hn : S.length = n at *
  have HN := Lib.hid hn
  clear hn
  go_enter Tryz.func37, Tryz.ntmps37
  go_upto_region 1 with fail
  have HP0 := Lib.hid (Blk.new w 50 #[.slice LA nl lc, .slice EA n ec])
  have HB1 : Hid (Below w.heap.size w (w.alloc (.cells #[.slice LA nl lc, .slice EA n ec] 50))) := (Below.refl _ _).alloc (Nat.le_refl _) _
  have hs1 : (w.alloc (.cells #[.slice LA nl lc, .slice EA n ec] 50)).heap.size = w.heap.size + 1 := by simp
  generalize w.alloc (.cells #[.slice LA nl lc, .slice EA n ec] 50) = w1 at *
  have HS1 := Lib.hid hs1
  clear hs1
  have p0 := HP0.out.cell 0
  have p1 := HP0.out.cell 1
  simp only [List.getElem?_toArray, List.getElem?_cons_zero, List.getElem?_cons_succ] at p0 p1
  go_wp2_with fail
  refine (HWO.out _).mono ?_
  rintro e w2 ⟨rfl, rfl⟩
  go_upto_region 3 with fail
  have HK0 : Hid (Rk (w1.alloc (.cells #[.slice none 0 0, .func (.func 40) #[] #[]] 80)) w1.heap.size 40 []) := ⟨_, Blk.new w1 80 _, World.ownsRow_nil _ _ _ _⟩
  have HB2 : Hid (Below w.heap.size w (w1.alloc (.cells #[.slice none 0 0, .func (.func 40) #[] #[]] 80))) := HB1.out.alloc HB1.out.size _
  have HP1 := Lib.hid (HP0.out.alloc (.cells #[.slice none 0 0, .func (.func 40) #[] #[]] 80))
  have hs2 : w1.heap.size < (w1.alloc (.cells #[.slice none 0 0, .func (.func 40) #[] #[]] 80)).heap.size := by simp
  generalize w1.alloc (.cells #[.slice none 0 0, .func (.func 40) #[] #[]] 80) = w2 at *
  have hK : w1.heap.size = w.heap.size + 1 := HS1.out
  generalize w1.heap.size = K at *
  have HKK := Lib.hid hK
  have hKw : w.heap.size < K := by omega
  clear hK p0 p1
  have p1 := HP1.out.cell 1
  simp only [List.getElem?_toArray, List.getElem?_cons_zero, List.getElem?_cons_succ] at p1
  have HOF : Hid (∀ W k v, RkAt BA W K 40 k → k < n → valI S k = v → Calls Tryz.prog 51 #[.pointer (some ⟨K, 0, none⟩), .agg #[.int .u64 v, .int .i64 (k : Nat)], .int .i64 1] W fun e w' => e = .returned (.tuple #[]) ∧ RkAt BA w' K 40 (k + 1) ∧ Below K W w') := by
    intro W k v hR hk hv
    subst hv
    cases k with
    | zero =>
      refine (offer0_40 K (valI S 0, 0) W hR).mono ?_
      rintro e w' ⟨he, hr, hb⟩
      refine ⟨he, ?_, hb⟩
      show Rk w' K 40 [BA 0]
      rw [HB0.out]; exact hr
    | succ k =>
      have hbn := HBN.out k
      refine (offer1_40 K (BA k) (valI S (k + 1), k + 1) W hR (by rw [hbn.2]; exact HVB.out _ (by omega)) (HVB.out _ hk)).mono ?_
      rintro e w' ⟨he, hr, hb⟩
      refine ⟨he, ?_, hb⟩
      show Rk w' K 40 [BA (k + 1)]
      rw [HBS.out k]; exact hr
  go_wp2_with fail
  go_loopw [9, 10, 26] (fun _ _ i wr => ∃ k : Nat, k ≤ n ∧ i = .int .i64 k ∧ Hid (RkAt BA wr K 40 k) ∧ Hid (Below K w2 wr)) (fun _ _ i _ => n - (intOf i).toNat)
  case atStart => exact ⟨0, Nat.zero_le _, rfl, HK0, Below.refl _ _⟩
  case round =>
    obtain ⟨k, hk, rfl, HRK, HBK⟩ := hrel
    have HBW := Lib.hid (HB2.out.trans (HBK.out.mono (by omega)))
    by_cases hlt : k < n
    · have hkl : k < S.length := by rw [HN.out]; exact hlt
      obtain ⟨b, off, LX, lx, rfl, hb, c1, c2, hL, _, hbt⟩ := (HE.out.below HBW.out).at_ hkl
      obtain ⟨v, hv⟩ : ∃ v, valI S k = v := ⟨_, rfl⟩
      have c2' : wr.cell? ⟨b, off + k * 2 + 1, none⟩ = some (.int .u64 v) := by rw [← hv]; exact c2
      have HV := Lib.hid hv
      have HX1 := Lib.hid (Blk.new wr 36 #[.slice LX (S.getD k z0).1.length lx, .int .u64 v])
      have hbx : Below wr.heap.size wr (wr.alloc (.cells #[.slice LX (S.getD k z0).1.length lx, .int .u64 v] 36)) := (Below.refl _ _).alloc (Nat.le_refl _) _
      have HR2 := Lib.hid (RkAt.below HRK.out hbx)
      have hkr := RkAt.lt HRK.out
      have HB3 := Lib.hid (HBK.out.trans (hbx.mono (by omega)))
      have d : decide (k < n) = true := by simpa using hlt
      clear hL hv c2 hbx p1
      generalize (S.getD k z0).1.length = nx at *
      go_upto_region 6 with fail
      generalize wr.alloc (.cells #[.slice LX nx lx, .int .u64 v] 36) = w3 at *
      have x1 := HX1.out.cell 1
      simp only [List.getElem?_toArray, List.getElem?_cons_zero, List.getElem?_cons_succ] at x1
      go_wp2_with fail
      refine (HOF.out w3 k v HR2.out hlt HV.out).mono ?_
      rintro e w4 ⟨rfl, hr4, hb4⟩
      have HR4 := Lib.hid hr4
      have HB4 := Lib.hid (HB3.out.trans hb4)
      clear hr4 hb4 x1
      go_wp2
      go_roundw
      case rel => exact ⟨k + 1, by omega, by go_num, HR4, HB4⟩
      case measure => simp [intOf]; omega
    · have d : decide (k < n) = false := by simpa using hlt
      obtain rfl : n = k := by omega
      obtain ⟨q, hnq⟩ : ∃ q, n = q + 1 := ⟨n - 1, by omega⟩
      have hbn := HBN.out q
      rw [show n - 1 = q by omega] at HX
      have hr1 : Rk wr K 40 [BA q] := by have := HRK.out; rw [hnq] at this; exact this
      obtain ⟨g, c, hk1, hk2, hKg⟩ := hr1.one
      obtain ⟨bp, hbp⟩ : ∃ bp, BA q = bp := ⟨_, rfl⟩
      rw [hbp] at hbn HX hk2
      obtain ⟨bv, ba⟩ := bp
      simp only at hbn HX hk2
      have k0 := hk1.cell 0
      have g0 := hk2.cellAt 0 (by decide)
      have g1 := hk2.cellAt 1 (by decide)
      simp at k0 g0 g1
      have HG0 := Lib.hid g0
      have HG1 := Lib.hid g1
      have hgl := (hk2.lt g rfl).2
      have hban : ba < n := by have := hbn.1; omega
      clear hnq
      have hP2 := HP1.out.below (show Below w2.heap.size w2 w2 from Below.refl _ _)
      have HPR : Hid (Blk wr w.heap.size 50 #[.slice LA nl lc, .slice EA n ec]) := (HBK.out.block w.heap.size hKw).trans HP1.out
      clear hr1 hk1 hk2 hKg hbp hbn p1 hP2 g0 g1
      go_wp2_with fail
      go_loopw [11, 13, 14, 44] (fun s11 _ _ i wz => ∃ (t : Nat) (A : Option Addr) (c : Nat), t ≤ 1 ∧ i = .int .i64 t ∧ s11 = .slice A t c ∧ Hid (t = 0 → A = none ∧ c = 0 ∧ wz = wr) ∧ Hid (t = 1 → Els wz A [x] ∧ Below w.heap.size w wz ∧ (A = none → c = 0))) (fun _ _ _ i _ => 1 - (intOf i).toNat)
      case atStart => exact ⟨0, none, 0, by omega, rfl, rfl, fun _ => ⟨rfl, rfl, rfl⟩, fun h => by omega⟩
      case round =>
        obtain ⟨t, A, c3, ht, rfl, rfl, H0, H1⟩ := hrel
        by_cases ht0 : t = 0
        · subst ht0
          obtain ⟨rfl, rfl, rfl⟩ := H0.out rfl
          clear H0 H1
          have g0 := HG0.out
          have g1 := HG1.out
          have hba : ba < S.length := by rw [HN.out]; exact hban
          obtain ⟨b, off, LX, lx, rfl, hb, c1, c2, hL, hlc, hbt⟩ := (HE.out.below HBW.out).at_ hba
          rw [HX.out] at c1 c2 hL hbt
          have hx40 := HLL.out ba (by omega)
          rw [HX.out] at hx40
          have HL := Lib.hid hL
          have HLC := Lib.hid hlc
          have HBT := Lib.hid hbt
          have hs2' := HBW.out.size
          have hPl := HPR.out.lt
          have HZ1 := Lib.hid (Blk.new wr 83 #[.int .u64 bv, .int .i64 (ba : Nat)])
          have BZ1 : Hid (Below wr.heap.size wr (wr.alloc (.cells #[.int .u64 bv, .int .i64 (ba : Nat)] 83))) := (Below.refl _ _).alloc (Nat.le_refl _) _
          have hzs : wr.heap.size < (wr.alloc (.cells #[.int .u64 bv, .int .i64 (ba : Nat)] 83)).heap.size := by simp
          clear hL hlc hbt hb
          obtain ⟨xl, hxl⟩ : ∃ xl, x.1 = xl := ⟨_, rfl⟩
          obtain ⟨xv, hxv⟩ : ∃ xv, x.2 = xv := ⟨_, rfl⟩
          have hxx : x = (xl, xv) := by rw [← hxl, ← hxv]
          rw [hxl] at c1 HL hx40
          rw [hxv] at c2 HBT
          have HXX := Lib.hid hxx
          obtain ⟨m, hm⟩ : ∃ m, xl.length = m := ⟨_, rfl⟩
          rw [hm] at c1 hx40
          have HM := Lib.hid hm
          clear hxl hxv hxx hm HX HVB HBN HBS HB0 HOF HRK HBK
          have cc1 := cell_far BZ1.out c1
          have cc2 := cell_far BZ1.out c2
          have HPZ := Lib.hid (HPR.out.below BZ1.out)
          go_upto_region 12 with fail
          generalize wr.alloc (.cells #[.int .u64 bv, .int .i64 (ba : Nat)] 83) = wy at *
          have z1 := HZ1.out.cell 1
          have p1 := HPZ.out.cell 1
          simp only [List.getElem?_toArray, List.getElem?_cons_zero, List.getElem?_cons_succ] at z1 p1
          have hbai : (ba : Int) < (n : Int) := by omega
          have HW1 := Lib.hid (Blk.new wy 36 #[.slice LX m lx, .int .u64 xv])
          have BW1 : Hid (Below wy.heap.size wy (wy.alloc (.cells #[.slice LX m lx, .int .u64 xv] 36))) := (Below.refl _ _).alloc (Nat.le_refl _) _
          have hys : wy.heap.size < (wy.alloc (.cells #[.slice LX m lx, .int .u64 xv] 36)).heap.size := by simp
          have BWY : Hid (Below w.heap.size w (wy.alloc (.cells #[.slice LX m lx, .int .u64 xv] 36))) := HBW.out.trans ((BZ1.out.trans (BW1.out.mono BZ1.out.size)).mono hs2')
          have HLY := Lib.hid (HL.out.below (BZ1.out.trans (BW1.out.mono BZ1.out.size)))
          clear k0 g0 g1 c1 c2
          go_upto_region 13 with fail
          generalize wy.alloc (.cells #[.slice LX m lx, .int .u64 xv] 36) = wx at *
          clear z1 p1 cc1 cc2
          have y0 := HW1.out.cell 0
          have y1 := HW1.out.cell 1
          simp only [List.getElem?_toArray, List.getElem?_cons_zero, List.getElem?_cons_succ] at y0 y1
          have HCL := Lib.hid (fun W (hW : Below wx.heap.size wx W) => clonel_any LX lx m xl W HM.out (HLY.out.below hW) HLC.out (by omega))
          unfold ClL at HCL
          go_region_held3 (fun W => W.cell? ⟨wy.heap.size, 0, none⟩ = some (.slice LX m lx) ∧ W.cell? ⟨wy.heap.size, 1, none⟩ = some (.int .u64 xv) ∧ Below wx.heap.size wx W)
            (first | (exact ⟨y0, y1, (Below.refl _ _).drew⟩) | (exact ⟨(hb4.cell (p := ⟨wy.heap.size, 0, none⟩) (Nat.lt_of_lt_of_le hys hS0.2.2.size)).trans hS0.1, (hb4.cell (p := ⟨wy.heap.size, 1, none⟩) (Nat.lt_of_lt_of_le hys hS0.2.2.size)).trans hS0.2.1, hS0.2.2.trans (hb4.mono hS0.2.2.size)⟩) | (have hS7 := ‹World.cell? w4 ⟨wy.heap.size, 0, none⟩ = some (.slice LX m lx) ∧ World.cell? w4 ⟨wy.heap.size, 1, none⟩ = some (.int .u64 xv) ∧ Below wx.heap.size wx w4›; have q := (Below.refl w4.heap.size w4).alloc (Nat.le_refl _) (.cells #[.slice A4 m c4, .int .u64 xv] 36); exact ⟨cell_far q hS7.1, cell_far q hS7.2.1, hS7.2.2.trans (q.mono hS7.2.2.size)⟩) | (exact ⟨cell_far HB8.out hS9.1, cell_far HB8.out hS9.2.1, hS9.2.2.trans (HB8.out.mono hS9.2.2.size)⟩) | assumption | go_keep)
            (first
              | (go_at_call 52; have hS0 := ‹World.cell? _ ⟨wy.heap.size, 0, none⟩ = some (.slice LX m lx) ∧ World.cell? _ ⟨wy.heap.size, 1, none⟩ = some (.int .u64 xv) ∧ Below wx.heap.size wx _›; refine (HCL.out _ hS0.2.2).mono ?_; rintro e w4 ⟨A4, c4, rfl, hl4, hn4, hb4⟩)
              | (have hS9 := ‹World.cell? (w4.alloc (.cells #[.slice A4 m c4, .int .u64 xv] 36)) ⟨wy.heap.size, 0, none⟩ = some (.slice LX m lx) ∧ World.cell? (w4.alloc (.cells #[.slice A4 m c4, .int .u64 xv] 36)) ⟨wy.heap.size, 1, none⟩ = some (.int .u64 xv) ∧ Below wx.heap.size wx (w4.alloc (.cells #[.slice A4 m c4, .int .u64 xv] 36))›
                 refine step_append_grows (by rfl) (.tmp 54) (.tmp 61) 23 (by rfl) 36 i1 _ 2 32 Tryz.underlying23 hi1 hy0 hy1 hy2 rfl (by decide) none 0 0 [] (by rfl) (fun _ => ⟨rfl, rfl⟩) rfl (fun b hb => by cases hb) ⟨w4.heap.size, 0, none⟩ 1 1 [.slice A4 m c4, .int .u64 xv] (by rfl) (by rfl) (two_new w4 _ _ _ rfl _) (by intro u hu; simp at hu; rcases hu with rfl | rfl <;> rfl) (by decide) (by unfold maxLen; omega) (by omega) ?_
                 intro v9 w9 hown9 hg9
                 have HB9 : Hid (Below w4.heap.size w4 w9) := (((Below.refl w4.heap.size w4).alloc (Nat.le_refl _) (.cells #[.slice A4 m c4, .int .u64 xv] 36))).grown hg9 (by simp) (by simp)
                 have HB8 : Hid (Below (w4.alloc (.cells #[.slice A4 m c4, .int .u64 xv] 36)).heap.size (w4.alloc (.cells #[.slice A4 m c4, .int .u64 xv] 36)) w9) := (Below.refl _ _).grown hg9 (by simp) (by simp)
                 have HO9 := Lib.hid hown9
                 have HL9 := Lib.hid (hl4.below HB9.out)
                 clear hown9 hg9))
          have hsz9 := ‹World.cell? w9 ⟨wy.heap.size, 0, none⟩ = some (.slice LX m lx) ∧ World.cell? w9 ⟨wy.heap.size, 1, none⟩ = some (.int .u64 xv) ∧ Below wx.heap.size wx w9›
          obtain ⟨A9, c9, rfl, hraw9, han9, _, _⟩ := Raw.of_own (n := 1) (r := [(.slice A4 m c4, .int .u64 xv)]) rfl (show w9.ownsRow _ _ _ _ _ (flatV [(.slice A4 m c4, .int .u64 xv)]) from HO9.out)
          have HF1 : Hid (Els w9 A9 [x]) := by
            have hX := HXX.out
            subst hX
            exact ⟨_, hraw9, ElVs.single ⟨A4, c4, by rw [← HM.out], HL9.out, hn4, HBT.out⟩⟩
          have HF2 : Hid (Below w.heap.size w w9) := BWY.out.trans (hsz9.2.2.mono BWY.out.size)
          have HF3 : Hid (A9 = none → c9 = 0) := han9
          clear hraw9 han9 hsz9
          go_wp2
          go_roundw
          case rel => exact ⟨1, A9, c9, by omega, by go_num, rfl, fun h => by omega, fun _ => ⟨HF1.out, HF2.out, HF3.out⟩⟩
          case measure => simp [intOf]
        · obtain rfl : t = 1 := by omega
          obtain ⟨hex, hbx, han⟩ := H1.out rfl
          have HEX := Lib.hid hex
          have HBX := Lib.hid hbx
          have HAN := Lib.hid han
          clear hex hbx han H0 H1
          go_wp2
          go_ret
          exact ⟨A, c3, rfl, HEX.out, HBX.out, HAN.out⟩
end Go.Proofs.YtencpjhpedenbaaGreatDoor

namespace Go.Proofs.YtencpjhpedenbaaGreatDoor
open Go.RowKit Lb
set_option linter.unusedVariables false
set_option linter.unusedSimpArgs false
set_option maxRecDepth 100000
set_option maxHeartbeats 4000000

theorem top_any (LA EA : Option Addr) (nl lc ec : Nat) (S : List El) (w : World) (hE : Els w EA S) (h0 : 0 < S.length) (hl : S.length ≤ 60) (hll : ∀ i, i < S.length → (S.getD i z0).1.length ≤ 40) :
    Calls Tryz.prog 24 #[.agg #[.slice LA nl lc, .slice EA S.length ec], .int .u64 4607182418800017408] w (BestP (S.getD (bestAt gtI S (S.length - 1)).2 z0) w) := by
  have hb0 := (Below.refl w.heap.size w).alloc (Nat.le_refl _) (.cells #[.slice LA nl lc, .slice EA S.length ec] 50)
  have H := Lib.hid (best_38 LA EA nl lc ec S _ (hE.below hb0) h0 hl hll)
  unfold BestP at H
  have HB := Lib.hid hb0
  have HP0 := Lib.hid (Blk.new w 50 #[.slice LA nl lc, .slice EA S.length ec])
  clear hE hb0 hll
  generalize S.getD (bestAt gtI S (S.length - 1)).2 z0 = x at *
  generalize S.length = n at *
  unfold BestP
  go_enter Tryz.func24, Tryz.ntmps24
  go_upto_region 1 with fail
  generalize w.alloc (.cells #[.slice LA nl lc, .slice EA n ec] 50) = w1 at *
  have p0 := HP0.out.cell 0
  have p1 := HP0.out.cell 1
  simp only [List.getElem?_toArray, List.getElem?_cons_zero, List.getElem?_cons_succ] at p0 p1
  go_wp2_with fail
  refine H.out.mono ?_
  rintro e w2 ⟨A, c, rfl, hx, hb2, ha⟩
  have HX := Lib.hid hx
  have HB2 := Lib.hid (HB.out.trans (hb2.mono HB.out.size))
  have HA := Lib.hid ha
  clear hx hb2 ha p0 p1
  go_wp2
  go_ret
  exact ⟨A, c, rfl, HX.out, HB2.out, HA.out⟩

theorem bottom_any (LA EA : Option Addr) (nl lc ec : Nat) (S : List El) (w : World) (hE : Els w EA S) (h0 : 0 < S.length) (hl : S.length ≤ 60) (hll : ∀ i, i < S.length → (S.getD i z0).1.length ≤ 40) :
    Calls Tryz.prog 25 #[.agg #[.slice LA nl lc, .slice EA S.length ec], .int .u64 4607182418800017408] w (BestP (S.getD (bestAt ltI S (S.length - 1)).2 z0) w) := by
  have hb0 := (Below.refl w.heap.size w).alloc (Nat.le_refl _) (.cells #[.slice LA nl lc, .slice EA S.length ec] 50)
  have H := Lib.hid (best_40 LA EA nl lc ec S _ (hE.below hb0) h0 hl hll)
  unfold BestP at H
  have HB := Lib.hid hb0
  have HP0 := Lib.hid (Blk.new w 50 #[.slice LA nl lc, .slice EA S.length ec])
  clear hE hb0 hll
  generalize S.getD (bestAt ltI S (S.length - 1)).2 z0 = x at *
  generalize S.length = n at *
  unfold BestP
  go_enter Tryz.func25, Tryz.ntmps25
  go_upto_region 1 with fail
  generalize w.alloc (.cells #[.slice LA nl lc, .slice EA n ec] 50) = w1 at *
  have p0 := HP0.out.cell 0
  have p1 := HP0.out.cell 1
  simp only [List.getElem?_toArray, List.getElem?_cons_zero, List.getElem?_cons_succ] at p0 p1
  go_wp2_with fail
  refine H.out.mono ?_
  rintro e w2 ⟨A, c, rfl, hx, hb2, ha⟩
  have HX := Lib.hid hx
  have HB2 := Lib.hid (HB.out.trans (hb2.mono HB.out.size))
  have HA := Lib.hid ha
  clear hx hb2 ha p0 p1
  go_wp2
  go_ret
  exact ⟨A, c, rfl, HX.out, HB2.out, HA.out⟩
end Go.Proofs.YtencpjhpedenbaaGreatDoor

namespace Go.Proofs.YtencpjhpedenbaaGreatDoor
open Go.RowKit Lb
set_option linter.unusedVariables false
set_option linter.unusedSimpArgs false

theorem below_row {B mp : Nat} {w W W' : World} (h : Below B w W) (hm : B ≤ mp) (hB : B ≤ w.heap.size) (hg : W.grownBy W' (some mp)) : Below B w W' :=
  ⟨hg.os.trans h.os, hg.tape.trans h.tape, hg.output.trans h.output, Nat.le_trans h.size hg.size, fun k hk => (hg.block k (Nat.lt_of_lt_of_le hk (Nat.le_trans hB h.size)) (by intro e; simp at e; omega)).trans (h.block k hk)⟩
theorem fresh {L : List (ByteArray × Value)} (ks : List (List UInt8)) (h : L.map (fun p => p.1.data.toList) = ks) (s : ByteArray) (hn : s.data.toList ∉ ks) : ∀ p ∈ L, p.1 ≠ s := fun p hp e => by
  have : p.1.data.toList ∈ L.map (fun p => p.1.data.toList) := List.mem_map.2 ⟨p, hp, rfl⟩
  rw [h, e] at this
  exact hn this
def numL : List (ByteArray × Value) := [(⟨#[115, 117, 109]⟩, .func (.func 19) #[] #[]), (⟨#[97, 118, 103]⟩, .func (.func 20) #[] #[]), (⟨#[109, 105, 110]⟩, .func (.func 21) #[] #[]), (⟨#[109, 97, 120]⟩, .func (.func 22) #[] #[]), (⟨#[99, 111, 117, 110, 116]⟩, .func (.func 23) #[] #[])]
def bestL : List (ByteArray × Value) := [(⟨#[116, 111, 112, 107]⟩, .func (.func 24) #[] #[]), (⟨#[98, 111, 116, 116, 111, 109, 107]⟩, .func (.func 25) #[] #[])]
theorem zeroN (w : World) : (zeroValue 47).run Tryz.prog w = .ok .nilFunc w := by kernel_rfl
theorem zeroB (w : World) : (zeroValue 52).run Tryz.prog w = .ok .nilFunc w := by kernel_rfl
def NumsP (w : World) (v1 v2 v3 v4 v5 : World) : Prop :=
  (Instr.mapUpdate 51 (.map (some w.heap.size)) (.string ⟨#[115, 117, 109]⟩) (.func (.func 19) #[] #[])).run Tryz.prog (w.alloc (.map #[] 0)) = .ok () v1 ∧
  (Instr.mapUpdate 51 (.map (some w.heap.size)) (.string ⟨#[97, 118, 103]⟩) (.func (.func 20) #[] #[])).run Tryz.prog v1 = .ok () v2 ∧
  (Instr.mapUpdate 51 (.map (some w.heap.size)) (.string ⟨#[109, 105, 110]⟩) (.func (.func 21) #[] #[])).run Tryz.prog v2 = .ok () v3 ∧
  (Instr.mapUpdate 51 (.map (some w.heap.size)) (.string ⟨#[109, 97, 120]⟩) (.func (.func 22) #[] #[])).run Tryz.prog v3 = .ok () v4 ∧
  (Instr.mapUpdate 51 (.map (some w.heap.size)) (.string ⟨#[99, 111, 117, 110, 116]⟩) (.func (.func 23) #[] #[])).run Tryz.prog v4 = .ok () v5
def BestsP (w : World) (u1 u2 : World) : Prop :=
  (Instr.mapUpdate 54 (.map (some w.heap.size)) (.string ⟨#[116, 111, 112, 107]⟩) (.func (.func 24) #[] #[])).run Tryz.prog (w.alloc (.map #[] 0)) = .ok () u1 ∧
  (Instr.mapUpdate 54 (.map (some w.heap.size)) (.string ⟨#[98, 111, 116, 116, 111, 109, 107]⟩) (.func (.func 25) #[] #[])).run Tryz.prog u1 = .ok () u2
theorem nums_put (w : World) : ∃ v1 v2 v3 v4 v5, NumsP w v1 v2 v3 v4 v5 ∧ MapS v5 w.heap.size numL ∧ Below w.heap.size w v5 ∧ v5.heap.size = w.heap.size + 1 := by
  have m0 : MapS (w.alloc (.map #[] 0)) w.heap.size [] := ⟨#[], 0, heap_alloc_new w _, rfl, fun p hp => by cases hp⟩
  have b0 : Below w.heap.size w (w.alloc (.map #[] 0)) := (Below.refl _ _).alloc (Nat.le_refl _) _
  have s0 : (w.alloc (.map #[] 0)).heap.size = w.heap.size + 1 := by simp
  obtain ⟨v1, r1, m1, g1, t1⟩ := put_new Tryz.underlying51 m0 ⟨#[115, 117, 109]⟩ (.func (.func 19) #[] #[]) (by decide) (fresh [] rfl _ (by decide))
  have b1 := below_row b0 (Nat.le_refl _) (Nat.le_refl _) g1
  have s1 := t1.trans s0
  obtain ⟨v2, r2, m2, g2, t2⟩ := put_new Tryz.underlying51 m1 ⟨#[97, 118, 103]⟩ (.func (.func 20) #[] #[]) (by decide) (fresh [[115, 117, 109]] rfl _ (by decide))
  have b2 := below_row b1 (Nat.le_refl _) (Nat.le_refl _) g2
  have s2 := t2.trans s1
  obtain ⟨v3, r3, m3, g3, t3⟩ := put_new Tryz.underlying51 m2 ⟨#[109, 105, 110]⟩ (.func (.func 21) #[] #[]) (by decide) (fresh [[115, 117, 109], [97, 118, 103]] rfl _ (by decide))
  have b3 := below_row b2 (Nat.le_refl _) (Nat.le_refl _) g3
  have s3 := t3.trans s2
  obtain ⟨v4, r4, m4, g4, t4⟩ := put_new Tryz.underlying51 m3 ⟨#[109, 97, 120]⟩ (.func (.func 22) #[] #[]) (by decide) (fresh [[115, 117, 109], [97, 118, 103], [109, 105, 110]] rfl _ (by decide))
  have b4 := below_row b3 (Nat.le_refl _) (Nat.le_refl _) g4
  have s4 := t4.trans s3
  obtain ⟨v5, r5, m5, g5, t5⟩ := put_new Tryz.underlying51 m4 ⟨#[99, 111, 117, 110, 116]⟩ (.func (.func 23) #[] #[]) (by decide) (fresh [[115, 117, 109], [97, 118, 103], [109, 105, 110], [109, 97, 120]] rfl _ (by decide))
  have b5 := below_row b4 (Nat.le_refl _) (Nat.le_refl _) g5
  have s5 := t5.trans s4
  exact ⟨v1, v2, v3, v4, v5, ⟨r1, r2, r3, r4, r5⟩, m5, b5, s5⟩
theorem bests_put (w : World) : ∃ u1 u2, BestsP w u1 u2 ∧ MapS u2 w.heap.size bestL ∧ Below w.heap.size w u2 ∧ u2.heap.size = w.heap.size + 1 := by
  have m0 : MapS (w.alloc (.map #[] 0)) w.heap.size [] := ⟨#[], 0, heap_alloc_new w _, rfl, fun p hp => by cases hp⟩
  have b0 : Below w.heap.size w (w.alloc (.map #[] 0)) := (Below.refl _ _).alloc (Nat.le_refl _) _
  have s0 : (w.alloc (.map #[] 0)).heap.size = w.heap.size + 1 := by simp
  obtain ⟨u1, r1, m1, g1, t1⟩ := put_new Tryz.underlying54 m0 ⟨#[116, 111, 112, 107]⟩ (.func (.func 24) #[] #[]) (by decide) (fresh [] rfl _ (by decide))
  have b1 := below_row b0 (Nat.le_refl _) (Nat.le_refl _) g1
  have s1 := t1.trans s0
  obtain ⟨u2, r2, m2, g2, t2⟩ := put_new Tryz.underlying54 m1 ⟨#[98, 111, 116, 116, 111, 109, 107]⟩ (.func (.func 25) #[] #[]) (by decide) (fresh [[116, 111, 112, 107]] rfl _ (by decide))
  have b2 := below_row b1 (Nat.le_refl _) (Nat.le_refl _) g2
  have s2 := t2.trans s1
  exact ⟨u1, u2, ⟨r1, r2⟩, m2, b2, s2⟩
theorem num_look {w : World} {mp : Nat} (h : MapS w mp numL) (s : ByteArray) (hs : s.size ≤ 1000000) :
    (∃ p ∈ numL, p.1 = s ∧ (Instr.lookup 51 (.map (some mp)) (.string s) true).run Tryz.prog w = .ok (.tuple #[p.2, .bool true]) w) ∨
    ((∀ p ∈ numL, p.1 ≠ s) ∧ (Instr.lookup 51 (.map (some mp)) (.string s) true).run Tryz.prog w = .ok (.tuple #[.nilFunc, .bool false]) w) := look_new Tryz.underlying51 zeroN h s hs
theorem best_look {w : World} {mp : Nat} (h : MapS w mp bestL) (s : ByteArray) (hs : s.size ≤ 1000000) :
    (∃ p ∈ bestL, p.1 = s ∧ (Instr.lookup 54 (.map (some mp)) (.string s) true).run Tryz.prog w = .ok (.tuple #[p.2, .bool true]) w) ∨
    ((∀ p ∈ bestL, p.1 ≠ s) ∧ (Instr.lookup 54 (.map (some mp)) (.string s) true).run Tryz.prog w = .ok (.tuple #[.nilFunc, .bool false]) w) := look_new Tryz.underlying54 zeroB h s hs
end Go.Proofs.YtencpjhpedenbaaGreatDoor

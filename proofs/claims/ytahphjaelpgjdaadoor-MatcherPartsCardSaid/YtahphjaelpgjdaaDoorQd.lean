/- MatcherParts as a walk, told by what its callees do. Condition: what is said of them. -/
import Derived.Test.YtahphjaelpgjdaaDoorQb
import Derived.Test.YtahphjaelpgjdaaDoorQa
import Derived.Test.YtahphjaelpgjdaaDoorWb
import Derived.Deep.RegionHeld3
namespace Go.Proofs.YtahphjaelpgjdaaDoor
open Go.RowKit Rx
set_option linter.unusedVariables false

theorem sev_start {W4 : World} {a j i : Nat} {c0 c1 c2 d0 d1 d2 x : Value} (h : W4.cell? ⟨a, 0, none⟩ = some c0 ∧ W4.cell? ⟨a, 1, none⟩ = some c1 ∧ W4.cell? ⟨a, 2, none⟩ = some c2 ∧ W4.cell? ⟨a + 1, 0, none⟩ = some d0 ∧ W4.cell? ⟨a + 1, 1, none⟩ = some d1 ∧ W4.cell? ⟨a + 1, 2, none⟩ = some d2 ∧ W4.cell? ⟨j, i, none⟩ = some x) :
    W4.drew.cell? ⟨a, 0, none⟩ = some c0 ∧ W4.drew.cell? ⟨a, 1, none⟩ = some c1 ∧ W4.drew.cell? ⟨a, 2, none⟩ = some c2 ∧ W4.drew.cell? ⟨a + 1, 0, none⟩ = some d0 ∧ W4.drew.cell? ⟨a + 1, 1, none⟩ = some d1 ∧ W4.drew.cell? ⟨a + 1, 2, none⟩ = some d2 ∧ W4.drew.cell? ⟨j, i, none⟩ = some x ∧ Below W4.heap.size W4 W4.drew :=
  ⟨h.1, h.2.1, h.2.2.1, h.2.2.2.1, h.2.2.2.2.1, h.2.2.2.2.2.1, h.2.2.2.2.2.2, (Below.refl _ _).drew⟩
theorem sev_step {W4 W w' : World} {a j i : Nat} {c0 c1 c2 d0 d1 d2 x : Value} (h : W.cell? ⟨a, 0, none⟩ = some c0 ∧ W.cell? ⟨a, 1, none⟩ = some c1 ∧ W.cell? ⟨a, 2, none⟩ = some c2 ∧ W.cell? ⟨a + 1, 0, none⟩ = some d0 ∧ W.cell? ⟨a + 1, 1, none⟩ = some d1 ∧ W.cell? ⟨a + 1, 2, none⟩ = some d2 ∧ W.cell? ⟨j, i, none⟩ = some x ∧ Below W4.heap.size W4 W)
    (hb : Below W.heap.size W w') (ha : a + 1 < W4.heap.size) (hj : j < W4.heap.size) :
    w'.cell? ⟨a, 0, none⟩ = some c0 ∧ w'.cell? ⟨a, 1, none⟩ = some c1 ∧ w'.cell? ⟨a, 2, none⟩ = some c2 ∧ w'.cell? ⟨a + 1, 0, none⟩ = some d0 ∧ w'.cell? ⟨a + 1, 1, none⟩ = some d1 ∧ w'.cell? ⟨a + 1, 2, none⟩ = some d2 ∧ w'.cell? ⟨j, i, none⟩ = some x ∧ Below W4.heap.size W4 w' := by
  have hs := h.2.2.2.2.2.2.2.size
  have ha0 : a < W.heap.size := by omega
  have ha1 : a + 1 < W.heap.size := by omega
  have hj' : j < W.heap.size := by omega
  exact ⟨(hb.cell (p := ⟨a, 0, none⟩) ha0).trans h.1, (hb.cell (p := ⟨a, 1, none⟩) ha0).trans h.2.1, (hb.cell (p := ⟨a, 2, none⟩) ha0).trans h.2.2.1, (hb.cell (p := ⟨a + 1, 0, none⟩) ha1).trans h.2.2.2.1, (hb.cell (p := ⟨a + 1, 1, none⟩) ha1).trans h.2.2.2.2.1, (hb.cell (p := ⟨a + 1, 2, none⟩) ha1).trans h.2.2.2.2.2.1, (hb.cell (p := ⟨j, i, none⟩) hj').trans h.2.2.2.2.2.2.1, h.2.2.2.2.2.2.2.trans (hb.mono hs)⟩
def Nms (w : World) (A : Option Addr) (n : Nat) (x : Nat → ByteArray) : Prop := 0 < n → ∃ b off, A = some ⟨b, off, none⟩ ∧ b < w.heap.size ∧ ∀ i, i < n → w.cell? ⟨b, off + i * 2, none⟩ = some (.string (x i))
theorem two_new (wr : World) (x0 x1 x2 y0 y1 y2 : Value) (b o : Nat) (v : Value) (hb : b < wr.heap.size) (h : wr.cell? ⟨b, o, none⟩ = some v) :
    ((wr.alloc (.cells #[x0, x1, x2] 37)).alloc (.cells #[y0, y1, y2] 37)).cell? ⟨wr.heap.size, 0, none⟩ = some x0 ∧ ((wr.alloc (.cells #[x0, x1, x2] 37)).alloc (.cells #[y0, y1, y2] 37)).cell? ⟨wr.heap.size, 1, none⟩ = some x1 ∧ ((wr.alloc (.cells #[x0, x1, x2] 37)).alloc (.cells #[y0, y1, y2] 37)).cell? ⟨wr.heap.size, 2, none⟩ = some x2 ∧ ((wr.alloc (.cells #[x0, x1, x2] 37)).alloc (.cells #[y0, y1, y2] 37)).cell? ⟨wr.heap.size + 1, 0, none⟩ = some y0 ∧ ((wr.alloc (.cells #[x0, x1, x2] 37)).alloc (.cells #[y0, y1, y2] 37)).cell? ⟨wr.heap.size + 1, 1, none⟩ = some y1 ∧ ((wr.alloc (.cells #[x0, x1, x2] 37)).alloc (.cells #[y0, y1, y2] 37)).cell? ⟨wr.heap.size + 1, 2, none⟩ = some y2 ∧ ((wr.alloc (.cells #[x0, x1, x2] 37)).alloc (.cells #[y0, y1, y2] 37)).cell? ⟨b, o, none⟩ = some v := by
  have h0 : Blk ((wr.alloc (.cells #[x0, x1, x2] 37)).alloc (.cells #[y0, y1, y2] 37)) wr.heap.size 37 #[x0, x1, x2] := (Blk.new wr 37 _).alloc _
  have h1 : Blk ((wr.alloc (.cells #[x0, x1, x2] 37)).alloc (.cells #[y0, y1, y2] 37)) (wr.heap.size + 1) 37 #[y0, y1, y2] := by
    have := Blk.new (wr.alloc (.cells #[x0, x1, x2] 37)) 37 #[y0, y1, y2]
    rw [World.size_alloc] at this
    exact this
  refine ⟨h0.cell 0, h0.cell 1, h0.cell 2, h1.cell 0, h1.cell 1, h1.cell 2, ?_⟩
  have hbl : Below wr.heap.size wr ((wr.alloc (.cells #[x0, x1, x2] 37)).alloc (.cells #[y0, y1, y2] 37)) := ((Below.refl _ _).alloc (Nat.le_refl _) _).alloc (by simp) _
  exact (hbl.cell (p := ⟨b, o, none⟩) hb).trans h

set_option maxRecDepth 100000 in
set_option maxHeartbeats 16000000 in
theorem parts_core (C D A : Option Addr) (na ca nb cb nl cl wd : Nat) (w : World) (la lb : List Mt) (x : Nat → ByteArray) (qa qb : Bool) (g : ByteArray → List UInt8 → Bool)
    (hwd : wd < 4294967296) (hna : na ≤ 10) (hnb : nb ≤ 10) (hnl : nl ≤ 40)
    (HNA : Hid (la.length = na)) (HNB : Hid (lb.length = nb)) (HOA : Hid (OwnM w C ca la)) (HOB : Hid (OwnM w D cb lb)) (HL : Hid (Nms w A nl x))
    (HA : Hid (Calls Tryd.prog 11 #[] w fun e w' => e = .returned (.bool true) ∧ Below w.heap.size w w'))
    (S1 : Hid (∀ W, Below w.heap.size w W → Calls Tryd.prog 15 #[.slice C na ca] W fun e w' => e = .returned (.bool true) ∧ W = w'))
    (S2 : Hid (∀ W, Below w.heap.size w W → Calls Tryd.prog 15 #[.slice D nb cb] W fun e w' => e = .returned (.bool true) ∧ W = w'))
    (T : Hid (∀ W, Below w.heap.size w W → Calls Tryd.prog 12 #[.slice A nl cl] W fun e w' => e = .returned (.bool true) ∧ W = w'))
    (AA : Hid (∀ W X cx, Below w.heap.size w W → Mts W X (la ++ lb) → Calls Tryd.prog 16 #[.slice X (na + nb : Nat) cx, .slice A nl cl] W fun e w' => e = .returned (.bool (qa && qb)) ∧ Below W.heap.size W w'))
    (A1 : Hid (∀ W, Below w.heap.size w W → Calls Tryd.prog 16 #[.slice C na ca, .slice A nl cl] W fun e w' => e = .returned (.bool qa) ∧ Below W.heap.size W w'))
    (A2 : Hid (∀ W, Below w.heap.size w W → Calls Tryd.prog 16 #[.slice D nb cb, .slice A nl cl] W fun e w' => e = .returned (.bool qb) ∧ Below W.heap.size W w'))
    (G : Hid (∀ W nm, Below w.heap.size w W → Calls Tryd.prog 17 #[.slice A nl cl, .string nm] W fun e w' => ∃ s : ByteArray, s.size ≤ 4000 ∧ e = .returned (.string s) ∧ W = w'))
    (H1 : Hid (∀ W nm s, Below w.heap.size w W → WordL s → s.length ≤ 13 → Calls Tryd.prog 14 #[.agg #[.int .i64 1, .string nm, .string ⟨s.toArray⟩], .slice A nl cl] W fun e w' => e = .returned (.bool (g nm s)) ∧ Below W.heap.size W w'))
    (H3 : Hid (∀ W nm s, Below w.heap.size w W → WordL s → s.length ≤ 13 → Calls Tryd.prog 14 #[.agg #[.int .i64 3, .string nm, .string ⟨s.toArray⟩], .slice A nl cl] W fun e w' => e = .returned (.bool (g nm s)) ∧ Below W.heap.size W w')) :
    Calls Tryd.prog 5 #[.slice C na ca, .slice D nb cb, .slice A nl cl, .int .u32 wd] w fun e w' => e = .returned (.bool true) ∧ Below w.heap.size w w' := by
  go_enter Tryd.func5, Tryd.ntmps5
  go_wp2_with fail
  refine (HA.out).mono ?_
  rintro e w1 ⟨rfl, k1⟩
  have K1 := Lib.hid k1
  clear k1 HA
  go_wp2_with fail
  refine (S1.out _ K1.out).mono ?_
  rintro e w' ⟨rfl, rfl⟩
  go_wp2_with fail
  refine (S2.out _ K1.out).mono ?_
  rintro e w' ⟨rfl, rfl⟩
  go_wp2_with fail
  refine (T.out _ K1.out).mono ?_
  rintro e w' ⟨rfl, rfl⟩
  have OW : Hid ((w1.alloc (.cells #[] 37)).ownsRow w1.heap.size 37 3 (.slice (some ⟨w1.heap.size, 0, none⟩) 0 0) 0 []) := World.ownsRow_lit w1 #[] 0 (Nat.le_refl _) (by unfold maxLen; omega) rfl
  have KA : Hid (Below w1.heap.size w1 (w1.alloc (.cells #[] 37))) := (Below.refl _ _).alloc (Nat.le_refl _) _
  have OA := Lib.hid ((HOA.out.below K1.out).below KA.out)
  have OB := Lib.hid ((HOB.out.below K1.out).below KA.out)
  have hs1 := K1.out.size
  clear S1 S2 T
  go_wp2_with (first
    | (at_builtin; refine wpList_append_mts rfl (.tmp 29) (.tmp 30) rfl w1.heap.size (.slice (some ⟨w1.heap.size, 0, none⟩) 0 0) 0 [] rfl OW.out C na ca la HNA.out rfl OA.out (by omega) KA.out.size ?_; intro v2 w2 own2 gr2 at2
       have K2 := Lib.hid (KA.out.grown gr2 KA.out.size (fun g hg => (OW.out.lt g hg).1))
       have OW2 := Lib.hid own2
       have OB2 := Lib.hid ((HOB.out.below K1.out).below K2.out)
       clear own2 gr2 at2)
    | (at_builtin; refine wpList_append_mts rfl (.tmp 31) (.tmp 32) rfl w1.heap.size v2 (0 + na) ([] ++ flatM la) rfl OW2.out D nb cb lb HNB.out rfl OB2.out (by omega) K2.out.size ?_; intro v3 w3 own3 gr3 at3
       have K3 := Lib.hid (K2.out.grown gr3 K2.out.size (fun g hg => (OW2.out.lt g hg).1))
       have OW3 := Lib.hid own3
       clear own3 gr3 at3
       obtain ⟨X, cx, hv3, om⟩ : ∃ X cx, v3 = .slice X (na + nb : Nat) cx ∧ Mts w3 X (la ++ lb) := by
         have h : w3.ownsRow w1.heap.size 37 3 v3 (la ++ lb).length (flatM (la ++ lb)) := by
           rw [flatM_append, List.length_append, HNA.out, HNB.out]
           simpa using OW3.out
         obtain ⟨X, cx, h1, h2⟩ := own_mts h
         exact ⟨X, cx, by rw [h1, List.length_append, HNA.out, HNB.out], h2⟩
       subst hv3
       have OM := Lib.hid om
       clear om OW3))
  have K3' := Lib.hid (K1.out.trans (K3.out.mono hs1))
  refine (AA.out _ X cx K3'.out OM.out).mono ?_
  rintro e w4 ⟨rfl, k4⟩
  have K4 := Lib.hid (K3'.out.trans (k4.mono K3'.out.size))
  clear k4 AA OM K3 K3' OB2 OW2 K2 OB OA OW KA
  have eqb : (qb != qb) = false := by simp
  go_wp2_with fail
  refine (A1.out _ K4.out).mono ?_
  rintro e w5 ⟨rfl, k5⟩
  have K5 := Lib.hid (K4.out.trans (k5.mono K4.out.size))
  clear k5 A1 hs1 K1 K4
  cases qa with
  | false =>
    have KZ := K5
    clear K5 A2
    go_wp2
    go_loop [3, 10] (fun a b => ∃ (k : Nat) (s : List UInt8), a = .int .u32 k ∧ b = .string ⟨s.toArray⟩ ∧ k < 4294967296 ∧ Hid (Spell k s)) (fun a _ => (intOf a).toNat)
    case atStart => exact ⟨wd, [], rfl, rfl, hwd, spell_start hwd⟩
    case round =>
      obtain ⟨k, s, rfl, rfl, hk, HS⟩ := hrel
      have hsl := spell_len HS.out
      by_cases h0 : 0 < k
      · have HST := Lib.hid (spell_step HS.out h0)
        have hr : (k : Int) % 6 = ((k % 6 : Nat) : Int) := by simp
        have hq : (k : Int) / 6 = ((k / 6 : Nat) : Int) := by simp
        have hdl := fun w => lit_sl (k % 6) (by omega) w
        have hadd := fun w => add_lit s [let6 (k % 6)] (by simp; omega) w
        have hd6 : k % 6 < 6 := by omega
        have hk6 : k / 6 < k := by omega
        have hk7 : k / 6 < 4294967296 := by omega
        generalize hE : s ++ [let6 (k % 6)] = s2 at *
        generalize k % 6 = d at *
        generalize k / 6 = m2 at *
        clear hE HS
        generalize (⟨[let6 d].toArray⟩ : ByteArray) = E0 at *
        generalize (⟨s.toArray⟩ : ByteArray) = E1 at *
        generalize hE2 : (⟨s2.toArray⟩ : ByteArray) = E2 at *
        have HE2 := Lib.hid hE2
        clear hE2
        go_wp2
        go_round
        case rel => exact ⟨m2, s2, rfl, by rw [HE2.out], hk7, HST⟩
        case measure => simp [intOf]; omega
      · obtain rfl : k = 0 := by omega
        have HW := Lib.hid (spell_word HS.out)
        have hd0 : decide ((0 : Int) < ((0 : Nat) : Int)) = false := by simp
        have G1 := Lib.hid (fun W nm hW => H1.out W nm s hW HW.out hsl)
        have G3 := Lib.hid (fun W nm hW => H3.out W nm s hW HW.out hsl)
        have GG : Hid (∃ gg : ByteArray → Bool, ∀ nm, g nm s = gg nm) := ⟨fun nm => g nm s, fun _ => rfl⟩
        generalize (⟨s.toArray⟩ : ByteArray) = E0 at *
        clear hk HS
        go_wp2
        go_loopw [11] (fun i wr => ∃ j : Nat, j ≤ nl ∧ i = .int .i64 j ∧ Hid (Below w.heap.size w wr)) (fun i _ => nl - (intOf i).toNat)
        case atStart => exact ⟨0, Nat.zero_le _, rfl, KZ⟩
        case round =>
          obtain ⟨j, hj, rfl, HB⟩ := hrel
          have hsz := HB.out.size
          by_cases hlt : j < nl
          · obtain ⟨b0, off, rfl, hb0, hc⟩ := HL.out (by omega)
            have hx : wr.cell? ⟨b0, off + j * 2, none⟩ = some (.string (x j)) := (HB.out.cell (p := ⟨b0, off + j * 2, none⟩) hb0).trans (hc j hlt)
            have hbr : b0 < wr.heap.size := by omega
            clear hc
            generalize x j = nm at *
            have Y := Lib.hid (two_new wr (.int .i64 1) (.string nm) (.string E0) (.int .i64 3) (.string nm) (.string E0) b0 (off + j * 2) (.string nm) hbr hx)
            have HB4 : Hid (Below w.heap.size w ((wr.alloc (.cells #[.int .i64 1, .string nm, .string E0] 37)).alloc (.cells #[.int .i64 3, .string nm, .string E0] 37))) := (HB.out.alloc hsz _).alloc (by simp; omega) _
            go_upto_region 17 with fail
            have hs4 : wr.heap.size + 2 = ((wr.alloc (.cells #[.int .i64 1, .string nm, .string E0] 37)).alloc (.cells #[.int .i64 3, .string nm, .string E0] 37)).heap.size := by simp
            generalize ((wr.alloc (.cells #[.int .i64 1, .string nm, .string E0] 37)).alloc (.cells #[.int .i64 3, .string nm, .string E0] 37)) = W4 at *
            have hw4 := HB4.out.size
            have hj4 : b0 < W4.heap.size := by omega
            have hx4 : wr.heap.size + 1 < W4.heap.size := by omega
            have GA := Lib.hid (fun W (hW : Below W4.heap.size W4 W) => G.out W nm (HB4.out.trans (hW.mono hw4)))
            have GB := Lib.hid (fun W (hW : Below W4.heap.size W4 W) => G1.out W nm (HB4.out.trans (hW.mono hw4)))
            have GC := Lib.hid (fun W (hW : Below W4.heap.size W4 W) => G3.out W nm (HB4.out.trans (hW.mono hw4)))
            generalize g nm s = q at *
            clear hs4 hx HB G G1 G3 GG
            go_region_held3 (fun W => W.cell? ⟨wr.heap.size, 0, none⟩ = some (.int .i64 1) ∧ W.cell? ⟨wr.heap.size, 1, none⟩ = some (.string nm) ∧ W.cell? ⟨wr.heap.size, 2, none⟩ = some (.string E0) ∧ W.cell? ⟨wr.heap.size + 1, 0, none⟩ = some (.int .i64 3) ∧ W.cell? ⟨wr.heap.size + 1, 1, none⟩ = some (.string nm) ∧ W.cell? ⟨wr.heap.size + 1, 2, none⟩ = some (.string E0) ∧ W.cell? ⟨b0, off + j * 2, none⟩ = some (.string nm) ∧ Below W4.heap.size W4 W)
              (first | (exact sev_start Y.out) | (exact sev_step hS0 hb5 hx4 hj4) | assumption)
              (first
                | (have hS0 := ‹World.cell? _ ⟨wr.heap.size, 0, none⟩ = some (.int .i64 1) ∧ World.cell? _ ⟨wr.heap.size, 1, none⟩ = some (.string nm) ∧ World.cell? _ ⟨wr.heap.size, 2, none⟩ = some (.string E0) ∧ World.cell? _ ⟨wr.heap.size + 1, 0, none⟩ = some (.int .i64 3) ∧ World.cell? _ ⟨wr.heap.size + 1, 1, none⟩ = some (.string nm) ∧ World.cell? _ ⟨wr.heap.size + 1, 2, none⟩ = some (.string E0) ∧ World.cell? _ ⟨b0, off + j * 2, none⟩ = some (.string nm) ∧ Below W4.heap.size W4 _›
                   (with_reducible refine (GA.out _ hS0.2.2.2.2.2.2.2).mono ?_)
                   rintro e w' ⟨gs, hgs, rfl, rfl⟩
                   have hgd : decide ((gs.size : Int) ≤ 4000) = true := by simp; omega)
                | (have hS0 := ‹World.cell? _ ⟨wr.heap.size, 0, none⟩ = some (.int .i64 1) ∧ World.cell? _ ⟨wr.heap.size, 1, none⟩ = some (.string nm) ∧ World.cell? _ ⟨wr.heap.size, 2, none⟩ = some (.string E0) ∧ World.cell? _ ⟨wr.heap.size + 1, 0, none⟩ = some (.int .i64 3) ∧ World.cell? _ ⟨wr.heap.size + 1, 1, none⟩ = some (.string nm) ∧ World.cell? _ ⟨wr.heap.size + 1, 2, none⟩ = some (.string E0) ∧ World.cell? _ ⟨b0, off + j * 2, none⟩ = some (.string nm) ∧ Below W4.heap.size W4 _›
                   (with_reducible refine (GB.out _ hS0.2.2.2.2.2.2.2).mono ?_)
                   rintro e w' ⟨rfl, hb5⟩)
                | (have hS0 := ‹World.cell? _ ⟨wr.heap.size, 0, none⟩ = some (.int .i64 1) ∧ World.cell? _ ⟨wr.heap.size, 1, none⟩ = some (.string nm) ∧ World.cell? _ ⟨wr.heap.size, 2, none⟩ = some (.string E0) ∧ World.cell? _ ⟨wr.heap.size + 1, 0, none⟩ = some (.int .i64 3) ∧ World.cell? _ ⟨wr.heap.size + 1, 1, none⟩ = some (.string nm) ∧ World.cell? _ ⟨wr.heap.size + 1, 2, none⟩ = some (.string E0) ∧ World.cell? _ ⟨b0, off + j * 2, none⟩ = some (.string nm) ∧ Below W4.heap.size W4 _›
                   (with_reducible refine (GC.out _ hS0.2.2.2.2.2.2.2).mono ?_)
                   rintro e w' ⟨rfl, hb5⟩))
            have hSE := ‹World.cell? _ ⟨wr.heap.size, 0, none⟩ = some (.int .i64 1) ∧ World.cell? _ ⟨wr.heap.size, 1, none⟩ = some (.string nm) ∧ World.cell? _ ⟨wr.heap.size, 2, none⟩ = some (.string E0) ∧ World.cell? _ ⟨wr.heap.size + 1, 0, none⟩ = some (.int .i64 3) ∧ World.cell? _ ⟨wr.heap.size + 1, 1, none⟩ = some (.string nm) ∧ World.cell? _ ⟨wr.heap.size + 1, 2, none⟩ = some (.string E0) ∧ World.cell? _ ⟨b0, off + j * 2, none⟩ = some (.string nm) ∧ Below W4.heap.size W4 _›
            have HBE := Lib.hid (HB4.out.trans (hSE.2.2.2.2.2.2.2.mono hw4))
            have eqq : (q != q) = false := by simp
            clear hSE GA GB GC Y HL HB4
            go_wp2
            go_roundw
            case rel => exact ⟨j + 1, by omega, by go_num, HBE⟩
            case measure => simp [intOf]; omega
          · go_wp2
            go_ret
            exact ⟨rfl, HB.out⟩
  | true =>
    go_wp2_with fail
    refine (A2.out _ K5.out).mono ?_
    rintro e w6 ⟨rfl, k6⟩
    have KZ := Lib.hid (K5.out.trans (k6.mono K5.out.size))
    clear k6 A2 K5
    go_wp2
    go_loop [3, 10] (fun a b => ∃ (k : Nat) (s : List UInt8), a = .int .u32 k ∧ b = .string ⟨s.toArray⟩ ∧ k < 4294967296 ∧ Hid (Spell k s)) (fun a _ => (intOf a).toNat)
    case atStart => exact ⟨wd, [], rfl, rfl, hwd, spell_start hwd⟩
    case round =>
      obtain ⟨k, s, rfl, rfl, hk, HS⟩ := hrel
      have hsl := spell_len HS.out
      by_cases h0 : 0 < k
      · have HST := Lib.hid (spell_step HS.out h0)
        have hr : (k : Int) % 6 = ((k % 6 : Nat) : Int) := by simp
        have hq : (k : Int) / 6 = ((k / 6 : Nat) : Int) := by simp
        have hdl := fun w => lit_sl (k % 6) (by omega) w
        have hadd := fun w => add_lit s [let6 (k % 6)] (by simp; omega) w
        have hd6 : k % 6 < 6 := by omega
        have hk6 : k / 6 < k := by omega
        have hk7 : k / 6 < 4294967296 := by omega
        generalize hE : s ++ [let6 (k % 6)] = s2 at *
        generalize k % 6 = d at *
        generalize k / 6 = m2 at *
        clear hE HS
        generalize (⟨[let6 d].toArray⟩ : ByteArray) = E0 at *
        generalize (⟨s.toArray⟩ : ByteArray) = E1 at *
        generalize hE2 : (⟨s2.toArray⟩ : ByteArray) = E2 at *
        have HE2 := Lib.hid hE2
        clear hE2
        go_wp2
        go_round
        case rel => exact ⟨m2, s2, rfl, by rw [HE2.out], hk7, HST⟩
        case measure => simp [intOf]; omega
      · obtain rfl : k = 0 := by omega
        have HW := Lib.hid (spell_word HS.out)
        have hd0 : decide ((0 : Int) < ((0 : Nat) : Int)) = false := by simp
        have G1 := Lib.hid (fun W nm hW => H1.out W nm s hW HW.out hsl)
        have G3 := Lib.hid (fun W nm hW => H3.out W nm s hW HW.out hsl)
        have GG : Hid (∃ gg : ByteArray → Bool, ∀ nm, g nm s = gg nm) := ⟨fun nm => g nm s, fun _ => rfl⟩
        generalize (⟨s.toArray⟩ : ByteArray) = E0 at *
        clear hk HS
        go_wp2
        go_loopw [11] (fun i wr => ∃ j : Nat, j ≤ nl ∧ i = .int .i64 j ∧ Hid (Below w.heap.size w wr)) (fun i _ => nl - (intOf i).toNat)
        case atStart => exact ⟨0, Nat.zero_le _, rfl, KZ⟩
        case round =>
          obtain ⟨j, hj, rfl, HB⟩ := hrel
          have hsz := HB.out.size
          by_cases hlt : j < nl
          · obtain ⟨b0, off, rfl, hb0, hc⟩ := HL.out (by omega)
            have hx : wr.cell? ⟨b0, off + j * 2, none⟩ = some (.string (x j)) := (HB.out.cell (p := ⟨b0, off + j * 2, none⟩) hb0).trans (hc j hlt)
            have hbr : b0 < wr.heap.size := by omega
            clear hc
            generalize x j = nm at *
            have Y := Lib.hid (two_new wr (.int .i64 1) (.string nm) (.string E0) (.int .i64 3) (.string nm) (.string E0) b0 (off + j * 2) (.string nm) hbr hx)
            have HB4 : Hid (Below w.heap.size w ((wr.alloc (.cells #[.int .i64 1, .string nm, .string E0] 37)).alloc (.cells #[.int .i64 3, .string nm, .string E0] 37))) := (HB.out.alloc hsz _).alloc (by simp; omega) _
            go_upto_region 17 with fail
            have hs4 : wr.heap.size + 2 = ((wr.alloc (.cells #[.int .i64 1, .string nm, .string E0] 37)).alloc (.cells #[.int .i64 3, .string nm, .string E0] 37)).heap.size := by simp
            generalize ((wr.alloc (.cells #[.int .i64 1, .string nm, .string E0] 37)).alloc (.cells #[.int .i64 3, .string nm, .string E0] 37)) = W4 at *
            have hw4 := HB4.out.size
            have hj4 : b0 < W4.heap.size := by omega
            have hx4 : wr.heap.size + 1 < W4.heap.size := by omega
            have GA := Lib.hid (fun W (hW : Below W4.heap.size W4 W) => G.out W nm (HB4.out.trans (hW.mono hw4)))
            have GB := Lib.hid (fun W (hW : Below W4.heap.size W4 W) => G1.out W nm (HB4.out.trans (hW.mono hw4)))
            have GC := Lib.hid (fun W (hW : Below W4.heap.size W4 W) => G3.out W nm (HB4.out.trans (hW.mono hw4)))
            generalize g nm s = q at *
            clear hs4 hx HB G G1 G3 GG
            go_region_held3 (fun W => W.cell? ⟨wr.heap.size, 0, none⟩ = some (.int .i64 1) ∧ W.cell? ⟨wr.heap.size, 1, none⟩ = some (.string nm) ∧ W.cell? ⟨wr.heap.size, 2, none⟩ = some (.string E0) ∧ W.cell? ⟨wr.heap.size + 1, 0, none⟩ = some (.int .i64 3) ∧ W.cell? ⟨wr.heap.size + 1, 1, none⟩ = some (.string nm) ∧ W.cell? ⟨wr.heap.size + 1, 2, none⟩ = some (.string E0) ∧ W.cell? ⟨b0, off + j * 2, none⟩ = some (.string nm) ∧ Below W4.heap.size W4 W)
              (first | (exact sev_start Y.out) | (exact sev_step hS0 hb5 hx4 hj4) | assumption)
              (first
                | (have hS0 := ‹World.cell? _ ⟨wr.heap.size, 0, none⟩ = some (.int .i64 1) ∧ World.cell? _ ⟨wr.heap.size, 1, none⟩ = some (.string nm) ∧ World.cell? _ ⟨wr.heap.size, 2, none⟩ = some (.string E0) ∧ World.cell? _ ⟨wr.heap.size + 1, 0, none⟩ = some (.int .i64 3) ∧ World.cell? _ ⟨wr.heap.size + 1, 1, none⟩ = some (.string nm) ∧ World.cell? _ ⟨wr.heap.size + 1, 2, none⟩ = some (.string E0) ∧ World.cell? _ ⟨b0, off + j * 2, none⟩ = some (.string nm) ∧ Below W4.heap.size W4 _›
                   (with_reducible refine (GA.out _ hS0.2.2.2.2.2.2.2).mono ?_)
                   rintro e w' ⟨gs, hgs, rfl, rfl⟩
                   have hgd : decide ((gs.size : Int) ≤ 4000) = true := by simp; omega)
                | (have hS0 := ‹World.cell? _ ⟨wr.heap.size, 0, none⟩ = some (.int .i64 1) ∧ World.cell? _ ⟨wr.heap.size, 1, none⟩ = some (.string nm) ∧ World.cell? _ ⟨wr.heap.size, 2, none⟩ = some (.string E0) ∧ World.cell? _ ⟨wr.heap.size + 1, 0, none⟩ = some (.int .i64 3) ∧ World.cell? _ ⟨wr.heap.size + 1, 1, none⟩ = some (.string nm) ∧ World.cell? _ ⟨wr.heap.size + 1, 2, none⟩ = some (.string E0) ∧ World.cell? _ ⟨b0, off + j * 2, none⟩ = some (.string nm) ∧ Below W4.heap.size W4 _›
                   (with_reducible refine (GB.out _ hS0.2.2.2.2.2.2.2).mono ?_)
                   rintro e w' ⟨rfl, hb5⟩)
                | (have hS0 := ‹World.cell? _ ⟨wr.heap.size, 0, none⟩ = some (.int .i64 1) ∧ World.cell? _ ⟨wr.heap.size, 1, none⟩ = some (.string nm) ∧ World.cell? _ ⟨wr.heap.size, 2, none⟩ = some (.string E0) ∧ World.cell? _ ⟨wr.heap.size + 1, 0, none⟩ = some (.int .i64 3) ∧ World.cell? _ ⟨wr.heap.size + 1, 1, none⟩ = some (.string nm) ∧ World.cell? _ ⟨wr.heap.size + 1, 2, none⟩ = some (.string E0) ∧ World.cell? _ ⟨b0, off + j * 2, none⟩ = some (.string nm) ∧ Below W4.heap.size W4 _›
                   (with_reducible refine (GC.out _ hS0.2.2.2.2.2.2.2).mono ?_)
                   rintro e w' ⟨rfl, hb5⟩))
            have hSE := ‹World.cell? _ ⟨wr.heap.size, 0, none⟩ = some (.int .i64 1) ∧ World.cell? _ ⟨wr.heap.size, 1, none⟩ = some (.string nm) ∧ World.cell? _ ⟨wr.heap.size, 2, none⟩ = some (.string E0) ∧ World.cell? _ ⟨wr.heap.size + 1, 0, none⟩ = some (.int .i64 3) ∧ World.cell? _ ⟨wr.heap.size + 1, 1, none⟩ = some (.string nm) ∧ World.cell? _ ⟨wr.heap.size + 1, 2, none⟩ = some (.string E0) ∧ World.cell? _ ⟨b0, off + j * 2, none⟩ = some (.string nm) ∧ Below W4.heap.size W4 _›
            have HBE := Lib.hid (HB4.out.trans (hSE.2.2.2.2.2.2.2.mono hw4))
            have eqq : (q != q) = false := by simp
            clear hSE GA GB GC Y HL HB4
            go_wp2
            go_roundw
            case rel => exact ⟨j + 1, by omega, by go_num, HBE⟩
            case measure => simp [intOf]; omega
          · go_wp2
            go_ret
            exact ⟨rfl, HB.out⟩
end Go.Proofs.YtahphjaelpgjdaaDoor

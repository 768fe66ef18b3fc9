import Derived.Test.YtencpjhpedenbaaGreatDoorH1
import Derived.Laws.EntriesVeiled
namespace Go.Proofs.YtencpjhpedenbaaGreatDoor
open Go.RowKit Lb
set_option linter.unusedVariables false

theorem cell_kept {W : World} {a : Addr} {v : Value} (o : Obj) (h : W.cell? a = some v) : (W.alloc o).cell? a = some v :=
  (World.cell?_alloc_lt W o a (World.block_lt_of_cell? _ _ h)).trans h
theorem cell_made (W : World) (v : Value) (t : TypeId) : (W.alloc (.cells #[v] t)).cell? ⟨W.heap.size, 0, none⟩ = some v := by
  rw [World.cell?_alloc_at _ _ _ _ (by simp)]; rfl

/-- those of the first k that are wanted -/
def pickTo (P : Lab → Bool) (l : List Lab) (k : Nat) : List Lab := (l.take k).filter P
theorem pickTo_le (P : Lab → Bool) (l : List Lab) (k : Nat) : (pickTo P l k).length ≤ k := Nat.le_trans (List.length_filter_le _ _) (List.length_take_le _ _)
theorem pickTo_next (P : Lab → Bool) (l : List Lab) (k : Nat) (h : k < l.length) : pickTo P l (k + 1) = pickTo P l k ++ (if P (l.getD k e0) = true then [l.getD k e0] else []) := by
  unfold pickTo
  rw [List.take_succ_eq_append_getElem h, List.filter_append]
  have e : l.getD k e0 = l[k] := by simp [h]
  rw [e]
  congr 1
  by_cases hf : P l[k] = true <;> simp [hf]
theorem pickTo_in {P : Lab → Bool} {l : List Lab} {k : Nat} (h : k < l.length) (hp : P (l.getD k e0) = true) : pickTo P l (k + 1) = pickTo P l k ++ [((l.getD k e0).1, (l.getD k e0).2)] := by
  rw [pickTo_next P l k h, if_pos hp]
theorem pickTo_out {P : Lab → Bool} {l : List Lab} {k : Nat} (h : k < l.length) (hp : P (l.getD k e0) = false) : pickTo P l (k + 1) = pickTo P l k := by
  rw [pickTo_next P l k h, if_neg (by rw [hp]; decide), List.append_nil]
theorem pickTo_all (P : Lab → Bool) (l : List Lab) : pickTo P l l.length = l.filter P := by unfold pickTo; rw [List.take_length]
def isIn (ns : List ByteArray) (x : Lab) : Bool := inB ns x.1
def isOut (ns : List ByteArray) (x : Lab) : Bool := !inB ns x.1

theorem has_is (A : Option Addr) (cap : Nat) (ns : List ByteArray) (x y : ByteArray) (r : Bool) (h : inB ns x = r) (w : World) (hN : Sts w A ns) (hl : ns.length ≤ 65536) :
    Calls Tryz.prog 73 #[.slice A ns.length cap, .agg #[.string x, .string y]] w fun e w' => e = .returned (.bool r) ∧ Below w.heap.size w w' := by
  subst h
  exact (has_any A cap ns x y w hN hl).mono fun e w' ⟨he, o, hw⟩ => ⟨he, by subst hw; exact (Below.refl _ _).alloc (Nat.le_refl _) _⟩
theorem hasnt_is (A : Option Addr) (cap : Nat) (ns : List ByteArray) (x y : ByteArray) (g : Nat) (r : Bool) (h : (!inB ns x) = r) (w : World) (hN : Sts w A ns) (hl : ns.length ≤ 65536) (hg : w.cell? ⟨g, 0, none⟩ = some (.func (.func 73) #[.slice A ns.length cap] #[])) :
    Calls Tryz.prog 74 #[.agg #[.string x, .string y], .pointer (some ⟨g, 0, none⟩)] w fun e w' => e = .returned (.bool r) ∧ Below w.heap.size w w' := by
  subst h
  exact (hasnt_any A cap ns x y g w hN hl hg).mono fun e w' ⟨he, o, o', hw⟩ => ⟨he, by subst hw; exact ((Below.refl _ _).alloc (Nat.le_refl _) _).alloc (by simp) _⟩

set_option maxRecDepth 100000 in
set_option maxHeartbeats 2000000 in
theorem those_keep (A N : Option Addr) (cap cn : Nat) (l : List Lab) (ns : List ByteArray) (w : World) (hL : Lbs w A l) (hN : Sts w N ns) (hl : l.length ≤ 65536) (hn : ns.length ≤ 65536) :
    Calls Tryz.prog 72 #[.slice A l.length cap, .func (.func 73) #[.slice N ns.length cn] #[]] w fun e w' => ∃ A' c, e = .returned (.slice A' (l.filter (isIn ns)).length c) ∧ OwnL w' A' c (l.filter (isIn ns)) ∧ Below w.heap.size w w' := by
  obtain ⟨i1, hi1, hy0, hy1, hy2⟩ := info_parts lab_info
  have hmk : i1.bytes * l.length ≤ 281474976710656 := by rw [hy2]; omega
  have CL := Lib.hid (fun W (hW : Below w.heap.size w W) x y r (h : isIn ns (x, y) = r) => has_is N cn ns x y r h W (hN.below hW) hn)
  have HL := Lib.hid hL
  clear hL hN 
  generalize hlen : l.length = n at *
  have HLen := Lib.hid hlen
  clear hlen
  generalize ns.length = nn at *
  generalize hP : isIn ns = P at *
  clear hP
  go_enter Tryz.func72, Tryz.ntmps72
  go_wp2_with (at_make; refine wpList_make_own _ rfl _ _ 34 rfl w.heap.size 61 i1 _ 2 Tryz.underlying34 hi1 hy0 hy1 .i64 .i64 _ n rfl rfl rfl hmk (by unfold maxLen; omega) (Nat.le_refl _) ?_; intro w1 hown1 hgr1)
  have HB1 : Hid (Below w.heap.size w w1) := (Below.refl _ _).grown hgr1 (Nat.le_refl _) (by simp)
  have HO1 := Lib.hid hown1
  clear hown1 hgr1 hmk
  go_loopw [5, 13] (fun v i wr => ∃ k : Nat, k ≤ n ∧ i = .int .i64 k ∧ Hid (wr.ownsRow w.heap.size 61 2 v (pickTo P l k).length (flatL (pickTo P l k))) ∧ Hid (Below w.heap.size w wr)) (fun _ i _ => n - (intOf i).toNat)
  case atStart => exact ⟨0, Nat.zero_le _, rfl, HO1, HB1⟩
  case round =>
    obtain ⟨k, hk, rfl, HO, HB⟩ := hrel
    by_cases hlt : k < n
    · have hkl : k < l.length := by rw [HLen.out]; exact hlt
      obtain ⟨b0, off, rfl, hb0, hc⟩ := HL.out (by omega)
      have hx : wr.cell? ⟨b0, off + k * 2, none⟩ = some (.string (l.getD k e0).1) := (HB.out.cell (p := ⟨b0, off + k * 2, none⟩) hb0).trans (hc k hkl).1
      have hy : wr.cell? ⟨b0, off + k * 2 + 1, none⟩ = some (.string (l.getD k e0).2) := (HB.out.cell (p := ⟨b0, off + k * 2 + 1, none⟩) hb0).trans (hc k hkl).2
      have hsz := HB.out.size
      have hple := pickTo_le P l k
      have HBA := Lib.hid (HB.out.alloc hsz (.cells #[.string (l.getD k e0).1, .string (l.getD k e0).2] 61))
      have HIN := Lib.hid (@pickTo_in P l k hkl)
      have HOUT := Lib.hid (@pickTo_out P l k hkl)
      have CL2 := Lib.hid (fun r (h : P (l.getD k e0) = r) => CL.out _ HBA.out (l.getD k e0).1 (l.getD k e0).2 r h)
      clear hc
      generalize hq : P (l.getD k e0) = q at *
      clear hq
      generalize (l.getD k e0).1 = x at *
      generalize (l.getD k e0).2 = y at *
      cases q with
      | true =>
        have HK := Lib.hid (HIN.out rfl)
        clear HIN HOUT
        go_wp2_with fail
        refine (CL2.out _ rfl).mono ?_
        rintro e w2 ⟨rfl, hb2⟩
        have q1 : w2.cell? ⟨wr.heap.size, 0, none⟩ = some (.string x) := by
          rw [hb2.cell (p := ⟨wr.heap.size, 0, none⟩) (by simp), World.cell?_alloc_at _ _ _ _ rfl]; rfl
        have q2 : w2.cell? ⟨wr.heap.size, 1, none⟩ = some (.string y) := by
          rw [hb2.cell (p := ⟨wr.heap.size, 1, none⟩) (by simp), World.cell?_alloc_at _ _ _ _ rfl]; rfl
        have hs2 : wr.heap.size < w2.heap.size := by have := hb2.size; simp at this; omega
        have HO2 := Lib.hid (own_below (HO.out.alloc _) hb2)
        have HB2 := Lib.hid (HBA.out.trans (hb2.mono (by simp; omega)))
        clear hb2
        go_wp2_with (at_builtin; refine wpList_append_own _ rfl _ _ 34 rfl w.heap.size 61 i1 _ 2 32 Tryz.underlying34 hi1 hy0 hy1 hy2 rfl (by decide) _ _ _ rfl (HO2.out.alloc _) _ 1 1 [.string x, .string y] rfl rfl ?c1 ?c2 ?c3 ?c4 ?c5 ?_)
        case c1 => exact pair_atL _ x y _ (by simp) _
        case c2 => intro u hu; simp at hu; rcases hu with rfl | rfl <;> rfl
        case c3 => unfold maxLen; omega
        case c4 => omega
        case c5 => simp; omega
        intro v' w3 hown3 hgr3 _
        have HO3 := Lib.hid hown3
        have HG3 := Lib.hid hgr3
        clear hown3 hgr3
        go_wp2
        go_roundw
        case rel =>
          refine ⟨k + 1, by omega, by go_num, ?_, ?_⟩
          · rw [HK.out, flatL_append, List.length_append]; exact HO3.out
          · exact (HB2.out.alloc (by omega) _).grown HG3.out (by simp; omega) (fun g hg => (HO.out.lt g hg).1)
        case measure => simp [intOf]; omega
      | false =>
        have HK := Lib.hid (HOUT.out rfl)
        clear HIN HOUT
        go_wp2_with fail
        refine (CL2.out _ rfl).mono ?_
        rintro e w2 ⟨rfl, hb2⟩
        have HO2 := Lib.hid (own_below (HO.out.alloc _) hb2)
        have HB2 := Lib.hid (HBA.out.trans (hb2.mono (by simp; omega)))
        clear hb2
        go_wp2
        go_roundw
        case rel => exact ⟨k + 1, by omega, by go_num, by rw [HK.out]; exact HO2.out, HB2⟩
        case measure => simp [intOf]; omega
    · have hall : pickTo P l k = l.filter P := by rw [← pickTo_all, HLen.out, show n = k by omega]
      obtain ⟨A', c, hv, hpts⟩ := own_lbs rfl HO.out
      rw [hall] at hv hpts
      subst hv
      have HPT := Lib.hid hpts
      clear hpts
      go_wp2
      go_ret
      exact ⟨_, _, rfl, HPT.out, HB.out⟩

set_option maxRecDepth 100000 in
set_option maxHeartbeats 2000000 in
theorem those_drop (A N : Option Addr) (cap cn g : Nat) (l : List Lab) (ns : List ByteArray) (w : World) (hL : Lbs w A l) (hN : Sts w N ns) (hl : l.length ≤ 65536) (hn : ns.length ≤ 65536) (hg : w.cell? ⟨g, 0, none⟩ = some (.func (.func 73) #[.slice N ns.length cn] #[])) :
    Calls Tryz.prog 72 #[.slice A l.length cap, .func (.func 74) #[] #[.pointer (some ⟨g, 0, none⟩)]] w fun e w' => ∃ A' c, e = .returned (.slice A' (l.filter (isOut ns)).length c) ∧ OwnL w' A' c (l.filter (isOut ns)) ∧ Below w.heap.size w w' := by
  obtain ⟨i1, hi1, hy0, hy1, hy2⟩ := info_parts lab_info
  have hmk : i1.bytes * l.length ≤ 281474976710656 := by rw [hy2]; omega
  have CL := Lib.hid (fun W (hW : Below w.heap.size w W) x y r (h : isOut ns (x, y) = r) => hasnt_is N cn ns x y g r h W (hN.below hW) hn ((hW.cell (p := ⟨g, 0, none⟩) (World.block_lt_of_cell? _ _ hg)).trans hg))
  have HL := Lib.hid hL
  clear hL hN hg
  generalize hlen : l.length = n at *
  have HLen := Lib.hid hlen
  clear hlen
  generalize ns.length = nn at *
  generalize hP : isOut ns = P at *
  clear hP
  go_enter Tryz.func72, Tryz.ntmps72
  go_wp2_with (at_make; refine wpList_make_own _ rfl _ _ 34 rfl w.heap.size 61 i1 _ 2 Tryz.underlying34 hi1 hy0 hy1 .i64 .i64 _ n rfl rfl rfl hmk (by unfold maxLen; omega) (Nat.le_refl _) ?_; intro w1 hown1 hgr1)
  have HB1 : Hid (Below w.heap.size w w1) := (Below.refl _ _).grown hgr1 (Nat.le_refl _) (by simp)
  have HO1 := Lib.hid hown1
  clear hown1 hgr1 hmk
  go_loopw [5, 13] (fun v i wr => ∃ k : Nat, k ≤ n ∧ i = .int .i64 k ∧ Hid (wr.ownsRow w.heap.size 61 2 v (pickTo P l k).length (flatL (pickTo P l k))) ∧ Hid (Below w.heap.size w wr)) (fun _ i _ => n - (intOf i).toNat)
  case atStart => exact ⟨0, Nat.zero_le _, rfl, HO1, HB1⟩
  case round =>
    obtain ⟨k, hk, rfl, HO, HB⟩ := hrel
    by_cases hlt : k < n
    · have hkl : k < l.length := by rw [HLen.out]; exact hlt
      obtain ⟨b0, off, rfl, hb0, hc⟩ := HL.out (by omega)
      have hx : wr.cell? ⟨b0, off + k * 2, none⟩ = some (.string (l.getD k e0).1) := (HB.out.cell (p := ⟨b0, off + k * 2, none⟩) hb0).trans (hc k hkl).1
      have hy : wr.cell? ⟨b0, off + k * 2 + 1, none⟩ = some (.string (l.getD k e0).2) := (HB.out.cell (p := ⟨b0, off + k * 2 + 1, none⟩) hb0).trans (hc k hkl).2
      have hsz := HB.out.size
      have hple := pickTo_le P l k
      have HBA := Lib.hid (HB.out.alloc hsz (.cells #[.string (l.getD k e0).1, .string (l.getD k e0).2] 61))
      have HIN := Lib.hid (@pickTo_in P l k hkl)
      have HOUT := Lib.hid (@pickTo_out P l k hkl)
      have CL2 := Lib.hid (fun r (h : P (l.getD k e0) = r) => CL.out _ HBA.out (l.getD k e0).1 (l.getD k e0).2 r h)
      clear hc
      generalize hq : P (l.getD k e0) = q at *
      clear hq
      generalize (l.getD k e0).1 = x at *
      generalize (l.getD k e0).2 = y at *
      cases q with
      | true =>
        have HK := Lib.hid (HIN.out rfl)
        clear HIN HOUT
        go_wp2_with fail
        refine (CL2.out _ rfl).mono ?_
        rintro e w2 ⟨rfl, hb2⟩
        have q1 : w2.cell? ⟨wr.heap.size, 0, none⟩ = some (.string x) := by
          rw [hb2.cell (p := ⟨wr.heap.size, 0, none⟩) (by simp), World.cell?_alloc_at _ _ _ _ rfl]; rfl
        have q2 : w2.cell? ⟨wr.heap.size, 1, none⟩ = some (.string y) := by
          rw [hb2.cell (p := ⟨wr.heap.size, 1, none⟩) (by simp), World.cell?_alloc_at _ _ _ _ rfl]; rfl
        have hs2 : wr.heap.size < w2.heap.size := by have := hb2.size; simp at this; omega
        have HO2 := Lib.hid (own_below (HO.out.alloc _) hb2)
        have HB2 := Lib.hid (HBA.out.trans (hb2.mono (by simp; omega)))
        clear hb2
        go_wp2_with (at_builtin; refine wpList_append_own _ rfl _ _ 34 rfl w.heap.size 61 i1 _ 2 32 Tryz.underlying34 hi1 hy0 hy1 hy2 rfl (by decide) _ _ _ rfl (HO2.out.alloc _) _ 1 1 [.string x, .string y] rfl rfl ?c1 ?c2 ?c3 ?c4 ?c5 ?_)
        case c1 => exact pair_atL _ x y _ (by simp) _
        case c2 => intro u hu; simp at hu; rcases hu with rfl | rfl <;> rfl
        case c3 => unfold maxLen; omega
        case c4 => omega
        case c5 => simp; omega
        intro v' w3 hown3 hgr3 _
        have HO3 := Lib.hid hown3
        have HG3 := Lib.hid hgr3
        clear hown3 hgr3
        go_wp2
        go_roundw
        case rel =>
          refine ⟨k + 1, by omega, by go_num, ?_, ?_⟩
          · rw [HK.out, flatL_append, List.length_append]; exact HO3.out
          · exact (HB2.out.alloc (by omega) _).grown HG3.out (by simp; omega) (fun g hg => (HO.out.lt g hg).1)
        case measure => simp [intOf]; omega
      | false =>
        have HK := Lib.hid (HOUT.out rfl)
        clear HIN HOUT
        go_wp2_with fail
        refine (CL2.out _ rfl).mono ?_
        rintro e w2 ⟨rfl, hb2⟩
        have HO2 := Lib.hid (own_below (HO.out.alloc _) hb2)
        have HB2 := Lib.hid (HBA.out.trans (hb2.mono (by simp; omega)))
        clear hb2
        go_wp2
        go_roundw
        case rel => exact ⟨k + 1, by omega, by go_num, by rw [HK.out]; exact HO2.out, HB2⟩
        case measure => simp [intOf]; omega
    · have hall : pickTo P l k = l.filter P := by rw [← pickTo_all, HLen.out, show n = k by omega]
      obtain ⟨A', c, hv, hpts⟩ := own_lbs rfl HO.out
      rw [hall] at hv hpts
      subst hv
      have HPT := Lib.hid hpts
      clear hpts
      go_wp2
      go_ret
      exact ⟨_, _, rfl, HPT.out, HB.out⟩

theorem keep_any (A N : Option Addr) (cap cn : Nat) (l : List Lab) (ns : List ByteArray) (w : World) (hL : Lbs w A l) (hN : Sts w N ns) (hl : l.length ≤ 65536) (hn : ns.length ≤ 65536) :
    Calls Tryz.prog 57 #[.slice A l.length cap, .slice N ns.length cn] w fun e w' => ∃ A' c, e = .returned (.slice A' (l.filter (isIn ns)).length c) ∧ OwnL w' A' c (l.filter (isIn ns)) ∧ Below w.heap.size w w' := by
  have H := Lib.hid (those_keep A N cap cn l ns w hL hN hl hn)
  have hmf : ∀ (fn : Fn) (first cap : Array Value) (w : World), (Instr.makeFunc fn first cap).run Tryz.prog w = .ok (.func fn first cap) w := fun _ _ _ _ => rfl
  clear hL hN
  generalize l.filter (isIn ns) = o at *
  generalize l.length = n at *
  generalize ns.length = m at *
  go_enter Tryz.func57, Tryz.ntmps57
  go_wp2_with fail
  refine (H.out).mono ?_
  rintro e w1 ⟨A', c, rfl, ho, hb⟩
  have HO := Lib.hid ho
  clear ho
  go_wp2
  go_ret
  exact ⟨_, _, rfl, HO.out, hb⟩
theorem drop_any (A N : Option Addr) (cap cn : Nat) (l : List Lab) (ns : List ByteArray) (w : World) (hL : Lbs w A l) (hN : Sts w N ns) (hl : l.length ≤ 65536) (hn : ns.length ≤ 65536) :
    Calls Tryz.prog 58 #[.slice A l.length cap, .slice N ns.length cn] w fun e w' => ∃ A' c, e = .returned (.slice A' (l.filter (isOut ns)).length c) ∧ OwnL w' A' c (l.filter (isOut ns)) ∧ Below w.heap.size w w' := by
  have hb0 : Below w.heap.size w (w.alloc (.cells #[.func (.func 73) #[.slice N ns.length cn] #[]] 106)) := (Below.refl _ _).alloc (Nat.le_refl _) _
  have H := Lib.hid (those_drop A N cap cn w.heap.size l ns _ (hL.below hb0) (hN.below hb0) hl hn (cell_made w _ 106))
  have hmf : ∀ (fn : Fn) (first cap : Array Value) (w : World), (Instr.makeFunc fn first cap).run Tryz.prog w = .ok (.func fn first cap) w := fun _ _ _ _ => rfl
  clear hL hN
  generalize l.filter (isOut ns) = o at *
  generalize l.length = n at *
  generalize ns.length = m at *
  go_enter Tryz.func58, Tryz.ntmps58
  go_wp2_with fail
  refine (H.out).mono ?_
  rintro e w1 ⟨A', c, rfl, ho, hb⟩
  have HO := Lib.hid ho
  clear ho
  go_wp2
  go_ret
  exact ⟨_, _, rfl, HO.out, hb0.trans (hb.mono (by simp))⟩
end Go.Proofs.YtencpjhpedenbaaGreatDoor

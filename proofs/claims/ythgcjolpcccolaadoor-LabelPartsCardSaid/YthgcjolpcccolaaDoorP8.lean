import Derived.Test.YthgcjolpcccolaaDoorP6
import Derived.Test.YthgcjolpcccolaaDoorK3
namespace Go.Proofs.YthgcjolpcccolaaDoor
open Go.RowKit Lb
set_option linter.unusedVariables false

set_option maxHeartbeats 1000000 in
theorem refget_any (A : Option Addr) (cap : Nat) (l : List Lab) (s : ByteArray) (w : World) (hL : Lbs w A l) (hl : l.length ≤ 65536) :
    Calls Tryd.prog 18 #[.slice A l.length cap, .string s] w fun e w' => e = .returned (.string (getF l s)) ∧ w = w' := by
  generalize hr : getF l s = r
  have HL := Lib.hid hL
  clear hL
  generalize hn : l.length = n at *
  have HN := Lib.hid hn
  have HR : Hid (getF (l.drop 0) s = r) := by rw [List.drop_zero]; exact hr
  clear hn hr
  go_enter Tryd.func18, Tryd.ntmps18
  go_wp2
  go_loop [5] (fun i => ∃ k : Nat, k ≤ n ∧ i = .int .i64 k ∧ Hid (getF (l.drop k) s = r)) (fun i => n - (intOf i).toNat)
  case atStart => exact ⟨0, Nat.zero_le _, rfl, HR⟩
  case round =>
    obtain ⟨k, hk, rfl, HC⟩ := hrel
    by_cases hlt : k < n
    · have hkl : k < l.length := by rw [HN.out]; exact hlt
      obtain ⟨b0, off, rfl, hb0, hc⟩ := HL.out (by omega)
      have hx := (hc k hkl).1
      have hy := (hc k hkl).2
      have hstep := HC.out
      have eg : l.getD k e0 = l[k] := by simp [hkl]
      rw [List.drop_eq_getElem_cons hkl, getF, ← eg] at hstep
      have hq : seqB (l.getD k e0).1 s = ((l.getD k e0).1.toList == s.toList) := rfl
      rw [hq] at hstep
      clear hc hq eg
      generalize (l.getD k e0).1 = x at *
      generalize (l.getD k e0).2 = y at *
      have d : decide (k < n) = true := by simpa using hlt
      cases hs : (x.toList == s.toList) with
      | true =>
        rw [hs, if_pos rfl] at hstep
        subst hstep
        go_wp2
        go_ret
        exact ⟨rfl, rfl⟩
      | false =>
        rw [hs, if_neg (by decide)] at hstep
        have HS := Lib.hid hstep
        clear hstep
        go_wp2
        go_round
        case rel => exact ⟨k + 1, by omega, by go_num, HS⟩
        case measure => simp [intOf]; omega
    · have hf : r = ⟨#[]⟩ := by
        have := HC.out
        rw [List.drop_eq_nil_of_le (by rw [HN.out]; omega), getF] at this
        exact this.symm
      subst hf
      have d : decide (k < n) = false := by simpa using hlt
      go_wp2
      go_ret
      exact ⟨rfl, rfl⟩

/-- those of which a test says what is asked -/
def isAs (ns : List ByteArray) (b : Bool) (x : Lab) : Bool := inB ns x.1 == b
theorem isAs_true (ns : List ByteArray) : isAs ns true = isIn ns := by funext x; simp [isAs, isIn]
theorem isAs_false (ns : List ByteArray) : isAs ns false = isOut ns := by funext x; simp [isAs, isOut]
def inTo (ns : List ByteArray) (s : ByteArray) (k : Nat) : Bool := (ns.take k).any fun x => x.toList == s.toList
theorem inTo_next (ns : List ByteArray) (s : ByteArray) (k : Nat) (h : k < ns.length) : inTo ns s (k + 1) = (inTo ns s k || ((ns.getD k ⟨#[]⟩).toList == s.toList)) := by
  unfold inTo
  rw [List.take_succ_eq_append_getElem h, List.any_append]
  simp [h]
theorem inTo_all (ns : List ByteArray) (s : ByteArray) : inTo ns s ns.length = inB ns s := by
  unfold inTo inB
  rw [List.take_length]
  congr 1
  funext x
  unfold seqB
  exact Bool.beq_comm

set_option maxRecDepth 100000 in
set_option maxHeartbeats 4000000 in
theorem part_any (A N : Option Addr) (cap cn : Nat) (l : List Lab) (ns : List ByteArray) (b : Bool) (w : World) (hL : Lbs w A l) (hN : Sts w N ns) (hl : l.length ≤ 65536) (hn : ns.length ≤ 65536) :
    Calls Tryd.prog 22 #[.slice A l.length cap, .slice N ns.length cn, .bool b] w fun e w' => ∃ A' c, e = .returned (.slice A' (l.filter (isAs ns b)).length c) ∧ OwnL w' A' c (l.filter (isAs ns b)) ∧ Below w.heap.size w w' := by
  obtain ⟨i1, hi1, hy0, hy1, hy2⟩ := info_parts lab_info
  have HL := Lib.hid hL
  have HNS := Lib.hid hN
  have HALL := Lib.hid (pickTo_all (isAs ns b) l)
  have HPL := Lib.hid (pickTo_le (isAs ns b) l)
  have HPI := Lib.hid (fun k => @pickTo_in (isAs ns b) l k)
  have HPO := Lib.hid (fun k => @pickTo_out (isAs ns b) l k)
  have HIN := Lib.hid (inTo_next ns)
  have HIA := Lib.hid (inTo_all ns)
  have HIS := Lib.hid (fun k => show isAs ns b (l.getD k e0) = (inB ns (l.getD k e0).1 == b) from rfl)
  have HI0 := Lib.hid (fun s => show inTo ns s 0 = false from rfl)
  have HP0 := Lib.hid (show pickTo (isAs ns b) l 0 = [] from rfl)
  generalize inTo ns = IT at *
  generalize inB ns = IB at *
  generalize isAs ns b = P at *
  clear hL hN
  generalize hm : ns.length = m at *
  have HM := Lib.hid hm
  generalize hnn : l.length = n at *
  have HN := Lib.hid hnn
  clear hm hnn
  go_enter Tryd.func22, Tryd.ntmps22
  go_wp2
  go_loopw [7, 8] (fun v i wr => ∃ k : Nat, k ≤ n ∧ i = .int .i64 k ∧ Hid (wr.ownsRow w.heap.size 41 2 v (pickTo P l k).length (flatL (pickTo P l k))) ∧ Hid (Below w.heap.size w wr)) (fun _ i _ => n - (intOf i).toNat)
  case atStart => exact ⟨0, Nat.zero_le _, rfl, by rw [HP0.out]; exact World.ownsRow_nil _ _ _ _, Below.refl _ _⟩
  case round =>
    obtain ⟨k, hk, rfl, HO, HB⟩ := hrel
    by_cases hlt : k < n
    · have hkl : k < l.length := by rw [HN.out]; exact hlt
      obtain ⟨b0, off, rfl, hb0, hc⟩ := HL.out (by omega)
      have hx : wr.cell? ⟨b0, off + k * 2, none⟩ = some (.string (l.getD k e0).1) := (HB.out.cell (p := ⟨b0, off + k * 2, none⟩) hb0).trans (hc k hkl).1
      have hy : wr.cell? ⟨b0, off + k * 2 + 1, none⟩ = some (.string (l.getD k e0).2) := (HB.out.cell (p := ⟨b0, off + k * 2 + 1, none⟩) hb0).trans (hc k hkl).2
      have hsz := HB.out.size
      have hbr : b0 < wr.heap.size := by omega
      have PI := Lib.hid (HPI.out k hlt)
      have PO := Lib.hid (HPO.out k hlt)
      have IS := Lib.hid (HIS.out k)
      have hple := HPL.out k
      clear hc
      have IS2 := Lib.hid (fun (q : Bool) (hq : IB (l.getD k e0).1 = q) => by rw [IS.out, hq] : ∀ q, IB (l.getD k e0).1 = q → P (l.getD k e0) = (q == b))
      clear IS
      generalize P (l.getD k e0) = pk at *
      generalize (l.getD k e0).1 = x at *
      generalize (l.getD k e0).2 = y at *
      have d : decide (k < n) = true := by simpa using hlt
      go_wp2
      go_loopw [9, 10] (fun q i wq => ∃ j nd : Nat, j ≤ m ∧ i = .int .i64 j ∧ q = .bool (IT x j) ∧ wq = wr.drewN nd) (fun _ i _ => m - (intOf i).toNat)
      case atStart => exact ⟨0, 0, Nat.zero_le _, rfl, by rw [HI0.out], rfl⟩
      case round =>
        obtain ⟨j, nd, hj, rfl, rfl, rfl⟩ := hrel
        by_cases hjt : j < m
        · have dj : decide (j < m) = true := by simpa using hjt
          have hjl : j < ns.length := by rw [HM.out]; exact hjt
          obtain ⟨b1, off1, rfl, hb1, hc1⟩ := HNS.out (by omega)
          have hz : wr.cell? ⟨b1, off1 + j, none⟩ = some (.string (ns.getD j ⟨#[]⟩)) := (HB.out.cell (p := ⟨b1, off1 + j, none⟩) hb1).trans (hc1 j hjl)
          have hnx := HIN.out x j hjt
          clear hc1
          generalize ns.getD j ⟨#[]⟩ = z at *
          have HNX := Lib.hid hnx
          clear hnx
          cases hit : IT x j with
          | true =>
            rw [hit] at HNX
            go_wp2_with fail
            go_quiet (fail)
            go_wp2
            go_roundw
            case rel => exact ⟨j + 1, _, by omega, by go_num, by rw [HNX.out]; rfl, rfl⟩
            case measure => simp [intOf]; omega
          | false =>
            rw [hit] at HNX
            go_wp2_with fail
            go_quiet (fail)
            go_wp2
            go_roundw
            case rel => exact ⟨j + 1, _, by omega, by go_num, by rw [HNX.out]; rfl, rfl⟩
            case measure => simp [intOf]; omega
        · have dj : decide (j < m) = false := by simpa using hjt
          obtain rfl : j = m := by omega
          have hib : IT x j = IB x := HIA.out x
          have hpk := IS2.out _ rfl
          rw [hib]
          generalize IB x = ib at *
          have HBd : Hid (Below w.heap.size w (wr.drewN nd)) := bel_drawn HB.out _
          cases hpb : (ib == b) with
          | true =>
            rw [hpb] at hpk
            have HPK := Lib.hid (PI.out hpk)
            have hx' : (wr.drewN nd).cell? ⟨b0, off + k * 2, none⟩ = some (.string x) := hx
            have hy' : (wr.drewN nd).cell? ⟨b0, off + k * 2 + 1, none⟩ = some (.string y) := hy
            have HOd : Hid ((wr.drewN nd).ownsRow w.heap.size 41 2 u7 (pickTo P l k).length (flatL (pickTo P l k))) := HO.out
            generalize wr.drewN nd = wd at *
            have hszd := HBd.out.size
            go_wp2_with (at_builtin; refine wpList_append_own _ rfl _ _ 22 rfl w.heap.size 41 i1 _ 2 32 Tryd.underlying22 hi1 hy0 hy1 hy2 rfl (by decide) _ _ _ rfl (HOd.out.alloc _) _ 1 1 [.string x, .string y] rfl rfl ?c1 ?c2 ?c3 ?c4 ?c5 ?_)
            case c1 => exact pair_atL _ x y _ (by simp) _
            case c2 => intro u hu; simp at hu; rcases hu with rfl | rfl <;> rfl
            case c3 => unfold maxLen; omega
            case c4 => omega
            case c5 => simp; omega
            intro v' w3 hown3 hgr3 _
            have HO3 := Lib.hid hown3
            have HB3 : Hid (Below w.heap.size w w3) := (HBd.out.alloc hszd _).grown hgr3 (by simp; omega) (fun g hg => (HOd.out.lt g hg).1)
            clear hown3 hgr3
            go_wp2
            go_roundw
            case rel => exact ⟨k + 1, by omega, by go_num, by rw [HPK.out, flatL_append, List.length_append]; exact HO3.out, HB3⟩
            case measure => simp [intOf]; omega
          | false =>
            rw [hpb] at hpk
            have HPK := Lib.hid (PO.out hpk)
            go_wp2
            go_roundw
            case rel => exact ⟨k + 1, by omega, by go_num, by rw [HPK.out]; exact HO, HBd⟩
            case measure => simp [intOf]; omega
    · obtain rfl : k = n := by omega
      have d : decide (k < k) = false := by simp
      have HO2 : Hid (wr.ownsRow w.heap.size 41 2 u7 (l.filter P).length (flatL (l.filter P))) := by
        have := HO.out
        rw [HALL.out] at this
        exact this
      obtain ⟨A', c, hv, ho⟩ := own_lbs rfl HO2.out
      subst hv
      have HOL := Lib.hid ho
      clear ho HO HO2
      go_wp2
      go_ret
      exact ⟨A', c, rfl, HOL.out, HB.out⟩
end Go.Proofs.YthgcjolpcccolaaDoor

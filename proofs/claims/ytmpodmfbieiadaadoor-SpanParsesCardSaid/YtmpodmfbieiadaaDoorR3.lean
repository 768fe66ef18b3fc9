import Derived.Test.YtmpodmfbieiadaaDoorR2
import Derived.Deep.DeepCutAuto
import Derived.Deep.CutBlock
namespace Go.Proofs.YtmpodmfbieiadaaDoor
open Go.RowKit Sp Go.Shelf
set_option linter.unusedVariables false

def AllL (l : List UInt8) (k : Nat) : Prop := ∀ i (hi : i < l.length), i < k → isL l[i] = true
theorem allL_zero (l : List UInt8) : AllL l 0 := fun _ _ h => absurd h (Nat.not_lt_zero _)
theorem allL_succ {l : List UInt8} {k : Nat} (h : AllL l k) (hk : k < l.length) (hd : isL l[k] = true) : AllL l (k + 1) := by
  intro i hi hik
  by_cases e : i = k
  · subst e; exact hd
  · exact h i hi (by omega)
theorem let_end {l : List UInt8} {k : Nat} (hk : k ≤ l.length) (h : AllL l k) (h' : ∀ (hi : k < l.length), isL l[k] = false) : lets l = l.take k :=
  (takeWhile_cut hk h h').1

/-- what part hands back -/
def partVal (s : ByteArray) (p : Nat) : Value :=
  if (rest (s.data.toList.drop p)).length = (s.data.toList.drop p).length ∨ findF (lets (rest (s.data.toList.drop p))) 0 = 7 then .tuple #[.int .i64 0, .int .i64 0, .int .i64 0, .bool false]
  else .tuple #[.int .i64 (numN (s.data.toList.drop p) : Nat), .int .i64 (findF (lets (rest (s.data.toList.drop p))) 0 : Nat), .int .i64 (s.size - (tail (rest (s.data.toList.drop p))).length : Nat), .bool true]
theorem drop_at (s : ByteArray) (p a : Nat) (hpa : p ≤ a) (h : a < s.size) : ∃ h', (s.data.toList.drop p)[a - p]'h' = s[a]'h := by
  have h1 : a < s.data.toList.length := by rw [← Lib.size_eq]; exact h
  refine ⟨by rw [List.length_drop]; omega, ?_⟩
  rw [List.getElem_drop]
  rw [← data_at s a h h1]
  congr 1
  omega

set_option maxRecDepth 100000 in
set_option maxHeartbeats 4000000 in
theorem part_any (s : ByteArray) (p : Nat) (w : World) (hs : s.size ≤ 200) (hp : p ≤ s.size) :
    Calls Tryd.prog 15 #[.string s, .int .i64 p] w fun e w' => e = .returned (partVal s p) ∧ Below w.heap.size w w' := by
  generalize hv : partVal s p = v
  have HV := Lib.hid hv
  clear hv
  have HSZ := Lib.hid (Lib.size_eq s)
  go_enter Tryd.func15, Tryd.ntmps15
  go_upto_block 0 with fail
  go_cut [1, 8] (fun s1 s8 wx => ∃ a : Nat, p ≤ a ∧ a ≤ s.size ∧ s1 = .int .i64 a ∧ s8 = .int .i64 (numN (s.data.toList.drop p) : Nat) ∧ Hid (s.data.toList.drop a = rest (s.data.toList.drop p)) ∧ w = wx)
  case first =>
    go_wp2
    go_loop [1, 8] (fun s1 s8 => ∃ a : Nat, p ≤ a ∧ a ≤ s.size ∧ s1 = .int .i64 a ∧ s8 = .int .i64 (numTo (s.data.toList.drop p) (a - p) : Nat) ∧ Hid (AllD (s.data.toList.drop p) (a - p))) (fun s1 _ => s.size - (intOf s1).toNat)
    case atStart => exact ⟨p, Nat.le_refl _, hp, rfl, by rw [Nat.sub_self]; rfl, by rw [Nat.sub_self]; exact allD_zero _⟩
    case round =>
      obtain ⟨a, hpa, has, rfl, rfl, HA⟩ := hrel
      have hle := numTo_le (s.data.toList.drop p) (a - p)
      by_cases hlt : a < s.size
      · obtain ⟨hi, hx⟩ := drop_at s p a hpa hlt
        have HSU := Lib.hid (numTo_succ (s.data.toList.drop p) (a - p) hi)
        have HAS := Lib.hid (@allD_succ (s.data.toList.drop p) (a - p) HA.out hi)
        have HEND := Lib.hid (@num_end (s.data.toList.drop p) (a - p) (Nat.le_of_lt hi) HA.out)
        have hap : a - p + 1 = a + 1 - p := by omega
        rw [hap, hx] at HSU
        rw [hap, hx] at HAS
        rw [List.drop_drop, show p + (a - p) = a by omega] at HEND
        have HX := Lib.hid hx
        clear hx hap
        cases hd : isD s[a] with
        | true =>
          have hd' := (isD_iff _).1 hd
          have b1 : (48 : Int) ≤ (s[a].toNat : Int) := by omega
          have b2 : (s[a].toNat : Int) ≤ 57 := by omega
          have HS : Hid (AllD (s.data.toList.drop p) (a + 1 - p)) := HAS.out hd
          clear hd hd'
          generalize numTo (s.data.toList.drop p) (a - p) = n at *
          have HST := Lib.hid (step_int n s[a] b1)
          by_cases hc : (35184372088833 : Int) < 10 * (n : Int) + ((s[a].toNat : Int) - 48)
          · rw [if_pos hc] at HST
            go_wp2
            go_round
            case rel => exact ⟨a + 1, by omega, by omega, by go_num, by rw [HSU.out, ← HST.out], HS⟩
            case measure => simp [intOf]; omega
          · rw [if_neg hc] at HST
            go_wp2
            go_round
            case rel => exact ⟨a + 1, by omega, by omega, by go_num, by rw [HSU.out, ← HST.out], HS⟩
            case measure => simp [intOf]; omega
        | false =>
          have HE := Lib.hid (HEND.out (fun _ => by rw [HX.out]; exact hd))
          have hd' : ¬ (48 ≤ s[a].toNat ∧ s[a].toNat ≤ 57) := fun h => by rw [(isD_iff _).2 h] at hd; cases hd
          have HE1 := Lib.hid HE.out.1
          clear hd hle
          generalize numTo (s.data.toList.drop p) (a - p) = n at *
          by_cases h1 : s[a].toNat < 48
          · have d1 : ¬ (48 : Int) ≤ (s[a].toNat : Int) := by omega
            clear hd'
            go_wp2
            go_meet
            exact ⟨a, hpa, has, rfl, by rw [HE1.out], HE.out.2, rfl⟩
          · have d1 : (48 : Int) ≤ (s[a].toNat : Int) := by omega
            have d2 : ¬ (s[a].toNat : Int) ≤ 57 := by omega
            clear hd'
            go_wp2
            go_meet
            exact ⟨a, hpa, has, rfl, by rw [HE1.out], HE.out.2, rfl⟩
      · have hz := HSZ.out
        have HE := Lib.hid (@num_end (s.data.toList.drop p) (a - p) (by rw [List.length_drop]; omega) HA.out (fun h => by rw [List.length_drop] at h; omega))
        rw [List.drop_drop, show p + (a - p) = a by omega] at HE
        have HE1 := Lib.hid HE.out.1
        have d : decide (a < s.size) = false := by simpa using hlt
        clear hz hle
        generalize numTo (s.data.toList.drop p) (a - p) = n at *
        go_wp2
        go_meet
        exact ⟨a, hpa, has, rfl, by rw [HE1.out], HE.out.2, rfl⟩
  case rest =>
    obtain ⟨a, hpa, has, rfl, rfl, HR, rfl⟩ := hcut
    go_upto_block 2 with fail
    go_cut [10] (fun s10 wx => ∃ b : Nat, a ≤ b ∧ b ≤ s.size ∧ s10 = .int .i64 b ∧ Hid (lets (s.data.toList.drop a) = (s.data.toList.drop a).take (b - a)) ∧ w = wx)
    case first =>
      go_wp2
      go_loop [10] (fun s10 => ∃ b : Nat, a ≤ b ∧ b ≤ s.size ∧ s10 = .int .i64 b ∧ Hid (AllL (s.data.toList.drop a) (b - a))) (fun s10 => s.size - (intOf s10).toNat)
      case atStart => exact ⟨a, Nat.le_refl _, has, rfl, by rw [Nat.sub_self]; exact allL_zero _⟩
      case round =>
        obtain ⟨b, hab, hbs, rfl, HA⟩ := hrel
        by_cases hlt : b < s.size
        · obtain ⟨hi, hx⟩ := drop_at s a b hab hlt
          have HAS := Lib.hid (@allL_succ (s.data.toList.drop a) (b - a) HA.out hi)
          have HEND := Lib.hid (@let_end (s.data.toList.drop a) (b - a) (Nat.le_of_lt hi) HA.out)
          rw [show b - a + 1 = b + 1 - a by omega, hx] at HAS
          have HX := Lib.hid hx
          clear hx
          cases hd : isD s[b] with
          | true =>
            have HE := Lib.hid (HEND.out (fun _ => by rw [HX.out]; unfold isL; rw [hd]; rfl))
            have hd' := (isD_iff _).1 hd
            have b1 : ¬ (s[b].toNat : Int) < 48 := by omega
            have b2 : ¬ (57 : Int) < (s[b].toNat : Int) := by omega
            clear hd hd'
            go_wp2
            go_meet
            exact ⟨b, hab, hbs, rfl, HE, rfl⟩
          | false =>
            have HS : Hid (AllL (s.data.toList.drop a) (b + 1 - a)) := HAS.out (by unfold isL; rw [hd]; rfl)
            have hd' : ¬ (48 ≤ s[b].toNat ∧ s[b].toNat ≤ 57) := fun h => by rw [(isD_iff _).2 h] at hd; cases hd
            clear hd
            by_cases h1 : s[b].toNat < 48
            · have d1 : (s[b].toNat : Int) < 48 := by omega
              clear hd'
              go_wp2
              go_round
              case rel => exact ⟨b + 1, by omega, by omega, by go_num, HS⟩
              case measure => simp [intOf]; omega
            · have d1 : ¬ (s[b].toNat : Int) < 48 := by omega
              have d2 : (57 : Int) < (s[b].toNat : Int) := by omega
              clear hd'
              go_wp2
              go_round
              case rel => exact ⟨b + 1, by omega, by omega, by go_num, HS⟩
              case measure => simp [intOf]; omega
        · have hz := HSZ.out
          have HE := Lib.hid (@let_end (s.data.toList.drop a) (b - a) (by rw [List.length_drop]; omega) HA.out (fun h => by rw [List.length_drop] at h; omega))
          have d : decide (b < s.size) = false := by simpa using hlt
          clear hz
          go_wp2
          go_meet
          exact ⟨b, hab, hbs, rfl, HE, rfl⟩
    case rest =>
      obtain ⟨b, hab, hbs, rfl, HLE, rfl⟩ := hcut
      go_wp2_with fail
      refine (unitsl_any _).mono ?_
      rintro e w1 ⟨rfl, l1, b1, s1⟩
      have HL1 := Lib.hid l1
      have HB1 := Lib.hid b1
      clear l1 b1
      generalize hBB : w.heap.size = B at *
      have HV1 := HV.out
      unfold partVal at HV1
      rw [← HR.out] at HV1
      have hlr : (s.data.toList.drop a).length = s.size - a := by rw [List.length_drop, ← HSZ.out]
      have hlp : (s.data.toList.drop p).length = s.size - p := by rw [List.length_drop, ← HSZ.out]
      rw [hlr, hlp] at HV1
      have htl : (tail (s.data.toList.drop a)).length = s.size - b := by
        rw [← tail_drop, List.length_drop, HLE.out, List.length_take, hlr]
        omega
      rw [htl, show s.size - (s.size - b) = b by omega] at HV1
      have HNM : Hid (s.extract a b = ⟨(lets (s.data.toList.drop a)).toArray⟩) := str_ext (by rw [Lib.extract_data, HLE.out])
      generalize numN (s.data.toList.drop p) = n at *
      generalize lets (s.data.toList.drop a) = nm at *
      have HV2 := Lib.hid HV1
      clear HV1 hlr hlp htl HLE HR HV
      by_cases hpe : p = a
      · subst hpe
        have hv : v = .tuple #[.int .i64 0, .int .i64 0, .int .i64 0, .bool false] := by
          rw [← HV2.out, if_pos (.inl rfl)]
        subst hv
        have dg : decide (p < p) = false := by simp
        go_wp2_with fail
        go_loopg [12] 7 (fun g s12 wx => ∃ k : Nat, k + g = 7 ∧ s12 = .int .i64 k ∧ Hid (Below B w wx))
        case atStart => exact ⟨0, by omega, rfl, HB1.out⟩
        case round =>
          obtain ⟨k, hkg, rfl, HB⟩ := hrel
          by_cases hk : k < 7
          · obtain ⟨g, rfl⟩ : ∃ g, gk = g + 1 := ⟨gk - 1, by omega⟩
            go_wp2_with fail
            go_quiet (fail)
            go_wp2
            go_roundg g
            case measure => omega
            case rel => exact ⟨k + 1, by omega, by go_num, bel_drawn HB.out _⟩
          · obtain rfl : k = 7 := by omega
            go_wp2
            exact bodyPost_ret (v := .tuple #[.int .i64 0, .int .i64 0, .int .i64 0, .bool false]) (by simp [results, Tryd.results15, go_sem]) rfl ⟨rfl, by rw [hBB]; exact HB.out⟩
      · have hpa' : p < a := by omega
        have dg : decide ((p : Int) < (a : Int)) = true := by simp; omega
        have dg' : decide (p < a) = true := by simpa using hpa'
        have sl : ∀ wx, (Instr.slice 9 (.string s) (some (.int .i64 a)) (some (.int .i64 b)) none).run Tryd.prog wx = .ok (.string (s.extract a b)) wx := fun wx => by
          have := run_slice_string (P := Tryd.prog) wx 9 s .i64 .i64 (a : Int) (b : Int) Tryd.underlying9 (by omega) (by omega) (by omega)
          simpa using this
        rw [HNM.out] at sl
        clear HNM
        have HBB := Lib.hid hBB
        clear hBB
        go_wp2_with fail
        go_loopg [12] 7 (fun g s12 wx => ∃ k q : Nat, k + g = 7 ∧ s12 = .int .i64 k ∧ Hid (NoneTo nm 0 k) ∧ wx = w1.drewN q)
        case atStart => exact ⟨0, 0, by omega, rfl, fun i h1 h2 => absurd h2 (by omega), rfl⟩
        case round =>
          obtain ⟨k, q, hkg, rfl, HN, rfl⟩ := hrel
          by_cases hk : k < 7
          · obtain ⟨g, rfl⟩ : ∃ g, gk = g + 1 := ⟨gk - 1, by omega⟩
            have hc : (w1.drewN q).cell? ⟨B, k, none⟩ = some (.string ⟨(nameAt k).toArray⟩) := HL1.out k hk
            have HB2 := Lib.hid (bel_drawn HB1.out q)
            generalize hw2 : w1.drewN q = w2 at *
            have HW2 := Lib.hid hw2
            clear hw2
            have k0 : (0 : Int) ≤ (k : Int) := by omega
            have k7 : (k : Int) < 7 := by omega
            by_cases he : nameAt k = nm
            · have e1 : ((⟨nm.toArray⟩ : ByteArray).toList == (⟨(nameAt k).toArray⟩ : ByteArray).toList) = true := by rw [he]; simp
              have hf : findF nm 0 = k := findGo_at _ _ k (by omega) (by omega) hk (fun i h1 h2 => HN.out i h1 h2) he
              have hv : v = .tuple #[.int .i64 n, .int .i64 k, .int .i64 b, .bool true] := by
                rw [← HV2.out, if_neg (by rintro (h | h) <;> omega), hf]
              subst hv
              clear he hf HV2
              generalize (⟨nm.toArray⟩ : ByteArray) = E1 at *
              generalize (⟨(nameAt k).toArray⟩ : ByteArray) = E2 at *
              go_wp2_with fail
              go_quiet (fail)
              go_wp2
              exact bodyPost_ret (v := .tuple #[.int .i64 n, .int .i64 k, .int .i64 b, .bool true]) (by simp [results, Tryd.results15, go_sem]) rfl ⟨rfl, by rw [HBB.out]; exact bel_drawn HB2.out _⟩
            · have e1 : ((⟨nm.toArray⟩ : ByteArray).toList == (⟨(nameAt k).toArray⟩ : ByteArray).toList) = false := by rw [Lib.toList_data, Lib.toList_data]; simpa using fun e => he e.symm
              have HS : Hid (NoneTo nm 0 (k + 1)) := fun i h1 h2 => by
                by_cases e : i = k
                · subst e; exact he
                · exact HN.out i h1 (by omega)
              clear he
              generalize (⟨nm.toArray⟩ : ByteArray) = E1 at *
              generalize (⟨(nameAt k).toArray⟩ : ByteArray) = E2 at *
              go_wp2_with fail
              go_quiet (fail)
              go_wp2
              go_roundg g
              case measure => omega
              case rel => exact ⟨k + 1, q + nq, by omega, by go_num, HS, by rw [← HW2.out, World.drewN_drewN]⟩
          · obtain rfl : k = 7 := by omega
            have hf : findF nm 0 = 7 := findGo_none _ _ (by omega) HN.out
            have hv : v = .tuple #[.int .i64 0, .int .i64 0, .int .i64 0, .bool false] := by
              rw [← HV2.out, if_pos (.inr hf)]
            subst hv
            have HB2 := Lib.hid (bel_drawn HB1.out q)
            go_wp2
            exact bodyPost_ret (v := .tuple #[.int .i64 0, .int .i64 0, .int .i64 0, .bool false]) (by simp [results, Tryd.results15, go_sem]) rfl ⟨rfl, by rw [HBB.out]; exact HB2.out⟩
end Go.Proofs.YtmpodmfbieiadaaDoor

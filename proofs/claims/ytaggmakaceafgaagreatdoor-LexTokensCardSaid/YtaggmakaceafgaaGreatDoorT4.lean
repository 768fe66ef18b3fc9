import Derived.Test.YtaggmakaceafgaaGreatDoorT3
import Derived.Deep.DeepCutAuto
import Derived.Deep.CutBlock
namespace Go.Proofs.YtaggmakaceafgaaGreatDoor.Sp
open Go.RowKit Go.Shelf
set_option linter.unusedVariables false

/-! the document's own functions: Long, Units, digits -/
def LongAt (w : World) (b : Nat) : Prop := ∀ k, k < 7 → w.cell? ⟨b, k, none⟩ = some (.int .i64 (sizeAt k : Nat))
def UnitAt (w : World) (b : Nat) : Prop := ∀ k, k < 7 → w.cell? ⟨b, k, none⟩ = some (.string ⟨(nameAt k).toArray⟩)
theorem long_cells (w : World) : LongAt (w.alloc (.cells #[.int .i64 31536000000, .int .i64 604800000, .int .i64 86400000, .int .i64 3600000, .int .i64 60000, .int .i64 1000, .int .i64 1] 2)) w.heap.size := by
  intro k hk
  rw [World.cell?_alloc_at _ _ _ _ rfl]
  match k, hk with
  | 0, _ => rfl
  | 1, _ => rfl
  | 2, _ => rfl
  | 3, _ => rfl
  | 4, _ => rfl
  | 5, _ => rfl
  | 6, _ => rfl
theorem unit_cells (w : World) : UnitAt (w.alloc (.cells #[.string ⟨#[121]⟩, .string ⟨#[119]⟩, .string ⟨#[100]⟩, .string ⟨#[104]⟩, .string ⟨#[109]⟩, .string ⟨#[115]⟩, .string ⟨#[109, 115]⟩] 9)) w.heap.size := by
  intro k hk
  rw [World.cell?_alloc_at _ _ _ _ rfl]
  match k, hk with
  | 0, _ => rfl
  | 1, _ => rfl
  | 2, _ => rfl
  | 3, _ => rfl
  | 4, _ => rfl
  | 5, _ => rfl
  | 6, _ => rfl
theorem long_any (w : World) : Calls Tryz.prog 51 #[] w fun e w' => e = .returned (.slice (some ⟨w.heap.size, 0, none⟩) 7 7) ∧ LongAt w' w.heap.size ∧ Below w.heap.size w w' ∧ w.heap.size < w'.heap.size := by
  have h := long_cells w
  have HB := Lib.hid (((Below.refl w.heap.size w).alloc (Nat.le_refl _) (.cells #[.int .i64 31536000000, .int .i64 604800000, .int .i64 86400000, .int .i64 3600000, .int .i64 60000, .int .i64 1000, .int .i64 1] 2)))
  have HC := Lib.hid h
  clear h
  go_enter Tryz.func51, Tryz.ntmps51
  go_wp2
  go_ret
  exact ⟨rfl, HC.out, HB.out, by simp⟩
theorem unitsl_any (w : World) : Calls Tryz.prog 69 #[] w fun e w' => e = .returned (.slice (some ⟨w.heap.size, 0, none⟩) 7 7) ∧ UnitAt w' w.heap.size ∧ Below w.heap.size w w' ∧ w.heap.size < w'.heap.size := by
  have h := unit_cells w
  have HB := Lib.hid (((Below.refl w.heap.size w).alloc (Nat.le_refl _) (.cells #[.string ⟨#[121]⟩, .string ⟨#[119]⟩, .string ⟨#[100]⟩, .string ⟨#[104]⟩, .string ⟨#[109]⟩, .string ⟨#[115]⟩, .string ⟨#[109, 115]⟩] 9)))
  have HC := Lib.hid h
  clear h
  go_enter Tryz.func69, Tryz.ntmps69
  go_wp2
  go_ret
  exact ⟨rfl, HC.out, HB.out, by simp⟩


def AllL (l : List UInt8) (k : Nat) : Prop := ∀ i (hi : i < l.length), i < k → isL l[i] = true
theorem allL_zero (l : List UInt8) : AllL l 0 := fun _ _ h => absurd h (Nat.not_lt_zero _)
theorem allL_succ {l : List UInt8} {k : Nat} (h : AllL l k) (hk : k < l.length) (hd : isL l[k] = true) : AllL l (k + 1) := by
  intro i hi hik
  by_cases e : i = k
  · subst e; exact hd
  · exact h i hi (by omega)
theorem let_end {l : List UInt8} {k : Nat} (hk : k ≤ l.length) (h : AllL l k) (h' : ∀ (hi : k < l.length), isL l[k] = false) : lets l = l.take k :=
  (takeWhile_cut hk h h').1

/-- what part hands back -/
def partVal (s : ByteArray) (p : Nat) : Value :=
  if (rest (s.data.toList.drop p)).length = (s.data.toList.drop p).length ∨ findF (lets (rest (s.data.toList.drop p))) 0 = 7 then .tuple #[.int .i64 0, .int .i64 0, .int .i64 0, .bool false]
  else .tuple #[.int .i64 (numN (s.data.toList.drop p) : Nat), .int .i64 (findF (lets (rest (s.data.toList.drop p))) 0 : Nat), .int .i64 (s.size - (tail (rest (s.data.toList.drop p))).length : Nat), .bool true]
theorem drop_at (s : ByteArray) (p a : Nat) (hpa : p ≤ a) (h : a < s.size) : ∃ h', (s.data.toList.drop p)[a - p]'h' = s[a]'h := by
  have h1 : a < s.data.toList.length := by rw [← Lib.size_eq]; exact h
  refine ⟨by rw [List.length_drop]; omega, ?_⟩
  rw [List.getElem_drop]
  rw [← data_at s a h h1]
  congr 1
  omega

set_option maxRecDepth 100000 in
set_option maxHeartbeats 4000000 in
theorem part_any (s : ByteArray) (p : Nat) (w : World) (hs : s.size ≤ 200) (hp : p ≤ s.size) :
    Calls Tryz.prog 50 #[.string s, .int .i64 p] w fun e w' => e = .returned (partVal s p) ∧ Below w.heap.size w w' := by
  generalize hv : partVal s p = v
  have HV := Lib.hid hv
  clear hv
  have HSZ := Lib.hid (Lib.size_eq s)
  go_enter Tryz.func50, Tryz.ntmps50
  go_upto_block 0 with fail
  go_cut [1, 8] (fun s1 s8 wx => ∃ a : Nat, p ≤ a ∧ a ≤ s.size ∧ s1 = .int .i64 a ∧ s8 = .int .i64 (numN (s.data.toList.drop p) : Nat) ∧ Hid (s.data.toList.drop a = rest (s.data.toList.drop p)) ∧ w = wx)
  case first =>
    go_wp2
    go_loop [1, 8] (fun s1 s8 => ∃ a : Nat, p ≤ a ∧ a ≤ s.size ∧ s1 = .int .i64 a ∧ s8 = .int .i64 (numTo (s.data.toList.drop p) (a - p) : Nat) ∧ Hid (AllD (s.data.toList.drop p) (a - p))) (fun s1 _ => s.size - (intOf s1).toNat)
    case atStart => exact ⟨p, Nat.le_refl _, hp, rfl, by rw [Nat.sub_self]; rfl, by rw [Nat.sub_self]; exact allD_zero _⟩
    case round =>
      obtain ⟨a, hpa, has, rfl, rfl, HA⟩ := hrel
      have hle := numTo_le (s.data.toList.drop p) (a - p)
      by_cases hlt : a < s.size
      · obtain ⟨hi, hx⟩ := drop_at s p a hpa hlt
        have HSU := Lib.hid (numTo_succ (s.data.toList.drop p) (a - p) hi)
        have HAS := Lib.hid (@allD_succ (s.data.toList.drop p) (a - p) HA.out hi)
        have HEND := Lib.hid (@num_end (s.data.toList.drop p) (a - p) (Nat.le_of_lt hi) HA.out)
        have hap : a - p + 1 = a + 1 - p := by omega
        rw [hap, hx] at HSU
        rw [hap, hx] at HAS
        rw [List.drop_drop, show p + (a - p) = a by omega] at HEND
        have HX := Lib.hid hx
        clear hx hap
        cases hd : isD s[a] with
        | true =>
          have hd' := (isD_iff _).1 hd
          have b1 : (48 : Int) ≤ (s[a].toNat : Int) := by omega
          have b2 : (s[a].toNat : Int) ≤ 57 := by omega
          have HS : Hid (AllD (s.data.toList.drop p) (a + 1 - p)) := HAS.out hd
          clear hd hd'
          generalize numTo (s.data.toList.drop p) (a - p) = n at *
          have HST := Lib.hid (step_int n s[a] b1)
          by_cases hc : (35184372088833 : Int) < 10 * (n : Int) + ((s[a].toNat : Int) - 48)
          · rw [if_pos hc] at HST
            go_wp2
            go_round
            case rel => exact ⟨a + 1, by omega, by omega, by go_num, by rw [HSU.out, ← HST.out], HS⟩
            case measure => simp [intOf]; omega
          · rw [if_neg hc] at HST
            go_wp2
            go_round
            case rel => exact ⟨a + 1, by omega, by omega, by go_num, by rw [HSU.out, ← HST.out], HS⟩
            case measure => simp [intOf]; omega
        | false =>
          have HE := Lib.hid (HEND.out (fun _ => by rw [HX.out]; exact hd))
          have hd' : ¬ (48 ≤ s[a].toNat ∧ s[a].toNat ≤ 57) := fun h => by rw [(isD_iff _).2 h] at hd; cases hd
          have HE1 := Lib.hid HE.out.1
          clear hd hle
          generalize numTo (s.data.toList.drop p) (a - p) = n at *
          by_cases h1 : s[a].toNat < 48
          · have d1 : ¬ (48 : Int) ≤ (s[a].toNat : Int) := by omega
            clear hd'
            go_wp2
            go_meet
            exact ⟨a, hpa, has, rfl, by rw [HE1.out], HE.out.2, rfl⟩
          · have d1 : (48 : Int) ≤ (s[a].toNat : Int) := by omega
            have d2 : ¬ (s[a].toNat : Int) ≤ 57 := by omega
            clear hd'
            go_wp2
            go_meet
            exact ⟨a, hpa, has, rfl, by rw [HE1.out], HE.out.2, rfl⟩
      · have hz := HSZ.out
        have HE := Lib.hid (@num_end (s.data.toList.drop p) (a - p) (by rw [List.length_drop]; omega) HA.out (fun h => by rw [List.length_drop] at h; omega))
        rw [List.drop_drop, show p + (a - p) = a by omega] at HE
        have HE1 := Lib.hid HE.out.1
        have d : decide (a < s.size) = false := by simpa using hlt
        clear hz hle
        generalize numTo (s.data.toList.drop p) (a - p) = n at *
        go_wp2
        go_meet
        exact ⟨a, hpa, has, rfl, by rw [HE1.out], HE.out.2, rfl⟩
  case rest =>
    obtain ⟨a, hpa, has, rfl, rfl, HR, rfl⟩ := hcut
    go_upto_block 2 with fail
    go_cut [10] (fun s10 wx => ∃ b : Nat, a ≤ b ∧ b ≤ s.size ∧ s10 = .int .i64 b ∧ Hid (lets (s.data.toList.drop a) = (s.data.toList.drop a).take (b - a)) ∧ w = wx)
    case first =>
      go_wp2
      go_loop [10] (fun s10 => ∃ b : Nat, a ≤ b ∧ b ≤ s.size ∧ s10 = .int .i64 b ∧ Hid (AllL (s.data.toList.drop a) (b - a))) (fun s10 => s.size - (intOf s10).toNat)
      case atStart => exact ⟨a, Nat.le_refl _, has, rfl, by rw [Nat.sub_self]; exact allL_zero _⟩
      case round =>
        obtain ⟨b, hab, hbs, rfl, HA⟩ := hrel
        by_cases hlt : b < s.size
        · obtain ⟨hi, hx⟩ := drop_at s a b hab hlt
          have HAS := Lib.hid (@allL_succ (s.data.toList.drop a) (b - a) HA.out hi)
          have HEND := Lib.hid (@let_end (s.data.toList.drop a) (b - a) (Nat.le_of_lt hi) HA.out)
          rw [show b - a + 1 = b + 1 - a by omega, hx] at HAS
          have HX := Lib.hid hx
          clear hx
          cases hd : isD s[b] with
          | true =>
            have HE := Lib.hid (HEND.out (fun _ => by rw [HX.out]; unfold isL; rw [hd]; rfl))
            have hd' := (isD_iff _).1 hd
            have b1 : ¬ (s[b].toNat : Int) < 48 := by omega
            have b2 : ¬ (57 : Int) < (s[b].toNat : Int) := by omega
            clear hd hd'
            go_wp2
            go_meet
            exact ⟨b, hab, hbs, rfl, HE, rfl⟩
          | false =>
            have HS : Hid (AllL (s.data.toList.drop a) (b + 1 - a)) := HAS.out (by unfold isL; rw [hd]; rfl)
            have hd' : ¬ (48 ≤ s[b].toNat ∧ s[b].toNat ≤ 57) := fun h => by rw [(isD_iff _).2 h] at hd; cases hd
            clear hd
            by_cases h1 : s[b].toNat < 48
            · have d1 : (s[b].toNat : Int) < 48 := by omega
              clear hd'
              go_wp2
              go_round
              case rel => exact ⟨b + 1, by omega, by omega, by go_num, HS⟩
              case measure => simp [intOf]; omega
            · have d1 : ¬ (s[b].toNat : Int) < 48 := by omega
              have d2 : (57 : Int) < (s[b].toNat : Int) := by omega
              clear hd'
              go_wp2
              go_round
              case rel => exact ⟨b + 1, by omega, by omega, by go_num, HS⟩
              case measure => simp [intOf]; omega
        · have hz := HSZ.out
          have HE := Lib.hid (@let_end (s.data.toList.drop a) (b - a) (by rw [List.length_drop]; omega) HA.out (fun h => by rw [List.length_drop] at h; omega))
          have d : decide (b < s.size) = false := by simpa using hlt
          clear hz
          go_wp2
          go_meet
          exact ⟨b, hab, hbs, rfl, HE, rfl⟩
    case rest =>
      obtain ⟨b, hab, hbs, rfl, HLE, rfl⟩ := hcut
      go_wp2_with fail
      refine (unitsl_any _).mono ?_
      rintro e w1 ⟨rfl, l1, b1, s1⟩
      have HL1 := Lib.hid l1
      have HB1 := Lib.hid b1
      clear l1 b1
      generalize hBB : w.heap.size = B at *
      have HV1 := HV.out
      unfold partVal at HV1
      rw [← HR.out] at HV1
      have hlr : (s.data.toList.drop a).length = s.size - a := by rw [List.length_drop, ← HSZ.out]
      have hlp : (s.data.toList.drop p).length = s.size - p := by rw [List.length_drop, ← HSZ.out]
      rw [hlr, hlp] at HV1
      have htl : (tail (s.data.toList.drop a)).length = s.size - b := by
        rw [← tail_drop, List.length_drop, HLE.out, List.length_take, hlr]
        omega
      rw [htl, show s.size - (s.size - b) = b by omega] at HV1
      have HNM : Hid (s.extract a b = ⟨(lets (s.data.toList.drop a)).toArray⟩) := str_ext (by rw [Lib.extract_data, HLE.out])
      generalize numN (s.data.toList.drop p) = n at *
      generalize lets (s.data.toList.drop a) = nm at *
      have HV2 := Lib.hid HV1
      clear HV1 hlr hlp htl HLE HR HV
      by_cases hpe : p = a
      · subst hpe
        have hv : v = .tuple #[.int .i64 0, .int .i64 0, .int .i64 0, .bool false] := by
          rw [← HV2.out, if_pos (.inl rfl)]
        subst hv
        have dg : decide (p < p) = false := by simp
        go_wp2_with fail
        go_loopg [12] 7 (fun g s12 wx => ∃ k : Nat, k + g = 7 ∧ s12 = .int .i64 k ∧ Hid (Below B w wx))
        case atStart => exact ⟨0, by omega, rfl, HB1.out⟩
        case round =>
          obtain ⟨k, hkg, rfl, HB⟩ := hrel
          by_cases hk : k < 7
          · obtain ⟨g, rfl⟩ : ∃ g, gk = g + 1 := ⟨gk - 1, by omega⟩
            go_wp2_with fail
            go_quiet (fail)
            go_wp2
            go_roundg g
            case measure => omega
            case rel => exact ⟨k + 1, by omega, by go_num, bel_drawn HB.out _⟩
          · obtain rfl : k = 7 := by omega
            go_wp2
            exact bodyPost_ret (v := .tuple #[.int .i64 0, .int .i64 0, .int .i64 0, .bool false]) (by simp [results, Tryz.results50, go_sem]) rfl ⟨rfl, by rw [hBB]; exact HB.out⟩
      · have hpa' : p < a := by omega
        have dg : decide ((p : Int) < (a : Int)) = true := by simp; omega
        have dg' : decide (p < a) = true := by simpa using hpa'
        have sl : ∀ wx, (Instr.slice 9 (.string s) (some (.int .i64 a)) (some (.int .i64 b)) none).run Tryz.prog wx = .ok (.string (s.extract a b)) wx := fun wx => by
          have := run_slice_string (P := Tryz.prog) wx 9 s .i64 .i64 (a : Int) (b : Int) Tryz.underlying9 (by omega) (by omega) (by omega)
          simpa using this
        rw [HNM.out] at sl
        clear HNM
        have HBB := Lib.hid hBB
        clear hBB
        go_wp2_with fail
        go_loopg [12] 7 (fun g s12 wx => ∃ k q : Nat, k + g = 7 ∧ s12 = .int .i64 k ∧ Hid (NoneTo nm 0 k) ∧ wx = w1.drewN q)
        case atStart => exact ⟨0, 0, by omega, rfl, fun i h1 h2 => absurd h2 (by omega), rfl⟩
        case round =>
          obtain ⟨k, q, hkg, rfl, HN, rfl⟩ := hrel
          by_cases hk : k < 7
          · obtain ⟨g, rfl⟩ : ∃ g, gk = g + 1 := ⟨gk - 1, by omega⟩
            have hc : (w1.drewN q).cell? ⟨B, k, none⟩ = some (.string ⟨(nameAt k).toArray⟩) := HL1.out k hk
            have HB2 := Lib.hid (bel_drawn HB1.out q)
            generalize hw2 : w1.drewN q = w2 at *
            have HW2 := Lib.hid hw2
            clear hw2
            have k0 : (0 : Int) ≤ (k : Int) := by omega
            have k7 : (k : Int) < 7 := by omega
            by_cases he : nameAt k = nm
            · have e1 : ((⟨nm.toArray⟩ : ByteArray).toList == (⟨(nameAt k).toArray⟩ : ByteArray).toList) = true := by rw [he]; simp
              have hf : findF nm 0 = k := findGo_at _ _ k (by omega) (by omega) hk (fun i h1 h2 => HN.out i h1 h2) he
              have hv : v = .tuple #[.int .i64 n, .int .i64 k, .int .i64 b, .bool true] := by
                rw [← HV2.out, if_neg (by rintro (h | h) <;> omega), hf]
              subst hv
              clear he hf HV2
              generalize (⟨nm.toArray⟩ : ByteArray) = E1 at *
              generalize (⟨(nameAt k).toArray⟩ : ByteArray) = E2 at *
              go_wp2_with fail
              go_quiet (fail)
              go_wp2
              exact bodyPost_ret (v := .tuple #[.int .i64 n, .int .i64 k, .int .i64 b, .bool true]) (by simp [results, Tryz.results50, go_sem]) rfl ⟨rfl, by rw [HBB.out]; exact bel_drawn HB2.out _⟩
            · have e1 : ((⟨nm.toArray⟩ : ByteArray).toList == (⟨(nameAt k).toArray⟩ : ByteArray).toList) = false := by rw [Lib.toList_data, Lib.toList_data]; simpa using fun e => he e.symm
              have HS : Hid (NoneTo nm 0 (k + 1)) := fun i h1 h2 => by
                by_cases e : i = k
                · subst e; exact he
                · exact HN.out i h1 (by omega)
              clear he
              generalize (⟨nm.toArray⟩ : ByteArray) = E1 at *
              generalize (⟨(nameAt k).toArray⟩ : ByteArray) = E2 at *
              go_wp2_with fail
              go_quiet (fail)
              go_wp2
              go_roundg g
              case measure => omega
              case rel => exact ⟨k + 1, q + nq, by omega, by go_num, HS, by rw [← HW2.out, World.drewN_drewN]⟩
          · obtain rfl : k = 7 := by omega
            have hf : findF nm 0 = 7 := findGo_none _ _ (by omega) HN.out
            have hv : v = .tuple #[.int .i64 0, .int .i64 0, .int .i64 0, .bool false] := by
              rw [← HV2.out, if_pos (.inr hf)]
            subst hv
            have HB2 := Lib.hid (bel_drawn HB1.out q)
            go_wp2
            exact bodyPost_ret (v := .tuple #[.int .i64 0, .int .i64 0, .int .i64 0, .bool false]) (by simp [results, Tryz.results50, go_sem]) rfl ⟨rfl, by rw [HBB.out]; exact HB2.out⟩

theorem find_from : ∀ k, k < 7 → ∀ fr, fr < 8 → findF (nameAt k) fr = if fr ≤ k then k else 7 := by decide
theorem findGo_hit (nm : List UInt8) : ∀ f k, k + f = 7 → findGo nm f k < 7 → nameAt (findGo nm f k) = nm
  | 0, _, _, h => by unfold findGo at h; omega
  | f + 1, k, hk, h => by
    unfold findGo at h ⊢
    by_cases e : nameAt k = nm
    · rw [if_pos e] at h ⊢; exact e
    · rw [if_neg e] at h ⊢; exact findGo_hit nm f (k + 1) (by omega) h
theorem findGo_miss (nm : List UInt8) : ∀ f k, k + f = 7 → findGo nm f k = 7 → NoneTo nm k 7
  | 0, k, hk, _ => fun i h1 h2 => by omega
  | f + 1, k, hk, h => by
    unfold findGo at h
    by_cases e : nameAt k = nm
    · rw [if_pos e] at h; omega
    · rw [if_neg e] at h
      have := findGo_miss nm f (k + 1) (by omega) h
      intro i h1 h2
      by_cases e' : i = k
      · subst e'; exact e
      · exact this i (by omega) h2
theorem find_two (nm : List UInt8) (fr : Nat) (hfr : fr ≤ 7) : findF nm fr = if findF nm 0 < 7 ∧ fr ≤ findF nm 0 then findF nm 0 else 7 := by
  by_cases h : findF nm 0 < 7
  · have hn := findGo_hit nm _ _ (by omega) h
    have := find_from (findF nm 0) h fr (by omega)
    rw [show nameAt (findF nm 0) = nm from hn] at this
    rw [this]
    by_cases h2 : fr ≤ findF nm 0
    · rw [if_pos h2, if_pos ⟨h, h2⟩]
    · rw [if_neg h2, if_neg (fun e => h2 e.2)]
  · have hle := (findF_le nm 0 (by omega)).1
    have hn := findGo_miss nm _ _ (by omega) (show findF nm 0 = 7 by omega)
    rw [if_neg (fun e => h e.1)]
    exact findGo_none _ _ (by omega) fun i h1 h2 => hn i (by omega) h2

/-- what the document's Parse hands back -/
def refVal : Option Nat → Value
  | some v => .tuple #[.int .i64 (v : Nat), .bool true]
  | none => .tuple #[.int .i64 0, .bool false]

theorem part_bad {s : ByteArray} {p : Nat} (h : (rest (s.data.toList.drop p)).length = (s.data.toList.drop p).length ∨ findF (lets (rest (s.data.toList.drop p))) 0 = 7) (w : World) (hs : s.size ≤ 200) (hp : p ≤ s.size) :
    Calls Tryz.prog 50 #[.string s, .int .i64 p] w fun e w' => e = .returned (.tuple #[.int .i64 0, .int .i64 0, .int .i64 0, .bool false]) ∧ Below w.heap.size w w' := by
  have := part_any s p w hs hp
  unfold partVal at this
  rwa [if_pos h] at this
theorem part_good {s : ByteArray} {p : Nat} (h : ¬ ((rest (s.data.toList.drop p)).length = (s.data.toList.drop p).length ∨ findF (lets (rest (s.data.toList.drop p))) 0 = 7)) (w : World) (hs : s.size ≤ 200) (hp : p ≤ s.size) :
    Calls Tryz.prog 50 #[.string s, .int .i64 p] w fun e w' => e = .returned (.tuple #[.int .i64 (numN (s.data.toList.drop p) : Nat), .int .i64 (findF (lets (rest (s.data.toList.drop p))) 0 : Nat), .int .i64 (s.size - (tail (rest (s.data.toList.drop p))).length : Nat), .bool true]) ∧ Below w.heap.size w w' := by
  have := part_any s p w hs hp
  unfold partVal at this
  rwa [if_neg h] at this
theorem tail_suffix (l : List UInt8) : ∃ k, k ≤ l.length ∧ tail (rest l) = l.drop k := by
  have h1 : ∀ l : List UInt8, ∃ k, k ≤ l.length ∧ rest l = l.drop k := fun l => by
    unfold rest
    induction l with
    | nil => exact ⟨0, by simp, rfl⟩
    | cons b l ih =>
      rw [List.dropWhile_cons]
      split
      · obtain ⟨k, h1, h2⟩ := ih; exact ⟨k + 1, by simp; omega, by rw [h2]; rfl⟩
      · exact ⟨0, by simp, rfl⟩
  obtain ⟨k, hk, e⟩ := h1 l
  have h2 := tail_drop (rest l)
  rw [e, List.drop_drop] at h2
  have hl : (lets (l.drop k)).length ≤ (l.drop k).length := lets_len _
  rw [List.length_drop] at hl
  exact ⟨k + (lets (l.drop k)).length, by omega, by rw [e]; exact h2.symm⟩

set_option maxRecDepth 100000 in
set_option maxHeartbeats 4000000 in
theorem refparse_loop (s : ByteArray) (o : Option Nat) (w : World) (h0 : s.size ≠ 0) (h200 : s.size ≤ 200) (ho : parseP s.data.toList 0 0 = o) :
    Calls Tryz.prog 27 #[.string s] w fun e w' => e = .returned (refVal o) ∧ Below w.heap.size w w' := by
  have HO := Lib.hid ho
  clear ho
  have e1 : ((s.size : Int) == 0) = false := beq_eq_false_iff_ne.2 (by omega)
  have d1 : decide ((200 : Int) < (s.size : Int)) = false := by simp; omega
  go_enter Tryz.func27, Tryz.ntmps27
  go_wp2
  go_loopg [4, 5, 6] s.size (fun g b c a wx => ∃ (p sum fr : Nat), p ≤ s.size ∧ s.size - p ≤ g ∧ fr ≤ 7 ∧ sum ≤ 35184372088832 ∧ a = .int .i64 p ∧ b = .int .i64 sum ∧ c = .int .i64 ((fr : Int) - 1) ∧ Hid (parseP (s.data.toList.drop p) fr sum = o) ∧ Hid (Below w.heap.size w wx))
  case atStart => exact ⟨0, 0, 0, by omega, by omega, by omega, by omega, rfl, rfl, rfl, HO.out, Below.refl _ _⟩
  case round =>
    clear e1 d1 h0 HO
    obtain ⟨p, sum, fr, hp, hpg, hfr, hsum, rfl, rfl, rfl, HO, HB⟩ := hrel
    by_cases hz : p = s.size
    · have hn : s.data.toList.drop p = [] := List.drop_eq_nil_of_le (by rw [← Lib.size_eq]; omega)
      have hv : o = some sum := by rw [← HO.out, hn, parse_nil]
      have d : decide (p < s.size) = false := by simp; omega
      subst hv
      clear HO hn
      subst hz
      go_wp2
      go_ret2
      exact ⟨rfl, HB.out⟩
    · have hlt : p < s.size := by omega
      have hlt' : (p : Int) < (s.size : Int) := by omega
      have hlen : (s.data.toList.drop p).length = s.size - p := by rw [List.length_drop, ← Lib.size_eq]
      have hne : s.data.toList.drop p ≠ [] := fun h => by rw [h] at hlen; simp at hlen; omega
      have HBAD := Lib.hid (@parse_bad (s.data.toList.drop p) fr sum hne)
      have HMUCH := Lib.hid (@parse_much (s.data.toList.drop p) fr sum hne)
      have HNX := Lib.hid (@parse_next (s.data.toList.drop p) fr sum hne)
      have hft := find_two (lets (rest (s.data.toList.drop p))) fr hfr
      have hf0 := (findF_le (lets (rest (s.data.toList.drop p))) 0 (by omega)).1
      by_cases hb : (rest (s.data.toList.drop p)).length = (s.data.toList.drop p).length ∨ findF (lets (rest (s.data.toList.drop p))) 0 = 7
      · have hv : o = none := by
          rw [← HO.out]
          refine HBAD.out ?_
          rcases hb with h | h
          · exact .inl h
          · refine .inr (.inl ?_)
            rw [hft, if_neg (by omega)]
        subst hv
        have HP := Lib.hid (fun W => part_bad hb W h200 hp)
        clear hb hft hne HBAD HMUCH HNX hlen hf0 HO
        go_wp2_with fail
        refine (HP.out _).mono ?_
        rintro e w1 ⟨rfl, b1⟩
        have k1 := HB.out.trans (b1.mono HB.out.size)
        go_wp2
        go_ret2
        exact ⟨rfl, k1⟩
      · have HP := Lib.hid (fun W => part_good hb W h200 hp)
        have hk7 : findF (lets (rest (s.data.toList.drop p))) 0 < 7 := by
          have : findF (lets (rest (s.data.toList.drop p))) 0 ≠ 7 := fun h => hb (.inr h)
          omega
        have hlr : (rest (s.data.toList.drop p)).length ≠ (s.data.toList.drop p).length := fun h => hb (.inl h)
        obtain ⟨j, hj1, hj2⟩ := tail_suffix (s.data.toList.drop p)
        have hj3 : (tail (rest (s.data.toList.drop p))).length = s.size - p - j := by rw [hj2, List.length_drop, hlen]
        have hj0 : 0 < j := by
          have h1 := tail_len (rest (s.data.toList.drop p))
          have h2 := rest_len (s.data.toList.drop p)
          rw [hlen] at hlr h2 hj1
          omega
        rw [hlen] at hj1
        rw [hj3, show s.size - (s.size - p - j) = p + j by omega] at HP
        rw [hj2, List.drop_drop] at HNX
        have HZ := Lib.hid (sizes_pos _ hk7)
        have hzl := sizes_le _ hk7
        have hz0 := sizes_pos _ hk7
        have hnn := numN_le (s.data.toList.drop p)
        by_cases hfr2 : findF (lets (rest (s.data.toList.drop p))) 0 < fr
        · rw [if_neg (by omega)] at hft
          have hv : o = none := by rw [← HO.out]; exact HBAD.out (.inr (.inl hft))
          subst hv
          clear hft hne HBAD HMUCH HNX hlen HO hb hj2 hj3 hlr
          generalize findF (lets (rest (s.data.toList.drop p))) 0 = k at *
          generalize numN (s.data.toList.drop p) = n at *
          have hle : (k : Int) ≤ (fr : Int) - 1 := by omega
          go_wp2_with fail
          refine (HP.out _).mono ?_
          rintro e w1 ⟨rfl, b1⟩
          have k1 := HB.out.trans (b1.mono HB.out.size)
          go_wp2
          go_ret2
          exact ⟨rfl, k1⟩
        · rw [if_pos ⟨hk7, by omega⟩] at hft
          rw [hft] at HBAD HMUCH HNX
          have HLA := Lib.hid (fun W b (h : LongAt W b) => h _ hk7)
          clear hft hne hlen hb hj2 hj3
          generalize findF (lets (rest (s.data.toList.drop p))) 0 = k at *
          generalize numN (s.data.toList.drop p) = n at *
          generalize sizeAt k = z at *
          have hle : ¬ (k : Int) ≤ (fr : Int) - 1 := by omega
          obtain ⟨g, rfl⟩ : ∃ g, gk = g + 1 := ⟨gk - 1, by omega⟩
          have HLG := Lib.hid long_any
          have hdiv : ((35184372088832 / z : Nat) : Int) = (35184372088832 : Int) / (z : Int) := by simp
          go_wp2_with fail
          refine (HP.out _).mono ?_
          rintro e w1 ⟨rfl, b1⟩
          have k1 := HB.out.trans (b1.mono HB.out.size)
          clear b1
          by_cases hn0 : n = 0
          · subst hn0
            have HV := Lib.hid ((HNX.out (by rintro (h | h | h); exact hlr h; omega; exact absurd h (Nat.not_lt_zero _)) (by rw [Nat.zero_mul, Nat.add_zero]; exact Nat.not_lt.2 hsum)).symm.trans HO.out)
            rw [Nat.zero_mul, Nat.add_zero] at HV
            clear hdiv HBAD HMUCH HNX
            go_wp2_with fail
            refine wp_loop_rounds 1 ?_
            rw [rounds_succ]
            go_wp2
            go_roundg g
            case measure => omega
            case rel => exact ⟨p + j, sum, k + 1, by omega, by omega, by omega, hsum, by go_num, rfl, by go_num, HV, k1⟩
          · have hn1 : (0 : Int) < (n : Int) := by omega
            by_cases c3 : 35184372088832 / z < n
            · have hv : o = none := by rw [← HO.out]; exact HBAD.out (.inr (.inr c3))
              subst hv
              have x3 : (35184372088832 : Int) / (z : Int) < (n : Int) := by rw [← hdiv]; omega
              clear hdiv c3 HBAD HMUCH HNX HO
              go_wp2_with fail
              refine wp_loop_rounds 1 ?_
              rw [rounds_succ]
              go_wp2_with fail
              refine (HLG.out _).mono ?_
              rintro e w2 ⟨rfl, l2, b2, s2⟩
              have c2 := HLA.out _ _ l2
              have k2 := k1.trans (b2.mono k1.size)
              clear l2 b2
              go_wp2
              go_ret2
              exact ⟨rfl, k2⟩
            · have x3 : ¬ (35184372088832 : Int) / (z : Int) < (n : Int) := by rw [← hdiv]; omega
              have hmul : n * z ≤ 35184372088832 := Nat.le_trans (Nat.mul_le_mul_right z (Nat.le_of_not_lt c3)) (Nat.div_mul_le_self _ _)
              have hmi : ((n * z : Nat) : Int) = (n : Int) * (z : Int) := by simp
              have hmul' : (n : Int) * (z : Int) ≤ 35184372088832 := by rw [← hmi]; omega
              have hmul0 : 0 ≤ (n : Int) * (z : Int) := by rw [← hmi]; omega
              clear hdiv
              by_cases c4 : 35184372088832 < sum + n * z
              · have hv : o = none := by rw [← HO.out]; exact HMUCH.out (by rintro (h | h | h); exact hlr h; omega; exact c3 h) c4
                subst hv
                have x4 : (35184372088832 : Int) < (sum : Int) + (n : Int) * (z : Int) := by rw [← hmi]; omega
                clear hmi c4 c3 HBAD HMUCH HNX HO
                go_wp2_with fail
                refine wp_loop_rounds 2 ?_
                rw [rounds_succ]
                go_wp2_with fail
                refine (HLG.out _).mono ?_
                rintro e w2 ⟨rfl, l2, b2, s2⟩
                have c2 := HLA.out _ _ l2
                have k2 := k1.trans (b2.mono k1.size)
                clear l2 b2
                go_wp2_with fail
                refine (HLG.out _).mono ?_
                rintro e w3 ⟨rfl, l3, b3, s3⟩
                have c3 := HLA.out _ _ l3
                have k3 := k2.trans (b3.mono k2.size)
                clear l3 b3 c2
                go_wp2_with fail
                rw [rounds_succ]
                go_wp2
                go_ret2
                exact ⟨rfl, k3⟩
              · have x4 : ¬ (35184372088832 : Int) < (sum : Int) + (n : Int) * (z : Int) := by rw [← hmi]; omega
                have HV := Lib.hid ((HNX.out (by rintro (h | h | h); exact hlr h; omega; exact c3 h) c4).symm.trans HO.out)
                have HMI := Lib.hid hmi
                have hsn : sum + n * z ≤ 35184372088832 := by omega
                clear hmi c4 c3 HBAD HMUCH HNX HO
                go_wp2_with fail
                refine wp_loop_rounds 2 ?_
                rw [rounds_succ]
                go_wp2_with fail
                refine (HLG.out _).mono ?_
                rintro e w2 ⟨rfl, l2, b2, s2⟩
                have c2 := HLA.out _ _ l2
                have k2 := k1.trans (b2.mono k1.size)
                clear l2 b2
                go_wp2_with fail
                refine (HLG.out _).mono ?_
                rintro e w3 ⟨rfl, l3, b3, s3⟩
                have c3 := HLA.out _ _ l3
                have k3 := k2.trans (b3.mono k2.size)
                clear l3 b3 c2
                go_wp2_with fail
                rw [rounds_succ]
                go_wp2
                go_roundg g
                case measure => omega
                case rel => exact ⟨p + j, sum + n * z, k + 1, by omega, by omega, by omega, hsn, by go_num, by rw [show ((sum + n * z : Nat) : Int) = (sum : Int) + (n : Int) * (z : Int) by rw [← HMI.out]; simp], by go_num, HV, k3⟩

set_option maxHeartbeats 1000000 in
theorem refparse_any (s : ByteArray) (o : Option Nat) (w : World) (ho : spanF s.data.toList = o) :
    Calls Tryz.prog 27 #[.string s] w fun e w' => e = .returned (refVal o) ∧ Below w.heap.size w w' := by
  have hlen := Lib.size_eq s
  by_cases h0 : s.size = 0
  · have hv : o = none := by rw [← ho]; unfold spanF; rw [if_pos (by omega)]
    subst hv
    have e1 : ((s.size : Int) == 0) = true := by simp [h0]
    clear ho hlen h0
    go_enter Tryz.func27, Tryz.ntmps27
    go_wp2
    go_ret2
    exact ⟨rfl, Below.refl _ _⟩
  · by_cases h2 : 200 < s.size
    · have hv : o = none := by rw [← ho]; unfold spanF; rw [if_pos (by omega)]
      subst hv
      have e1 : ((s.size : Int) == 0) = false := beq_eq_false_iff_ne.2 (by omega)
      have d1 : decide ((200 : Int) < (s.size : Int)) = true := by simp; omega
      clear ho hlen h0
      go_enter Tryz.func27, Tryz.ntmps27
      go_wp2
      go_ret2
      exact ⟨rfl, Below.refl _ _⟩
    · refine refparse_loop s o w h0 (by omega) ?_
      rw [← ho]; unfold spanF; rw [if_neg (by omega)]


end Go.Proofs.YtaggmakaceafgaaGreatDoor.Sp

/- The document's reader: is, sign, letter, one. Condition: a text of at most 200 bytes. -/
import Derived.Test.YtahphjaelpgjdaaDoorR1
namespace Go.Proofs.YtahphjaelpgjdaaDoor
open Go.RowKit Rx
set_option linter.unusedVariables false

set_option maxRecDepth 100000 in
set_option maxHeartbeats 2000000 in
theorem is_walk (b s x : Nat) (ok r : Bool) (w : World) (hr : (ok && ((x : Int) == (s : Int))) = r)
    (hk : ∀ n, Calls Tryd.prog 54 #[.pointer (some ⟨b, 0, none⟩)] (w.drewN n) fun e w' => e = .returned (.tuple #[.int .u8 x, .bool ok]) ∧ ∃ n, w' = w.drewN n) :
    Calls Tryd.prog 42 #[.pointer (some ⟨b, 0, none⟩), .int .u8 s] w fun e w' => e = .returned (.bool r) ∧ ∃ n, w' = w.drewN n := by
  have HK := Lib.hid (hk 0)
  cases ok with
  | false =>
    have HR := Lib.hid hr
    clear hr hk
    go_enter Tryd.func42, Tryd.ntmps42
    go_wp2_with fail
    refine (HK.out).mono ?_
    rintro e w1 ⟨rfl, n, rfl⟩
    go_wp2
    go_ret
    exact ⟨by rw [← HR.out]; rfl, _, rfl⟩
  | true =>
    rw [Bool.true_and] at hr
    have HR := Lib.hid hr
    clear hk
    go_enter Tryd.func42, Tryd.ntmps42
    go_wp2_with fail
    refine (HK.out).mono ?_
    rintro e w1 ⟨rfl, n, rfl⟩
    go_wp2
    go_ret
    exact ⟨by rw [← HR.out, hr]; try rfl, _, rfl⟩
theorem beq_cast (x s : Nat) : ((x : Int) == (s : Int)) = (x == s) := by
  rw [Bool.eq_iff_iff, beq_iff_eq, beq_iff_eq]; omega
theorem sees_true {l : ByteArray} {a : Nat} (h : a < l.size) (s : Nat) : sees l a s = (by_ l a == s) := by unfold sees; rw [decide_eq_true h, Bool.true_and]
theorem sees_end (l : ByteArray) (s : Nat) : sees l l.size s = false := by unfold sees; simp
theorem is_any (b a o s : Nat) (l : ByteArray) (r : Bool) (hr : sees l a s = r) (w : World) (hp : Par w b l a o 0) (hl : l.size ≤ 200) (ha : a ≤ l.size) :
    Calls Tryd.prog 42 #[.pointer (some ⟨b, 0, none⟩), .int .u8 s] w fun e w' => e = .returned (.bool r) ∧ ∃ n, w' = w.drewN n := by
  by_cases h : a < l.size
  · refine is_walk b s (by_ l a) true r w ?_ (fun n => (peek_in b a o l _ (hp.drewN n) hl h).mono ?_)
    · rw [Bool.true_and, beq_cast, ← sees_true h, hr]
    · rintro e w' ⟨h1, m, h2⟩; exact ⟨h1, n + m, h2.trans (World.drewN_drewN _ _ _)⟩
  · obtain rfl : a = l.size := by omega
    refine is_walk b s 0 false r w ?_ (fun n => (peek_out b o l _ (hp.drewN n) hl).mono ?_)
    · rw [Bool.false_and, ← hr, sees_end]
    · rintro e w' ⟨h1, m, h2⟩; exact ⟨h1, n + m, h2.trans (World.drewN_drewN _ _ _)⟩
theorem is_bad (b a o c s : Nat) (l : ByteArray) (w : World) (hp : Par w b l a o c) (hc : c = 2 ∨ c = 12) :
    Calls Tryd.prog 42 #[.pointer (some ⟨b, 0, none⟩), .int .u8 s] w fun e w' => e = .returned (.bool false) ∧ ∃ n, w' = w.drewN n := by
  refine is_walk b s 0 false false w rfl (fun n => (peek_bad b a o c l _ (hp.drewN n) hc).mono ?_)
  rintro e w' ⟨h1, m, h2⟩; exact ⟨h1, n + m, h2.trans (World.drewN_drewN _ _ _)⟩

/-! sign: is a byte among some? -/
def among (sg : List Nat) (c : Nat) : Bool := sg.contains c
set_option maxRecDepth 100000 in
set_option maxHeartbeats 2000000 in
theorem sign_any (c : Nat) (sg : ByteArray) (r : Bool) (hr : (sg.data.toList.map UInt8.toNat).contains c = r) (hs : sg.size ≤ 100) (w : World) :
    Calls Tryd.prog 67 #[.int .u8 c, .string sg] w fun e w' => e = .returned (.bool r) ∧ ∃ n, w' = w.drewN n := by
  have hx : ∀ k, ∀ h : k < sg.size, (sg[k].toNat = c → (sg.data.toList.map UInt8.toNat).contains c = true) := fun k h e => by
    rw [List.contains_iff_mem, List.mem_map]
    exact ⟨sg[k], by simp [ByteArray.getElem_eq_getElem_data], e⟩
  have hy : (∀ k, ∀ h : k < sg.size, sg[k].toNat ≠ c) → (sg.data.toList.map UInt8.toNat).contains c = false := fun hn => by
    rw [← Bool.not_eq_true, List.contains_iff_mem, List.mem_map]
    rintro ⟨x, hx, e⟩
    obtain ⟨k, hk, rfl⟩ := List.getElem_of_mem hx
    exact hn k (by simpa using hk) (by simpa [ByteArray.getElem_eq_getElem_data] using e)
  rw [hr] at hx hy
  have HX := Lib.hid hx
  have HY := Lib.hid hy
  clear hx hy hr
  go_enter Tryd.func67, Tryd.ntmps67
  go_wp2
  go_loopw [5] (fun s5 wr => ∃ k : Nat, s5 = .int .i64 k ∧ k ≤ sg.size ∧ Hid (∀ i, ∀ h : i < k, ∀ h2 : i < sg.size, sg[i].toNat ≠ c) ∧ ∃ n, wr = w.drewN n) (fun s5 _ => (sg.size - intOf s5).toNat)
  case atStart => exact ⟨0, rfl, by omega, fun i h => by omega, 0, rfl⟩
  case round =>
    obtain ⟨k, rfl, hk, HN, n, rfl⟩ := hrel
    by_cases hlt : k < sg.size
    · have h0 : (0 : Int) ≤ (k : Int) := by omega
      have h1 : (k : Int) < (sg.size : Int) := by omega
      have hd : decide ((k : Int) < (sg.size : Int)) = true := by simp; omega
      obtain ⟨x, hx⟩ : ∃ x, x = sg[k].toNat := ⟨_, rfl⟩
      have hx' : sg[k].toNat = x := hx.symm
      have HV : Hid (sg[k].toNat = x) := hx'
      clear hx
      by_cases hc : x = c
      · have he : ((x : Int) == (c : Int)) = true := by simp [hc]
        have HT : Hid (r = true) := HX.out k hlt (HV.out.trans hc)
        go_wp2
        go_ret
        exact ⟨by rw [HT.out]; rfl, _, rfl⟩
      · have he : ((x : Int) == (c : Int)) = false := by simp; omega
        have HN2 : Hid (∀ i, ∀ h : i < k + 1, ∀ h2 : i < sg.size, sg[i].toNat ≠ c) := fun i h h2 => by
          by_cases hi : i = k
          · subst hi; rw [HV.out]; exact hc
          · exact HN.out i (by omega) h2
        go_wp2
        go_roundw
        case rel => exact ⟨k + 1, by go_num, by omega, HN2, _, rfl⟩
        case measure => simp [intOf]; omega
    · have hd : decide ((k : Int) < (sg.size : Int)) = false := by simp; omega
      have HF : Hid (r = false) := HY.out (fun i h => HN.out i (by omega) h)
      go_wp2
      go_ret
      exact ⟨by rw [HF.out]; rfl, _, rfl⟩
end Go.Proofs.YtahphjaelpgjdaaDoor

/- The reader of a number's text as a function, and what it makes of digits. No condition. -/
import Derived.Test.YtofndhmnofghaaaGreatDoorUej
namespace Go.Proofs.YtofndhmnofghaaaGreatDoor.Ut
open Go
set_option linter.unusedVariables false
set_option linter.unusedSimpArgs false

/-- what is known while the digits are read -/
structure Rd where
  z : Nat
  nd : Nat
  nm : Nat
  sd : Bool
  sg : Bool
  tr : Bool
  dp : Int
def rdL : List UInt8 → Rd → Rd × List UInt8
  | [], r => (r, [])
  | c :: l, r =>
    if c.toNat = 46 then (if r.sd = true then (r, c :: l) else rdL l { r with sd := true, dp := r.nd })
    else if 48 ≤ c.toNat ∧ c.toNat ≤ 57 then
      (if c.toNat = 48 ∧ r.nd = 0 then rdL l { r with sg := true, dp := r.dp - 1 }
      else if r.nm < 19 then rdL l { r with sg := true, nd := r.nd + 1, z := r.z * 10 + (c.toNat - 48), nm := r.nm + 1 }
      else if c.toNat = 48 then rdL l { r with sg := true, nd := r.nd + 1 } else rdL l { r with sg := true, nd := r.nd + 1, tr := true })
    else (r, c :: l)
def expL : List UInt8 → Nat → Nat × List UInt8
  | [], e => (e, [])
  | c :: l, e => if 48 ≤ c.toNat ∧ c.toNat ≤ 57 then expL l (if e < 10000 then e * 10 + (c.toNat - 48) else e) else (e, c :: l)
/-- number, power, sign, whether digits were left out, what is left, whether it is well -/
structure Out where
  z : Nat
  x : Int
  neg : Bool
  tr : Bool
  left : List UInt8
  ok : Bool
def outR (r : Rd) (neg : Bool) (dp : Int) (l : List UInt8) : Out := ⟨r.z, if r.z = 0 then 0 else dp - r.nm, neg, r.tr, l, true⟩
def dpR (r : Rd) : Int := if r.sd = true then r.dp else r.nd
def powR (r : Rd) (neg eneg : Bool) : List UInt8 → Out
  | [] => ⟨r.z, 0, neg, r.tr, [], false⟩
  | c :: l => if 48 ≤ c.toNat ∧ c.toNat ≤ 57 then outR r neg (dpR r + (if eneg = true then -((expL (c :: l) 0).1 : Int) else ((expL (c :: l) 0).1 : Int))) (expL (c :: l) 0).2 else ⟨r.z, 0, neg, r.tr, c :: l, false⟩
def sgnR (r : Rd) (neg : Bool) : List UInt8 → Out
  | [] => ⟨r.z, 0, neg, r.tr, [], false⟩
  | c :: l => if c.toNat = 43 then powR r neg false l else if c.toNat = 45 then powR r neg true l else powR r neg false (c :: l)
def restR (neg : Bool) (r : Rd) : List UInt8 → Out
  | [] => if r.sg = false then ⟨r.z, 0, neg, r.tr, [], false⟩ else outR r neg (dpR r) []
  | c :: l => if r.sg = false then ⟨r.z, 0, neg, r.tr, c :: l, false⟩ else if c.toNat = 101 ∨ c.toNat = 69 then sgnR r neg l else outR r neg (dpR r) (c :: l)
def bodyR (neg : Bool) (l : List UInt8) : Out := restR neg (rdL l ⟨0, 0, 0, false, false, false, 0⟩).1 (rdL l ⟨0, 0, 0, false, false, false, 0⟩).2
def readF : List UInt8 → Out
  | [] => ⟨0, 0, false, false, [], false⟩
  | c :: l => if c.toNat = 43 then bodyR false l else if c.toNat = 45 then bodyR true l else bodyR false (c :: l)

/-- digits -/
def Dgt (ds : List UInt8) : Prop := ∀ c ∈ ds, 48 ≤ c.toNat ∧ c.toNat ≤ 57
def valL (ds : List UInt8) (a : Nat) : Nat := ds.foldl (fun a c => a * 10 + (c.toNat - 48)) a
theorem valL_cons (c : UInt8) (l : List UInt8) (a : Nat) : valL (c :: l) a = valL l (a * 10 + (c.toNat - 48)) := by unfold valL; rw [List.foldl_cons]
theorem valL_app (a b : List UInt8) (x : Nat) : valL (a ++ b) x = valL b (valL a x) := List.foldl_append ..
theorem valL_lt (ds : List UInt8) : ∀ (hd : Dgt ds) (a k : Nat), a < 10 ^ k → valL ds a < 10 ^ (k + ds.length) := by
  induction ds with
  | nil => intro _ a k h; rw [List.length_nil, Nat.add_zero]; exact h
  | cons c l ih =>
    intro hd a k h
    rw [valL_cons, List.length_cons, show k + (l.length + 1) = (k + 1) + l.length by omega]
    have hc := hd c (List.mem_cons_self ..)
    exact ih (fun c hc => hd c (List.mem_cons_of_mem _ hc)) _ _ (by rw [Nat.pow_succ]; omega)
theorem valL_le : ∀ (ds : List UInt8) (a : Nat), a ≤ valL ds a
  | [], a => Nat.le_refl _
  | c :: l, a => by
    rw [valL_cons]
    exact Nat.le_trans (by omega) (valL_le l _)
theorem valL_zeros : ∀ (k a : Nat), valL (List.replicate k 48) a = a * 10 ^ k
  | 0, a => by simp [valL]
  | k + 1, a => by
    rw [List.replicate_succ, valL_cons, valL_zeros k, Nat.pow_succ, show (48 : UInt8).toNat = 48 by decide, Nat.sub_self, Nat.add_zero, Nat.mul_assoc, Nat.mul_comm 10]
theorem rdL_digs : ∀ (ds rest : List UInt8) (r : Rd), Dgt ds → (r.nd = 0 → ds.headD 0 ≠ 48) → r.nm = r.nd → r.nd + ds.length ≤ 19 →
    rdL (ds ++ rest) r = rdL rest { r with sg := r.sg || !ds.isEmpty, nd := r.nd + ds.length, z := valL ds r.z, nm := r.nd + ds.length }
  | [], rest, r, _, _, hm, _ => by
    obtain ⟨z, nd, nm, sd, sg, tr, dp⟩ := r
    simp only at hm
    subst hm
    simp [valL]
  | c :: l, rest, r, hd, h0, hm, hl => by
    have hc := hd c (List.mem_cons_self ..)
    rw [List.length_cons] at hl
    rw [List.cons_append, rdL, if_neg (by omega), if_pos hc, if_neg, if_pos (by omega), rdL_digs l rest _ (fun c hc => hd c (List.mem_cons_of_mem _ hc)) (fun h => absurd h (Nat.succ_ne_zero _)) (by show r.nm + 1 = r.nd + 1; omega) (by show r.nd + 1 + l.length ≤ 19; omega)]
    · simp only [List.length_cons, valL_cons, List.isEmpty_cons, Bool.not_false, Bool.or_true, Bool.true_or]
      rw [show r.nd + 1 + l.length = r.nd + (l.length + 1) by omega]
    · rintro ⟨a, b⟩
      refine h0 b ?_
      rw [List.headD_cons]
      exact UInt8.toNat_inj.1 a
theorem rdL_zeros : ∀ (k : Nat) (rest : List UInt8) (r : Rd), r.nd = 0 →
    rdL (List.replicate k 48 ++ rest) r = rdL rest { r with sg := r.sg || decide (0 < k), dp := r.dp - k }
  | 0, rest, r, _ => by simp
  | k + 1, rest, r, h => by
    rw [List.replicate_succ, List.cons_append, rdL, if_neg (by decide), if_pos (by decide), if_pos ⟨by decide, h⟩, rdL_zeros k rest { r with sg := true, dp := r.dp - 1 } h]
    simp only [Bool.true_or, Nat.zero_lt_succ, decide_true, Bool.or_true]
    rw [show r.dp - 1 - (k : Int) = r.dp - ((k + 1 : Nat) : Int) by omega]
theorem rdL_dot (rest : List UInt8) (r : Rd) (h : r.sd = false) : rdL (46 :: rest) r = rdL rest { r with sd := true, dp := r.nd } := by
  rw [rdL, if_pos (by decide), if_neg (by rw [h]; decide)]
theorem expL_digs : ∀ (ds : List UInt8) (e : Nat), Dgt ds → e * 10 ^ ds.length + 10 ^ ds.length ≤ 10000 → expL ds e = (valL ds e, [])
  | [], e, _, _ => rfl
  | c :: l, e, hd, h => by
    have hc := hd c (List.mem_cons_self ..)
    have hp : 1 ≤ 10 ^ l.length := Nat.pow_pos (by omega)
    rw [List.length_cons, Nat.pow_succ] at h
    have he : e < 10000 := by
      have : e * 1 ≤ e * (10 ^ l.length * 10) := Nat.mul_le_mul_left e (by omega)
      omega
    rw [expL, if_pos hc, if_pos he, valL_cons]
    refine expL_digs l _ (fun c hc => hd c (List.mem_cons_of_mem _ hc)) ?_
    have h1 : (e * 10 + (c.toNat - 48)) * 10 ^ l.length + 10 ^ l.length ≤ (e * 10 + 10) * 10 ^ l.length := by
      rw [← Nat.succ_mul]; exact Nat.mul_le_mul_right _ (by omega)
    have h2 : (e * 10 + 10) * 10 ^ l.length = e * (10 ^ l.length * 10) + 10 ^ l.length * 10 := by
      rw [Nat.add_mul, Nat.mul_assoc, Nat.mul_comm 10]
    omega
end Go.Proofs.YtofndhmnofghaaaGreatDoor.Ut

namespace Go.Proofs.YtofndhmnofghaaaGreatDoor.Ut
open Go
set_option linter.unusedVariables false
set_option linter.unusedSimpArgs false

/-- what is left of a text from a place on -/
def Lf (s : ByteArray) (i : Nat) : List UInt8 := s.data.toList.drop i
theorem Lf_cons {s : ByteArray} {i : Nat} (h : i < s.size) : Lf s i = s[i] :: Lf s (i + 1) := by
  unfold Lf
  rw [List.drop_eq_getElem_cons (by simpa using h)]
  rfl
theorem Lf_nil {s : ByteArray} {i : Nat} (h : s.size ≤ i) : Lf s i = [] := by
  unfold Lf
  exact List.drop_eq_nil_of_le (by simpa using h)
section
variable {s : ByteArray} {i z nd nm : Nat} {sd sg tr : Bool} {dp : Int} {R : Rd × List UInt8}
theorem rd_dot (h : i < s.size) (hx : s[i].toNat = 46) (hR : rdL (Lf s i) ⟨z, nd, nm, false, sg, tr, dp⟩ = R) : rdL (Lf s (i + 1)) ⟨z, nd, nm, true, sg, tr, nd⟩ = R := by
  rw [Lf_cons h, rdL, if_pos hx, if_neg (by simp)] at hR; exact hR
theorem rd_dot2 (h : i < s.size) (hx : s[i].toNat = 46) (hR : rdL (Lf s i) ⟨z, nd, nm, true, sg, tr, dp⟩ = R) : R = (⟨z, nd, nm, true, sg, tr, dp⟩, Lf s i) := by
  rw [Lf_cons h, rdL, if_pos hx, if_pos rfl] at hR; rw [Lf_cons h]; exact hR.symm
theorem rd_zero (h : i < s.size) (hx : s[i].toNat = 48) (hR : rdL (Lf s i) ⟨z, 0, nm, sd, sg, tr, dp⟩ = R) : rdL (Lf s (i + 1)) ⟨z, 0, nm, sd, true, tr, dp - 1⟩ = R := by
  rw [Lf_cons h, rdL, if_neg (by omega), if_pos (by omega), if_pos ⟨hx, rfl⟩] at hR; exact hR
theorem rd_dig {x : Nat} (h : i < s.size) (hx : s[i].toNat = x) (h1 : 48 ≤ x) (h2 : x ≤ 57) (h0 : ¬ (x = 48 ∧ nd = 0)) (h19 : nm < 19) (hR : rdL (Lf s i) ⟨z, nd, nm, sd, sg, tr, dp⟩ = R) :
    rdL (Lf s (i + 1)) ⟨z * 10 + (x - 48), nd + 1, nm + 1, sd, true, tr, dp⟩ = R := by
  subst hx
  rw [Lf_cons h, rdL, if_neg (by omega), if_pos ⟨h1, h2⟩, if_neg h0, if_pos h19] at hR; exact hR
theorem rd_more0 (h : i < s.size) (hx : s[i].toNat = 48) (h0 : nd ≠ 0) (h19 : ¬ nm < 19) (hR : rdL (Lf s i) ⟨z, nd, nm, sd, sg, tr, dp⟩ = R) :
    rdL (Lf s (i + 1)) ⟨z, nd + 1, nm, sd, true, tr, dp⟩ = R := by
  rw [Lf_cons h, rdL, if_neg (by omega), if_pos (by omega), if_neg (fun h => h0 h.2), if_neg h19, if_pos hx] at hR; exact hR
theorem rd_more {x : Nat} (h : i < s.size) (hx : s[i].toNat = x) (h1 : 48 ≤ x) (h2 : x ≤ 57) (h0 : x ≠ 48) (h19 : ¬ nm < 19) (hR : rdL (Lf s i) ⟨z, nd, nm, sd, sg, tr, dp⟩ = R) :
    rdL (Lf s (i + 1)) ⟨z, nd + 1, nm, sd, true, true, dp⟩ = R := by
  subst hx
  rw [Lf_cons h, rdL, if_neg (by omega), if_pos ⟨h1, h2⟩, if_neg (fun h => h0 h.1), if_neg h19, if_neg h0] at hR; exact hR
theorem rd_stop {x : Nat} (h : i < s.size) (hx : s[i].toNat = x) (h46 : x ≠ 46) (hd : ¬ (48 ≤ x ∧ x ≤ 57)) (hR : rdL (Lf s i) ⟨z, nd, nm, sd, sg, tr, dp⟩ = R) : R = (⟨z, nd, nm, sd, sg, tr, dp⟩, Lf s i) := by
  subst hx
  rw [Lf_cons h, rdL, if_neg h46, if_neg hd] at hR; rw [Lf_cons h]; exact hR.symm
theorem rd_end (h : s.size ≤ i) (hR : rdL (Lf s i) ⟨z, nd, nm, sd, sg, tr, dp⟩ = R) : R = (⟨z, nd, nm, sd, sg, tr, dp⟩, Lf s i) := by
  rw [Lf_nil h, rdL] at hR; rw [Lf_nil h]; exact hR.symm
end
/-! the digits of the power -/
theorem ex_dig {s : ByteArray} {j e u : Nat} {Q : Nat × List UInt8} (h : j < s.size) (hu : s[j].toNat = u) (h1 : 48 ≤ u) (h2 : u ≤ 57) (he : e < 10000) (hQ : expL (Lf s j) e = Q) : expL (Lf s (j + 1)) (e * 10 + u - 48) = Q := by
  subst hu
  rw [Lf_cons h, expL, if_pos ⟨h1, h2⟩, if_pos he] at hQ
  rw [← hQ]; congr 1; omega
theorem ex_big {s : ByteArray} {j e u : Nat} {Q : Nat × List UInt8} (h : j < s.size) (hu : s[j].toNat = u) (h1 : 48 ≤ u) (h2 : u ≤ 57) (he : ¬ e < 10000) (hQ : expL (Lf s j) e = Q) : expL (Lf s (j + 1)) e = Q := by
  subst hu
  rw [Lf_cons h, expL, if_pos ⟨h1, h2⟩, if_neg he] at hQ; exact hQ
theorem ex_stop {s : ByteArray} {j e u : Nat} {Q : Nat × List UInt8} (h : j < s.size) (hu : s[j].toNat = u) (hd : ¬ (48 ≤ u ∧ u ≤ 57)) (hQ : expL (Lf s j) e = Q) : Q = (e, Lf s j) := by
  subst hu
  rw [Lf_cons h, expL, if_neg hd] at hQ; rw [Lf_cons h]; exact hQ.symm
theorem ex_end {s : ByteArray} {j e : Nat} {Q : Nat × List UInt8} (h : s.size ≤ j) (hQ : expL (Lf s j) e = Q) : Q = (e, Lf s j) := by
  rw [Lf_nil h, expL] at hQ; rw [Lf_nil h]; exact hQ.symm
/-! the sign -/
theorem sg_none {s : ByteArray} (h : s.size = 0) : readF (Lf s 0) = ⟨0, 0, false, false, Lf s 0, false⟩ := by
  rw [Lf_nil (by omega), readF]
theorem sg_plus {s : ByteArray} (h : 0 < s.size) (hx : s[0].toNat = 43) : readF (Lf s 0) = bodyR false (Lf s 1) := by
  rw [Lf_cons h, readF, if_pos hx]
theorem sg_minus {s : ByteArray} (h : 0 < s.size) (hx : s[0].toNat = 45) : readF (Lf s 0) = bodyR true (Lf s 1) := by
  rw [Lf_cons h, readF, if_neg (by omega), if_pos hx]
theorem sg_no {s : ByteArray} {x : Nat} (h : 0 < s.size) (hx : s[0].toNat = x) (h1 : x ≠ 43) (h2 : x ≠ 45) : readF (Lf s 0) = bodyR false (Lf s 0) := by
  subst hx
  rw [Lf_cons h, readF, if_neg h1, if_neg h2]
/-! what stands behind the digits -/
theorem rs_no {neg : Bool} {r : Rd} (l : List UInt8) (h : r.sg = false) : restR neg r l = ⟨r.z, 0, neg, r.tr, l, false⟩ := by
  cases l with
  | nil => rw [restR, if_pos h]
  | cons c l => rw [restR, if_pos h]
theorem rs_end {neg : Bool} {r : Rd} {s : ByteArray} {i : Nat} (hi : s.size ≤ i) (h : r.sg = true) : restR neg r (Lf s i) = outR r neg (dpR r) (Lf s i) := by
  rw [Lf_nil hi, restR, if_neg (by rw [h]; decide)]
theorem rs_plain {neg : Bool} {r : Rd} {s : ByteArray} {i : Nat} (hi : i < s.size) (h : r.sg = true) (hx : ¬ (s[i].toNat = 101 ∨ s[i].toNat = 69)) : restR neg r (Lf s i) = outR r neg (dpR r) (Lf s i) := by
  rw [Lf_cons hi, restR, if_neg (by rw [h]; decide), if_neg hx]
theorem rs_pow {neg : Bool} {r : Rd} {s : ByteArray} {i : Nat} (hi : i < s.size) (h : r.sg = true) (hx : s[i].toNat = 101 ∨ s[i].toNat = 69) : restR neg r (Lf s i) = sgnR r neg (Lf s (i + 1)) := by
  rw [Lf_cons hi, restR, if_neg (by rw [h]; decide), if_pos hx]
theorem pw_none {neg : Bool} {r : Rd} {s : ByteArray} {i : Nat} (hi : s.size ≤ i) : sgnR r neg (Lf s i) = ⟨r.z, 0, neg, r.tr, Lf s i, false⟩ := by
  rw [Lf_nil hi, sgnR]
theorem pw_plus {neg : Bool} {r : Rd} {s : ByteArray} {i : Nat} (hi : i < s.size) (hx : s[i].toNat = 43) : sgnR r neg (Lf s i) = powR r neg false (Lf s (i + 1)) := by
  rw [Lf_cons hi, sgnR, if_pos hx]
theorem pw_minus {neg : Bool} {r : Rd} {s : ByteArray} {i : Nat} (hi : i < s.size) (hx : s[i].toNat = 45) : sgnR r neg (Lf s i) = powR r neg true (Lf s (i + 1)) := by
  rw [Lf_cons hi, sgnR, if_neg (by omega), if_pos hx]
theorem pw_no {neg : Bool} {r : Rd} {s : ByteArray} {i y : Nat} (hi : i < s.size) (hx : s[i].toNat = y) (h1 : y ≠ 43) (h2 : y ≠ 45) : sgnR r neg (Lf s i) = powR r neg false (Lf s i) := by
  subst hx
  rw [Lf_cons hi, sgnR, if_neg h1, if_neg h2]
theorem pn_none {neg eneg : Bool} {r : Rd} {s : ByteArray} {j : Nat} (hj : s.size ≤ j) : powR r neg eneg (Lf s j) = ⟨r.z, 0, neg, r.tr, Lf s j, false⟩ := by
  rw [Lf_nil hj, powR]
theorem pn_bad {neg eneg : Bool} {r : Rd} {s : ByteArray} {j v : Nat} (hj : j < s.size) (hv : s[j].toNat = v) (hd : ¬ (48 ≤ v ∧ v ≤ 57)) : powR r neg eneg (Lf s j) = ⟨r.z, 0, neg, r.tr, Lf s j, false⟩ := by
  subst hv
  rw [Lf_cons hj, powR, if_neg hd]
theorem pn_dig {neg eneg : Bool} {r : Rd} {s : ByteArray} {j v e : Nat} {l : List UInt8} (hj : j < s.size) (hv : s[j].toNat = v) (h1 : 48 ≤ v) (h2 : v ≤ 57) (hQ : expL (Lf s j) 0 = (e, l)) :
    powR r neg eneg (Lf s j) = outR r neg (dpR r + (if eneg = true then -(e : Int) else (e : Int))) l := by
  subst hv
  rw [Lf_cons hj] at hQ ⊢
  rw [powR, if_pos ⟨h1, h2⟩, hQ]
end Go.Proofs.YtofndhmnofghaaaGreatDoor.Ut

import Derived.Test.YtofndhmnofghaaaGreatDoorB3j
import Derived.Test.YtofndhmnofghaaaGreatDoorB6j
import Derived.Lib.AppendStr
namespace Go.Proofs.YtofndhmnofghaaaGreatDoor
open Go.RowKit Ieee
set_option linter.unusedVariables false

/-! the text of digits, in one way or the other -/
def fText (neg : Bool) (ds : List UInt8) (dp : Int) : List UInt8 :=
  if 0 < dp then
    if dp.toNat < ds.length then sgn neg ++ ds.take dp.toNat ++ [46] ++ ds.drop dp.toNat else sgn neg ++ ds ++ List.replicate (dp.toNat - ds.length) 48
  else if 0 < ds.length + (-dp).toNat then sgn neg ++ [48] ++ [46] ++ List.replicate (-dp).toNat 48 ++ ds else sgn neg ++ [48]
def gText (neg : Bool) (ds : List UInt8) (dp : Int) : List UInt8 := if dp - 1 < -4 ∨ (-4 ≤ dp - 1 ∧ 6 ≤ dp - 1) then efgE neg ds (dp - 1) else fText neg ds dp
theorem efg_any (neg : Bool) (ds : List UInt8) (dp : Int) (b cap base nd : Nat) (w w0 : World) (v : Value) (hO : Outp w0 base b ds v [] w) (hnd : ds.length = nd) (hn : nd ≤ 20) (hc1 : 32 ≤ cap) (hc2 : cap ≤ 9223372036854775807)
    (hd1 : -390 ≤ dp) (hd2 : dp ≤ 390) :
    Calls Tryz.prog 56 #[v, .bool neg, .slice (some ⟨b, 0, none⟩) 32 cap, .int .i64 dp, .int .i64 (nd : Int), .int .i64 (nd : Int), .int .u8 103, .bool true] w (EfgP w0 base b ds (gText neg ds dp)) := by
  unfold gText
  by_cases hx : dp - 1 < -4 ∨ (-4 ≤ dp - 1 ∧ 6 ≤ dp - 1)
  · rw [if_pos hx]
    exact efgE_walk neg ds dp b cap base nd w w0 v hO hnd hn hc1 hc2 hd1 hd2 hx
  · rw [if_neg hx]
    unfold fText
    by_cases h0 : 0 < dp
    · rw [if_pos h0]
      obtain ⟨q, rfl⟩ : ∃ q : Nat, dp = (q : Int) := ⟨dp.toNat, by omega⟩
      rw [Int.toNat_natCast, hnd]
      by_cases h1 : q < nd
      · rw [if_pos h1]
        exact efgF_b neg ds q (nd - q) b cap base nd w w0 v hO hnd hn hc1 hc2 (by omega) (by omega) (by omega) (by omega)
      · rw [if_neg h1]
        exact efgF_a neg ds q (q - nd) b cap base nd w w0 v hO hnd hn hc1 hc2 (by omega) (by omega) (by omega)
    · rw [if_neg h0]
      obtain ⟨z, rfl⟩ : ∃ z : Nat, dp = -(z : Int) := ⟨(-dp).toNat, by omega⟩
      rw [show (-(-(z : Int))).toNat = z by omega, hnd]
      by_cases h1 : 0 < nd + z
      · rw [if_pos h1]
        exact efgF_c neg ds z (nd + z) b cap base nd w w0 v hO hnd hn hc1 hc2 (by omega) rfl h1
      · rw [if_neg h1]
        obtain rfl : nd = 0 := by omega
        obtain rfl : z = 0 := by omega
        exact efg_zero neg ds _ 0 b base w w0 v hO (.inl rfl)
/-- a string behind -/
theorem push_str {w0 w : World} {base : Nat} {v : Value} {ops : Array Oper} {rest : List Oper} {o : Oper} {a : Act} {Q : Exit → Act → World → Prop} (hgd : o.guard = none) (s x : Operand)
    (ho : o.op = .call { callee := .builtin .append, args := #[s, x], argTypes := #[66, 9] }) (hs : a.eval s = v) (hbel : Below base w0 w) (hle : base ≤ w.heap.size) (hO : w.ownsRow base 5 1 v 0 []) (t : ByteArray) (hx : a.eval x = .string t) (hl : t.size ≤ 65536)
    (h : ∀ v' w', w'.ownsRow base 5 1 v' t.data.toList.length (t.data.toList.map encB) → Below base w0 w' → base ≤ w'.heap.size → wpList Tryz.prog ops Q rest (a.put o.dst v') w') : wpList Tryz.prog ops Q (o :: rest) a w := by
  obtain ⟨i0, hi0, hz0, hz1, hz2⟩ := info_parts info5
  refine Go.Lib.wpList_append_own_string w hgd s x 66 9 ho base 5 i0 Tryz.underlying66 Tryz.underlying9 hi0 hz0 hz1 hz2 v 0 [] hs hO t hx (by unfold maxLen; omega) (by omega) hle ?_
  intro v' w' ho' hg _
  refine h v' w' ?_ (hbel.grown hg hle fun k hk => (hO.lt k hk).1) (Nat.le_trans hle hg.size)
  have e1 : 0 + t.size = t.data.toList.length := by simp
  have e2 : ([] : List Value) ++ Go.Lib.strCells t = t.data.toList.map encB := by rw [List.nil_append]; rfl
  rw [e1, e2] at ho'
  exact ho'
theorem own_below {w w' : World} {base B n : Nat} {v : Value} {xs : List Value} (h : w.ownsRow base 5 1 v n xs) (hb : Below B w w') (hlt : ∀ k, v.ownBlock = some k → k < B) : w'.ownsRow base 5 1 v n xs := by
  refine ⟨h.1, ?_⟩
  rcases h.2 with h1 | ⟨g, cap, cur, rfl, h2, h3, h4⟩
  · exact .inl h1
  · exact .inr ⟨g, cap, cur, rfl, h2, (hb.block g (hlt g rfl)).trans h3, h4⟩
theorem sfP_in (m : Nat) (e : Int) (he : -1137 ≤ e) (he2 : e ≤ 960) : -294 ≤ sfP m e ∧ sfP m e ≤ 324 := by
  unfold sfP
  by_cases hA : sfA m e = true
  · rw [if_pos hA]
    have : -1085 < e := by unfold sfA at hA; simp at hA; exact hA.2
    omega
  · rw [if_neg hA]
    split <;> omega
theorem sfE_in (m : Nat) (e : Int) (he : -1137 ≤ e) (he2 : e ≤ 960) : -324 ≤ sfE m e ∧ sfE m e ≤ 295 := by
  have := sfP_in m e he he2
  unfold sfE
  split <;> omega
theorem round_in (u : Int) : 0 ≤ roundF u ∧ roundF u < 18446744073709551616 := by
  have := u64_in (IntKind.u64.wrap (u + 1) + bits BinOp.and IntKind.u64 (u / 4) 1)
  unfold roundF
  omega
theorem sfD_in (m : Nat) (e : Int) : 0 ≤ sfD m e ∧ sfD m e < 18446744073709551616 := by
  have h1 := ceil_in (nud (scale (sfMin m e) (sfPre m e)) (sfOdd m e))
  have h2 := nud_in (scale (sfMax m e) (sfPre m e)) (-(sfOdd m e : Int))
  have h3 := round_in (scale m (sfPre m e))
  have e1 : sfHi m e = nud (scale (sfMax m e) (sfPre m e)) (-(sfOdd m e : Int)) / 4 := rfl
  have e2 : sfLo m e = ceilF (nud (scale (sfMin m e) (sfPre m e)) (sfOdd m e)) := rfl
  unfold sfD
  split
  · omega
  · split
    · exact h3
    · omega
end Go.Proofs.YtofndhmnofghaaaGreatDoor

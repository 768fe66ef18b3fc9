/- The text of any bits is read as the same ones, or as None if they are no number's. No condition. -/
import Derived.Test.YtofndhmnofghaaaGreatDoorSsj
import Derived.Test.YtofndhmnofghaaaGreatDoorSoj
import Derived.Test.YtofndhmnofghaaaGreatDoorX4j
import Derived.Test.YtofndhmnofghaaaGreatDoorR5j
import Derived.Test.YtofndhmnofghaaaGreatDoorD5j
namespace Go.Proofs.YtofndhmnofghaaaGreatDoor.Sl
open Go.RowKit
set_option linter.unusedVariables false

theorem al_now {s : ByteArray} (h : Al s) : NoW s := by
  have key : ∀ (c : UInt8) (r : List UInt8) (k : Nat) (x : UInt8), s.data.toList = c :: r → (c :: r)[k]? = some x → (x = 78 ∨ x = 73) → False := by
    intro c r k x e hx hc
    rw [← e] at hx
    have hk : k < s.size := by
      have := (List.getElem?_eq_some_iff.1 hx).1
      simpa using this
    have hg : s[k] = x := by
      have h2 := (List.getElem?_eq_some_iff.1 hx).2
      rw [← h2]; rfl
    have := h k hk
    rw [hg] at this
    rcases hc with rfl | rfl
    · exact absurd this (by decide)
    · exact absurd this (by decide)
  exact ⟨fun e => key _ _ 0 78 e rfl (.inl rfl), fun e => key _ _ 0 73 e rfl (.inr rfl), fun e => key _ _ 1 73 e rfl (.inr rfl), fun e => key _ _ 1 73 e rfl (.inr rfl)⟩
theorem num_of {s : ByteArray} {v : Int} {ok : Bool} (h : ParR s v ok) (hd : decB s = true) (hs : s.size ≤ 200) : ok = true ∧ ∃ b : Nat, PfR s b ∧ v = (b : Int) := by
  have hn := al_now (decB_al hd)
  cases h with
  | none h => exact absurd h hn.a
  | inf h => rcases h with h | h; exact absurd h hn.b; exact absurd h hn.c
  | minf h => exact absurd h hn.d
  | num b h1 h2 h3 => exact ⟨rfl, b, h3, rfl⟩
  | bad h1 h2 => unfold numT at h2; rw [hd, decide_eq_true hs] at h2; cases h2
theorem zero_reads (s : ByteArray) (n b : Nat) (h : PfR s b) (hn : n = 0 ∧ Ut.Lf s 0 = [48] ∨ n = 9223372036854775808 ∧ Ut.Lf s 0 = [45, 48]) : b = n := by
  obtain ⟨m, b0, ⟨h1, h2, h3⟩, hb⟩ := h
  have hl : s.size = (Ut.Lf s 0).length := by unfold Ut.Lf; simp
  rcases hn with ⟨rfl, hs⟩ | ⟨rfl, hs⟩
  · have e : Ut.readF (Ut.Lf s 0) = ⟨0, 0, false, false, [], true⟩ := by rw [hs]; rfl
    rw [e] at h1 h3
    have hm : m = s.size := by
      rcases Nat.lt_or_ge m s.size with hlt | hge
      · rw [Ut.Lf_cons hlt] at h1; cases h1
      · omega
    rw [if_pos hm] at hb
    have h4 : (b0 : Int) = bits BinOp.or IntKind.u64 (sgW false : Int) 0 := h3
    rw [show bits BinOp.or IntKind.u64 (sgW false : Int) 0 = 0 by decide +kernel] at h4
    omega
  · have e : Ut.readF (Ut.Lf s 0) = ⟨0, 0, true, false, [], true⟩ := by rw [hs]; rfl
    rw [e] at h1 h3
    have hm : m = s.size := by
      rcases Nat.lt_or_ge m s.size with hlt | hge
      · rw [Ut.Lf_cons hlt] at h1; cases h1
      · omega
    rw [if_pos hm] at hb
    have h4 : (b0 : Int) = bits BinOp.or IntKind.u64 (sgW true : Int) 0 := h3
    rw [show bits BinOp.or IntKind.u64 (sgW true : Int) 0 = 9223372036854775808 by decide +kernel] at h4
    omega
theorem sgW_is (ng : Bool) (r : Nat) : Ieee.double.word ng r = sgW ng + r := by
  cases ng
  · rw [Fl.word_f]; unfold sgW; simp
  · rw [Fl.word_t]; rfl
theorem sgW_in (ng : Bool) : sgW ng = 0 ∨ sgW ng = 9223372036854775808 := by cases ng; exact .inl rfl; exact .inr rfl
theorem fin_reads_as {s : ByteArray} {n b : Nat} (hn : n < 18446744073709551616) (hfin : n % 9223372036854775808 < 9218868437227405312) (h0 : n % 9223372036854775808 ≠ 0) (hs : Ut.Lf s 0 = fmtF n) (h : PfR s b) : b = n := by
  obtain ⟨m, b0, ⟨h1, h2, h3⟩, hb⟩ := h
  obtain ⟨mant, q, V, hf, hm0, hq, hr, hV, z, x, hrd, hz0, hz1, hx, hT⟩ := fmt_reads n hn hfin h0
  rw [hs, hrd] at h1 h3
  subst hT
  obtain ⟨hx1, hx2⟩ := Ut.pow_in hf hm0 hq hz0 (by omega) hx hV
  have hm : m = s.size := by
    rcases Nat.lt_or_ge m s.size with hlt | hge
    · rw [Ut.Lf_cons hlt] at h1; cases h1
    · omega
  rw [if_pos hm] at hb
  rw [if_neg (show ¬ true = false by decide), if_neg (show ¬ z = 0 by omega), if_neg (show ¬ 310 < x by omega), if_neg (show ¬ x < -345 by omega), if_pos rfl] at h3
  have hw : sgW (decide (9223372036854775808 ≤ n)) + n % 9223372036854775808 = n := by
    unfold sgW
    by_cases hc : 9223372036854775808 ≤ n
    · rw [decide_eq_true hc, if_pos rfl]; omega
    · rw [decide_eq_false hc, if_neg (by decide)]; omega
  cases he : exF z x (decide (9223372036854775808 ≤ n)) with
  | none =>
    have h4 : b0 = Rd.pfB z x (sgW (decide (9223372036854775808 ≤ n))) := by
      have h5 : b0 = (exF z x (decide (9223372036854775808 ≤ n))).getD (Rd.pfB z x (sgW (decide (9223372036854775808 ≤ n)))) := h3
      rw [he] at h5; exact h5
    rw [Rd.pf_is hf hm0 hq hz0 hz1 hx1 hx2 hV (sgW_in _), hr] at h4
    omega
  | some c =>
    have h4 : b0 = c := by
      have h5 : b0 = (exF z x (decide (9223372036854775808 ≤ n))).getD (Rd.pfB z x (sgW (decide (9223372036854775808 ≤ n)))) := h3
      rw [he] at h5; exact h5
    have h5 := ex_is hf hq hz0 hV he
    rw [sgW_is, hr] at h5
    omega
theorem str_lf (n : Nat) : Ut.Lf (strF n) 0 = fmtF n := by
  unfold Ut.Lf strF
  simp
theorem str_size (n : Nat) : (strF n).size = (fmtF n).length := by
  unfold strF
  simp [ByteArray.size]
/-- what the text of bits is read as -/
theorem text_par {n : Nat} (hn : n < 18446744073709551616) {v : Int} {ok : Bool} (h : ParR (strF n) v ok) : ok = true ∧ v = (if noneB (n : Int) = true then 9221120237041090561 else (n : Int)) := by
  by_cases hN : noneB (n : Int) = true
  · rw [if_pos hN]
    have e := fmt_none n hn hN
    have g : ParR (strF n) 9221120237041090561 true := .none (by rw [e])
    obtain ⟨a, b⟩ := h.det g
    exact ⟨b, a⟩
  · rw [if_neg hN]
    by_cases hP : n = 9218868437227405312
    · subst hP
      have g : ParR (strF 9218868437227405312) 9218868437227405312 true := .inf (.inr (by rw [fmt_pinf]))
      obtain ⟨a, b⟩ := h.det g
      exact ⟨b, a⟩
    · by_cases hM : n = 18442240474082181120
      · subst hM
        have g : ParR (strF 18442240474082181120) 18442240474082181120 true := .minf (by rw [fmt_ninf])
        obtain ⟨a, b⟩ := h.det g
        exact ⟨b, a⟩
      · have hfin : n % 9223372036854775808 < 9218868437227405312 := by
          unfold noneB at hN
          simp only [Bool.and_eq_true, beq_iff_eq, bne_iff_ne] at hN
          omega
        by_cases h0 : n % 9223372036854775808 = 0
        · have hc : n = 0 ∨ n = 9223372036854775808 := by omega
          rcases hc with rfl | rfl
          · have e : fmtF 0 = [48] := by decide +kernel
            have e2 : strF 0 = ⟨#[48]⟩ := by unfold strF; rw [e]
            obtain ⟨a, b, hb, rfl⟩ := num_of h (by rw [e2]; decide +kernel) (by rw [str_size, e]; decide)
            exact ⟨a, by rw [zero_reads _ 0 b hb (.inl ⟨rfl, by rw [str_lf, e]⟩)]⟩
          · have e : fmtF 9223372036854775808 = [45, 48] := by decide +kernel
            have e2 : strF 9223372036854775808 = ⟨#[45, 48]⟩ := by unfold strF; rw [e]
            obtain ⟨a, b, hb, rfl⟩ := num_of h (by rw [e2]; decide +kernel) (by rw [str_size, e]; decide)
            exact ⟨a, by rw [zero_reads _ 9223372036854775808 b hb (.inr ⟨rfl, by rw [str_lf, e]⟩)]⟩
        · obtain ⟨d1, d2⟩ := fmt_dec n hn hfin h0 (strF n) (str_lf n)
          obtain ⟨a, b, hb, rfl⟩ := num_of h d1 (by rw [str_size]; omega)
          exact ⟨a, by rw [fin_reads_as hn hfin h0 (str_lf n) hb]⟩
end Go.Proofs.YtofndhmnofghaaaGreatDoor.Sl

namespace Go.Proofs.YtofndhmnofghaaaGreatDoor.Sl
open Go.RowKit
set_option linter.unusedVariables false

/-- all that the law takes of the world -/
structure Laid2 (Q qo qc P off c F fo fc : Nat) (w : World) : Prop where
  laid : Laid w
  tabs : Tabs Q qo qc P off c F fo fc w
theorem Laid2.below {Q qo qc P off c F fo fc : Nat} {w w' : World} (h : Laid2 Q qo qc P off c F fo fc w) (hb : Below w.heap.size w w') : Laid2 Q qo qc P off c F fo fc w' := ⟨h.laid.below hb, h.tabs.below hb⟩
set_option maxRecDepth 100000 in
set_option maxHeartbeats 4000000 in
theorem texts_walk {Q qo qc P off c F fo fc : Nat} (s : ByteArray) (v : Int) (hv : Bits v) (w : World) (hL : Laid2 Q qo qc P off c F fo fc w) :
    Calls Tryz.prog 4 #[.string s, .int .u64 v] w fun e w' => e = .returned (.bool true) ∧ Below w.heap.size w w' := by
  have HA := Lib.hid (awake_any w hL.laid)
  by_cases hs : 400 < s.size
  · have hs4 : decide ((400 : Int) < (s.size : Int)) = true := decide_eq_true (by omega)
    clear hs hL
    go_enter Tryz.func4, Tryz.ntmps4
    go_wp2_with fail
    refine (HA.out).mono ?_
    rintro e w1 ⟨rfl, hb1⟩
    have K1 := Lib.hid hb1
    clear hb1
    go_wp2_with fail
    go_ret
    exact ⟨rfl, K1.out⟩
  · have hs4 : decide ((400 : Int) < (s.size : Int)) = false := decide_eq_false (by omega)
    have hs5 : s.size ≤ 400 := by omega
    have H14 := Lib.hid (fun W (hW : Below w.heap.size w W) => value_any s W (hL.below hW).tabs (by omega))
    have H15 := Lib.hid (fun W (hW : Below w.heap.size w W) => refvalue_any s W (hL.below hW).tabs (by omega))
    have H16 := Lib.hid (fun W (hW : Below w.heap.size w W) => code_is 13 (by decide) W (hL.below hW).laid.err)
    have H12 := Lib.hid (fun W (hW : Below w.heap.size w W) => by
      have := text_any v.toNat (by have := hv.1; have := hv.2; omega) W (hL.below hW).laid.tabs
      rw [show ((v.toNat : Nat) : Int) = v by have := hv.1; omega] at this
      exact this)
    have hsz : (strF v.toNat).size ≤ 65536 := by
      rw [str_size]
      have hn : v.toNat < 18446744073709551616 := by have := hv.1; have := hv.2; omega
      generalize v.toNat = n at *
      by_cases hi : n / 4503599627370496 % 2048 = 2047
      · unfold fmtF
        rw [if_pos hi]
        unfold specT
        split <;> (try split) <;> decide
      · by_cases h0 : n % 9223372036854775808 = 0
        · unfold fmtF
          rw [if_neg hi, if_pos (by omega), if_pos (by omega)]
          generalize decide (9223372036854775808 ≤ n) = b
          cases b <;> decide
        · have := (fmt_dec n hn (by omega) h0 (strF n) (str_lf n)).2
          omega
    have H14b := Lib.hid (fun W (hW : Below w.heap.size w W) => value_any (strF v.toNat) W (hL.below hW).tabs hsz)
    have HTP := Lib.hid (fun x ok (h : ParR (strF v.toNat) x ok) => text_par (n := v.toNat) (by have := hv.1; have := hv.2; omega) h)
    rw [show ((v.toNat : Nat) : Int) = v by have := hv.1; omega] at HTP
    have H17 := Lib.hid (fun W => isnone_any v hv W)
    clear hs hL hv hsz
    generalize strF v.toNat = t at *
    generalize noneB v = nb at *
    go_enter Tryz.func4, Tryz.ntmps4
    go_wp2_with fail
    refine (HA.out).mono ?_
    rintro e w1 ⟨rfl, hb1⟩
    have K1 := Lib.hid hb1
    clear hb1
    go_wp2_with fail
    refine (H14.out _ K1.out).mono ?_
    rintro e w2 ⟨⟨x1, ok1, rfl, hp1⟩, hb2⟩
    have K2 := Lib.hid (K1.out.trans (hb2.mono K1.out.size))
    clear hb2
    go_wp2_with fail
    refine (H15.out _ K2.out).mono ?_
    rintro e w3 ⟨⟨x2, ok2, rfl, hp2⟩, hb3⟩
    have K3 := Lib.hid (K2.out.trans (hb3.mono K2.out.size))
    obtain ⟨rfl, rfl⟩ := hp1.det hp2
    clear hb3 hp2
    cases ok1 with
    | true =>
      clear hp1
      have hx : (x1 != x1) = false := by simp
      rw [show numEr true = Value.nilIface from rfl]
      go_wp2_with fail
      refine (H12.out _ K3.out).mono ?_
      rintro e w4 ⟨rfl, hb4⟩
      have K4 := Lib.hid (K3.out.trans (hb4.mono K3.out.size))
      clear hb4
      go_wp2_with fail
      refine (H14b.out _ K4.out).mono ?_
      rintro e w5 ⟨⟨x3, ok3, rfl, hp3⟩, hb5⟩
      have K5 := Lib.hid (K4.out.trans (hb5.mono K4.out.size))
      obtain ⟨rfl, hx3⟩ := HTP.out _ _ hp3
      clear hb5 hp3
      cases nb with
      | true =>
        rw [if_pos rfl] at hx3
        subst hx3
        rw [show numEr true = Value.nilIface from rfl]
        go_wp2_with fail
        refine (H17.out _).mono ?_
        rintro e w6 ⟨rfl, rfl⟩
        go_wp2_with fail
        go_ret
        exact ⟨rfl, K5.out⟩
      | false =>
        rw [if_neg (by decide)] at hx3
        subst hx3
        have hxx : (x3 == x3) = true := by simp
        rw [show numEr true = Value.nilIface from rfl]
        go_wp2_with fail
        refine (H17.out _).mono ?_
        rintro e w6 ⟨rfl, rfl⟩
        go_wp2_with fail
        go_ret
        exact ⟨by simp, K5.out⟩
    | false =>
      obtain rfl := hp1.no
      clear hp1
      rw [show numEr false = Value.iface 45 (.int .i64 13) from rfl]
      go_wp2_with fail
      refine (H16.out _ K3.out).mono ?_
      rintro e w3b ⟨rfl, hb3⟩
      have K3b := Lib.hid (K3.out.trans (hb3.mono K3.out.size))
      clear hb3
      go_wp2_with fail
      refine (H12.out _ K3b.out).mono ?_
      rintro e w4 ⟨rfl, hb4⟩
      have K4 := Lib.hid (K3b.out.trans (hb4.mono K3b.out.size))
      clear hb4
      go_wp2_with fail
      refine (H14b.out _ K4.out).mono ?_
      rintro e w5 ⟨⟨x3, ok3, rfl, hp3⟩, hb5⟩
      have K5 := Lib.hid (K4.out.trans (hb5.mono K4.out.size))
      obtain ⟨rfl, hx3⟩ := HTP.out _ _ hp3
      clear hb5 hp3
      cases nb with
      | true =>
        rw [if_pos rfl] at hx3
        subst hx3
        rw [show numEr true = Value.nilIface from rfl]
        go_wp2_with fail
        refine (H17.out _).mono ?_
        rintro e w6 ⟨rfl, rfl⟩
        go_wp2_with fail
        go_ret
        exact ⟨rfl, K5.out⟩
      | false =>
        rw [if_neg (by decide)] at hx3
        subst hx3
        have hxx : (x3 == x3) = true := by simp
        rw [show numEr true = Value.nilIface from rfl]
        go_wp2_with fail
        refine (H17.out _).mono ?_
        rintro e w6 ⟨rfl, rfl⟩
        go_wp2_with fail
        go_ret
        exact ⟨by simp, K5.out⟩
end Go.Proofs.YtofndhmnofghaaaGreatDoor.Sl

import Derived.Test.YtaggmakaceafgaaGreatDoorC7
import Derived.Test.YtaggmakaceafgaaGreatDoorShelfB
namespace Go.Proofs.YtaggmakaceafgaaGreatDoor
open Go.RowKit Lx
set_option linter.unusedVariables false

/-! quoted texts -/
def T8 (w : World) : Prop := Lib.Utf8Tabs 2 3 w
theorem T8.below {w w' : World} {B : Nat} (h : T8 w) (hB : 4 ≤ B) (hb : Below B w w') : T8 w' :=
  ⟨fun c hc => (hb.cell (p := ⟨2, c, none⟩) (by show 2 < B; omega)).trans (h.1 c hc), fun i hi => ⟨(hb.cell (p := ⟨3, 2 * i, none⟩) (by show 3 < B; omega)).trans (h.2 i hi).1, (hb.cell (p := ⟨3, 2 * i + 1, none⟩) (by show 3 < B; omega)).trans (h.2 i hi).2⟩⟩
theorem T8.size {w : World} (h : T8 w) : 4 ≤ w.heap.size := World.block_lt_of_cell? _ _ (h.2 0 (by omega)).1
theorem valid_any (s : ByteArray) (w : World) (hs : s.size ≤ 9223372036854775807) (hT : T8 w) : Calls Tryz.prog 41 #[.string s] w fun e w' => e = .returned (.bool (Lib.validD s.data.toList)) ∧ Below w.heap.size w w' :=
  Any.utf8_ValidString Tryz.laysValid s w hs hT
theorem blk_keep {w w' : World} {g B : Nat} {t : TypeId} {cs : Array Value} (h : Blk w g t cs) (hb : Below B w w') (hg : g < B) : Blk w' g t cs := (hb.block g hg).trans h
theorem bytes_snoc (l : List UInt8) (c : UInt8) : Lib.byteCells l ++ [.int .u8 (c.toNat : Int)] = Lib.byteCells (l ++ [c]) := by simp [Lib.byteCells]
def quotedF (l : List UInt8) : Option (Nat × List UInt8 × Nat) :=
  match l with
  | [] => none
  | c :: r => if c = 34 then (quoteL [] 1 r).map fun q => (4, q.1, q.2) else none
theorem quotedF_cons (c : UInt8) (r : List UInt8) : quotedF (c :: r) = if c = 34 then (quoteL [] 1 r).map (fun q => (4, q.1, q.2)) else none := rfl
def quoteV (p : Nat) (o : Option (List UInt8 × Nat)) : Option (Nat × List UInt8 × Nat) := o.map fun q => (4, q.1, q.2)
theorem quoteL_nil (acc : List UInt8) (n : Nat) : quoteL acc n [] = none := by rw [quoteL.eq_def]
theorem quoteL_esc (s : ByteArray) (acc : List UInt8) (n k : Nat) : quoteL acc n (92 :: s.data.toList.drop k) = (escF s k).bind fun m => quoteL (acc ++ [m]) (n + 2) (s.data.toList.drop (k + 1)) := by
  rw [quoteL_cons, if_neg (by decide), if_neg (by decide), if_pos rfl]
  unfold escF
  by_cases h : k < s.size
  · rw [dif_pos h, drop_byte s k h]
    simp only
    split
    · rfl
    · split <;> rfl
  · rw [dif_neg h, drop_none s k (by omega)]
    rfl
theorem grown_of_below {W W' : World} (hb : Below W.heap.size W W') (row : Option Nat) : W.grownBy W' row :=
  ⟨hb.os, hb.tape, hb.output, hb.size, fun k hk _ => hb.block k hk⟩
theorem builder_below {T e : TypeId} {B b : Nat} {bs : List Value} {W W' : World} (h : Lib.IsBuilderF T e B b bs W) (hb : Below W.heap.size W W') : Lib.IsBuilderF T e B b bs W' := by
  have key : ∀ q, Lib.BuilderAtF T e B b q bs W → Lib.BuilderAtF T e B b q bs W' := fun q hq => by
    have hl : b < W.heap.size := World.block_lt_of_cell? W ⟨b, 0, none⟩ hq.cell0
    obtain ⟨h1, v, h2, h3, h4⟩ := hq
    refine ⟨h1, v, (hb.block b hl).trans h2, h3.kept (grown_of_below hb none) ?_, h4⟩
    cases v.ownBlock with
    | none => exact .inl rfl
    | some g => exact .inr (by simp)
  rcases h with h | h
  · exact .inl (key _ h)
  · exact .inr (key _ h)
def QRel (s : ByteArray) (p : Nat) (w w1 : World) (o : Option (List UInt8 × Nat)) (k : Nat) (acc : List UInt8) (wx : World) : Prop :=
  quoteL acc (k - p) (s.data.toList.drop k) = o ∧ Lib.IsBuilderF 83 5 (w.heap.size + 1) (w.heap.size + 1) (Lib.byteCells acc) wx ∧ Below (w.heap.size + 1) w1 wx ∧ acc.length ≤ k
set_option maxRecDepth 100000 in
set_option maxHeartbeats 2000000 in
theorem quoted_any (s : ByteArray) (p : Nat) (w : World) (hT : T8 w) (hp : p < s.size) (hs : s.size ≤ 65536) :
    Calls Tryz.prog 23 #[.string s, .int .i64 (p : Int)] w (KindP p (quotedF (s.data.toList.drop p)) w) := by
  have h4 := hT.size
  have hd := drop_byte s p hp
  obtain ⟨o, ho⟩ : ∃ o, quotedF (s.data.toList.drop p) = o := ⟨_, rfl⟩
  rw [ho]
  rw [hd, quotedF_cons] at ho
  by_cases h34 : s[p] = 34
  · have e34 : (s[p].toNat : Int) = 34 := byte_is _ 34 (by omega) h34
    rw [if_pos h34] at ho
    obtain ⟨w1, hw1⟩ : ∃ w1, (w.alloc (.cells #[.int .i64 0, .int .i64 0, .string ⟨#[]⟩] 35)).alloc (.cells #[.pointer none, .slice none 0 0] 83) = w1 := ⟨_, rfl⟩
    have hsz : w1.heap.size = w.heap.size + 2 := by rw [← hw1]; simp
    have hb0 : Below w.heap.size w w1 := by rw [← hw1]; exact ((Below.refl _ _).alloc (Nat.le_refl _) _).alloc (by simp) _
    have hbl : Blk w1 w.heap.size 35 #[.int .i64 0, .int .i64 0, .string ⟨#[]⟩] := by rw [← hw1]; exact (Blk.new w 35 _).alloc _
    have hbu : Lib.IsBuilderF 83 5 (w.heap.size + 1) (w.heap.size + 1) (Lib.byteCells []) w1 := by
      have := Lib.IsBuilderF.of (Lib.fresh_isBuilder 83 5 (w.alloc (.cells #[.int .i64 0, .int .i64 0, .string ⟨#[]⟩] 35)))
      rw [← hw1]; simp at this; exact this
    have ht1 : T8 w1 := hT.below h4 hb0
    obtain ⟨q, hq⟩ : ∃ q, quoteL [] 1 (s.data.toList.drop (p + 1)) = q := ⟨_, rfl⟩
    rw [hq] at ho
    have HO := Lib.hid ho
    have HB0 := Lib.hid hb0
    have HBL := Lib.hid hbl
    have HT1 := Lib.hid ht1
    have HR0 : Hid (QRel s p w w1 q (p + 1) [] w1) := ⟨by rw [show p + 1 - p = 1 by omega]; exact hq, hbu, Below.refl _ _, Nat.zero_le _⟩
    have HSZ := Lib.hid hsz
    have HW1 := Lib.hid hw1
    have hpi : (p : Int) + 1 = ((p + 1 : Nat) : Int) := by omega
    have HPI := Lib.hid hpi
    clear ho hb0 hbl ht1 hbu hq hd hT hsz hpi
    go_enter Tryz.func23, Tryz.ntmps23
    go_wp2_with fail
    rw [HPI.out]
    clear HW1 HPI hw1
    go_loopg [7] (s.size + 1) (fun g s7 wx => ∃ (k : Nat) (acc : List UInt8), p + 1 ≤ k ∧ k ≤ s.size ∧ s.size + 1 ≤ g + k ∧ s7 = .int .i64 (k : Int) ∧ Hid (QRel s p w w1 q k acc wx))
    case atStart => exact ⟨p + 1, [], Nat.le_refl _, by omega, by omega, rfl, HR0⟩
    case round =>
      obtain ⟨k, acc, hk1, hk2, hg, rfl, HR⟩ := hrel
      obtain ⟨r1, r2, r3, r4⟩ := HR.out
      have HQ := Lib.hid r1
      have HI := Lib.hid r2
      have HB := Lib.hid r3
      have HLA := Lib.hid r4
      have hsx : w1.heap.size ≤ wr.heap.size := r3.size
      have hbw : w.heap.size + 1 ≤ wr.heap.size := by have := HSZ.out; omega
      have HBW := Lib.hid hbw
      have HTX := Lib.hid (HT1.out.below (B := w.heap.size + 1) (by omega) r3)
      have HBX := Lib.hid (blk_keep HBL.out r3 (by omega))
      have HBA := Lib.hid (HB0.out.trans (r3.mono (by omega)))
      clear r1 r2 r3 r4 HR hsx hbw
      by_cases hlt : k < s.size
      · have d : decide (k < s.size) = true := decide_eq_true hlt
        have di : (k : Int) < (s.size : Int) := by omega
        have hqk := HQ.out
        rw [drop_byte s k hlt] at hqk
        clear HQ
        by_cases h34 : s[k] = 34
        · have q34 : (s[k].toNat : Int) = 34 := byte_is _ 34 (by omega) h34
          rw [h34, quoteL_cons, if_pos rfl] at hqk
          have HS := Lib.hid (Tryz.Builder_String_any_k (w.heap.size + 1) (w.heap.size + 1) acc wr HI.out HBW.out)
          obtain ⟨vb, hvb⟩ : ∃ vb, Lib.validD acc = vb := ⟨_, rfl⟩
          rw [hvb] at hqk
          have HVB := Lib.hid hvb
          have HQK := Lib.hid hqk
          have hal : (⟨acc.toArray⟩ : ByteArray).size ≤ 9223372036854775807 := by rw [Lib.size_eq]; have := HLA.out; show acc.length ≤ _; omega
          have HAL := Lib.hid hal
          have had : (⟨acc.toArray⟩ : ByteArray).data.toList = acc := rfl
          have HAD := Lib.hid had
          clear h34 hqk hvb hal had HI
          obtain ⟨tt, htt⟩ : ∃ tt : ByteArray, (⟨acc.toArray⟩ : ByteArray) = tt := ⟨_, rfl⟩
          have HTT := Lib.hid htt
          rw [htt] at HAL HAD HS
          clear htt
          go_wp2_with fail
          refine (HS.out).mono ?_
          rintro e w2 ⟨rfl, hi2, hb2, _⟩
          have HI2 := Lib.hid hi2
          have hbw2 : w.heap.size + 1 ≤ w2.heap.size := Nat.le_trans HBW.out hb2.size
          have HT2 := Lib.hid (HTX.out.below (B := w.heap.size + 1) (by omega) hb2)
          have HBX2 := Lib.hid (blk_keep HBX.out hb2 (by omega))
          have HBA2 := Lib.hid (HBA.out.trans (hb2.mono (by omega)))
          have HV := Lib.hid (valid_any tt w2 HAL.out HT2.out)
          rw [HAD.out, HVB.out] at HV
          have HS2 := Lib.hid (Tryz.Builder_String_any_k (w.heap.size + 1) (w.heap.size + 1) acc)
          have HBW2 := Lib.hid hbw2
          clear hi2 hb2 HS hbw2
          cases vb with
          | true =>
            have HOO : Hid (o = some (4, acc, k - p + 1)) := by show _ = _; rw [← HO.out, ← HQK.out]; rfl
            have hoo := HOO.out
            subst hoo
            clear HOO
            go_wp2_with fail
            refine (HV.out).mono ?_
            rintro e w3 ⟨rfl, hb3⟩
            have hb3' : Below (w.heap.size + 1) w2 w3 := hb3.mono HBW2.out
            have hi3 : Lib.IsBuilderF 83 5 (w.heap.size + 1) (w.heap.size + 1) (Lib.byteCells acc) w3 := builder_below HI2.out hb3
            have HS3 := Lib.hid (HS2.out w3 hi3 (Nat.le_trans HBW2.out hb3.size))
            have HBX3 := Lib.hid (blk_keep HBX2.out hb3' (by omega))
            have HBA3 := Lib.hid (HBA2.out.trans (hb3'.mono (by omega)))
            clear hb3 hb3' hi3
            rw [HTT.out] at HS3
            go_wp2_with fail
            refine (HS3.out).mono ?_
            rintro e w4 ⟨rfl, _, hb4, _⟩
            have HBX4 := Lib.hid (blk_keep HBX3.out hb4 (by omega))
            have HBA4 := Lib.hid (HBA3.out.trans (hb4.mono (by omega)))
            clear hb4
            have c0 := HBX4.out.cell 0
            have c1 := HBX4.out.cell 1
            have c2 := HBX4.out.cell 2
            have f0 := HBX4.out.frozen 0
            have f1 := HBX4.out.frozen 1
            have f2 := HBX4.out.frozen 2
            simp at c0 c1 c2
            have hbf := ((HBX4.out.set_ 0 (.int .i64 4)).set_ 1 (.int .i64 (p : Int))).set_ 2 (.string tt)
            have HBF := Lib.hid hbf
            have hki : ((k : Nat) : Int) + 1 = ((k + 1 : Nat) : Int) := by omega
            have HKI := Lib.hid hki
            clear hbf hki
            go_wp2_with fail
            rw [HKI.out]
            refine bodyPost_ret (res_tok (by kernel_rfl) rfl rfl HBF.out) rfl (kind_some (n := k - p + 1) (q := k + 1) (by omega) HTT.out ?_)
            have := HBA4.out
            go_grown
          | false =>
            have HOO : Hid (o = none) := by show _ = _; rw [← HO.out, ← HQK.out]; rfl
            have hoo := HOO.out
            subst hoo
            clear HOO
            go_wp2_with fail
            refine (HV.out).mono ?_
            rintro e w3 ⟨rfl, hb3⟩
            have hb3' : Below (w.heap.size + 1) w2 w3 := hb3.mono HBW2.out
            have HBX3 := Lib.hid (blk_keep HBX2.out hb3' (by omega))
            have HBA3 := Lib.hid (HBA2.out.trans (hb3'.mono (by omega)))
            clear hb3 hb3'
            have c0 := HBX3.out.cell 0
            have c1 := HBX3.out.cell 1
            have c2 := HBX3.out.cell 2
            have f0 := HBX3.out.frozen 0
            have f1 := HBX3.out.frozen 1
            have f2 := HBX3.out.frozen 2
            simp at c0 c1 c2
            have hbf := ((HBX3.out.set_ 0 (.int .i64 0)).set_ 1 (.int .i64 0)).set_ 2 (.string ⟨#[]⟩)
            have HBF := Lib.hid hbf
            clear hbf
            go_wp2_with fail
            refine bodyPost_ret (res_tok (by kernel_rfl) rfl rfl HBF.out) rfl (kind_none ?_)
            have := HBA3.out
            go_grown
        · have q34 : ((s[k].toNat : Int) == 34) = false := byte_not _ 34 (by omega) h34
          by_cases h10 : s[k] = 10
          · have q10 : (s[k].toNat : Int) = 10 := byte_is _ 10 (by omega) h10
            have HOO : Hid (o = none) := by
              show _ = _
              rw [h10, quoteL_cons, if_neg (by decide), if_pos rfl] at hqk
              rw [← HO.out, ← hqk]; rfl
            have hoo := HOO.out
            subst hoo
            clear HOO hqk h34 h10 q34
            have c0 := HBX.out.cell 0
            have c1 := HBX.out.cell 1
            have c2 := HBX.out.cell 2
            have f0 := HBX.out.frozen 0
            have f1 := HBX.out.frozen 1
            have f2 := HBX.out.frozen 2
            simp at c0 c1 c2
            have hbf := ((HBX.out.set_ 0 (.int .i64 0)).set_ 1 (.int .i64 0)).set_ 2 (.string ⟨#[]⟩)
            have HBF := Lib.hid hbf
            clear hbf
            go_wp2_with fail
            refine bodyPost_ret (res_tok (by kernel_rfl) rfl rfl HBF.out) rfl (kind_none ?_)
            have := HBA.out
            go_grown
          · have q10 : ((s[k].toNat : Int) == 10) = false := byte_not _ 10 (by omega) h10
            obtain ⟨g', hg'⟩ : ∃ g', gk = g' + 1 := ⟨gk - 1, by omega⟩
            by_cases h92 : s[k] = 92
            · have q92 : (s[k].toNat : Int) = 92 := byte_is _ 92 (by omega) h92
              rw [h92, quoteL_esc] at hqk
              have hki : ((k : Nat) : Int) + 1 = ((k + 1 : Nat) : Int) := by omega
              have HKI := Lib.hid hki
              have HES := Lib.hid (fun W => esc_any s (k + 1) W (by omega) hs)
              rw [← hki] at HES
              cases hes : escF s (k + 1) with
              | none =>
                have HOO : Hid (o = none) := by
                  show _ = _
                  rw [hes] at hqk
                  rw [← HO.out, ← hqk]; rfl
                have hoo := HOO.out
                subst hoo
                rw [hes] at HES
                unfold escV at HES
                clear HOO hqk h34 h10 h92 q34 q10 hki hes
                go_wp2_with fail
                refine (HES.out _).mono ?_
                rintro e w2 ⟨rfl, rfl⟩
                have c0 := HBX.out.cell 0
                have c1 := HBX.out.cell 1
                have c2 := HBX.out.cell 2
                have f0 := HBX.out.frozen 0
                have f1 := HBX.out.frozen 1
                have f2 := HBX.out.frozen 2
                simp at c0 c1 c2
                have hbf := ((HBX.out.set_ 0 (.int .i64 0)).set_ 1 (.int .i64 0)).set_ 2 (.string ⟨#[]⟩)
                have HBF := Lib.hid hbf
                clear hbf
                go_wp2_with fail
                refine bodyPost_ret (res_tok (by kernel_rfl) rfl rfl HBF.out) rfl (kind_none ?_)
                have := HBA.out
                go_grown
              | some m =>
                have hk3 : k + 1 < s.size := by
                  rcases Nat.lt_or_ge (k + 1) s.size with h | h
                  · exact h
                  · exfalso; unfold escF at hes; rw [dif_neg (by omega)] at hes; cases hes
                have HQ2 : Hid (quoteL (acc ++ [m]) (k + 2 - p) (s.data.toList.drop (k + 2)) = q) := by
                  show _ = _
                  rw [hes] at hqk
                  rw [← hqk, show k + 2 - p = k - p + 2 by omega]; rfl
                rw [hes] at HES
                unfold escV at HES
                have HW := Lib.hid (Tryz.Builder_WriteByte_k (w.heap.size + 1) (w.heap.size + 1) (Lib.byteCells acc) (m.toNat : Int) wr HI.out (by rw [Lib.byteCells_length]; have := HLA.out; omega) HBW.out)
                rw [bytes_snoc] at HW
                clear hqk h34 h10 h92 q34 q10 hki hes
                go_wp2_with fail
                refine (HES.out _).mono ?_
                rintro e w2 ⟨rfl, rfl⟩
                go_wp2_with fail
                refine (HW.out).mono ?_
                rintro e w2 ⟨rfl, hi2, hb2, _⟩
                have HR2 : Hid (QRel s p w w1 q (k + 2) (acc ++ [m]) w2) := ⟨HQ2.out, .inr hi2, HB.out.trans hb2, by have := HLA.out; simp; omega⟩
                clear hi2 hb2
                subst hg'
                go_wp2_with fail
                go_roundg g'
                case measure => omega
                case rel => exact ⟨k + 2, acc ++ [m], by omega, by omega, by omega, by go_num, HR2⟩
            · have q92 : ((s[k].toNat : Int) == 92) = false := byte_not _ 92 (by omega) h92
              rw [quoteL_cons, if_neg h34, if_neg h10, if_neg h92] at hqk
              have HQ2 : Hid (quoteL (acc ++ [s[k]]) (k + 1 - p) (s.data.toList.drop (k + 1)) = q) := by
                show _ = _
                rw [← hqk, show k + 1 - p = k - p + 1 by omega]
              have HW := Lib.hid (Tryz.Builder_WriteByte_k (w.heap.size + 1) (w.heap.size + 1) (Lib.byteCells acc) (s[k].toNat : Int) wr HI.out (by rw [Lib.byteCells_length]; have := HLA.out; omega) HBW.out)
              rw [bytes_snoc] at HW
              clear hqk h34 h10 h92
              go_wp2_with fail
              refine (HW.out).mono ?_
              rintro e w2 ⟨rfl, hi2, hb2, _⟩
              have HR2 : Hid (QRel s p w w1 q (k + 1) (acc ++ [s[k]]) w2) := ⟨HQ2.out, .inr hi2, HB.out.trans hb2, by have := HLA.out; simp; omega⟩
              clear hi2 hb2
              subst hg'
              go_wp2_with fail
              go_roundg g'
              case measure => omega
              case rel => exact ⟨k + 1, acc ++ [s[k]], by omega, by omega, by omega, by go_num, HR2⟩
      · have d : decide (k < s.size) = false := decide_eq_false hlt
        have di : ¬ (k : Int) < (s.size : Int) := by omega
        have HOO : Hid (o = none) := by
          have hq := HQ.out
          rw [drop_none s k (by omega), quoteL_nil] at hq
          show _ = _
          rw [← HO.out, ← hq]; rfl
        have hoo := HOO.out
        subst hoo
        clear HOO HQ
        have c0 := HBX.out.cell 0
        have c1 := HBX.out.cell 1
        have c2 := HBX.out.cell 2
        have f0 := HBX.out.frozen 0
        have f1 := HBX.out.frozen 1
        have f2 := HBX.out.frozen 2
        simp at c0 c1 c2
        have hbf := ((HBX.out.set_ 0 (.int .i64 0)).set_ 1 (.int .i64 0)).set_ 2 (.string ⟨#[]⟩)
        have HBF := Lib.hid hbf
        clear hbf
        go_wp2_with fail
        refine bodyPost_ret (res_tok (by kernel_rfl) rfl rfl HBF.out) rfl (kind_none ?_)
        have := HBA.out
        go_grown
  · have e34 : ((s[p].toNat : Int) == 34) = false := byte_not _ 34 (by omega) h34
    have hn : o = none := by rw [← ho, if_neg h34]
    subst hn
    clear ho h34 hd
    go_enter Tryz.func23, Tryz.ntmps23
    go_wp2_with fail
    refine bodyPost_ret (v := .tuple #[Z0, .int .i64 (p : Int)]) (by simp [results, Tryz.results23, go_sem]) rfl (kind_none (by go_grown))
end Go.Proofs.YtaggmakaceafgaaGreatDoor

/- The tables that a float out of a text needs, and a new decimal. No condition. -/
import Derived.Test.YtofndhmnofghaaaGreatDoorSkj
import Derived.Test.YtofndhmnofghaaaGreatDoorSjj
import Derived.Test.YtofndhmnofghaaaGreatDoorR1j
import Derived.Test.YtofndhmnofghaaaGreatDoorR3j
import Derived.Test.YtofndhmnofghaaaGreatDoorShelfE
namespace Go.Proofs.YtofndhmnofghaaaGreatDoor.Sl
open Go.RowKit Ieee
set_option linter.unusedVariables false

/-! a float out of a text: no matter which -/
theorem below_cell {w w' : World} (h : Below w.heap.size w w') {a : Addr} {v : Value} (hc : w.cell? a = some v) : w'.cell? a = some v := (h.cell (World.block_lt_of_cell? _ _ hc)).trans hc
/-- the tables -/
structure Tabs (Q qo qc P off c F fo fc : Nat) (w : World) : Prop where
  f0 : w.cell? ⟨8, 0, none⟩ = some (.int .u64 52)
  f1 : w.cell? ⟨8, 1, none⟩ = some (.int .u64 11)
  f2 : w.cell? ⟨8, 2, none⟩ = some (.int .i64 (-1023))
  pt : w.cell? ⟨12, 0, none⟩ = some (.slice (some ⟨Q, qo, none⟩) 9 qc)
  pw : ∀ i, i < 9 → w.cell? ⟨Q, qo + i, none⟩ = some (.int .i64 (powN i : Int))
  ch : Cheat w P off c
  flp : FlP w F fo fc
  p10 : P10 w
  opt : w.cell? ⟨2, 0, none⟩ = some (.bool true)
  e6 : ∃ te pe, w.cell? ⟨3, 0, none⟩ = some (.iface te pe)
  e7 : ∃ te pe, w.cell? ⟨4, 0, none⟩ = some (.iface te pe)
  size : 16 ≤ w.heap.size
section
variable {Q qo qc P off c F fo fc : Nat} {w w' : World}
theorem Tabs.below (h : Tabs Q qo qc P off c F fo fc w) (hb : Below w.heap.size w w') : Tabs Q qo qc P off c F fo fc w' := by
  obtain ⟨te6, pe6, h6⟩ := h.e6
  obtain ⟨te7, pe7, h7⟩ := h.e7
  exact ⟨below_cell hb h.f0, below_cell hb h.f1, below_cell hb h.f2, below_cell hb h.pt, fun i hi => below_cell hb (h.pw i hi), ⟨below_cell hb h.ch.1, fun k hk => ⟨below_cell hb (h.ch.2 k hk).1, below_cell hb (h.ch.2 k hk).2⟩⟩,
    ⟨below_cell hb h.flp.1, fun i hi => below_cell hb (h.flp.2 i hi)⟩, fun i hi => ⟨below_cell hb (h.p10 i hi).1, below_cell hb (h.p10 i hi).2⟩, below_cell hb h.opt,
    ⟨te6, pe6, below_cell hb h6⟩, ⟨te7, pe7, below_cell hb h7⟩, Nat.le_trans h.size hb.size⟩
/-- what lies beside a new decimal -/
theorem Tabs.env (h : Tabs Q qo qc P off c F fo fc w) (hb : Below w.heap.size w w') : Env w' w.heap.size Q qo qc P off c := by
  have h' := h.below hb
  have l (p : Addr) (v : Value) (hc : w.cell? p = some v) : p.block < w.heap.size := World.block_lt_of_cell? _ _ hc
  have l10 := l _ _ h.f0
  have l12 := l _ _ h.pt
  have l15 := l _ _ h.ch.1
  have lQ := l _ _ (h.pw 0 (by omega))
  have lP := l _ _ (h.ch.2 0 (by omega)).1
  exact ⟨h'.f0, h'.f1, h'.f2, h'.pt, h'.pw, h'.ch, by dsimp only at l10; omega, by dsimp only at l12; omega, by dsimp only at l15; omega, by dsimp only at lQ; omega, by dsimp only at lP; omega⟩
end
def isZ (v : Option Value) : Bool := match v with | some (.int .u8 0) => true | _ => false
theorem isZ_is {v : Option Value} (h : isZ v = true) : v = some (.int .u8 0) := by
  unfold isZ at h
  split at h
  · rfl
  · cases h
theorem zero_all : ((List.range 800).all fun i => isZ Tryz.zeroCells108[i]?) = true := by decide +kernel
theorem zero_size : Tryz.zeroCells108.size = 804 := by decide +kernel
theorem dz_new (w : World) : Dz (w.alloc (.cells Tryz.zeroCells108 108)) w.heap.size (fun _ => 0) 0 0 false false :=
  ⟨_, Blk.new _ _ _, zero_size, fun i hi => isZ_is (List.all_eq_true.1 zero_all i (List.mem_range.2 hi)), by kernel_rfl, by kernel_rfl, by kernel_rfl, by kernel_rfl⟩
theorem Dse.ok {w : World} {B : Nat} {f : Nat → Nat} {nd : Nat} {dp : Int} {ng tr : Bool} (h : Dse w B f nd dp ng tr) : nd = 0 ∨ Dok w B f nd dp ng tr := by
  by_cases h0 : nd = 0
  · exact .inl h0
  · exact .inr ⟨h.dz, h.dg, h.first (by omega), by omega, h.le⟩
theorem Al.cut {s : ByteArray} (h : Al s) (i : Nat) (hi : i ≤ s.size) : Al (s.extract 0 i) := by
  intro j hj
  have hj2 : j < s.size := by rw [ByteArray.size_extract] at hj; omega
  have h3 := h j hj2
  have e : (s.extract 0 i)[j] = s[j] := by simp [ByteArray.getElem_extract]
  rw [e]
  exact h3
end Go.Proofs.YtofndhmnofghaaaGreatDoor.Sl

namespace Go.Proofs.YtofndhmnofghaaaGreatDoor.Sl
open Go.RowKit Ieee
set_option linter.unusedVariables false

/-! a float out of a text: atof64 -/
def FlE (v : Value) : Prop := v = .nilIface ∨ v = .iface 72 (.int .i64 1) ∨ v = .iface 72 (.int .i64 2)
theorem err_fl {v : Value} (h : Rd.Err v) : FlE v := by rcases h with h | h; exact .inl h; exact .inr (.inl h)
def sgW (ng : Bool) : Nat := if ng = true then 9223372036854775808 else 0
/-- by the digits one by one -/
def SlowR (s : ByteArray) (b : Nat) : Prop :=
  if (setF (fun _ => 0) (Ut.Lf s 0)).2.2 = true then FbR (setF (fun _ => 0) (Ut.Lf s 0)).1 (setF (fun _ => 0) (Ut.Lf s 0)).2.1 (b : Int) else b = 0
theorem SlowR.det : Det SlowR := by
  intro s b c h g
  unfold SlowR at h g
  split at h
  · rename_i hc
    rw [if_pos hc] at g
    have := FbR.det _ _ _ _ h g
    omega
  · rename_i hc
    rw [if_neg hc] at g
    rw [h, g]
/-- the float of a text -/
def AtR (s : ByteArray) (o : Ut.Out) (n b : Nat) : Prop :=
  o.left = Ut.Lf s n ∧ n ≤ s.size ∧
  (if o.ok = false then b = 0 else if o.z = 0 then (b : Int) = bits BinOp.or IntKind.u64 (sgW o.neg : Int) 0 else if 310 < o.x then (b : Int) = bits BinOp.or IntKind.u64 (sgW o.neg : Int) 9218868437227405312
  else if o.x < -345 then (b : Int) = bits BinOp.or IntKind.u64 (sgW o.neg : Int) 0
  else if o.tr = false then b = (exF o.z o.x o.neg).getD (Rd.pfB o.z o.x (sgW o.neg))
  else if (FloatKind.f64.format.order (Rd.pfB o.z o.x (sgW o.neg)) (Rd.pfB (o.z + 1) o.x (sgW o.neg)) == some .eq) = true then b = Rd.pfB o.z o.x (sgW o.neg) else SlowR (s.extract 0 n) b)
theorem lf_same {s : ByteArray} {n m : Nat} (hn : n ≤ s.size) (hm : m ≤ s.size) (h : Ut.Lf s n = Ut.Lf s m) : n = m := by
  have e := congrArg List.length h
  unfold Ut.Lf at e
  rw [List.length_drop, List.length_drop] at e
  have : s.data.toList.length = s.size := by simp
  omega
theorem AtR.det {s : ByteArray} {o : Ut.Out} {n b m c : Nat} (h : AtR s o n b) (g : AtR s o m c) : n = m ∧ b = c := by
  obtain ⟨a1, a2, a3⟩ := h
  obtain ⟨b1, b2, b3⟩ := g
  obtain rfl := lf_same a2 b2 (a1.symm.trans b1)
  refine ⟨rfl, ?_⟩
  split at a3
  · rename_i hc; rw [if_pos hc] at b3; omega
  · rename_i hc; rw [if_neg hc] at b3
    split at a3
    · rename_i hc; rw [if_pos hc] at b3; omega
    · rename_i hc; rw [if_neg hc] at b3
      split at a3
      · rename_i hc; rw [if_pos hc] at b3; omega
      · rename_i hc; rw [if_neg hc] at b3
        split at a3
        · rename_i hc; rw [if_pos hc] at b3; omega
        · rename_i hc; rw [if_neg hc] at b3
          split at a3
          · rename_i hc; rw [if_pos hc] at b3; omega
          · rename_i hc; rw [if_neg hc] at b3
            split at a3
            · rename_i hc; rw [if_pos hc] at b3; omega
            · rename_i hc; rw [if_neg hc] at b3
              exact SlowR.det _ _ _ a3 b3
def A64P (s : ByteArray) (w : World) (e : Ending) (w' : World) : Prop := (∃ (b n : Nat) (er : Value), e = .returned (.tuple #[.float .f64 b, .int .i64 (n : Int), er]) ∧ FlE er ∧ AtR s (Ut.readF (Ut.Lf s 0)) n b) ∧ Below w.heap.size w w'
theorem u64_nat (op : BinOp) (a b : Int) : ∃ n : Nat, bits op IntKind.u64 a b = (n : Int) := ⟨(bits op IntKind.u64 a b).toNat, by have := bits_lo_u64 op a b; omega⟩
set_option maxRecDepth 100000 in
set_option maxHeartbeats 4000000 in
theorem atof64_any {Q qo qc P off c F fo fc : Nat} (s : ByteArray) (w : World) (hT : Tabs Q qo qc P off c F fo fc w) (hs : s.size ≤ 400) (ha : Al s) :
    Calls Tryz.prog 69 #[.string s] w (A64P s w) := by
  have HSp := Lib.hid (special_none s w ha (by omega))
  have HR := Lib.hid (Rd.read_any s w hs ha)
  have HT := Lib.hid hT
  have HA := Lib.hid ha
  have opt := hT.opt
  have HF := fun (n : Nat) w => Rd.frombits n w
  clear hT ha
  go_enter Tryz.func69, Tryz.ntmps69
  go_wp2_with fail
  refine HSp.out.mono ?_
  rintro e w1 ⟨rfl, rfl⟩
  go_wp2_with fail
  refine HR.out.mono ?_
  rintro e w1 ⟨z, x, ng, tr, i, ok, rfl, hrf, hz, x1, x2, hi, rfl⟩
  clear HSp HR
  have HA0 : Hid (∀ b : Nat, (if ok = false then b = 0 else if z = 0 then (b : Int) = bits BinOp.or IntKind.u64 (sgW ng : Int) 0 else if 310 < x then (b : Int) = bits BinOp.or IntKind.u64 (sgW ng : Int) 9218868437227405312
    else if x < -345 then (b : Int) = bits BinOp.or IntKind.u64 (sgW ng : Int) 0
    else if tr = false then b = (exF z x ng).getD (Rd.pfB z x (sgW ng))
    else if (FloatKind.f64.format.order (Rd.pfB z x (sgW ng)) (Rd.pfB (z + 1) x (sgW ng)) == some .eq) = true then b = Rd.pfB z x (sgW ng) else SlowR (s.extract 0 i) b) → AtR s (Ut.readF (Ut.Lf s 0)) i b) := Lib.hid fun b hb => by rw [hrf]; exact ⟨rfl, hi, hb⟩
  clear hrf
  cases ok with
  | false =>
    go_wp2_with fail
    ((try simp only [Exit.inBlock, Exit.then]); refine bodyPost_ret (results_tmp3 rfl _ _ _) rfl ?_)
    exact ⟨⟨_, _, _, rfl, .inr (.inr rfl), HA0.out _ rfl⟩, Below.refl _ _⟩
  | true =>
    obtain ⟨q, hq, hq1⟩ : ∃ q : Nat, (if ng = true then (1 : Int) else 0) = (q : Int) ∧ q ≤ 1 := by
      cases ng
      · exact ⟨0, rfl, by omega⟩
      · exact ⟨1, rfl, by omega⟩
    have HB := Lib.hid (fun W => bool2_any ng W)
    rw [hq] at HB
    have HQ0 := Lib.hid hq
    clear hq
    obtain ⟨sg, hsg, hsw⟩ : ∃ sg : Nat, (q : Int) * 9223372036854775808 = (sg : Int) ∧ sgW ng = sg := ⟨q * 9223372036854775808, by omega, by
      unfold sgW
      cases ng
      · have : q = 0 := by have := HQ0.out; simp at this; omega
        subst this; rfl
      · have : q = 1 := by have := HQ0.out; simp at this; omega
        subst this; rfl⟩
    rw [hsw] at HA0
    clear hsw HQ0
    have hsg1 : sg < 18446744073709551616 := by omega
    obtain ⟨n0, hn0⟩ := u64_nat BinOp.or (sg : Int) 0
    obtain ⟨n1, hn1⟩ := u64_nat BinOp.or (sg : Int) 9218868437227405312
    rw [hn0, hn1] at HA0
    by_cases hz0 : z = 0
    · subst hz0
      have HF0 := Lib.hid (HA0.out n0 (by rw [if_neg (by decide), if_pos rfl]))
      clear HA0
      go_wp2_with fail
      refine (HB.out _).mono ?_
      rintro e w1 ⟨rfl, rfl⟩
      go_wp2_with fail
      ((try simp only [Exit.inBlock, Exit.then]); refine bodyPost_ret (results_tmp3 rfl _ _ _) rfl ?_)
      exact ⟨⟨_, _, _, rfl, .inl rfl, HF0.out⟩, Below.refl _ _⟩
    · have hz0f : ((z : Int) == 0) = false := beq_eq_false_iff_ne.2 (by omega)
      by_cases hx1 : 310 < x
      · have HF0 := Lib.hid (HA0.out n1 (by rw [if_neg (by decide), if_neg hz0, if_pos hx1]))
        clear HA0
        go_wp2_with fail
        refine (HB.out _).mono ?_
        rintro e w1 ⟨rfl, rfl⟩
        go_wp2_with fail
        ((try simp only [Exit.inBlock, Exit.then]); refine bodyPost_ret (results_tmp3 rfl _ _ _) rfl ?_)
        exact ⟨⟨_, _, _, rfl, .inr (.inl rfl), HF0.out⟩, Below.refl _ _⟩
      · have hx1f : decide (310 < x) = false := decide_eq_false hx1
        by_cases hx2 : x < -345
        · have HF0 := Lib.hid (HA0.out n0 (by rw [if_neg (by decide), if_neg hz0, if_neg hx1, if_pos hx2]))
          clear HA0
          go_wp2_with fail
          refine (HB.out _).mono ?_
          rintro e w1 ⟨rfl, rfl⟩
          go_wp2_with fail
          ((try simp only [Exit.inBlock, Exit.then]); refine bodyPost_ret (results_tmp3 rfl _ _ _) rfl ?_)
          exact ⟨⟨_, _, _, rfl, .inl rfl, HF0.out⟩, Below.refl _ _⟩
        · have hx2f : decide (x < -345) = false := decide_eq_false hx2
          have HA1 : Hid (∀ b : Nat, (if tr = false then b = (exF z x ng).getD (Rd.pfB z x sg)
            else if (FloatKind.f64.format.order (Rd.pfB z x sg) (Rd.pfB (z + 1) x sg) == some .eq) = true then b = Rd.pfB z x sg else SlowR (s.extract 0 i) b) → AtR s (Ut.readF (Ut.Lf s 0)) i b) :=
            Lib.hid fun b hb => HA0.out b (by rw [if_neg (by decide), if_neg hz0, if_neg hx1, if_neg hx2]; exact hb)
          clear HA0
          have HP := Lib.hid (Rd.parse64_any z sg x w (by omega) (by omega) hsg1 (by omega) (by omega) HT.out.p10 HT.out.size)
          have HP2 := Lib.hid (fun w1 (hb : Below w.heap.size w w1) => Rd.parse64_any (z + 1) sg x w1 (by omega) (by omega) hsg1 (by omega) (by omega) (HT.out.below hb).p10 (HT.out.below hb).size)
          have ec : ((z + 1 : Nat) : Int) = (z : Int) + 1 := by omega
          rw [ec] at HP2
          clear ec
          have HX := Lib.hid (exact_any z x ng F fo fc w (by omega) (by omega) (by omega) HT.out.f0 HT.out.flp)
          clear hx1 hx2 hz0
          go_wp2_with fail
          refine (HB.out _).mono ?_
          rintro e w1 ⟨rfl, rfl⟩
          go_upto_if 88 with fail
          go_cut [3, 4, 17, 18] (fun s3 s4 s17 s18 wx => s3 = .int .i64 i ∧ s4 = .nilIface ∧ Hid (tr = false → exF z x ng = none) ∧ w = wx)
          case first => as_aux_lemma =>
            cases tr with
            | true =>
              go_wp2_with fail
              go_meet
              exact ⟨rfl, rfl, Lib.hid (fun h => by cases h), rfl⟩
            | false =>
              go_wp2_with fail
              refine HX.out.mono ?_
              rintro e w1 ⟨⟨b, ok, rfl, hex⟩, rfl⟩
              have HEX := Lib.hid hex
              clear hex
              cases ok with
              | true =>
                have HF0 := Lib.hid (HA1.out b (by first | (rw [if_pos rfl, HEX.out]; rfl) | (rw [if_pos trivial, HEX.out]; rfl)))
                clear HA1
                go_wp2_with fail
                ((try simp only [Exit.inBlock, Exit.then]); refine bodyPost_ret (results_tmp3 rfl _ _ _) rfl ?_)
                exact ⟨⟨_, _, _, rfl, .inl rfl, HF0.out⟩, Below.refl _ _⟩
              | false =>
                go_wp2_with fail
                go_meet
                exact ⟨rfl, rfl, Lib.hid (fun _ => HEX.out.trans rfl), rfl⟩
          case rest => as_aux_lemma =>
            obtain ⟨rfl, rfl, HEX, rfl⟩ := hcut
            clear HX HB
            go_wp2_with fail
            refine HP.out.mono ?_
            obtain ⟨f, hf⟩ : ∃ f, Rd.pfB z x sg = f := ⟨_, rfl⟩
            obtain ⟨f1, hf1⟩ : ∃ f, Rd.pfB (z + 1) x sg = f := ⟨_, rfl⟩
            rw [hf, hf1] at HA1
            rw [hf1] at HP2
            rw [hf]
            clear hf hf1
            rintro e w1 ⟨⟨er, rfl, her⟩, hb1⟩
            have HB1 := Lib.hid hb1
            have HER := Lib.hid her
            clear hb1 her HP
            cases tr with
            | false =>
              have HF0 := Lib.hid (HA1.out f (by rw [if_pos rfl, HEX.out rfl]; rfl))
              clear HA1 HEX
              go_wp2_with fail
              ((try simp only [Exit.inBlock, Exit.then]); refine bodyPost_ret (results_tmp3 rfl _ _ _) rfl ?_)
              exact ⟨⟨_, _, _, rfl, (err_fl HER.out), HF0.out⟩, HB1.out⟩
            | true =>
              go_wp2_with fail
              refine (HP2.out _ HB1.out).mono ?_
              rintro e w2 ⟨⟨er1, rfl, her1⟩, hb2⟩
              have HB2 := Lib.hid (HB1.out.trans (hb2.mono HB1.out.size))
              clear her1 hb2 HP2
              obtain ⟨g, hg⟩ : ∃ b, (FloatKind.f64.format.order f f1 == some .eq) = b := ⟨_, rfl⟩
              rw [hg] at HA1
              cases g with
              | true =>
                have HF0 := Lib.hid (HA1.out f (by rw [if_neg (by decide), if_pos rfl]))
                clear HA1
                go_wp2_with fail
                ((try simp only [Exit.inBlock, Exit.then]); refine bodyPost_ret (results_tmp3 rfl _ _ _) rfl ?_)
                exact ⟨⟨_, _, _, rfl, (err_fl HER.out), HF0.out⟩, HB2.out⟩
              | false =>
                have hii : (i : Int) ≤ (s.size : Int) := by omega
                have HA2 : Hid (∀ b : Nat, SlowR (s.extract 0 i) b → AtR s (Ut.readF (Ut.Lf s 0)) i b) := Lib.hid fun b hb => HA1.out b (by rw [if_neg (by decide), if_neg (by decide)]; exact hb)
                clear HA1
                have HST := Lib.hid (set_any w2.heap.size (s.extract 0 i) _ _ (dz_new w2) (by rw [ByteArray.size_extract]; omega) (HA.out.cut i hi))
                go_wp2_with fail
                refine HST.out.mono ?_
                rintro e w3 ⟨⟨bb, rfl, hsb, hset⟩, hm⟩
                have HSB := Lib.hid hsb
                clear hsb
                have HB3 := Lib.hid (hm.below (((Below.refl w2.heap.size w2).alloc (Nat.le_refl _) (.cells Tryz.zeroCells108 108))))
                have HB3w := Lib.hid (HB2.out.trans (HB3.out.mono HB2.out.size))
                clear hm HST
                cases bb with
                | false =>
                  clear hset
                  have HF0 := Lib.hid (HA2.out 0 (by unfold SlowR; rw [if_neg (by rw [HSB.out]; decide)]))
                  clear HA2
                  go_wp2_with fail
                  ((try simp only [Exit.inBlock, Exit.then]); refine bodyPost_ret (results_tmp3 rfl _ _ _) rfl ?_)
                  exact ⟨⟨_, _, _, rfl, .inr (.inr rfl), HF0.out⟩, HB3w.out⟩
                | true =>
                  obtain ⟨ng2, ⟨fd, nd, dp, tr2⟩, hse, hd⟩ := hset rfl
                  have HA3 : Hid (∀ b : Nat, FbR ng2 ⟨fd, nd, dp, tr2⟩ (b : Int) → AtR s (Ut.readF (Ut.Lf s 0)) i b) := Lib.hid fun b hb => HA2.out b (by unfold SlowR; rw [if_pos HSB.out, hse]; exact hb)
                  clear HA2 HSB hse
                  dsimp only at hd
                  have HBT := Lib.hid (bits_any w2.heap.size Q qo qc P off c fd nd dp ng2 tr2 w3 hd.dz hd.ok ((HT.out.below HB2.out).env HB3.out))
                  clear hset hd
                  go_wp2_with fail
                  refine HBT.out.mono ?_
                  rintro e w4 ⟨⟨z4, ov, rfl, z40, z41, hfb⟩, hm2⟩
                  obtain ⟨zn, rfl⟩ : ∃ n : Nat, z4 = (n : Int) := ⟨z4.toNat, by omega⟩
                  have HB4 := Lib.hid (HB2.out.trans ((hm2.below HB3.out).mono HB2.out.size))
                  have HF0 := Lib.hid (HA3.out zn hfb)
                  clear hm2 HBT HA3 hfb
                  cases ov with
                  | false =>
                    go_wp2_with fail
                    ((try simp only [Exit.inBlock, Exit.then]); refine bodyPost_ret (results_tmp3 rfl _ _ _) rfl ?_)
                    exact ⟨⟨_, _, _, rfl, .inl rfl, HF0.out⟩, HB4.out⟩
                  | true =>
                    go_wp2_with fail
                    ((try simp only [Exit.inBlock, Exit.then]); refine bodyPost_ret (results_tmp3 rfl _ _ _) rfl ?_)
                    exact ⟨⟨_, _, _, rfl, .inr (.inl rfl), HF0.out⟩, HB4.out⟩
end Go.Proofs.YtofndhmnofghaaaGreatDoor.Sl

namespace Go.Proofs.YtofndhmnofghaaaGreatDoor.Sl
open Go.RowKit Ieee
set_option linter.unusedVariables false

/-! a float out of a text: ParseFloat -/
abbrev nameS : ByteArray := ⟨#[80, 97, 114, 115, 101, 70, 108, 111, 97, 116]⟩
/-- the float of a whole text: nought if not all of it was read -/
def PfR (s : ByteArray) (b : Nat) : Prop := ∃ n b0, AtR s (Ut.readF (Ut.Lf s 0)) n b0 ∧ b = if n = s.size then b0 else 0
theorem PfR.det : Det PfR := by
  rintro s b c ⟨n, b0, h, rfl⟩ ⟨m, c0, g, rfl⟩
  obtain ⟨rfl, rfl⟩ := h.det g
  rfl
def PafP (s : ByteArray) (w : World) (e : Ending) (w' : World) : Prop := (∃ (b : Nat) (er : Value), e = .returned (.tuple #[.float .f64 b, er]) ∧ FlE er ∧ PfR s b) ∧ Below w.heap.size w w'
def FltP (s : ByteArray) (w : World) (e : Ending) (w' : World) : Prop := (∃ (b : Nat) (er : Value), e = .returned (.tuple #[.float .f64 b, er]) ∧ PfR s b) ∧ Below w.heap.size w w'
section
variable {Q qo qc P off c F fo fc : Nat}
theorem prefix64_any (s : ByteArray) (w : World) (hT : Tabs Q qo qc P off c F fo fc w) (hs : s.size ≤ 400) (ha : Al s) :
    Calls Tryz.prog 43 #[.string s, .int .i64 64] w (A64P s w) := by
  have H := Lib.hid (atof64_any s w hT hs ha)
  clear hT ha
  go_enter Tryz.func43, Tryz.ntmps43
  go_wp2_with fail
  refine H.out.mono ?_
  rintro e w1 ⟨⟨b, n, er, rfl, her, hat⟩, hb⟩
  have HAT := Lib.hid hat
  clear hat
  have HE := Lib.hid her
  have HB := Lib.hid hb
  clear her hb
  go_wp2_with fail
  ((try simp only [Exit.inBlock, Exit.then]); refine bodyPost_ret (results_tmp3 rfl _ _ _) rfl ?_)
  exact ⟨⟨_, _, _, rfl, HE.out, HAT.out⟩, HB.out⟩
theorem inner_any (s : ByteArray) (w : World) (hT : Tabs Q qo qc P off c F fo fc w) (hs : s.size ≤ 400) (ha : Al s) :
    Calls Tryz.prog 33 #[.string s, .int .i64 64] w (PafP s w) := by
  have H := Lib.hid (prefix64_any s w hT hs ha)
  clear hT ha
  go_enter Tryz.func33, Tryz.ntmps33
  go_wp2_with fail
  refine H.out.mono ?_
  rintro e w1 ⟨⟨b, n, er, rfl, her, hat⟩, hb⟩
  have HAT := Lib.hid hat
  clear hat
  have HE := Lib.hid her
  have HB := Lib.hid hb
  clear her hb
  by_cases hn : n = s.size
  · have hnf : ((n : Int) != (s.size : Int)) = false := by simp; omega
    have HP : Hid (PfR s b) := ⟨n, b, HAT.out, by rw [if_pos hn]⟩
    clear hn
    go_wp2_with fail
    (try simp only [Exit.inBlock, Exit.then])
    refine bodyPost_ret (results_tmp2 rfl _ _ _) rfl ?_
    exact ⟨⟨_, _, rfl, HE.out, HP.out⟩, HB.out⟩
  · have hnf : ((n : Int) != (s.size : Int)) = true := by simp; omega
    have HP : Hid (PfR s 0) := ⟨n, b, HAT.out, by rw [if_neg hn]⟩
    clear hn
    go_wp2_with fail
    (try simp only [Exit.inBlock, Exit.then])
    refine bodyPost_ret (results_tmp2 rfl _ _ _) rfl ?_
    exact ⟨⟨_, _, rfl, .inr (.inr rfl), HP.out⟩, HB.out⟩
theorem float_any (s : ByteArray) (w : World) (hT : Tabs Q qo qc P off c F fo fc w) (hs : s.size ≤ 400) (ha : Al s) :
    Calls Tryz.prog 25 #[.string s, .int .i64 64] w (FltP s w) := by
  have H := Lib.hid (inner_any s w hT hs ha)
  have HT := Lib.hid hT
  clear hT ha
  go_enter Tryz.func25, Tryz.ntmps25
  go_wp2_with fail
  refine H.out.mono ?_
  rintro e w1 ⟨⟨b, er, rfl, her, hpf⟩, hb⟩
  have HPF := Lib.hid hpf
  clear hpf
  have HT1 := HT.out.below hb
  obtain ⟨te6, pe6, h6⟩ := HT1.e6
  obtain ⟨te7, pe7, h7⟩ := HT1.e7
  have H6 := Lib.hid (Tryz.strconv_toError_syntax nameS s 0 64 _ w1 (by omega) h6 (.inr ⟨_, _, rfl⟩))
  have H7 := Lib.hid (Tryz.strconv_toError_range nameS s 0 64 _ w1 (by omega) h7 (.inr ⟨_, _, rfl⟩))
  have HB := Lib.hid hb
  clear HT1 hb h6 h7 H
  rcases her with rfl | rfl | rfl
  · go_wp2_with fail
    (try simp only [Exit.inBlock, Exit.then])
    refine bodyPost_ret (results_tmp2 rfl _ _ _) rfl ?_
    exact ⟨⟨_, _, rfl, HPF.out⟩, HB.out⟩
  · go_wp2_with fail
    refine H7.out.mono ?_
    rintro e w2 ⟨N, rfl, hN, hc, hb2⟩
    have HB2 := Lib.hid (HB.out.trans (hb2.mono HB.out.size))
    clear hN hc hb2
    go_wp2_with fail
    (try simp only [Exit.inBlock, Exit.then])
    refine bodyPost_ret (results_tmp2 rfl _ _ _) rfl ?_
    exact ⟨⟨_, _, rfl, HPF.out⟩, HB2.out⟩
  · go_wp2_with fail
    refine H6.out.mono ?_
    rintro e w2 ⟨N, rfl, hN, hc, hb2⟩
    have HB2 := Lib.hid (HB.out.trans (hb2.mono HB.out.size))
    clear hN hc hb2
    go_wp2_with fail
    (try simp only [Exit.inBlock, Exit.then])
    refine bodyPost_ret (results_tmp2 rfl _ _ _) rfl ?_
    exact ⟨⟨_, _, rfl, HPF.out⟩, HB2.out⟩
end
end Go.Proofs.YtofndhmnofghaaaGreatDoor.Sl

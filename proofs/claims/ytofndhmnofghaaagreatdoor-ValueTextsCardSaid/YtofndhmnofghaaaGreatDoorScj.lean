/- Decimal digits in a row of bytes, and how a shift to the right or to the left turns them. No condition. -/
import Derived.Test.YtofndhmnofghaaaGreatDoorRows
import Derived.WalkKit
import Derived.WalkLawsBesides
import Derived.WalkSpells
import Derived.RegionTactic
import Derived.Deep.QuietTactic
import Derived.BigQuiet
import Derived.Deep.LoopGhost
import Derived.Lib.Hide
import Derived.Handy
import Derived.Laws.Rows
import Derived.Laws.Closers25b
import Derived.Below
import Derived.WalkSmall
import Derived.Deep.DeepCutAuto
namespace Dm
set_option linter.unusedVariables false
/-- the number that the first n bytes spell -/
def num (d : Nat → Nat) : Nat → Nat
  | 0 => 0
  | n + 1 => num d n * 10 + (d n - 48)
/-- they are digits -/
def Dg (d : Nat → Nat) (n : Nat) : Prop := ∀ i, i < n → 48 ≤ d i ∧ d i ≤ 57
theorem num_congr {d e : Nat → Nat} : ∀ n, (∀ i, i < n → d i = e i) → num d n = num e n
  | 0, _ => rfl
  | n + 1, h => by unfold num; rw [num_congr n fun i hi => h i (by omega), h n (by omega)]
theorem num_lt {d : Nat → Nat} : ∀ n, Dg d n → num d n < 10 ^ n
  | 0, _ => by simp [num]
  | n + 1, h => by
    have := num_lt n fun i hi => h i (by omega)
    have := h n (by omega)
    unfold num; rw [Nat.pow_succ]; omega
theorem num_ge {d : Nat → Nat} (h0 : 49 ≤ d 0) : ∀ n, 10 ^ n ≤ num d (n + 1)
  | 0 => by simp [num]; omega
  | n + 1 => by
    have := num_ge h0 n
    unfold num; rw [Nat.pow_succ]; omega
/-- so many bytes are left behind when the noughts at the end go -/
def trimN (d : Nat → Nat) : Nat → Nat
  | 0 => 0
  | n + 1 => if d n = 48 then trimN d n else n + 1
theorem trim_le (d : Nat → Nat) : ∀ n, trimN d n ≤ n
  | 0 => Nat.le_refl _
  | n + 1 => by unfold trimN; split; exact Nat.le_succ_of_le (trim_le d n); exact Nat.le_refl _
theorem trim_pos {d : Nat → Nat} (h0 : 49 ≤ d 0) : ∀ n, 0 < n → 0 < trimN d n
  | 0, h => absurd h (Nat.lt_irrefl 0)
  | 1, _ => by unfold trimN; rw [if_neg (show ¬ d 0 = 48 by omega)]; omega
  | n + 2, _ => by unfold trimN; split; exact trim_pos h0 (n + 1) (by omega); omega
theorem trim_num (d : Nat → Nat) : ∀ n, num d n = num d (trimN d n) * 10 ^ (n - trimN d n)
  | 0 => by simp [trimN]
  | n + 1 => by
    unfold trimN
    split
    · rename_i h
      have ih := trim_num d n
      have hl := trim_le d n
      conv => lhs; unfold num
      rw [h, ih, show n + 1 - trimN d n = (n - trimN d n) + 1 by omega, Nat.pow_succ]
      simp [Nat.mul_assoc]
    · simp
/-- with noughts behind -/
def ext (d : Nat → Nat) (nd : Nat) (i : Nat) : Nat := if i < nd then d i else 48
def pz (d : Nat → Nat) (nd r : Nat) : Nat := num (ext d nd) r
theorem pz_in {d : Nat → Nat} {nd r : Nat} (h : r ≤ nd) : pz d nd r = num d r :=
  num_congr r fun i hi => if_pos (by omega)
theorem pz_out {d : Nat → Nat} {nd : Nat} : ∀ j, pz d nd (nd + j) = num d nd * 10 ^ j
  | 0 => by rw [Nat.add_zero, pz_in (Nat.le_refl _)]; simp
  | j + 1 => by
    have ih := @pz_out d nd j
    unfold pz at ih ⊢
    have e : num (ext d nd) (nd + (j + 1)) = num (ext d nd) (nd + j) * 10 + (ext d nd (nd + j) - 48) := rfl
    rw [e, ih, show ext d nd (nd + j) = 48 from if_neg (by omega), Nat.pow_succ]
    simp [Nat.mul_assoc]
theorem pz_far {d : Nat → Nat} {nd r : Nat} (h : nd ≤ r) : pz d nd r = num d nd * 10 ^ (r - nd) := by
  have := @pz_out d nd (r - nd)
  rwa [show nd + (r - nd) = r by omega] at this
theorem ext_dg {d : Nat → Nat} {nd : Nat} (h : Dg d nd) (n : Nat) : Dg (ext d nd) n := fun i _ => by
  unfold ext
  split
  · exact h i ‹_›
  · omega
theorem pz_lt {d : Nat → Nat} {nd : Nat} (h : Dg d nd) (r : Nat) : pz d nd r < 10 ^ r := num_lt r (ext_dg h r)
theorem pz_ge {d : Nat → Nat} {nd : Nat} (h0 : 49 ≤ d 0) (hn : 0 < nd) (r : Nat) : 10 ^ r ≤ pz d nd (r + 1) := num_ge (by rw [show ext d nd 0 = d 0 from if_pos hn]; exact h0) r
theorem pz_succ (d : Nat → Nat) (nd r : Nat) : pz d nd (r + 1) = pz d nd r * 10 + (ext d nd r - 48) := rfl
/-- a whole number lies between its prefix and the next one -/
theorem pz_le_whole {d : Nat → Nat} {nd : Nat} (h : Dg d nd) : ∀ j r, r + j = nd → pz d nd r * 10 ^ j ≤ num d nd ∧ num d nd < (pz d nd r + 1) * 10 ^ j
  | 0, r, e => by rw [← e, Nat.add_zero, pz_in (Nat.le_refl _)]; simp
  | j + 1, r, e => by
    have ih := pz_le_whole h j (r + 1) (by omega)
    have hs := pz_succ d nd r
    have hd := ext_dg h (r + 1) r (by omega)
    have hp : 10 ^ (j + 1) = 10 * 10 ^ j := by rw [Nat.pow_succ, Nat.mul_comm]
    refine ⟨Nat.le_trans ?_ ih.1, Nat.lt_of_lt_of_le ih.2 ?_⟩
    · rw [hp, ← Nat.mul_assoc]; exact Nat.mul_le_mul_right _ (by omega)
    · rw [hp, ← Nat.mul_assoc]; exact Nat.mul_le_mul_right _ (by omega)

/-! a shift to the right by k: digits are picked up till they hold 2^k; then one is put down for each that is picked up -/
theorem down_step {p N n c m k2 : Nat} (hp : p = 10 * k2 * N + n) (hm : m = n % k2) : p * 10 + c = 10 * k2 * (N * 10 + n / k2) + (m * 10 + c) := by
  subst hp; subst hm
  have e := Nat.div_add_mod n k2
  have : (10 * k2 * N + n) * 10 = 10 * k2 * (N * 10) + 10 * (k2 * (n / k2) + n % k2) := by rw [e]; simp only [Nat.mul_add, Nat.mul_comm, Nat.mul_left_comm]
  rw [this]
  simp only [Nat.mul_add, Nat.add_mul, Nat.mul_comm, Nat.mul_left_comm, Nat.mul_assoc]
  omega
theorem dig_le {n k2 : Nat} (h : n < 10 * k2) : n / k2 ≤ 9 := by
  have : n / k2 < 10 := Nat.div_lt_of_lt_mul (by rw [Nat.mul_comm]; exact h)
  omega
theorem keep_lt {n k2 c : Nat} (h0 : 0 < k2) (hc : c ≤ 9) : n % k2 * 10 + c < 10 * k2 := by
  have := Nat.mod_lt n h0
  omega
/-- noughts at the end of what is left, one more a round -/
theorem ends_step {n t k : Nat} (h : 2 ^ t ∣ n) (ht : t ≤ k) : 2 ^ (t + 1) ∣ n % 2 ^ k * 10 := by
  obtain ⟨a, rfl⟩ := h
  have hk : 2 ^ k = 2 ^ t * 2 ^ (k - t) := by rw [← Nat.pow_add, show t + (k - t) = k by omega]
  rw [hk, Nat.mul_mod_mul_left]
  exact ⟨a % 2 ^ (k - t) * 5, by rw [Nat.pow_succ, Nat.mul_assoc, Nat.mul_assoc]; congr 1; omega⟩
theorem ends_all {n k : Nat} (h : 2 ^ k ∣ n) : n % 2 ^ k * 10 = 0 := by rw [Nat.mod_eq_zero_of_dvd h]

def top : Nat := 1200
theorem top_is : top = 1200 := rfl
/-! what a number is, shifted up so far that it is whole -/
def U (d : Nat → Nat) (nd : Nat) (dp : Int) : Nat := num d nd * 10 ^ ((top : Int) + dp - nd).toNat
theorem U_trim (d : Nat → Nat) (n : Nat) (dp : Int) (h : (0 : Int) ≤ (top : Int) + dp - n) : U d (trimN d n) dp = U d n dp := by
  have hl := trim_le d n
  unfold U
  rw [trim_num d n, Nat.mul_assoc, ← Nat.pow_add]
  congr 2
  omega
theorem U_right {d g : Nat → Nat} {nd w r0 k2 : Nat} {dp : Int} (hr : nd ≤ r0 + w) (h1 : 1 ≤ r0) (h : 10 * k2 * num g w ≤ pz d nd (r0 + w)) (h0 : (0 : Int) ≤ (top : Int) + dp - nd) (h2 : (0 : Int) ≤ (top : Int) + (dp - r0 + 1) - w) :
    k2 * U g w (dp - r0 + 1) ≤ U d nd dp := by
  rw [pz_far hr] at h
  unfold U
  obtain ⟨a, ha⟩ : ∃ a : Nat, (top : Int) + (dp - r0 + 1) - w = (a : Int) := ⟨_, (Int.toNat_of_nonneg h2).symm⟩
  rw [ha, Int.toNat_natCast]
  by_cases ha0 : a = 0
  · -- the last place of all: what is there is a tenth
    subst ha0
    have e : ((top : Int) + dp - nd).toNat + 1 = (r0 + w - nd) := by omega
    rw [Nat.pow_zero, Nat.mul_one]
    have h' : 10 * (k2 * num g w) ≤ 10 * (num d nd * 10 ^ ((top : Int) + dp - nd).toNat) := by
      rw [← Nat.mul_assoc]; refine Nat.le_trans h ?_
      rw [← e, Nat.pow_succ]; simp only [Nat.mul_comm, Nat.mul_left_comm]; exact Nat.le_refl _
    omega
  · obtain ⟨a', rfl⟩ : ∃ a', a = a' + 1 := ⟨a - 1, by omega⟩
    have e : ((top : Int) + dp - nd).toNat = (r0 + w - nd) + a' := by omega
    have e2 : 10 ^ (a' + 1) = 10 ^ a' * 10 := Nat.pow_succ ..
    have e3 : 10 ^ (r0 + w - nd + a') = 10 ^ (r0 + w - nd) * 10 ^ a' := Nat.pow_add ..
    rw [e, e2, e3, ← Nat.mul_assoc (num d nd)]
    refine Nat.le_trans (Nat.le_of_eq ?_) (Nat.mul_le_mul_right (10 ^ a') h)
    simp only [Nat.mul_comm, Nat.mul_left_comm, Nat.mul_assoc]
theorem U_big {d : Nat → Nat} {nd : Nat} {dp : Int} (h0 : 49 ≤ d 0) (hn : 0 < nd) (hd : nd ≤ 800) (hdp : 0 < dp) : 10 ^ top ≤ U d nd dp := by
  obtain ⟨m, rfl⟩ : ∃ m, nd = m + 1 := ⟨nd - 1, by omega⟩
  have := num_ge h0 m
  unfold U
  refine Nat.le_trans ?_ (Nat.mul_le_mul_right _ this)
  rw [← Nat.pow_add]
  exact Nat.pow_le_pow_right (by decide) (by have := top_is; omega)
theorem U_small {d : Nat → Nat} {nd : Nat} {dp : Int} (h : Dg d nd) (hd : nd ≤ 800) (hdp : dp ≤ 0) (hlo : -400 ≤ dp) : U d nd dp < 10 ^ top := by
  have := num_lt nd h
  unfold U
  refine Nat.lt_of_lt_of_le (Nat.mul_lt_mul_of_pos_right this (Nat.pow_pos (by decide))) ?_
  rw [← Nat.pow_add]
  exact Nat.pow_le_pow_right (by decide) (by have := top_is; omega)
theorem U_pos {d : Nat → Nat} {nd : Nat} {dp : Int} (h0 : 49 ≤ d 0) (hn : 0 < nd) : 0 < U d nd dp := by
  obtain ⟨m, rfl⟩ : ∃ m, nd = m + 1 := ⟨nd - 1, by omega⟩
  exact Nat.mul_pos (Nat.lt_of_lt_of_le (Nat.pow_pos (by decide)) (num_ge h0 m)) (Nat.pow_pos (by decide))
/-- the number of digits o from w on, below m -/
def suf (o : Nat → Nat) (w : Nat) : Nat → Nat
  | 0 => 0
  | n + 1 => suf o w n * 10 + o (w + n)
/-- by the digit ahead -/
theorem suf_ahead (o : Nat → Nat) (w : Nat) : ∀ n, suf o w (n + 1) = o w * 10 ^ n + suf o (w + 1) n
  | 0 => by simp [suf]
  | n + 1 => by
    have ih := suf_ahead o w n
    have e1 : suf o w (n + 1 + 1) = suf o w (n + 1) * 10 + o (w + (n + 1)) := rfl
    have e2 : suf o (w + 1) (n + 1) = suf o (w + 1) n * 10 + o (w + 1 + n) := rfl
    rw [e1, e2, ih, show w + 1 + n = w + (n + 1) by omega, Nat.pow_succ, Nat.add_mul, Nat.mul_assoc]
    omega
theorem suf_congr {o p : Nat → Nat} {w : Nat} : ∀ n, (∀ i, w ≤ i → i < w + n → o i = p i) → suf o w n = suf p w n
  | 0, _ => rfl
  | n + 1, h => by unfold suf; rw [suf_congr n fun i a b => h i a (by omega), h (w + n) (by omega) (by omega)]
theorem suf_lt {o : Nat → Nat} {w : Nat} : ∀ n, (∀ i, w ≤ i → i < w + n → o i ≤ 9) → suf o w n < 10 ^ n
  | 0, _ => by simp [suf]
  | n + 1, h => by
    have := suf_lt n fun i a b => h i a (by omega)
    have := h (w + n) (by omega) (by omega)
    unfold suf; rw [Nat.pow_succ]; omega
/-- the number that bytes spell, from behind -/
def dig (d : Nat → Nat) (i : Nat) : Nat := d i - 48
theorem num_suf (d : Nat → Nat) : ∀ n, num d n = suf (dig d) 0 n
  | 0 => rfl
  | n + 1 => by unfold num suf; rw [num_suf d n, Nat.zero_add]; rfl
theorem dig_nine {d : Nat → Nat} {n : Nat} (h : Dg d n) {i : Nat} (hi : i < n) : dig d i ≤ 9 := by
  have := h i hi
  unfold dig; omega
/-- put into a row -/
def put (o : Nat → Nat) (i x : Nat) (j : Nat) : Nat := if j = i then x else o j
theorem put_same (o : Nat → Nat) (i x : Nat) : put o i x i = x := if_pos rfl
theorem put_other (o : Nat → Nat) {i x j : Nat} (h : j ≠ i) : put o i x j = o j := if_neg h

/-! a round: the digit ahead comes in, the last one of what is carried goes out -/
/-- Lf: of the digits from r on, shifted by k, what is carried is n; the digits that went out are o, from w on -/
def Lf (d o : Nat → Nat) (nd k r w m n : Nat) : Prop := 2 ^ k * suf (dig d) r (nd - r) = n * 10 ^ (nd - r) + suf o w (m - w)
theorem left_step {d o : Nat → Nat} {nd k r w m n : Nat} (h : Lf d o nd k (r + 1) (w + 1) m n) (hr : r + 1 ≤ nd) (hw : w + 1 ≤ m) (hrw : m - (w + 1) = nd - (r + 1)) :
    Lf d (put o w ((n + dig d r * 2 ^ k) % 10)) nd k r w m ((n + dig d r * 2 ^ k) / 10) := by
  unfold Lf at *
  obtain ⟨a, ha⟩ : ∃ a, nd - (r + 1) = a := ⟨_, rfl⟩
  have e1 : nd - r = a + 1 := by omega
  have e2 : m - w = a + 1 := by omega
  rw [hrw, ha] at h
  rw [e1, e2, suf_ahead, suf_ahead, put_same, Nat.mul_add, h]
  rw [suf_congr (p := o) (w := w + 1) a fun i h1 _ => put_other o (by omega)]
  generalize hx : n + dig d r * 2 ^ k = x
  have hd := Nat.div_add_mod x 10
  have : 2 ^ k * (dig d r * 10 ^ a) + n * 10 ^ a = x * 10 ^ a := by
    rw [← hx, Nat.add_mul]
    simp only [Nat.mul_left_comm, Nat.mul_assoc]; omega
  have e3 : x * 10 ^ a = x / 10 * 10 ^ (a + 1) + x % 10 * 10 ^ a := by
    conv => lhs; rw [← hd, Nat.add_mul]
    rw [Nat.pow_succ]
    simp only [Nat.mul_comm, Nat.mul_left_comm, Nat.mul_assoc]
  omega
/-- more digits go out, none comes in -/
def Lx (v : Nat) (o : Nat → Nat) (nd w m n : Nat) : Prop := v = n * 10 ^ (m - w) + suf o w (m - w)
theorem out_step {v : Nat} {o : Nat → Nat} {nd w m n : Nat} (h : Lx v o nd (w + 1) m n) (hw : w + 1 ≤ m) : Lx v (put o w (n % 10)) nd w m (n / 10) := by
  unfold Lx at *
  obtain ⟨a, ha⟩ : ∃ a, m - (w + 1) = a := ⟨_, rfl⟩
  rw [ha] at h
  rw [show m - w = a + 1 by omega, suf_ahead, put_same, suf_congr (p := o) (w := w + 1) a fun i h1 _ => put_other o (by omega), h]
  have hd := Nat.div_add_mod n 10
  have e3 : n * 10 ^ a = n / 10 * 10 ^ (a + 1) + n % 10 * 10 ^ a := by
    conv => lhs; rw [← hd, Nat.add_mul]
    rw [Nat.pow_succ]
    simp only [Nat.mul_comm, Nat.mul_left_comm, Nat.mul_assoc]
  omega

/-! how many digits are new: L digits has C = 5^k; k - L + 1, or one fewer if the number begins below it -/
theorem left_less {d : Nat → Nat} {nd k L C : Nat} (hd : Dg d nd) (h0 : 49 ≤ d 0) (hn : 0 < nd) (hC : C = 5 ^ k) (h1 : 10 ^ L ≤ 10 * C) (h2 : C < 10 ^ L) (hL : L ≤ k) (hlt : pz d nd L < C) :
    2 ^ k * num d nd < 10 ^ (nd + (k - L)) ∧ 10 ^ (nd + (k - L)) ≤ 10 * (2 ^ k * num d nd) := by
  have hp5 : 2 ^ k * 5 ^ k = 10 ^ k := by rw [← Nat.mul_pow]
  have hk : 10 ^ k = 10 ^ (k - L) * 10 ^ L := by rw [← Nat.pow_add, show k - L + L = k by omega]
  constructor
  · -- num * 10^L < C * 10^nd
    have hx : num d nd * 10 ^ L < C * 10 ^ nd := by
      by_cases hh : L ≤ nd
      · have := (pz_le_whole hd (nd - L) L (by omega)).2
        have h3 : (pz d nd L + 1) * 10 ^ (nd - L) ≤ C * 10 ^ (nd - L) := Nat.mul_le_mul_right _ hlt
        have h4 : num d nd < C * 10 ^ (nd - L) := Nat.lt_of_lt_of_le this h3
        have h5 := Nat.mul_lt_mul_of_pos_right h4 (Nat.pow_pos (n := L) (show 0 < 10 by decide))
        rwa [Nat.mul_assoc, ← Nat.pow_add, show nd - L + L = nd by omega] at h5
      · rw [pz_far (by omega)] at hlt
        have h5 := Nat.mul_lt_mul_of_pos_right hlt (Nat.pow_pos (n := nd) (show 0 < 10 by decide))
        rwa [Nat.mul_assoc, ← Nat.pow_add, show L - nd + nd = L by omega] at h5
    have h6 := Nat.mul_lt_mul_of_pos_left hx (Nat.pow_pos (n := k) (show 0 < 2 by decide))
    have h7 : 2 ^ k * (C * 10 ^ nd) = 10 ^ (nd + (k - L)) * 10 ^ L := by
      rw [hC, ← Nat.mul_assoc, hp5, hk, Nat.pow_add]
      simp only [Nat.mul_comm, Nat.mul_left_comm]
    rw [h7, ← Nat.mul_assoc] at h6
    exact Nat.lt_of_mul_lt_mul_right h6
  · obtain ⟨m, rfl⟩ : ∃ m, nd = m + 1 := ⟨nd - 1, by omega⟩
    have hg := num_ge h0 m
    have h3 : 10 ^ (k - L) ≤ 2 ^ k := by
      have : 10 ^ (k - L) * 10 ^ L ≤ 2 ^ k * 10 ^ L := by
        rw [← hk, ← hp5]
        exact Nat.mul_le_mul_left _ (by rw [← hC]; exact Nat.le_of_lt h2)
      exact Nat.le_of_mul_le_mul_right this (Nat.pow_pos (by decide))
    have h4 := Nat.mul_le_mul h3 hg
    rw [show m + 1 + (k - L) = (k - L + m) + 1 by omega, Nat.pow_succ, Nat.pow_add]
    omega
theorem left_not {d : Nat → Nat} {nd k L C : Nat} (hd : Dg d nd) (hn : 0 < nd) (hC : C = 5 ^ k) (h1 : 10 ^ L ≤ 10 * C) (hL : L ≤ k) (hge : C ≤ pz d nd L) :
    2 ^ k * num d nd < 10 ^ (nd + (k - L + 1)) ∧ 10 ^ (nd + (k - L + 1)) ≤ 10 * (2 ^ k * num d nd) := by
  have hp5 : 2 ^ k * 5 ^ k = 10 ^ k := by rw [← Nat.mul_pow]
  have hk : 10 ^ k = 10 ^ (k - L) * 10 ^ L := by rw [← Nat.pow_add, show k - L + L = k by omega]
  constructor
  · have hlt := num_lt nd hd
    have h3 : 2 ^ k ≤ 10 ^ (k - L + 1) := by
      have : 2 ^ k * 10 ^ L ≤ 10 ^ (k - L + 1) * 10 ^ L := by
        have := Nat.mul_le_mul_left (2 ^ k) h1
        rw [hC] at this
        have e : 2 ^ k * (10 * 5 ^ k) = 10 * (2 ^ k * 5 ^ k) := by simp only [Nat.mul_left_comm]
        rw [e, hp5, hk] at this
        rw [Nat.pow_succ]
        refine Nat.le_trans this (Nat.le_of_eq ?_)
        simp only [Nat.mul_comm, Nat.mul_left_comm]
      exact Nat.le_of_mul_le_mul_right this (Nat.pow_pos (by decide))
    rw [Nat.pow_add, Nat.mul_comm (10 ^ nd)]
    exact Nat.lt_of_lt_of_le (Nat.mul_lt_mul_of_pos_left hlt (Nat.pow_pos (by decide))) (Nat.mul_le_mul_right _ h3)
  · have hx : C * 10 ^ nd ≤ num d nd * 10 ^ L := by
      by_cases hh : L ≤ nd
      · have := (pz_le_whole hd (nd - L) L (by omega)).1
        have h4 := Nat.le_trans (Nat.mul_le_mul_right (10 ^ (nd - L)) hge) this
        have h5 := Nat.mul_le_mul_right (10 ^ L) h4
        rwa [Nat.mul_assoc, ← Nat.pow_add, show nd - L + L = nd by omega] at h5
      · rw [pz_far (by omega)] at hge
        have h5 := Nat.mul_le_mul_right (10 ^ nd) hge
        rwa [Nat.mul_assoc, ← Nat.pow_add, show L - nd + nd = L by omega] at h5
    have h6 := Nat.mul_le_mul_left (2 ^ k) hx
    have h7 : 2 ^ k * (C * 10 ^ nd) = 10 ^ (nd + (k - L)) * 10 ^ L := by
      rw [hC, ← Nat.mul_assoc, hp5, hk, Nat.pow_add]
      simp only [Nat.mul_comm, Nat.mul_left_comm]
    rw [h7, ← Nat.mul_assoc] at h6
    have h8 := Nat.le_of_mul_le_mul_right h6 (Nat.pow_pos (by decide))
    rw [show nd + (k - L + 1) = nd + (k - L) + 1 by omega, Nat.pow_succ]
    omega

/-! what it becomes, where the digits beyond the 800th are left out -/
theorem suf_part (o : Nat → Nat) (n : Nat) : ∀ j, suf o 0 (n + j) = suf o 0 n * 10 ^ j + suf o n j
  | 0 => by simp [suf]
  | j + 1 => by
    have ih := suf_part o n j
    have e1 : suf o 0 (n + (j + 1)) = suf o 0 (n + j) * 10 + o (0 + (n + j)) := rfl
    have e2 : suf o n (j + 1) = suf o n j * 10 + o (n + j) := rfl
    rw [e1, e2, ih, Nat.pow_succ, Nat.zero_add, Nat.add_mul, Nat.mul_assoc]
    omega
theorem num_ge_part {e : Nat → Nat} {i : Nat} : ∀ j, num e i * 10 ^ j ≤ num e (i + j)
  | 0 => by simp
  | j + 1 => by
    have ih := @num_ge_part e i j
    have e1 : num e (i + (j + 1)) = num e (i + j) * 10 + (e (i + j) - 48) := rfl
    rw [e1, Nat.pow_succ, ← Nat.mul_assoc]
    omega
theorem num_le_part {e : Nat → Nat} {i : Nat} : ∀ j, Dg e (i + j) → num e (i + j) < (num e i + 1) * 10 ^ j
  | 0, _ => by simp
  | j + 1, h => by
    have ih := @num_le_part e i j fun k hk => h k (by omega)
    have hd := h (i + j) (by omega)
    have e1 : num e (i + (j + 1)) = num e (i + j) * 10 + (e (i + j) - 48) := rfl
    rw [e1, Nat.pow_succ, ← Nat.mul_assoc]
    omega
theorem first_lt {e f : Nat → Nat} {i L : Nat} (he : Dg e L) (hi : i < L) (h : ∀ j, j < i → e j = f j) (hlt : e i < f i) : num e L < num f L := by
  obtain ⟨j, rfl⟩ : ∃ j, L = (i + 1) + j := ⟨L - (i + 1), by omega⟩
  have h1 := num_le_part j he
  have h2 := @num_ge_part f (i + 1) j
  have e1 : num e (i + 1) = num e i * 10 + (e i - 48) := rfl
  have f1 : num f (i + 1) = num f i * 10 + (f i - 48) := rfl
  have hei := (he i (by omega)).1
  have h3 : num e (i + 1) + 1 ≤ num f (i + 1) := by rw [e1, f1, num_congr i h]; omega
  exact Nat.lt_of_lt_of_le h1 (Nat.le_trans (Nat.mul_le_mul_right _ h3) h2)
/-- nothing is left of d -/
theorem pre_end {d s : Nat → Nat} {nd L i : Nat} (hi : i < L) (hnd : nd ≤ i) (h : ∀ j, j < i → j < nd ∧ d j = s j) (hs : 49 ≤ s (L - 1)) : pz d nd L < num s L := by
  have e0 : pz d nd i = num s i := num_congr i fun j hj => by rw [← (h j hj).2]; exact if_pos (h j hj).1
  obtain ⟨j, rfl⟩ : ∃ j, L = i + (j + 1) := ⟨L - (i + 1), by omega⟩
  have e1 : pz d nd (i + (j + 1)) = num s i * 10 ^ (j + 1) := by
    rw [pz_far (by omega), ← e0, pz_far hnd, Nat.mul_assoc, ← Nat.pow_add]
    congr 2; omega
  have h2 := @num_ge_part s i j
  have e2 : num s (i + (j + 1)) = num s (i + j) * 10 + (s (i + j) - 48) := rfl
  rw [show i + (j + 1) - 1 = i + j by omega] at hs
  rw [e1, e2, Nat.pow_succ, ← Nat.mul_assoc]
  omega
theorem pre_lt {d s : Nat → Nat} {nd L i : Nat} (hd : Dg d nd) (hi : i < L) (hn : i < nd) (h : ∀ j, j < i → j < nd ∧ d j = s j) (hlt : d i < s i) : pz d nd L < num s L :=
  first_lt (ext_dg hd L) hi (fun j hj => by rw [← (h j hj).2]; exact if_pos (h j hj).1) (by rw [show ext d nd i = d i from if_pos hn]; exact hlt)
theorem pre_gt {d s : Nat → Nat} {nd L i : Nat} (hs : Dg s L) (hi : i < L) (hn : i < nd) (h : ∀ j, j < i → j < nd ∧ d j = s j) (hlt : s i < d i) : num s L ≤ pz d nd L :=
  Nat.le_of_lt (first_lt (f := ext d nd) hs hi (fun j hj => by rw [← (h j hj).2]; exact (if_pos (h j hj).1).symm) (by rw [show ext d nd i = d i from if_pos hn]; exact hlt))
theorem pre_all {d s : Nat → Nat} {nd L : Nat} (h : ∀ j, j < L → j < nd ∧ d j = s j) : num s L ≤ pz d nd L :=
  Nat.le_of_eq (num_congr L fun j hj => by rw [← (h j hj).2]; exact (if_pos (h j hj).1).symm)

/-! what a shift to the left leaves -/
theorem lead_pos {o : Nat → Nat} {m v : Nat} (ho : ∀ i, i < m → o i ≤ 9) (hv : v = suf o 0 m) (hm : 0 < m) (h : 10 ^ m ≤ 10 * v) : 1 ≤ o 0 := by
  obtain ⟨a, rfl⟩ : ∃ a, m = a + 1 := ⟨m - 1, by omega⟩
  rw [suf_ahead] at hv
  have := suf_lt (o := o) (w := 1) a fun i _ h2 => ho i (by omega)
  rw [Nat.pow_succ] at h
  rcases Nat.eq_zero_or_pos (o 0) with h0 | h0
  · rw [h0] at hv
    simp only [Nat.zero_mul, Nat.zero_add] at hv
    omega
  · exact h0
def cap8 : Nat := 800
theorem cap8_is : cap8 = 800 := rfl
def many : Nat := 7000
theorem three_le {N : Nat} (a : (10 : Nat) ^ cap8 ≤ 10 * (N + 1)) : 3 ≤ N := by
  have b : (10 : Nat) ^ 2 ≤ 10 ^ cap8 := Nat.pow_le_pow_right (by decide) (by decide)
  generalize (10 : Nat) ^ cap8 = x at a b
  omega
theorem left_grows {o : Nat → Nat} {D k m n' : Nat} (ho : ∀ i, i < m → o i ≤ 9) (hv : 2 ^ k * D = suf o 0 m) (hk : 1 ≤ k) (h : 10 ^ m ≤ 10 * (2 ^ k * D)) (hn : n' = min m cap8) :
    3 * D ≤ 2 * (suf o 0 n' * 10 ^ (m - n')) := by
  have h2 : 2 * D ≤ 2 ^ k * D := by
    obtain ⟨j, rfl⟩ : ∃ j, k = j + 1 := ⟨k - 1, by omega⟩
    rw [Nat.pow_succ, Nat.mul_comm (2 ^ j), Nat.mul_assoc]
    exact Nat.mul_le_mul_left 2 (Nat.le_mul_of_pos_left D (Nat.pow_pos (by decide)))
  by_cases hm : m ≤ cap8
  · obtain rfl : n' = m := by omega
    rw [Nat.sub_self, Nat.pow_zero, Nat.mul_one, ← hv]
    omega
  · obtain rfl : n' = cap8 := by omega
    obtain ⟨j, rfl⟩ : ∃ j, m = cap8 + j := ⟨m - cap8, by omega⟩
    rw [show cap8 + j - cap8 = j by omega]
    have hp := suf_part o cap8 j
    have hl := suf_lt (o := o) (w := cap8) j fun i _ h2 => ho i (by omega)
    generalize suf o 0 cap8 = N at *
    have h1 : 2 ^ k * D < (N + 1) * 10 ^ j := by rw [hv, hp, Nat.add_mul, Nat.one_mul]; omega
    have hN : 3 ≤ N := by
      have a1 : 10 ^ (cap8 + j) ≤ 10 * ((N + 1) * 10 ^ j) := Nat.le_trans h (Nat.mul_le_mul_left 10 (Nat.le_of_lt h1))
      rw [Nat.pow_add, ← Nat.mul_assoc] at a1
      have a2 := Nat.le_of_mul_le_mul_right a1 (Nat.pow_pos (by decide))
      exact three_le a2
    have h3 : 3 * (N + 1) * 10 ^ j ≤ 4 * N * 10 ^ j := Nat.mul_le_mul_right _ (by omega)
    have h4 : 3 * (N + 1) * 10 ^ j = 3 * ((N + 1) * 10 ^ j) := Nat.mul_assoc ..
    have h5 : 4 * N * 10 ^ j = 4 * (N * 10 ^ j) := Nat.mul_assoc ..
    omega
theorem num_of {g o : Nat → Nat} {n : Nat} (h : ∀ i, i < n → g i = o i + 48) : num g n = suf o 0 n := by
  rw [num_suf]
  exact suf_congr n fun i _ hi => by
    have := h i (by omega)
    unfold dig; omega
theorem U_left {d g o : Nat → Nat} {nd k delta n' : Nat} {dp : Int} (ho : ∀ i, i < nd + delta → o i ≤ 9) (hv : 2 ^ k * num d nd = suf o 0 (nd + delta)) (hk : 1 ≤ k) (h : 10 ^ (nd + delta) ≤ 10 * (2 ^ k * num d nd)) (hn : n' = min (nd + delta) cap8)
    (hg : ∀ i, i < n' → g i = o i + 48) (hE : (0 : Int) ≤ (top : Int) + dp - nd) : 3 * U d nd dp ≤ 2 * U g n' (dp + delta) := by
  have h1 := left_grows ho hv hk h hn
  unfold U
  rw [num_of hg]
  have e : ((top : Int) + (dp + delta) - n').toNat = (nd + delta - n') + ((top : Int) + dp - nd).toNat := by omega
  rw [e, Nat.pow_add, ← Nat.mul_assoc, ← Nat.mul_assoc, ← Nat.mul_assoc]
  have h2 := Nat.mul_le_mul_right (10 ^ ((top : Int) + dp - nd).toNat) h1
  refine Nat.le_trans h2 (Nat.le_of_eq ?_)
  simp only [Nat.mul_assoc]
theorem left_first {g o : Nat → Nat} {m n' v : Nat} (ho : ∀ i, i < m → o i ≤ 9) (hv : v = suf o 0 m) (hm : 0 < m) (h : 10 ^ m ≤ 10 * v) (hn : n' = min m cap8) (hg : ∀ i, i < n' → g i = o i + 48) : 49 ≤ g 0 ∧ Dg g n' := by
  have := lead_pos ho hv hm h
  have h8 := cap8_is
  refine ⟨by rw [hg 0 (by omega)]; omega, fun i hi => ?_⟩
  have h1 := hg i hi
  have h2 := ho i (by omega)
  omega
/-- what is carried at the end has as many digits as are new -/
theorem carry_is {d o : Nat → Nat} {nd k m n : Nat} (h : Lf d o nd k 0 (m - nd) m n) (hm : nd ≤ m) (ho : ∀ i, m - nd ≤ i → i < m → o i ≤ 9) (hlt : 2 ^ k * num d nd < 10 ^ m) : n < 10 ^ (m - nd) := by
  unfold Lf at h
  rw [Nat.sub_zero, ← num_suf] at h
  have e : m = nd + (m - nd) := by omega
  rw [h] at hlt
  have h1 : n * 10 ^ nd < 10 ^ (m - nd) * 10 ^ nd := by
    rw [← Nat.pow_add, show m - nd + nd = m by omega]
    omega
  exact Nat.lt_of_mul_lt_mul_right h1
theorem lf_lx {d o : Nat → Nat} {nd k m n : Nat} (h : Lf d o nd k 0 (m - nd) m n) (hm : nd ≤ m) : Lx (2 ^ k * num d nd) o nd (m - nd) m n := by
  unfold Lf at h
  unfold Lx
  rw [Nat.sub_zero, ← num_suf] at h
  rw [h, show m - (m - nd) = nd by omega]
/-- how often it may grow -/
theorem grow_few {t u : Nat} (h : 3 ^ t ≤ 2 ^ t * u) (hu : u < 10 ^ top) : t < many := by
  rcases Nat.lt_or_ge t many with h1 | h1
  · exact h1
  · exfalso
    obtain ⟨j, rfl⟩ : ∃ j, t = many + j := ⟨t - many, by omega⟩
    have a : 2 ^ many * 10 ^ top ≤ 3 ^ many := by decide +kernel
    have b : (2 : Nat) ^ j ≤ 3 ^ j := Nat.pow_le_pow_left (by decide) j
    rw [Nat.pow_add, Nat.pow_add] at h
    have c : 2 ^ many * 2 ^ j * u < 2 ^ many * 2 ^ j * 10 ^ top := Nat.mul_lt_mul_of_pos_left hu (Nat.mul_pos (Nat.pow_pos (by decide)) (Nat.pow_pos (by decide)))
    have d := Nat.mul_le_mul a b
    have e : 2 ^ many * 10 ^ top * 2 ^ j = 2 ^ many * 2 ^ j * 10 ^ top := by rw [Nat.mul_assoc, Nat.mul_assoc, Nat.mul_comm (10 ^ top)]
    rw [e] at d
    exact Nat.lt_irrefl _ (Nat.lt_of_le_of_lt h (Nat.lt_of_lt_of_le c d))
end Dm

namespace Go.Proofs.YtofndhmnofghaaaGreatDoor.Sl
set_option linter.unusedVariables false
/-- reached by steps -/
inductive Rch {S : Type} (st : S → S → Prop) (s : S) : S → Prop
  | refl : Rch st s s
  | tail {t u : S} : Rch st s t → st t u → Rch st s u
def Det {S T : Type} (st : S → T → Prop) : Prop := ∀ s t u, st s t → st s u → t = u
theorem Rch.trans {S : Type} {st : S → S → Prop} {s t u : S} (h : Rch st s t) (g : Rch st t u) : Rch st s u := by
  induction g with
  | refl => exact h
  | tail _ e ih => exact .tail ih e
theorem Rch.cases1 {S : Type} {st : S → S → Prop} {s t : S} (h : Rch st s t) : s = t ∨ ∃ m, st s m ∧ Rch st m t := by
  induction h with
  | refl => exact .inl rfl
  | tail _ e ih =>
    rcases ih with rfl | ⟨m, a, b⟩
    · exact .inr ⟨_, e, .refl⟩
    · exact .inr ⟨m, a, .tail b e⟩
theorem Rch.line {S : Type} {st : S → S → Prop} (hd : Det st) {s t u : S} (h : Rch st s t) (g : Rch st s u) : Rch st t u ∨ Rch st u t := by
  induction h with
  | refl => exact .inl g
  | tail h1 e ih =>
    rcases ih with a | a
    · rcases a.cases1 with rfl | ⟨m, b, c⟩
      · exact .inr (.tail .refl e)
      · rw [hd _ _ _ e b]; exact .inl c
    · exact .inr (.tail a e)
/-- runs till no step is left -/
def Ends {S : Type} (st : S → S → Prop) (s t : S) : Prop := Rch st s t ∧ ∀ u, ¬ st t u
theorem Ends.det {S : Type} {st : S → S → Prop} (hd : Det st) : Det (Ends st) := by
  intro s t u h g
  rcases h.1.line hd g.1 with a | a
  · rcases a.cases1 with rfl | ⟨m, b, c⟩
    · rfl
    · exact absurd b (h.2 m)
  · rcases a.cases1 with rfl | ⟨m, b, c⟩
    · rfl
    · exact absurd b (g.2 m)

/-- a decimal: its digits, how many, the point, whether some were lost -/
structure Dc where
  d : Nat → Nat
  nd : Nat
  dp : Int
  tr : Bool
def trimD (x : Dc) : Dc := ⟨x.d, Dm.trimN x.d x.nd, if Dm.trimN x.d x.nd = 0 then 0 else x.dp, x.tr⟩

/-! to the left -/
structure LSt where
  j : Nat
  v : Nat
  n : Nat
  g : Nat → Nat
  tr : Bool
/-- a digit out at v -/
def outL (j v x : Nat) (g : Nat → Nat) (tr : Bool) : LSt := if v < 800 then ⟨j, v, x / 10, Dm.put g v (x % 10 + 48), tr⟩ else ⟨j, v, x / 10, g, if x % 10 = 0 then tr else true⟩
def left1 (d : Nat → Nat) (k : Nat) (s t : LSt) : Prop := ∃ j v, s.j = j + 1 ∧ s.v = v + 1 ∧ t = outL j v (s.n + Dm.dig d j * 2 ^ k) s.g s.tr
def left2 (s t : LSt) : Prop := ∃ v, 0 < s.n ∧ s.v = v + 1 ∧ t = outL s.j v s.n s.g s.tr
theorem left1_det (d : Nat → Nat) (k : Nat) : Det (left1 d k) := by
  rintro s t u ⟨j, v, a, b, rfl⟩ ⟨j', v', a', b', rfl⟩
  obtain rfl : j = j' := by omega
  obtain rfl : v = v' := by omega
  rfl
theorem left2_det : Det left2 := by
  rintro s t u ⟨v, a, b, rfl⟩ ⟨v', a', b', rfl⟩
  obtain rfl : v = v' := by omega
  rfl
theorem left1_put {d g : Nat → Nat} {k q u n : Nat} {tr : Bool} {s : LSt} (h : Rch (left1 d k) s ⟨q + 1, u + 1, n, g, tr⟩) (h8 : u < 800) :
    Rch (left1 d k) s ⟨q, u, (n + Dm.dig d q * 2 ^ k) / 10, Dm.put g u ((n + Dm.dig d q * 2 ^ k) % 10 + 48), tr⟩ :=
  .tail h ⟨q, u, rfl, rfl, by unfold outL; rw [if_pos h8]⟩
theorem left1_off {d g : Nat → Nat} {k q u n : Nat} {tr : Bool} {s : LSt} (h : Rch (left1 d k) s ⟨q + 1, u + 1, n, g, tr⟩) (h8 : ¬ u < 800) :
    Rch (left1 d k) s ⟨q, u, (n + Dm.dig d q * 2 ^ k) / 10, g, if (n + Dm.dig d q * 2 ^ k) % 10 = 0 then tr else true⟩ :=
  .tail h ⟨q, u, rfl, rfl, by unfold outL; rw [if_neg h8]⟩
theorem left1_end {d g : Nat → Nat} {k v n : Nat} {tr : Bool} {s : LSt} (h : Rch (left1 d k) s ⟨0, v, n, g, tr⟩) : Ends (left1 d k) s ⟨0, v, n, g, tr⟩ :=
  ⟨h, by rintro t ⟨j, v, a, _⟩; cases a⟩
theorem left2_put {g : Nat → Nat} {j u n : Nat} {tr : Bool} {s : LSt} (h : Rch left2 s ⟨j, u + 1, n, g, tr⟩) (h0 : 0 < n) (h8 : u < 800) : Rch left2 s ⟨j, u, n / 10, Dm.put g u (n % 10 + 48), tr⟩ :=
  .tail h ⟨u, h0, rfl, by unfold outL; rw [if_pos h8]⟩
theorem left2_end {g : Nat → Nat} {j v : Nat} {tr : Bool} {s : LSt} (h : Rch left2 s ⟨j, v, 0, g, tr⟩) : Ends left2 s ⟨j, v, 0, g, tr⟩ :=
  ⟨h, by rintro t ⟨v, a, _⟩; exact absurd a (Nat.lt_irrefl 0)⟩
/-- so many new digits: delta -/
def LeftBy (k delta : Nat) (x y : Dc) : Prop :=
  ∃ s t, Ends (left1 x.d k) ⟨x.nd, x.nd + delta, 0, x.d, x.tr⟩ s ∧ Ends left2 s t ∧ y = trimD ⟨t.g, min (x.nd + delta) 800, x.dp + delta, t.tr⟩
theorem LeftBy.det (k delta : Nat) : Det (LeftBy k delta) := by
  rintro x y z ⟨s, t, a, b, rfl⟩ ⟨s', t', a', b', rfl⟩
  obtain rfl := Ends.det (left1_det _ _) _ _ _ a a'
  obtain rfl := Ends.det left2_det _ _ _ b b'
  rfl

/-! to the right -/
structure RSt where
  q : Nat
  n : Nat
  g : Nat → Nat
  tr : Bool
def Pick (d : Nat → Nat) (nd k r n : Nat) : Prop := n = Dm.pz d nd r ∧ 2 ^ k ≤ n ∧ n < 10 * 2 ^ k
theorem pz_mono (d : Nat → Nat) (nd r : Nat) : ∀ j, Dm.pz d nd (r + 1) ≤ Dm.pz d nd (r + 1 + j)
  | 0 => Nat.le_refl _
  | j + 1 => by
    have ih := pz_mono d nd r j
    have e := Dm.pz_succ d nd (r + 1 + j)
    have e2 : r + 1 + (j + 1) = r + 1 + j + 1 := rfl
    rw [e2, e]
    omega
theorem Pick.lt {d : Nat → Nat} {nd k r n r' n' : Nat} (h : Pick d nd k r n) (g : Pick d nd k r' n') : ¬ r < r' := by
  intro hlt
  obtain ⟨a, b, c⟩ := h
  obtain ⟨a', b', c'⟩ := g
  have e := Dm.pz_succ d nd r
  have m := pz_mono d nd r (r' - r - 1)
  rw [show r + 1 + (r' - r - 1) = r' by omega, ← a', e, ← a] at m
  omega
theorem Pick.same {d : Nat → Nat} {nd k r n r' n' : Nat} (h : Pick d nd k r n) (g : Pick d nd k r' n') : r = r' ∧ n = n' := by
  have h1 := h.lt g
  have h2 := g.lt h
  obtain rfl : r = r' := by omega
  exact ⟨rfl, h.1.trans g.1.symm⟩
def right1 (d : Nat → Nat) (nd r0 k : Nat) (s t : RSt) : Prop :=
  r0 + s.q < nd ∧ t = ⟨s.q + 1, s.n % 2 ^ k * 10 + (d (r0 + s.q) - 48), Dm.put s.g s.q (s.n / 2 ^ k + 48), s.tr⟩
def right2 (k : Nat) (s t : RSt) : Prop :=
  0 < s.n ∧ t = (if s.q < 800 then ⟨s.q + 1, s.n % 2 ^ k * 10, Dm.put s.g s.q (s.n / 2 ^ k + 48), s.tr⟩ else ⟨s.q, s.n % 2 ^ k * 10, s.g, if s.n / 2 ^ k = 0 then s.tr else true⟩)
theorem right1_det (d : Nat → Nat) (nd r0 k : Nat) : Det (right1 d nd r0 k) := by
  rintro s t u ⟨_, rfl⟩ ⟨_, rfl⟩; rfl
theorem right2_det (k : Nat) : Det (right2 k) := by
  rintro s t u ⟨_, rfl⟩ ⟨_, rfl⟩; rfl
theorem right1_put {d g : Nat → Nat} {nd r0 k q n : Nat} {tr : Bool} {s : RSt} (h : Rch (right1 d nd r0 k) s ⟨q, n, g, tr⟩) (h0 : r0 + q < nd) :
    Rch (right1 d nd r0 k) s ⟨q + 1, n % 2 ^ k * 10 + (d (r0 + q) - 48), Dm.put g q (n / 2 ^ k + 48), tr⟩ := .tail h ⟨h0, rfl⟩
theorem right1_end {d g : Nat → Nat} {nd r0 k q n : Nat} {tr : Bool} {s : RSt} (h : Rch (right1 d nd r0 k) s ⟨q, n, g, tr⟩) (h0 : nd ≤ r0 + q) : Ends (right1 d nd r0 k) s ⟨q, n, g, tr⟩ :=
  ⟨h, by rintro t ⟨a, _⟩; exact absurd a (Nat.not_lt.2 h0)⟩
theorem right2_put {g : Nat → Nat} {k q n : Nat} {tr : Bool} {s : RSt} (h : Rch (right2 k) s ⟨q, n, g, tr⟩) (h0 : 0 < n) (h8 : q < 800) :
    Rch (right2 k) s ⟨q + 1, n % 2 ^ k * 10, Dm.put g q (n / 2 ^ k + 48), tr⟩ := .tail h ⟨h0, by rw [if_pos h8]⟩
theorem right2_off {g : Nat → Nat} {k n : Nat} {tr : Bool} {s : RSt} (h : Rch (right2 k) s ⟨800, n, g, tr⟩) (h0 : 0 < n) :
    Rch (right2 k) s ⟨800, n % 2 ^ k * 10, g, if n / 2 ^ k = 0 then tr else true⟩ := .tail h ⟨h0, by rw [if_neg (Nat.lt_irrefl 800)]⟩
theorem right2_end {g : Nat → Nat} {k q : Nat} {tr : Bool} {s : RSt} (h : Rch (right2 k) s ⟨q, 0, g, tr⟩) : Ends (right2 k) s ⟨q, 0, g, tr⟩ :=
  ⟨h, by rintro t ⟨a, _⟩; exact absurd a (Nat.lt_irrefl 0)⟩
def RightR (k : Nat) (x y : Dc) : Prop :=
  ∃ r0 n0 s t, Pick x.d x.nd k r0 n0 ∧ Ends (right1 x.d x.nd r0 k) ⟨0, n0, x.d, x.tr⟩ s ∧ Ends (right2 k) s t ∧ y = trimD ⟨t.g, t.q, x.dp - ((r0 : Int) - 1), t.tr⟩
theorem RightR.det (k : Nat) : Det (RightR k) := by
  rintro x y z ⟨r0, n0, s, t, p, a, b, rfl⟩ ⟨r0', n0', s', t', p', a', b', rfl⟩
  obtain ⟨rfl, rfl⟩ := p.same p'
  obtain rfl := Ends.det (right1_det _ _ _ _) _ _ _ a a'
  obtain rfl := Ends.det (right2_det _) _ _ _ b b'
  rfl
/-- by any number of bits -/
inductive FarR : Nat → Dc → Dc → Prop
  | last {n : Nat} {x y : Dc} : n ≤ 60 → RightR n x y → FarR n x y
  | far {n m : Nat} {x y z : Dc} : 60 < n → RightR 60 x y → n = m + 60 → FarR m y z → FarR n x z
theorem FarR.det (n : Nat) : Det (FarR n) := by
  intro x y z h
  induction h generalizing z with
  | last a b =>
    intro g
    cases g with
    | last _ c => exact RightR.det _ _ _ _ b c
    | far c => omega
  | far a b e c ih =>
    intro g
    cases g with
    | last c => omega
    | far _ b' e' c' =>
      obtain rfl := RightR.det _ _ _ _ b b'
      have := Nat.add_right_cancel (e.symm.trans e')
      subst this
      exact ih _ c'
end Go.Proofs.YtofndhmnofghaaaGreatDoor.Sl

namespace Go.Proofs.YtofndhmnofghaaaGreatDoor.Sl
open Go.RowKit
set_option linter.unusedVariables false

/-! memory: a block that is known whole; one block alone is changed -/
def Blk (w : World) (g : Nat) (t : TypeId) (cs : Array Value) : Prop := w.heap[g]? = some (.cells cs t (0, 0))
theorem Blk.lt {w : World} {g : Nat} {t : TypeId} {cs : Array Value} (h : Blk w g t cs) : g < w.heap.size := by
  rcases Nat.lt_or_ge g w.heap.size with hlt | hge
  · exact hlt
  · unfold Blk at h; rw [Array.getElem?_eq_none hge] at h; cases h
theorem Blk.cell {w : World} {g : Nat} {t : TypeId} {cs : Array Value} (h : Blk w g t cs) (i : Nat) : w.cell? ⟨g, i, none⟩ = cs[i]? := cell_of_row w g i cs t (0, 0) h
theorem Blk.frozen {w : World} {g : Nat} {t : TypeId} {cs : Array Value} (h : Blk w g t cs) (i : Nat) : w.frozen? ⟨g, i, none⟩ = false := by
  unfold Blk at h
  simp [World.frozen?, h]
theorem Blk.new (w : World) (t : TypeId) (cs : Array Value) : Blk (w.alloc (.cells cs t)) w.heap.size t cs := heap_alloc_new w _
theorem Blk.drewN {w : World} {g : Nat} {t : TypeId} {cs : Array Value} (h : Blk w g t cs) (n : Nat) : Blk (w.drewN n) g t cs := h
theorem Blk.set_ {w : World} {g : Nat} {t : TypeId} {cs : Array Value} (h : Blk w g t cs) (i : Nat) (u : Value) : Blk (w.setCell ⟨g, i, none⟩ u) g t (cs.setIfInBounds i u) := by
  unfold Blk at h ⊢
  simp [World.setCell, Array.getElem?_modify, h]
theorem Blk.alloc {w : World} {g : Nat} {t : TypeId} {cs : Array Value} (h : Blk w g t cs) (o : Obj) : Blk (w.alloc o) g t cs := (Below.heap_alloc w o g h.lt).trans h
theorem Blk.below {w w' : World} {g : Nat} {t : TypeId} {cs : Array Value} (h : Blk w g t cs) (hb : Below w.heap.size w w') : Blk w' g t cs := (hb.block g h.lt).trans h
structure Moved (B : Nat) (w w' : World) : Prop where
  os : w'.os = w.os
  tape : w'.tape = w.tape
  output : w'.output = w.output
  size : w'.heap.size = w.heap.size
  block : ∀ k, k ≠ B → w'.heap[k]? = w.heap[k]?
theorem Moved.refl (B : Nat) (w : World) : Moved B w w := ⟨rfl, rfl, rfl, rfl, fun _ _ => rfl⟩
theorem Moved.trans {B : Nat} {a b c : World} (h : Moved B a b) (g : Moved B b c) : Moved B a c :=
  ⟨g.os.trans h.os, g.tape.trans h.tape, g.output.trans h.output, g.size.trans h.size, fun k hk => (g.block k hk).trans (h.block k hk)⟩
theorem Moved.set (B i : Nat) (w : World) (v : Value) : Moved B w (w.setCell ⟨B, i, none⟩ v) := by
  refine ⟨rfl, rfl, rfl, by simp, fun k hk => ?_⟩
  simp [World.setCell, Array.getElem?_modify, Ne.symm hk]
theorem Moved.drewN {B : Nat} {a b : World} (h : Moved B a b) (n : Nat) : Moved B a (b.drewN n) := ⟨h.os, h.tape, h.output, h.size, h.block⟩
theorem Moved.cell {B : Nat} {w w' : World} (h : Moved B w w') {S o : Nat} (hS : S ≠ B) : w'.cell? ⟨S, o, none⟩ = w.cell? ⟨S, o, none⟩ := World.cell?_of_block (a := ⟨S, o, none⟩) (h.block S hS)
theorem Moved.below {B : Nat} {w0 w w' : World} (h : Moved B w w') (hb : Below B w0 w) : Below B w0 w' :=
  hb.trans ⟨h.os, h.tape, h.output, by rw [h.size]; exact Nat.le_refl _, fun k hk => h.block k (by omega)⟩
/-! a decimal in memory: its digits, how many, where the point stands -/
def DzC (cs : Array Value) (f : Nat → Nat) (nd : Nat) (dp : Int) (ng tr : Bool) : Prop :=
  cs.size = 804 ∧ (∀ i, i < 800 → cs[i]? = some (.int .u8 (f i : Int))) ∧ cs[800]? = some (.int .i64 (nd : Int)) ∧ cs[801]? = some (.int .i64 dp) ∧ cs[802]? = some (.bool ng) ∧ cs[803]? = some (.bool tr)
def Dz (w : World) (B : Nat) (f : Nat → Nat) (nd : Nat) (dp : Int) (ng tr : Bool) : Prop := ∃ cs, Blk w B 108 cs ∧ DzC cs f nd dp ng tr
section
variable {w : World} {B : Nat} {f : Nat → Nat} {nd : Nat} {dp : Int} {ng tr : Bool}
theorem Dz.dig (h : Dz w B f nd dp ng tr) (i : Nat) (hi : i < 800) : w.cell? ⟨B, i, none⟩ = some (.int .u8 (f i : Int)) := by
  obtain ⟨cs, hb, h0, h1, _⟩ := h; rw [hb.cell]; exact h1 i hi
theorem Dz.nd_ (h : Dz w B f nd dp ng tr) : w.cell? ⟨B, 800, none⟩ = some (.int .i64 (nd : Int)) := by
  obtain ⟨cs, hb, h0, h1, h2, _⟩ := h; rw [hb.cell]; exact h2
theorem Dz.dp_ (h : Dz w B f nd dp ng tr) : w.cell? ⟨B, 801, none⟩ = some (.int .i64 dp) := by
  obtain ⟨cs, hb, h0, h1, _, h2, _⟩ := h; rw [hb.cell]; exact h2
theorem Dz.ng_ (h : Dz w B f nd dp ng tr) : w.cell? ⟨B, 802, none⟩ = some (.bool ng) := by
  obtain ⟨cs, hb, h0, h1, _, _, h2, _⟩ := h; rw [hb.cell]; exact h2
theorem Dz.tr_ (h : Dz w B f nd dp ng tr) : w.cell? ⟨B, 803, none⟩ = some (.bool tr) := by
  obtain ⟨cs, hb, h0, h1, _, _, _, h2⟩ := h; rw [hb.cell]; exact h2
theorem Dz.frozen (h : Dz w B f nd dp ng tr) (i : Nat) : w.frozen? ⟨B, i, none⟩ = false := by
  obtain ⟨cs, hb, _⟩ := h; exact hb.frozen i
theorem Dz.drewN (h : Dz w B f nd dp ng tr) (n : Nat) : Dz (w.drewN n) B f nd dp ng tr := h
theorem Dz.lt (h : Dz w B f nd dp ng tr) : B < w.heap.size := by
  obtain ⟨cs, hb, _⟩ := h; exact hb.lt
theorem set_some {cs : Array Value} {i : Nat} {u : Value} (hi : i < cs.size) : (cs.setIfInBounds i u)[i]? = some u := by simp [hi]
theorem set_none {cs : Array Value} {i j : Nat} {u : Value} (hij : i ≠ j) : (cs.setIfInBounds i u)[j]? = cs[j]? := by simp [hij]
theorem Dz.setD (h : Dz w B f nd dp ng tr) (i x : Nat) (z : Int) (hz : z = (x : Int)) (hi : i < 800) : Dz (w.setCell ⟨B, i, none⟩ (.int .u8 z)) B (Dm.put f i x) nd dp ng tr := by
  subst hz
  obtain ⟨cs, hb, h0, h1, h2, h3, h4, h5⟩ := h
  refine ⟨_, hb.set_ i _, by simp [h0], fun j hj => ?_, (set_none (by omega)).trans h2, (set_none (by omega)).trans h3, (set_none (by omega)).trans h4, (set_none (by omega)).trans h5⟩
  by_cases hij : i = j
  · subst hij; rw [set_some (by omega), Dm.put_same]
  · rw [set_none hij, Dm.put_other _ (Ne.symm hij)]; exact h1 j hj
theorem Dz.setN (h : Dz w B f nd dp ng tr) (n : Nat) (z : Int) (hz : z = (n : Int)) : Dz (w.setCell ⟨B, 800, none⟩ (.int .i64 z)) B f n dp ng tr := by
  subst hz
  obtain ⟨cs, hb, h0, h1, h2, h3, h4, h5⟩ := h
  exact ⟨_, hb.set_ 800 _, by simp [h0], fun j hj => (set_none (by omega)).trans (h1 j hj), set_some (by omega), (set_none (by omega)).trans h3, (set_none (by omega)).trans h4, (set_none (by omega)).trans h5⟩
theorem Dz.setP (h : Dz w B f nd dp ng tr) (z : Int) : Dz (w.setCell ⟨B, 801, none⟩ (.int .i64 z)) B f nd z ng tr := by
  obtain ⟨cs, hb, h0, h1, h2, h3, h4, h5⟩ := h
  exact ⟨_, hb.set_ 801 _, by simp [h0], fun j hj => (set_none (by omega)).trans (h1 j hj), (set_none (by omega)).trans h2, set_some (by omega), (set_none (by omega)).trans h4, (set_none (by omega)).trans h5⟩
theorem Dz.setG (h : Dz w B f nd dp ng tr) (z : Bool) : Dz (w.setCell ⟨B, 802, none⟩ (.bool z)) B f nd dp z tr := by
  obtain ⟨cs, hb, h0, h1, h2, h3, h4, h5⟩ := h
  exact ⟨_, hb.set_ 802 _, by simp [h0], fun j hj => (set_none (by omega)).trans (h1 j hj), (set_none (by omega)).trans h2, (set_none (by omega)).trans h3, set_some (by omega), (set_none (by omega)).trans h5⟩
theorem Dz.setT (h : Dz w B f nd dp ng tr) (z : Bool) : Dz (w.setCell ⟨B, 803, none⟩ (.bool z)) B f nd dp ng z := by
  obtain ⟨cs, hb, h0, h1, h2, h3, h4, h5⟩ := h
  exact ⟨_, hb.set_ 803 _, by simp [h0], fun j hj => (set_none (by omega)).trans (h1 j hj), (set_none (by omega)).trans h2, (set_none (by omega)).trans h3, (set_none (by omega)).trans h4, set_some (by omega)⟩
end
theorem trim_down {f : Nat → Nat} {k : Nat} (h : f k = 48) : Dm.trimN f (k + 1) = Dm.trimN f k := by
  conv => lhs; unfold Dm.trimN
  rw [if_pos h]
theorem trim_stay {f : Nat → Nat} {k : Nat} (h : ¬ f k = 48) : Dm.trimN f (k + 1) = k + 1 := by
  unfold Dm.trimN; rw [if_neg h]
def TrimP (B : Nat) (f : Nat → Nat) (nd : Nat) (dp : Int) (ng tr : Bool) (w : World) (e : Ending) (w' : World) : Prop :=
  e = .returned (.tuple #[]) ∧ Dz w' B f (Dm.trimN f nd) (if Dm.trimN f nd = 0 then 0 else dp) ng tr ∧ Moved B w w'
set_option maxRecDepth 100000 in
theorem trim_any (B : Nat) (f : Nat → Nat) (nd : Nat) (dp : Int) (ng tr : Bool) (w : World) (h : Dz w B f nd dp ng tr) (hn : nd ≤ 800) :
    Calls Tryz.prog 88 #[.pointer (some ⟨B, 0, none⟩)] w (TrimP B f nd dp ng tr w) := by
  have H := Lib.hid h
  clear h
  obtain ⟨z, hz⟩ : ∃ z, Dm.trimN f nd = z := ⟨_, rfl⟩
  have HZ := Lib.hid hz
  unfold TrimP
  rw [hz]
  clear hz
  obtain ⟨p, hp⟩ : ∃ p, (if z = 0 then 0 else dp) = p := ⟨_, rfl⟩
  rw [hp]
  have HP := Lib.hid hp
  clear hp
  go_enter Tryz.func88, Tryz.ntmps88
  go_wp2_with fail
  go_loopg [] nd (fun g wx => ∃ k : Nat, k = g ∧ k ≤ nd ∧ Hid (Dm.trimN f k = z) ∧ Hid (Dz wx B f k dp ng tr) ∧ Hid (Moved B w wx))
  case atStart => exact ⟨nd, rfl, Nat.le_refl _, HZ, H, Moved.refl _ _⟩
  case round =>
    obtain ⟨k, hkg, hk, HK, HD, HM⟩ := hrel
    have c1 := HD.out.nd_
    by_cases h0 : k = 0
    · subst h0
      clear hkg
      have c2 := HD.out.frozen 801
      have c3 := HD.out.dp_
      have hf : decide ((0 : Int) < ((0 : Nat) : Int)) = false := by decide
      go_wp2_with fail
      go_quiet (fail)
      go_wp2_with fail
      go_end0
      have e1 : z = 0 := HK.out.symm
      have e2 : p = 0 := by rw [← HP.out, if_pos e1]
      refine ⟨rfl, ?_, HM.out.trans ((Moved.set _ _ _ _).drewN _)⟩
      rw [e1, e2]
      exact (HD.out.setP 0).drewN _
    · obtain ⟨q, rfl⟩ : ∃ q, k = q + 1 := ⟨k - 1, by omega⟩
      have c2 := HD.out.dig q (by omega)
      have c3 := HD.out.frozen 800
      have hq1 : ((q + 1 : Nat) : Int) - 1 = (q : Int) := by omega
      have hf : decide ((0 : Int) < ((q + 1 : Nat) : Int)) = true := by simp
      have hm : q < gk := by omega
      clear hkg
      by_cases h48 : f q = 48
      · have h49 : ((f q : Int) == 48) = true := by rw [h48]; rfl
        have HK2 := Lib.hid ((trim_down h48).symm.trans HK.out)
        clear h48
        go_wp2_with fail
        go_quiet (fail)
        go_wp2_with fail
        go_roundg q
        case measure => omega
        case rel => exact ⟨q, rfl, by omega, HK2, (HD.out.drewN nq).setN q _ rfl, (HM.out.drewN nq).trans (Moved.set _ _ _ _)⟩
      · have h49 : ((f q : Int) == 48) = false := beq_eq_false_iff_ne.2 (by omega)
        have hz0 : ((q : Int) + 1 == 0) = false := beq_eq_false_iff_ne.2 (by omega)
        have HK2 := Lib.hid ((trim_stay h48).symm.trans HK.out)
        clear h48
        go_wp2_with fail
        go_quiet (fail)
        go_wp2_with fail
        go_end0
        have e2 : p = dp := by rw [← HP.out, if_neg (by have := HK2.out; omega)]
        refine ⟨rfl, ?_, HM.out.drewN _⟩
        rw [e2, ← HK2.out]
        exact HD.out.drewN _
end Go.Proofs.YtofndhmnofghaaaGreatDoor.Sl

namespace Go.Proofs.YtofndhmnofghaaaGreatDoor.Sl
open Go.RowKit
set_option linter.unusedVariables false

/-! is a row of digits less than a text of digits? -/
theorem dr3 (w : World) (a b c : Nat) : ((w.drewN a).drewN b).drewN c = w.drewN (a + b + c) := by simp only [World.drewN_drewN]
theorem dr2 (w : World) (a b : Nat) : (w.drewN a).drewN b = w.drewN (a + b) := by simp only [World.drewN_drewN]
def PreP (f : Nat → Nat) (nd : Nat) (S : Nat → Nat) (L : Nat) (w : World) (e : Ending) (w' : World) : Prop :=
  ∃ r : Bool, e = .returned (.bool r) ∧ (∃ n, w' = w.drewN n) ∧ (r = true ↔ Dm.pz f nd L < Dm.num S L)
set_option maxRecDepth 100000 in
theorem prefix_any (B : Nat) (f : Nat → Nat) (nd : Nat) (dp : Int) (ng tr : Bool) (s : ByteArray) (S : Nat → Nat) (w : World) (h : Dz w B f nd dp ng tr) (hn : nd ≤ 800) (hd : Dm.Dg f nd)
    (hS : ∀ i (h : i < s.size), s[i].toNat = S i) (hg : Dm.Dg S s.size) (hl : 0 < s.size → 49 ≤ S (s.size - 1)) (hsz : s.size ≤ 1000) :
    Calls Tryz.prog 112 #[.slice (some ⟨B, 0, none⟩) nd 800, .string s] w (PreP f nd S s.size w) := by
  have H := Lib.hid h
  have HD := Lib.hid hd
  have HS := Lib.hid hS
  have HG := Lib.hid hg
  have HL := Lib.hid hl
  clear h hd hS hg hl
  obtain ⟨P, hP⟩ : ∃ P : Prop, (Dm.pz f nd s.size < Dm.num S s.size) = P := ⟨_, rfl⟩
  unfold PreP
  rw [hP]
  have HP := Lib.hid hP
  clear hP
  go_enter Tryz.func112, Tryz.ntmps112
  go_wp2_with fail
  go_loopg [5] s.size (fun g s5 wx => ∃ i : Nat, i + g = s.size ∧ s5 = .int .i64 i ∧ Hid (∀ j, j < i → j < nd ∧ f j = S j) ∧ ∃ n, wx = w.drewN n)
  case atStart => exact ⟨0, by omega, rfl, by intro j hj; omega, 0, rfl⟩
  case round =>
    obtain ⟨i, hig, rfl, HE, nw, rfl⟩ := hrel
    by_cases hi : i < s.size
    · obtain ⟨g, rfl⟩ : ∃ g, gk = g + 1 := ⟨gk - 1, by omega⟩
      by_cases hin : i < nd
      · have c1 := H.out.dig i (by omega)
        obtain ⟨x, hx⟩ : ∃ x : Nat, s[i].toNat = x := ⟨_, rfl⟩
        have hxS := Lib.hid ((HS.out i hi).symm.trans hx)
        by_cases he : f i = x
        · have hne : ((f i : Int) != (x : Int)) = false := by simp [he]
          have HE2 : Hid (∀ j, j < i + 1 → j < nd ∧ f j = S j) := by
            intro j hj
            rcases Nat.lt_or_ge j i with h1 | h1
            · exact HE.out j h1
            · obtain rfl : j = i := by omega
              exact ⟨hin, he.trans hxS.out.symm⟩
          clear he
          go_wp2_with fail
          go_quiet (fail)
          go_wp2_with fail
          go_roundg g
          case measure => omega
          case rel => exact ⟨i + 1, by omega, by go_num, HE2, _, rfl⟩
        · have hne : ((f i : Int) != (x : Int)) = true := by simp; omega
          by_cases hlt : f i < x
          · have hlt2 : decide ((f i : Int) < (x : Int)) = true := decide_eq_true (by omega)
            have HF : Hid P := by
              show P
              rw [← HP.out]
              exact Dm.pre_lt HD.out hi hin HE.out (by rw [hxS.out]; exact hlt)
            have HLT := Lib.hid hlt
            clear hlt he
            go_wp2_with fail
            go_quiet (fail)
            go_wp2_with fail
            go_quiet (fail)
            go_wp2_with fail
            go_ret
            exact ⟨_, rfl, ⟨_, dr3 _ _ _ _⟩, by simp [HF.out, HLT.out]⟩
          · have hlt2 : decide ((f i : Int) < (x : Int)) = false := decide_eq_false (by omega)
            have HF : Hid (¬ P) := by
              show ¬ P
              rw [← HP.out]
              exact Nat.not_lt.2 (Dm.pre_gt HG.out hi hin HE.out (by rw [hxS.out]; omega))
            have HLT := Lib.hid hlt
            clear hlt he
            go_wp2_with fail
            go_quiet (fail)
            go_wp2_with fail
            go_quiet (fail)
            go_wp2_with fail
            go_ret
            exact ⟨_, rfl, ⟨_, dr3 _ _ _ _⟩, by simp [HF.out, HLT.out]⟩
      · have HF : Hid P := by
          show P
          rw [← HP.out]
          exact Dm.pre_end hi (by omega) HE.out (HL.out (by omega))
        go_wp2_with fail
        go_ret
        exact ⟨_, rfl, ⟨_, rfl⟩, by simp [HF.out]⟩
    · have HF : Hid (¬ P) := by
        show ¬ P
        rw [← HP.out]
        exact Nat.not_lt.2 (Dm.pre_all fun j hj => HE.out j (by omega))
      go_wp2_with fail
      go_ret
      exact ⟨_, rfl, ⟨_, rfl⟩, by simp [HF.out]⟩
/-! a shift to the left -/
def cheatRow (k : Nat) : Nat × List UInt8 := Go.Pinned.cheatRows.getD k (0, [])
def cheatS (k : Nat) : ByteArray := ⟨(cheatRow k).2.toArray⟩
def cheatD (k i : Nat) : Nat := ((cheatRow k).2.getD i 0).toNat
def cheatL (k : Nat) : Nat := (cheatRow k).2.length
def cheatB (k : Nat) : Bool :=
  decide (Dm.num (cheatD k) (cheatL k) = 5 ^ k) && decide (10 ^ cheatL k ≤ 10 * 5 ^ k) && decide (5 ^ k < 10 ^ cheatL k) && decide (cheatL k ≤ k) && decide ((cheatRow k).1 = k - cheatL k + 1)
  && (List.range (cheatL k)).all (fun i => decide (48 ≤ cheatD k i) && decide (cheatD k i ≤ 57)) && decide (0 < cheatL k) && decide (49 ≤ cheatD k (cheatL k - 1)) && decide (k - cheatL k ≤ 18)
theorem cheat_all : (List.range 60).all (fun k => cheatB (k + 1)) = true := by decide +kernel
structure CheatIs (k : Nat) : Prop where
  num : Dm.num (cheatD k) (cheatL k) = 5 ^ k
  h1 : 10 ^ cheatL k ≤ 10 * 5 ^ k
  h2 : 5 ^ k < 10 ^ cheatL k
  le : cheatL k ≤ k
  new : (cheatRow k).1 = k - cheatL k + 1
  dg : Dm.Dg (cheatD k) (cheatL k)
  pos : 0 < cheatL k
  last : 49 ≤ cheatD k (cheatL k - 1)
  few : k - cheatL k ≤ 18
theorem cheat_is (k : Nat) (h1 : 1 ≤ k) (h2 : k ≤ 60) : CheatIs k := by
  obtain ⟨j, rfl⟩ : ∃ j, k = j + 1 := ⟨k - 1, by omega⟩
  have := List.all_eq_true.1 cheat_all j (List.mem_range.2 (by omega))
  unfold cheatB at this
  simp only [Bool.and_eq_true, decide_eq_true_eq, List.all_eq_true, List.mem_range] at this
  obtain ⟨⟨⟨⟨⟨⟨⟨⟨a, b⟩, c⟩, d⟩, e⟩, f⟩, g⟩, h⟩, i⟩ := this
  exact ⟨a, b, c, d, e, f, g, h, i⟩
theorem cheat_size (k : Nat) : (cheatS k).size = cheatL k := rfl
theorem cheat_byte (k : Nat) : ∀ i (h : i < (cheatS k).size), (cheatS k)[i].toNat = cheatD k i := by
  intro i h
  have hl : i < (cheatRow k).2.length := h
  unfold cheatD
  rw [List.getD_eq_getElem?_getD, List.getElem?_eq_getElem hl]
  rfl
/-- so many digits are new -/
def dltN (d : Nat → Nat) (nd k : Nat) : Nat := if Dm.pz d nd (cheatL k) < 5 ^ k then (cheatRow k).1 - 1 else (cheatRow k).1
def LeftR (k : Nat) (x y : Dc) : Prop := LeftBy k (dltN x.d x.nd k) x y
theorem LeftR.det (k : Nat) : Det (LeftR k) := fun x y z h g => LeftBy.det _ _ _ _ _ h g
/-- the table in memory -/
def Cheat (w : World) (P off c : Nat) : Prop := w.cell? ⟨10, 0, none⟩ = some (.slice (some ⟨P, off, none⟩) 61 c) ∧
  ∀ k, k < 61 → w.cell? ⟨P, off + k * 2, none⟩ = some (.int .i64 ((cheatRow k).1 : Int)) ∧ w.cell? ⟨P, off + k * 2 + 1, none⟩ = some (.string (cheatS k))
theorem Cheat.moved {w w' : World} {P off c B : Nat} (h : Cheat w P off c) (hm : Moved B w w') (h1 : B ≠ 10) (h2 : B ≠ P) : Cheat w' P off c :=
  ⟨(hm.cell (Ne.symm h1)).trans h.1, fun k hk => ⟨(hm.cell (Ne.symm h2)).trans (h.2 k hk).1, (hm.cell (Ne.symm h2)).trans (h.2 k hk).2⟩⟩
theorem pre_call (B : Nat) (f : Nat → Nat) (nd : Nat) (dp : Int) (ng tr : Bool) (k : Nat) (w : World) (h : Dz w B f nd dp ng tr) (hn : nd ≤ 800) (hd : Dm.Dg f nd) (h1 : 1 ≤ k) (h2 : k ≤ 60) (r : Bool) (hr : decide (Dm.pz f nd (cheatL k) < 5 ^ k) = r) :
    Calls Tryz.prog 112 #[.slice (some ⟨B, 0, none⟩) nd 800, .string (cheatS k)] w fun e w' => e = .returned (.bool r) ∧ ∃ n, w' = w.drewN n := by
  have hc := cheat_is k h1 h2
  have hle := hc.le
  refine (prefix_any B f nd dp ng tr (cheatS k) (cheatD k) w h hn hd (cheat_byte k) hc.dg (fun _ => hc.last) (by rw [cheat_size]; omega)).mono ?_
  rintro e w' ⟨r', rfl, hw, hr'⟩
  refine ⟨?_, hw⟩
  rw [cheat_size, hc.num] at hr'
  have : r' = r := by
    rw [← hr]
    cases r' with
    | true => exact (decide_eq_true (hr'.1 rfl)).symm
    | false => exact (decide_eq_false fun hh => by have := hr'.2 hh; cases this).symm
  rw [this]
end Go.Proofs.YtofndhmnofghaaaGreatDoor.Sl

/- Decimal digits in a row of bytes, and how a shift to the right or to the left turns them. No condition. -/
namespace Dm
set_option linter.unusedVariables false
/-- the number that the first n bytes spell -/
def num (d : Nat → Nat) : Nat → Nat
  | 0 => 0
  | n + 1 => num d n * 10 + (d n - 48)
/-- they are digits -/
def Dg (d : Nat → Nat) (n : Nat) : Prop := ∀ i, i < n → 48 ≤ d i ∧ d i ≤ 57
theorem num_congr {d e : Nat → Nat} : ∀ n, (∀ i, i < n → d i = e i) → num d n = num e n
  | 0, _ => rfl
  | n + 1, h => by unfold num; rw [num_congr n fun i hi => h i (by omega), h n (by omega)]
theorem num_lt {d : Nat → Nat} : ∀ n, Dg d n → num d n < 10 ^ n
  | 0, _ => by simp [num]
  | n + 1, h => by
    have := num_lt n fun i hi => h i (by omega)
    have := h n (by omega)
    unfold num; rw [Nat.pow_succ]; omega
theorem num_ge {d : Nat → Nat} (h0 : 49 ≤ d 0) : ∀ n, 10 ^ n ≤ num d (n + 1)
  | 0 => by simp [num]; omega
  | n + 1 => by
    have := num_ge h0 n
    unfold num; rw [Nat.pow_succ]; omega
/-- so many bytes are left behind when the noughts at the end go -/
def trimN (d : Nat → Nat) : Nat → Nat
  | 0 => 0
  | n + 1 => if d n = 48 then trimN d n else n + 1
theorem trim_le (d : Nat → Nat) : ∀ n, trimN d n ≤ n
  | 0 => Nat.le_refl _
  | n + 1 => by unfold trimN; split; exact Nat.le_succ_of_le (trim_le d n); exact Nat.le_refl _
theorem trim_pos {d : Nat → Nat} (h0 : 49 ≤ d 0) : ∀ n, 0 < n → 0 < trimN d n
  | 0, h => absurd h (Nat.lt_irrefl 0)
  | 1, _ => by unfold trimN; rw [if_neg (show ¬ d 0 = 48 by omega)]; omega
  | n + 2, _ => by unfold trimN; split; exact trim_pos h0 (n + 1) (by omega); omega
theorem trim_num (d : Nat → Nat) : ∀ n, num d n = num d (trimN d n) * 10 ^ (n - trimN d n)
  | 0 => by simp [trimN]
  | n + 1 => by
    unfold trimN
    split
    · rename_i h
      have ih := trim_num d n
      have hl := trim_le d n
      conv => lhs; unfold num
      rw [h, ih, show n + 1 - trimN d n = (n - trimN d n) + 1 by omega, Nat.pow_succ]
      simp [Nat.mul_assoc]
    · simp
/-- with noughts behind -/
def ext (d : Nat → Nat) (nd : Nat) (i : Nat) : Nat := if i < nd then d i else 48
def pz (d : Nat → Nat) (nd r : Nat) : Nat := num (ext d nd) r
theorem pz_in {d : Nat → Nat} {nd r : Nat} (h : r ≤ nd) : pz d nd r = num d r :=
  num_congr r fun i hi => if_pos (by omega)
theorem pz_out {d : Nat → Nat} {nd : Nat} : ∀ j, pz d nd (nd + j) = num d nd * 10 ^ j
  | 0 => by rw [Nat.add_zero, pz_in (Nat.le_refl _)]; simp
  | j + 1 => by
    have ih := @pz_out d nd j
    unfold pz at ih ⊢
    have e : num (ext d nd) (nd + (j + 1)) = num (ext d nd) (nd + j) * 10 + (ext d nd (nd + j) - 48) := rfl
    rw [e, ih, show ext d nd (nd + j) = 48 from if_neg (by omega), Nat.pow_succ]
    simp [Nat.mul_assoc]
theorem pz_far {d : Nat → Nat} {nd r : Nat} (h : nd ≤ r) : pz d nd r = num d nd * 10 ^ (r - nd) := by
  have := @pz_out d nd (r - nd)
  rwa [show nd + (r - nd) = r by omega] at this
theorem ext_dg {d : Nat → Nat} {nd : Nat} (h : Dg d nd) (n : Nat) : Dg (ext d nd) n := fun i _ => by
  unfold ext
  split
  · exact h i ‹_›
  · omega
theorem pz_lt {d : Nat → Nat} {nd : Nat} (h : Dg d nd) (r : Nat) : pz d nd r < 10 ^ r := num_lt r (ext_dg h r)
theorem pz_ge {d : Nat → Nat} {nd : Nat} (h0 : 49 ≤ d 0) (hn : 0 < nd) (r : Nat) : 10 ^ r ≤ pz d nd (r + 1) := num_ge (by rw [show ext d nd 0 = d 0 from if_pos hn]; exact h0) r
theorem pz_succ (d : Nat → Nat) (nd r : Nat) : pz d nd (r + 1) = pz d nd r * 10 + (ext d nd r - 48) := rfl
/-- a whole number lies between its prefix and the next one -/
theorem pz_le_whole {d : Nat → Nat} {nd : Nat} (h : Dg d nd) : ∀ j r, r + j = nd → pz d nd r * 10 ^ j ≤ num d nd ∧ num d nd < (pz d nd r + 1) * 10 ^ j
  | 0, r, e => by rw [← e, Nat.add_zero, pz_in (Nat.le_refl _)]; simp
  | j + 1, r, e => by
    have ih := pz_le_whole h j (r + 1) (by omega)
    have hs := pz_succ d nd r
    have hd := ext_dg h (r + 1) r (by omega)
    have hp : 10 ^ (j + 1) = 10 * 10 ^ j := by rw [Nat.pow_succ, Nat.mul_comm]
    refine ⟨Nat.le_trans ?_ ih.1, Nat.lt_of_lt_of_le ih.2 ?_⟩
    · rw [hp, ← Nat.mul_assoc]; exact Nat.mul_le_mul_right _ (by omega)
    · rw [hp, ← Nat.mul_assoc]; exact Nat.mul_le_mul_right _ (by omega)

/-! a shift to the right by k: digits are picked up till they hold 2^k; then one is put down for each that is picked up -/
theorem down_step {p N n c m k2 : Nat} (hp : p = 10 * k2 * N + n) (hm : m = n % k2) : p * 10 + c = 10 * k2 * (N * 10 + n / k2) + (m * 10 + c) := by
  subst hp; subst hm
  have e := Nat.div_add_mod n k2
  have : (10 * k2 * N + n) * 10 = 10 * k2 * (N * 10) + 10 * (k2 * (n / k2) + n % k2) := by rw [e]; simp only [Nat.mul_add, Nat.mul_comm, Nat.mul_left_comm]
  rw [this]
  simp only [Nat.mul_add, Nat.add_mul, Nat.mul_comm, Nat.mul_left_comm, Nat.mul_assoc]
  omega
theorem dig_le {n k2 : Nat} (h : n < 10 * k2) : n / k2 ≤ 9 := by
  have : n / k2 < 10 := Nat.div_lt_of_lt_mul (by rw [Nat.mul_comm]; exact h)
  omega
theorem keep_lt {n k2 c : Nat} (h0 : 0 < k2) (hc : c ≤ 9) : n % k2 * 10 + c < 10 * k2 := by
  have := Nat.mod_lt n h0
  omega
/-- noughts at the end of what is left, one more a round -/
theorem ends_step {n t k : Nat} (h : 2 ^ t ∣ n) (ht : t ≤ k) : 2 ^ (t + 1) ∣ n % 2 ^ k * 10 := by
  obtain ⟨a, rfl⟩ := h
  have hk : 2 ^ k = 2 ^ t * 2 ^ (k - t) := by rw [← Nat.pow_add, show t + (k - t) = k by omega]
  rw [hk, Nat.mul_mod_mul_left]
  exact ⟨a % 2 ^ (k - t) * 5, by rw [Nat.pow_succ, Nat.mul_assoc, Nat.mul_assoc]; congr 1; omega⟩
theorem ends_all {n k : Nat} (h : 2 ^ k ∣ n) : n % 2 ^ k * 10 = 0 := by rw [Nat.mod_eq_zero_of_dvd h]

def top : Nat := 1200
theorem top_is : top = 1200 := rfl
/-! what a number is, shifted up so far that it is whole -/
def U (d : Nat → Nat) (nd : Nat) (dp : Int) : Nat := num d nd * 10 ^ ((top : Int) + dp - nd).toNat
theorem U_trim (d : Nat → Nat) (n : Nat) (dp : Int) (h : (0 : Int) ≤ (top : Int) + dp - n) : U d (trimN d n) dp = U d n dp := by
  have hl := trim_le d n
  unfold U
  rw [trim_num d n, Nat.mul_assoc, ← Nat.pow_add]
  congr 2
  omega
theorem U_right {d g : Nat → Nat} {nd w r0 k2 : Nat} {dp : Int} (hr : nd ≤ r0 + w) (h1 : 1 ≤ r0) (h : 10 * k2 * num g w ≤ pz d nd (r0 + w)) (h0 : (0 : Int) ≤ (top : Int) + dp - nd) (h2 : (0 : Int) ≤ (top : Int) + (dp - r0 + 1) - w) :
    k2 * U g w (dp - r0 + 1) ≤ U d nd dp := by
  rw [pz_far hr] at h
  unfold U
  obtain ⟨a, ha⟩ : ∃ a : Nat, (top : Int) + (dp - r0 + 1) - w = (a : Int) := ⟨_, (Int.toNat_of_nonneg h2).symm⟩
  rw [ha, Int.toNat_natCast]
  by_cases ha0 : a = 0
  · -- the last place of all: what is there is a tenth
    subst ha0
    have e : ((top : Int) + dp - nd).toNat + 1 = (r0 + w - nd) := by omega
    rw [Nat.pow_zero, Nat.mul_one]
    have h' : 10 * (k2 * num g w) ≤ 10 * (num d nd * 10 ^ ((top : Int) + dp - nd).toNat) := by
      rw [← Nat.mul_assoc]; refine Nat.le_trans h ?_
      rw [← e, Nat.pow_succ]; simp only [Nat.mul_comm, Nat.mul_left_comm]; exact Nat.le_refl _
    omega
  · obtain ⟨a', rfl⟩ : ∃ a', a = a' + 1 := ⟨a - 1, by omega⟩
    have e : ((top : Int) + dp - nd).toNat = (r0 + w - nd) + a' := by omega
    have e2 : 10 ^ (a' + 1) = 10 ^ a' * 10 := Nat.pow_succ ..
    have e3 : 10 ^ (r0 + w - nd + a') = 10 ^ (r0 + w - nd) * 10 ^ a' := Nat.pow_add ..
    rw [e, e2, e3, ← Nat.mul_assoc (num d nd)]
    refine Nat.le_trans (Nat.le_of_eq ?_) (Nat.mul_le_mul_right (10 ^ a') h)
    simp only [Nat.mul_comm, Nat.mul_left_comm, Nat.mul_assoc]
theorem U_big {d : Nat → Nat} {nd : Nat} {dp : Int} (h0 : 49 ≤ d 0) (hn : 0 < nd) (hd : nd ≤ 800) (hdp : 0 < dp) : 10 ^ top ≤ U d nd dp := by
  obtain ⟨m, rfl⟩ : ∃ m, nd = m + 1 := ⟨nd - 1, by omega⟩
  have := num_ge h0 m
  unfold U
  refine Nat.le_trans ?_ (Nat.mul_le_mul_right _ this)
  rw [← Nat.pow_add]
  exact Nat.pow_le_pow_right (by decide) (by have := top_is; omega)
theorem U_small {d : Nat → Nat} {nd : Nat} {dp : Int} (h : Dg d nd) (hd : nd ≤ 800) (hdp : dp ≤ 0) (hlo : -400 ≤ dp) : U d nd dp < 10 ^ top := by
  have := num_lt nd h
  unfold U
  refine Nat.lt_of_lt_of_le (Nat.mul_lt_mul_of_pos_right this (Nat.pow_pos (by decide))) ?_
  rw [← Nat.pow_add]
  exact Nat.pow_le_pow_right (by decide) (by have := top_is; omega)
theorem U_pos {d : Nat → Nat} {nd : Nat} {dp : Int} (h0 : 49 ≤ d 0) (hn : 0 < nd) : 0 < U d nd dp := by
  obtain ⟨m, rfl⟩ : ∃ m, nd = m + 1 := ⟨nd - 1, by omega⟩
  exact Nat.mul_pos (Nat.lt_of_lt_of_le (Nat.pow_pos (by decide)) (num_ge h0 m)) (Nat.pow_pos (by decide))
/-- the number of digits o from w on, below m -/
def suf (o : Nat → Nat) (w : Nat) : Nat → Nat
  | 0 => 0
  | n + 1 => suf o w n * 10 + o (w + n)
/-- by the digit ahead -/
theorem suf_ahead (o : Nat → Nat) (w : Nat) : ∀ n, suf o w (n + 1) = o w * 10 ^ n + suf o (w + 1) n
  | 0 => by simp [suf]
  | n + 1 => by
    have ih := suf_ahead o w n
    have e1 : suf o w (n + 1 + 1) = suf o w (n + 1) * 10 + o (w + (n + 1)) := rfl
    have e2 : suf o (w + 1) (n + 1) = suf o (w + 1) n * 10 + o (w + 1 + n) := rfl
    rw [e1, e2, ih, show w + 1 + n = w + (n + 1) by omega, Nat.pow_succ, Nat.add_mul, Nat.mul_assoc]
    omega
theorem suf_congr {o p : Nat → Nat} {w : Nat} : ∀ n, (∀ i, w ≤ i → i < w + n → o i = p i) → suf o w n = suf p w n
  | 0, _ => rfl
  | n + 1, h => by unfold suf; rw [suf_congr n fun i a b => h i a (by omega), h (w + n) (by omega) (by omega)]
theorem suf_lt {o : Nat → Nat} {w : Nat} : ∀ n, (∀ i, w ≤ i → i < w + n → o i ≤ 9) → suf o w n < 10 ^ n
  | 0, _ => by simp [suf]
  | n + 1, h => by
    have := suf_lt n fun i a b => h i a (by omega)
    have := h (w + n) (by omega) (by omega)
    unfold suf; rw [Nat.pow_succ]; omega
/-- the number that bytes spell, from behind -/
def dig (d : Nat → Nat) (i : Nat) : Nat := d i - 48
theorem num_suf (d : Nat → Nat) : ∀ n, num d n = suf (dig d) 0 n
  | 0 => rfl
  | n + 1 => by unfold num suf; rw [num_suf d n, Nat.zero_add]; rfl
theorem dig_nine {d : Nat → Nat} {n : Nat} (h : Dg d n) {i : Nat} (hi : i < n) : dig d i ≤ 9 := by
  have := h i hi
  unfold dig; omega
/-- put into a row -/
def put (o : Nat → Nat) (i x : Nat) (j : Nat) : Nat := if j = i then x else o j
theorem put_same (o : Nat → Nat) (i x : Nat) : put o i x i = x := if_pos rfl
theorem put_other (o : Nat → Nat) {i x j : Nat} (h : j ≠ i) : put o i x j = o j := if_neg h

/-! a round: the digit ahead comes in, the last one of what is carried goes out -/
/-- Lf: of the digits from r on, shifted by k, what is carried is n; the digits that went out are o, from w on -/
def Lf (d o : Nat → Nat) (nd k r w m n : Nat) : Prop := 2 ^ k * suf (dig d) r (nd - r) = n * 10 ^ (nd - r) + suf o w (m - w)
theorem left_step {d o : Nat → Nat} {nd k r w m n : Nat} (h : Lf d o nd k (r + 1) (w + 1) m n) (hr : r + 1 ≤ nd) (hw : w + 1 ≤ m) (hrw : m - (w + 1) = nd - (r + 1)) :
    Lf d (put o w ((n + dig d r * 2 ^ k) % 10)) nd k r w m ((n + dig d r * 2 ^ k) / 10) := by
  unfold Lf at *
  obtain ⟨a, ha⟩ : ∃ a, nd - (r + 1) = a := ⟨_, rfl⟩
  have e1 : nd - r = a + 1 := by omega
  have e2 : m - w = a + 1 := by omega
  rw [hrw, ha] at h
  rw [e1, e2, suf_ahead, suf_ahead, put_same, Nat.mul_add, h]
  rw [suf_congr (p := o) (w := w + 1) a fun i h1 _ => put_other o (by omega)]
  generalize hx : n + dig d r * 2 ^ k = x
  have hd := Nat.div_add_mod x 10
  have : 2 ^ k * (dig d r * 10 ^ a) + n * 10 ^ a = x * 10 ^ a := by
    rw [← hx, Nat.add_mul]
    simp only [Nat.mul_left_comm, Nat.mul_assoc]; omega
  have e3 : x * 10 ^ a = x / 10 * 10 ^ (a + 1) + x % 10 * 10 ^ a := by
    conv => lhs; rw [← hd, Nat.add_mul]
    rw [Nat.pow_succ]
    simp only [Nat.mul_comm, Nat.mul_left_comm, Nat.mul_assoc]
  omega
/-- more digits go out, none comes in -/
def Lx (v : Nat) (o : Nat → Nat) (nd w m n : Nat) : Prop := v = n * 10 ^ (m - w) + suf o w (m - w)
theorem out_step {v : Nat} {o : Nat → Nat} {nd w m n : Nat} (h : Lx v o nd (w + 1) m n) (hw : w + 1 ≤ m) : Lx v (put o w (n % 10)) nd w m (n / 10) := by
  unfold Lx at *
  obtain ⟨a, ha⟩ : ∃ a, m - (w + 1) = a := ⟨_, rfl⟩
  rw [ha] at h
  rw [show m - w = a + 1 by omega, suf_ahead, put_same, suf_congr (p := o) (w := w + 1) a fun i h1 _ => put_other o (by omega), h]
  have hd := Nat.div_add_mod n 10
  have e3 : n * 10 ^ a = n / 10 * 10 ^ (a + 1) + n % 10 * 10 ^ a := by
    conv => lhs; rw [← hd, Nat.add_mul]
    rw [Nat.pow_succ]
    simp only [Nat.mul_comm, Nat.mul_left_comm, Nat.mul_assoc]
  omega

/-! how many digits are new: L digits has C = 5^k; k - L + 1, or one fewer if the number begins below it -/
theorem left_less {d : Nat → Nat} {nd k L C : Nat} (hd : Dg d nd) (h0 : 49 ≤ d 0) (hn : 0 < nd) (hC : C = 5 ^ k) (h1 : 10 ^ L ≤ 10 * C) (h2 : C < 10 ^ L) (hL : L ≤ k) (hlt : pz d nd L < C) :
    2 ^ k * num d nd < 10 ^ (nd + (k - L)) ∧ 10 ^ (nd + (k - L)) ≤ 10 * (2 ^ k * num d nd) := by
  have hp5 : 2 ^ k * 5 ^ k = 10 ^ k := by rw [← Nat.mul_pow]
  have hk : 10 ^ k = 10 ^ (k - L) * 10 ^ L := by rw [← Nat.pow_add, show k - L + L = k by omega]
  constructor
  · -- num * 10^L < C * 10^nd
    have hx : num d nd * 10 ^ L < C * 10 ^ nd := by
      by_cases hh : L ≤ nd
      · have := (pz_le_whole hd (nd - L) L (by omega)).2
        have h3 : (pz d nd L + 1) * 10 ^ (nd - L) ≤ C * 10 ^ (nd - L) := Nat.mul_le_mul_right _ hlt
        have h4 : num d nd < C * 10 ^ (nd - L) := Nat.lt_of_lt_of_le this h3
        have h5 := Nat.mul_lt_mul_of_pos_right h4 (Nat.pow_pos (n := L) (show 0 < 10 by decide))
        rwa [Nat.mul_assoc, ← Nat.pow_add, show nd - L + L = nd by omega] at h5
      · rw [pz_far (by omega)] at hlt
        have h5 := Nat.mul_lt_mul_of_pos_right hlt (Nat.pow_pos (n := nd) (show 0 < 10 by decide))
        rwa [Nat.mul_assoc, ← Nat.pow_add, show L - nd + nd = L by omega] at h5
    have h6 := Nat.mul_lt_mul_of_pos_left hx (Nat.pow_pos (n := k) (show 0 < 2 by decide))
    have h7 : 2 ^ k * (C * 10 ^ nd) = 10 ^ (nd + (k - L)) * 10 ^ L := by
      rw [hC, ← Nat.mul_assoc, hp5, hk, Nat.pow_add]
      simp only [Nat.mul_comm, Nat.mul_left_comm]
    rw [h7, ← Nat.mul_assoc] at h6
    exact Nat.lt_of_mul_lt_mul_right h6
  · obtain ⟨m, rfl⟩ : ∃ m, nd = m + 1 := ⟨nd - 1, by omega⟩
    have hg := num_ge h0 m
    have h3 : 10 ^ (k - L) ≤ 2 ^ k := by
      have : 10 ^ (k - L) * 10 ^ L ≤ 2 ^ k * 10 ^ L := by
        rw [← hk, ← hp5]
        exact Nat.mul_le_mul_left _ (by rw [← hC]; exact Nat.le_of_lt h2)
      exact Nat.le_of_mul_le_mul_right this (Nat.pow_pos (by decide))
    have h4 := Nat.mul_le_mul h3 hg
    rw [show m + 1 + (k - L) = (k - L + m) + 1 by omega, Nat.pow_succ, Nat.pow_add]
    omega
theorem left_not {d : Nat → Nat} {nd k L C : Nat} (hd : Dg d nd) (hn : 0 < nd) (hC : C = 5 ^ k) (h1 : 10 ^ L ≤ 10 * C) (hL : L ≤ k) (hge : C ≤ pz d nd L) :
    2 ^ k * num d nd < 10 ^ (nd + (k - L + 1)) ∧ 10 ^ (nd + (k - L + 1)) ≤ 10 * (2 ^ k * num d nd) := by
  have hp5 : 2 ^ k * 5 ^ k = 10 ^ k := by rw [← Nat.mul_pow]
  have hk : 10 ^ k = 10 ^ (k - L) * 10 ^ L := by rw [← Nat.pow_add, show k - L + L = k by omega]
  constructor
  · have hlt := num_lt nd hd
    have h3 : 2 ^ k ≤ 10 ^ (k - L + 1) := by
      have : 2 ^ k * 10 ^ L ≤ 10 ^ (k - L + 1) * 10 ^ L := by
        have := Nat.mul_le_mul_left (2 ^ k) h1
        rw [hC] at this
        have e : 2 ^ k * (10 * 5 ^ k) = 10 * (2 ^ k * 5 ^ k) := by simp only [Nat.mul_left_comm]
        rw [e, hp5, hk] at this
        rw [Nat.pow_succ]
        refine Nat.le_trans this (Nat.le_of_eq ?_)
        simp only [Nat.mul_comm, Nat.mul_left_comm]
      exact Nat.le_of_mul_le_mul_right this (Nat.pow_pos (by decide))
    rw [Nat.pow_add, Nat.mul_comm (10 ^ nd)]
    exact Nat.lt_of_lt_of_le (Nat.mul_lt_mul_of_pos_left hlt (Nat.pow_pos (by decide))) (Nat.mul_le_mul_right _ h3)
  · have hx : C * 10 ^ nd ≤ num d nd * 10 ^ L := by
      by_cases hh : L ≤ nd
      · have := (pz_le_whole hd (nd - L) L (by omega)).1
        have h4 := Nat.le_trans (Nat.mul_le_mul_right (10 ^ (nd - L)) hge) this
        have h5 := Nat.mul_le_mul_right (10 ^ L) h4
        rwa [Nat.mul_assoc, ← Nat.pow_add, show nd - L + L = nd by omega] at h5
      · rw [pz_far (by omega)] at hge
        have h5 := Nat.mul_le_mul_right (10 ^ nd) hge
        rwa [Nat.mul_assoc, ← Nat.pow_add, show L - nd + nd = L by omega] at h5
    have h6 := Nat.mul_le_mul_left (2 ^ k) hx
    have h7 : 2 ^ k * (C * 10 ^ nd) = 10 ^ (nd + (k - L)) * 10 ^ L := by
      rw [hC, ← Nat.mul_assoc, hp5, hk, Nat.pow_add]
      simp only [Nat.mul_comm, Nat.mul_left_comm]
    rw [h7, ← Nat.mul_assoc] at h6
    have h8 := Nat.le_of_mul_le_mul_right h6 (Nat.pow_pos (by decide))
    rw [show nd + (k - L + 1) = nd + (k - L) + 1 by omega, Nat.pow_succ]
    omega

/-! what it becomes, where the digits beyond the 800th are left out -/
theorem suf_part (o : Nat → Nat) (n : Nat) : ∀ j, suf o 0 (n + j) = suf o 0 n * 10 ^ j + suf o n j
  | 0 => by simp [suf]
  | j + 1 => by
    have ih := suf_part o n j
    have e1 : suf o 0 (n + (j + 1)) = suf o 0 (n + j) * 10 + o (0 + (n + j)) := rfl
    have e2 : suf o n (j + 1) = suf o n j * 10 + o (n + j) := rfl
    rw [e1, e2, ih, Nat.pow_succ, Nat.zero_add, Nat.add_mul, Nat.mul_assoc]
    omega
theorem num_ge_part {e : Nat → Nat} {i : Nat} : ∀ j, num e i * 10 ^ j ≤ num e (i + j)
  | 0 => by simp
  | j + 1 => by
    have ih := @num_ge_part e i j
    have e1 : num e (i + (j + 1)) = num e (i + j) * 10 + (e (i + j) - 48) := rfl
    rw [e1, Nat.pow_succ, ← Nat.mul_assoc]
    omega
theorem num_le_part {e : Nat → Nat} {i : Nat} : ∀ j, Dg e (i + j) → num e (i + j) < (num e i + 1) * 10 ^ j
  | 0, _ => by simp
  | j + 1, h => by
    have ih := @num_le_part e i j fun k hk => h k (by omega)
    have hd := h (i + j) (by omega)
    have e1 : num e (i + (j + 1)) = num e (i + j) * 10 + (e (i + j) - 48) := rfl
    rw [e1, Nat.pow_succ, ← Nat.mul_assoc]
    omega
theorem first_lt {e f : Nat → Nat} {i L : Nat} (he : Dg e L) (hi : i < L) (h : ∀ j, j < i → e j = f j) (hlt : e i < f i) : num e L < num f L := by
  obtain ⟨j, rfl⟩ : ∃ j, L = (i + 1) + j := ⟨L - (i + 1), by omega⟩
  have h1 := num_le_part j he
  have h2 := @num_ge_part f (i + 1) j
  have e1 : num e (i + 1) = num e i * 10 + (e i - 48) := rfl
  have f1 : num f (i + 1) = num f i * 10 + (f i - 48) := rfl
  have hei := (he i (by omega)).1
  have h3 : num e (i + 1) + 1 ≤ num f (i + 1) := by rw [e1, f1, num_congr i h]; omega
  exact Nat.lt_of_lt_of_le h1 (Nat.le_trans (Nat.mul_le_mul_right _ h3) h2)
/-- nothing is left of d -/
theorem pre_end {d s : Nat → Nat} {nd L i : Nat} (hi : i < L) (hnd : nd ≤ i) (h : ∀ j, j < i → j < nd ∧ d j = s j) (hs : 49 ≤ s (L - 1)) : pz d nd L < num s L := by
  have e0 : pz d nd i = num s i := num_congr i fun j hj => by rw [← (h j hj).2]; exact if_pos (h j hj).1
  obtain ⟨j, rfl⟩ : ∃ j, L = i + (j + 1) := ⟨L - (i + 1), by omega⟩
  have e1 : pz d nd (i + (j + 1)) = num s i * 10 ^ (j + 1) := by
    rw [pz_far (by omega), ← e0, pz_far hnd, Nat.mul_assoc, ← Nat.pow_add]
    congr 2; omega
  have h2 := @num_ge_part s i j
  have e2 : num s (i + (j + 1)) = num s (i + j) * 10 + (s (i + j) - 48) := rfl
  rw [show i + (j + 1) - 1 = i + j by omega] at hs
  rw [e1, e2, Nat.pow_succ, ← Nat.mul_assoc]
  omega
theorem pre_lt {d s : Nat → Nat} {nd L i : Nat} (hd : Dg d nd) (hi : i < L) (hn : i < nd) (h : ∀ j, j < i → j < nd ∧ d j = s j) (hlt : d i < s i) : pz d nd L < num s L :=
  first_lt (ext_dg hd L) hi (fun j hj => by rw [← (h j hj).2]; exact if_pos (h j hj).1) (by rw [show ext d nd i = d i from if_pos hn]; exact hlt)
theorem pre_gt {d s : Nat → Nat} {nd L i : Nat} (hs : Dg s L) (hi : i < L) (hn : i < nd) (h : ∀ j, j < i → j < nd ∧ d j = s j) (hlt : s i < d i) : num s L ≤ pz d nd L :=
  Nat.le_of_lt (first_lt (f := ext d nd) hs hi (fun j hj => by rw [← (h j hj).2]; exact (if_pos (h j hj).1).symm) (by rw [show ext d nd i = d i from if_pos hn]; exact hlt))
theorem pre_all {d s : Nat → Nat} {nd L : Nat} (h : ∀ j, j < L → j < nd ∧ d j = s j) : num s L ≤ pz d nd L :=
  Nat.le_of_eq (num_congr L fun j hj => by rw [← (h j hj).2]; exact (if_pos (h j hj).1).symm)

/-! what a shift to the left leaves -/
theorem lead_pos {o : Nat → Nat} {m v : Nat} (ho : ∀ i, i < m → o i ≤ 9) (hv : v = suf o 0 m) (hm : 0 < m) (h : 10 ^ m ≤ 10 * v) : 1 ≤ o 0 := by
  obtain ⟨a, rfl⟩ : ∃ a, m = a + 1 := ⟨m - 1, by omega⟩
  rw [suf_ahead] at hv
  have := suf_lt (o := o) (w := 1) a fun i _ h2 => ho i (by omega)
  rw [Nat.pow_succ] at h
  rcases Nat.eq_zero_or_pos (o 0) with h0 | h0
  · rw [h0] at hv
    simp only [Nat.zero_mul, Nat.zero_add] at hv
    omega
  · exact h0
def cap8 : Nat := 800
theorem cap8_is : cap8 = 800 := rfl
def many : Nat := 7000
theorem three_le {N : Nat} (a : (10 : Nat) ^ cap8 ≤ 10 * (N + 1)) : 3 ≤ N := by
  have b : (10 : Nat) ^ 2 ≤ 10 ^ cap8 := Nat.pow_le_pow_right (by decide) (by decide)
  generalize (10 : Nat) ^ cap8 = x at a b
  omega
theorem left_grows {o : Nat → Nat} {D k m n' : Nat} (ho : ∀ i, i < m → o i ≤ 9) (hv : 2 ^ k * D = suf o 0 m) (hk : 1 ≤ k) (h : 10 ^ m ≤ 10 * (2 ^ k * D)) (hn : n' = min m cap8) :
    3 * D ≤ 2 * (suf o 0 n' * 10 ^ (m - n')) := by
  have h2 : 2 * D ≤ 2 ^ k * D := by
    obtain ⟨j, rfl⟩ : ∃ j, k = j + 1 := ⟨k - 1, by omega⟩
    rw [Nat.pow_succ, Nat.mul_comm (2 ^ j), Nat.mul_assoc]
    exact Nat.mul_le_mul_left 2 (Nat.le_mul_of_pos_left D (Nat.pow_pos (by decide)))
  by_cases hm : m ≤ cap8
  · obtain rfl : n' = m := by omega
    rw [Nat.sub_self, Nat.pow_zero, Nat.mul_one, ← hv]
    omega
  · obtain rfl : n' = cap8 := by omega
    obtain ⟨j, rfl⟩ : ∃ j, m = cap8 + j := ⟨m - cap8, by omega⟩
    rw [show cap8 + j - cap8 = j by omega]
    have hp := suf_part o cap8 j
    have hl := suf_lt (o := o) (w := cap8) j fun i _ h2 => ho i (by omega)
    generalize suf o 0 cap8 = N at *
    have h1 : 2 ^ k * D < (N + 1) * 10 ^ j := by rw [hv, hp, Nat.add_mul, Nat.one_mul]; omega
    have hN : 3 ≤ N := by
      have a1 : 10 ^ (cap8 + j) ≤ 10 * ((N + 1) * 10 ^ j) := Nat.le_trans h (Nat.mul_le_mul_left 10 (Nat.le_of_lt h1))
      rw [Nat.pow_add, ← Nat.mul_assoc] at a1
      have a2 := Nat.le_of_mul_le_mul_right a1 (Nat.pow_pos (by decide))
      exact three_le a2
    have h3 : 3 * (N + 1) * 10 ^ j ≤ 4 * N * 10 ^ j := Nat.mul_le_mul_right _ (by omega)
    have h4 : 3 * (N + 1) * 10 ^ j = 3 * ((N + 1) * 10 ^ j) := Nat.mul_assoc ..
    have h5 : 4 * N * 10 ^ j = 4 * (N * 10 ^ j) := Nat.mul_assoc ..
    omega
theorem num_of {g o : Nat → Nat} {n : Nat} (h : ∀ i, i < n → g i = o i + 48) : num g n = suf o 0 n := by
  rw [num_suf]
  exact suf_congr n fun i _ hi => by
    have := h i (by omega)
    unfold dig; omega
theorem U_left {d g o : Nat → Nat} {nd k delta n' : Nat} {dp : Int} (ho : ∀ i, i < nd + delta → o i ≤ 9) (hv : 2 ^ k * num d nd = suf o 0 (nd + delta)) (hk : 1 ≤ k) (h : 10 ^ (nd + delta) ≤ 10 * (2 ^ k * num d nd)) (hn : n' = min (nd + delta) cap8)
    (hg : ∀ i, i < n' → g i = o i + 48) (hE : (0 : Int) ≤ (top : Int) + dp - nd) : 3 * U d nd dp ≤ 2 * U g n' (dp + delta) := by
  have h1 := left_grows ho hv hk h hn
  unfold U
  rw [num_of hg]
  have e : ((top : Int) + (dp + delta) - n').toNat = (nd + delta - n') + ((top : Int) + dp - nd).toNat := by omega
  rw [e, Nat.pow_add, ← Nat.mul_assoc, ← Nat.mul_assoc, ← Nat.mul_assoc]
  have h2 := Nat.mul_le_mul_right (10 ^ ((top : Int) + dp - nd).toNat) h1
  refine Nat.le_trans h2 (Nat.le_of_eq ?_)
  simp only [Nat.mul_assoc]
theorem left_first {g o : Nat → Nat} {m n' v : Nat} (ho : ∀ i, i < m → o i ≤ 9) (hv : v = suf o 0 m) (hm : 0 < m) (h : 10 ^ m ≤ 10 * v) (hn : n' = min m cap8) (hg : ∀ i, i < n' → g i = o i + 48) : 49 ≤ g 0 ∧ Dg g n' := by
  have := lead_pos ho hv hm h
  have h8 := cap8_is
  refine ⟨by rw [hg 0 (by omega)]; omega, fun i hi => ?_⟩
  have h1 := hg i hi
  have h2 := ho i (by omega)
  omega
/-- what is carried at the end has as many digits as are new -/
theorem carry_is {d o : Nat → Nat} {nd k m n : Nat} (h : Lf d o nd k 0 (m - nd) m n) (hm : nd ≤ m) (ho : ∀ i, m - nd ≤ i → i < m → o i ≤ 9) (hlt : 2 ^ k * num d nd < 10 ^ m) : n < 10 ^ (m - nd) := by
  unfold Lf at h
  rw [Nat.sub_zero, ← num_suf] at h
  have e : m = nd + (m - nd) := by omega
  rw [h] at hlt
  have h1 : n * 10 ^ nd < 10 ^ (m - nd) * 10 ^ nd := by
    rw [← Nat.pow_add, show m - nd + nd = m by omega]
    omega
  exact Nat.lt_of_mul_lt_mul_right h1
theorem lf_lx {d o : Nat → Nat} {nd k m n : Nat} (h : Lf d o nd k 0 (m - nd) m n) (hm : nd ≤ m) : Lx (2 ^ k * num d nd) o nd (m - nd) m n := by
  unfold Lf at h
  unfold Lx
  rw [Nat.sub_zero, ← num_suf] at h
  rw [h, show m - (m - nd) = nd by omega]
/-- how often it may grow -/
theorem grow_few {t u : Nat} (h : 3 ^ t ≤ 2 ^ t * u) (hu : u < 10 ^ top) : t < many := by
  rcases Nat.lt_or_ge t many with h1 | h1
  · exact h1
  · exfalso
    obtain ⟨j, rfl⟩ : ∃ j, t = many + j := ⟨t - many, by omega⟩
    have a : 2 ^ many * 10 ^ top ≤ 3 ^ many := by decide +kernel
    have b : (2 : Nat) ^ j ≤ 3 ^ j := Nat.pow_le_pow_left (by decide) j
    rw [Nat.pow_add, Nat.pow_add] at h
    have c : 2 ^ many * 2 ^ j * u < 2 ^ many * 2 ^ j * 10 ^ top := Nat.mul_lt_mul_of_pos_left hu (Nat.mul_pos (Nat.pow_pos (by decide)) (Nat.pow_pos (by decide)))
    have d := Nat.mul_le_mul a b
    have e : 2 ^ many * 10 ^ top * 2 ^ j = 2 ^ many * 2 ^ j * 10 ^ top := by rw [Nat.mul_assoc, Nat.mul_assoc, Nat.mul_comm (10 ^ top)]
    rw [e] at d
    exact Nat.lt_irrefl _ (Nat.lt_of_le_of_lt h (Nat.lt_of_lt_of_le c d))
end Dm

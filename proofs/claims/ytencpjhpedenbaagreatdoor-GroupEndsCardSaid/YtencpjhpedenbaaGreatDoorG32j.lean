/- Apply of count, max, min, topk, bottomk: what each comes to. Conditions: as Apply's. -/
import Derived.Test.YtencpjhpedenbaaGreatDoorG24j
import Derived.Test.YtencpjhpedenbaaGreatDoorG27j
import Derived.BigQuiet
namespace Go.Proofs.YtencpjhpedenbaaGreatDoor
open Go.RowKit Lb
set_option linter.unusedVariables false
set_option linter.unusedSimpArgs false

def cntF (l : List El) : Nat := if l.length ≤ 60 then fl l.length else 0
def maxF (l : List El) : Nat := chF gtB l (l.length - 1) % 18446744073709551616
def minF (l : List El) : Nat := chF ltB l (l.length - 1) % 18446744073709551616
def topX (l : List El) : El := l.getD (bestAt gtI l (l.length - 1)).2 z0
def botX (l : List El) : El := l.getD (bestAt ltI l (l.length - 1)).2 z0
theorem els_bits {W : World} {EA : Option Addr} {S : List El} (h : Els W EA S) {i : Nat} (hi : i < S.length) : Vl.Bits (valI S i) := by
  obtain ⟨_, _, _, _, _, _, _, _, _, _, h⟩ := h.at_ hi
  exact h
theorem ch_lt (B : Nat → Nat → Bool) (S : List El) (hb : ∀ i, i < S.length → Vl.Bits (valI S i)) : ∀ k, k < S.length → chF B S k < 18446744073709551616
  | 0, h => by have := hb 0 h; show (valI S 0).toNat < _; unfold Vl.Bits at this; omega
  | k + 1, h => by
    have ih := ch_lt B S hb k (by omega)
    have e : chF B S (k + 1) = stepF B (chF B S k) (valI S (k + 1)).toNat := rfl
    rw [e]
    unfold stepF
    split
    · have := hb _ h; unfold Vl.Bits at this; omega
    · exact ih
theorem cnt_c : NumC 23 cntF (fun _ => True) := by
  intro W LA EA nl lc ec n S _ hn hE h0 hl
  subst hn
  have := count_any LA EA nl lc ec S.length W
  have e : cntF S = fl S.length := if_pos hl
  rw [e]; exact this
theorem max_c : NumC 22 maxF (fun _ => True) := by
  intro W LA EA nl lc ec n S _ hn hE h0 hl
  subst hn
  have := max_any LA EA nl lc ec S W hE h0 (by omega)
  have e : maxF S = chF gtB S (S.length - 1) := Nat.mod_eq_of_lt (ch_lt gtB S (fun i hi => els_bits hE hi) _ (by omega))
  rw [e]; exact this
theorem min_c : NumC 21 minF (fun _ => True) := by
  intro W LA EA nl lc ec n S _ hn hE h0 hl
  subst hn
  have := min_any LA EA nl lc ec S W hE h0 (by omega)
  have e : minF S = chF ltB S (S.length - 1) := Nat.mod_eq_of_lt (ch_lt ltB S (fun i hi => els_bits hE hi) _ (by omega))
  rw [e]; exact this
theorem top_c : BestC 24 topX := by
  intro W LA EA nl lc ec n S hn hE h0 hl hll
  subst hn
  exact top_any LA EA nl lc ec S W hE h0 hl hll
theorem bot_c : BestC 25 botX := by
  intro W LA EA nl lc ec n S hn hE h0 hl hll
  subst hn
  exact bottom_any LA EA nl lc ec S W hE h0 hl hll
theorem top_mem : ∀ l : List El, 0 < l.length → topX l ∈ l := fun l h => getD_mem (by have := (best_in gtI l (l.length - 1)).1; omega)
theorem bot_mem : ∀ l : List El, 0 < l.length → botX l ∈ l := fun l h => getD_mem (by have := (best_in ltI l (l.length - 1)).1; omega)
theorem cnt_lt (l : List El) : cntF l < 18446744073709551616 := by
  unfold cntF
  split
  · rename_i h; exact (fl_norm h).2.1
  · omega
theorem apply_count (how : Int) (A NA : Option Addr) (cap nc : Nat) (kk : Int) (S : List El) (ns : List ByteArray) (w : World)
    (hE : Els w A S) (hN : Sts w NA ns) (hl : S.length ≤ 60) (hns : ns.length ≤ 65536) (hsh : ∀ i, i < S.length → ShortL (S.getD i z0).1) (hv : vecB S = true) (hT : Tabs w) (hP : PT w) (h4 : 4 ≤ w.heap.size) (hh0 : 0 ≤ how) (hh2 : how ≤ 2) :
    Calls Tryz.prog 8 #[.string ⟨#[99, 111, 117, 110, 116]⟩, .int .i64 how, .slice NA ns.length nc, .int .u64 kk, .slice A S.length cap] w (AppP how ns S (finN cntF) w) :=
  apply_num _ 23 cntF (fun _ => True) how A NA cap nc kk S ns w (by decide) ⟨(⟨#[99, 111, 117, 110, 116]⟩, .func (.func 23) #[] #[]), by simp [numL], rfl⟩
    (by intro p hp he; simp only [numL, List.mem_cons, List.not_mem_nil, or_false] at hp; rcases hp with rfl | rfl | rfl | rfl | rfl <;> first | rfl | exact absurd he (by decide))
    (by intro p hp; simp only [bestL, List.mem_cons, List.not_mem_nil, or_false] at hp; rcases hp with rfl | rfl <;> decide)
    cnt_c (fun _ _ _ _ => trivial) (fun args w => by kernel_rfl) cnt_lt hE hN hl hns hsh hv hT hP h4 hh0 hh2
theorem apply_max (how : Int) (A NA : Option Addr) (cap nc : Nat) (kk : Int) (S : List El) (ns : List ByteArray) (w : World)
    (hE : Els w A S) (hN : Sts w NA ns) (hl : S.length ≤ 60) (hns : ns.length ≤ 65536) (hsh : ∀ i, i < S.length → ShortL (S.getD i z0).1) (hv : vecB S = true) (hT : Tabs w) (hP : PT w) (h4 : 4 ≤ w.heap.size) (hh0 : 0 ≤ how) (hh2 : how ≤ 2) :
    Calls Tryz.prog 8 #[.string ⟨#[109, 97, 120]⟩, .int .i64 how, .slice NA ns.length nc, .int .u64 kk, .slice A S.length cap] w (AppP how ns S (finN maxF) w) :=
  apply_num _ 22 maxF (fun _ => True) how A NA cap nc kk S ns w (by decide) ⟨(⟨#[109, 97, 120]⟩, .func (.func 22) #[] #[]), by simp [numL], rfl⟩
    (by intro p hp he; simp only [numL, List.mem_cons, List.not_mem_nil, or_false] at hp; rcases hp with rfl | rfl | rfl | rfl | rfl <;> first | rfl | exact absurd he (by decide))
    (by intro p hp; simp only [bestL, List.mem_cons, List.not_mem_nil, or_false] at hp; rcases hp with rfl | rfl <;> decide)
    max_c (fun _ _ _ _ => trivial) (fun args w => by kernel_rfl) (fun l => Nat.mod_lt _ (by omega)) hE hN hl hns hsh hv hT hP h4 hh0 hh2
theorem apply_min (how : Int) (A NA : Option Addr) (cap nc : Nat) (kk : Int) (S : List El) (ns : List ByteArray) (w : World)
    (hE : Els w A S) (hN : Sts w NA ns) (hl : S.length ≤ 60) (hns : ns.length ≤ 65536) (hsh : ∀ i, i < S.length → ShortL (S.getD i z0).1) (hv : vecB S = true) (hT : Tabs w) (hP : PT w) (h4 : 4 ≤ w.heap.size) (hh0 : 0 ≤ how) (hh2 : how ≤ 2) :
    Calls Tryz.prog 8 #[.string ⟨#[109, 105, 110]⟩, .int .i64 how, .slice NA ns.length nc, .int .u64 kk, .slice A S.length cap] w (AppP how ns S (finN minF) w) :=
  apply_num _ 21 minF (fun _ => True) how A NA cap nc kk S ns w (by decide) ⟨(⟨#[109, 105, 110]⟩, .func (.func 21) #[] #[]), by simp [numL], rfl⟩
    (by intro p hp he; simp only [numL, List.mem_cons, List.not_mem_nil, or_false] at hp; rcases hp with rfl | rfl | rfl | rfl | rfl <;> first | rfl | exact absurd he (by decide))
    (by intro p hp; simp only [bestL, List.mem_cons, List.not_mem_nil, or_false] at hp; rcases hp with rfl | rfl <;> decide)
    min_c (fun _ _ _ _ => trivial) (fun args w => by kernel_rfl) (fun l => Nat.mod_lt _ (by omega)) hE hN hl hns hsh hv hT hP h4 hh0 hh2
theorem apply_topk (A NA : Option Addr) (cap nc : Nat) (S : List El) (ns : List ByteArray) (w : World)
    (hE : Els w A S) (hN : Sts w NA ns) (hl : S.length ≤ 60) (hns : ns.length ≤ 65536) (hsh : ∀ i, i < S.length → ShortL (S.getD i z0).1) (hv : vecB S = true) (hT : Tabs w) (hP : PT w) (h4 : 4 ≤ w.heap.size) :
    Calls Tryz.prog 8 #[.string ⟨#[116, 111, 112, 107]⟩, .int .i64 0, .slice NA ns.length nc, .int .u64 4607182418800017408, .slice A S.length cap] w (AppP 0 ns S (finB topX) w) :=
  apply_best _ 24 topX A NA cap nc S ns w (by decide) ⟨(⟨#[116, 111, 112, 107]⟩, .func (.func 24) #[] #[]), by simp [bestL], rfl⟩
    (by intro p hp he; simp only [bestL, List.mem_cons, List.not_mem_nil, or_false] at hp; rcases hp with rfl | rfl <;> first | rfl | exact absurd he (by decide))
    (by intro p hp; simp only [numL, List.mem_cons, List.not_mem_nil, or_false] at hp; rcases hp with rfl | rfl | rfl | rfl | rfl <;> decide)
    top_c (fun args w => by kernel_rfl) top_mem hE hN hl hns hsh hv hT hP h4
theorem apply_bottomk (A NA : Option Addr) (cap nc : Nat) (S : List El) (ns : List ByteArray) (w : World)
    (hE : Els w A S) (hN : Sts w NA ns) (hl : S.length ≤ 60) (hns : ns.length ≤ 65536) (hsh : ∀ i, i < S.length → ShortL (S.getD i z0).1) (hv : vecB S = true) (hT : Tabs w) (hP : PT w) (h4 : 4 ≤ w.heap.size) :
    Calls Tryz.prog 8 #[.string ⟨#[98, 111, 116, 116, 111, 109, 107]⟩, .int .i64 0, .slice NA ns.length nc, .int .u64 4607182418800017408, .slice A S.length cap] w (AppP 0 ns S (finB botX) w) :=
  apply_best _ 25 botX A NA cap nc S ns w (by decide) ⟨(⟨#[98, 111, 116, 116, 111, 109, 107]⟩, .func (.func 25) #[] #[]), by simp [bestL], rfl⟩
    (by intro p hp he; simp only [bestL, List.mem_cons, List.not_mem_nil, or_false] at hp; rcases hp with rfl | rfl <;> first | rfl | exact absurd he (by decide))
    (by intro p hp; simp only [numL, List.mem_cons, List.not_mem_nil, or_false] at hp; rcases hp with rfl | rfl | rfl | rfl | rfl <;> decide)
    bot_c (fun args w => by kernel_rfl) bot_mem hE hN hl hns hsh hv hT hP h4
end Go.Proofs.YtencpjhpedenbaaGreatDoor

namespace Go.Proofs.YtencpjhpedenbaaGreatDoor
open Go.RowKit Lb
set_option linter.unusedVariables false

def setL (a b : ByteArray) : List Lab := [(⟨#[97]⟩, a), (⟨#[98]⟩, b)]
theorem set_any (a b : ByteArray) (w : World) : Calls Tryz.prog 14 #[.string a, .string b] w fun e w' => e = .returned (.slice (some ⟨w.heap.size, 0, none⟩) 2 2) ∧ Lbs w' (some ⟨w.heap.size, 0, none⟩) (setL a b) ∧ Below w.heap.size w w' := by
  go_enter Tryz.func14, Tryz.ntmps14
  go_wp2
  go_ret
  refine ⟨rfl, fun _ => ⟨_, 0, rfl, by simp, fun i hi => ?_⟩, (Below.refl _ _).alloc (Nat.le_refl _) _⟩
  have hb := Blk.new w 61 #[.string ⟨#[97]⟩, .string a, .string ⟨#[98]⟩, .string b]
  have hi2 : i < 2 := hi
  obtain rfl | rfl : i = 0 ∨ i = 1 := by omega
  · exact ⟨hb.cell 0, hb.cell 1⟩
  · exact ⟨hb.cell 2, hb.cell 3⟩
end Go.Proofs.YtencpjhpedenbaaGreatDoor

namespace Go.Proofs.YtencpjhpedenbaaGreatDoor
open Go.RowKit Lb
set_option linter.unusedVariables false
set_option maxRecDepth 100000

def eA : El := (setL ⟨#[49]⟩ ⟨#[49]⟩, 4611686018427387904)
def eB : El := (setL ⟨#[49]⟩ ⟨#[50]⟩, 4613937818241073152)
def S2 : List El := [eA, eB]
def nA : List ByteArray := [⟨#[97]⟩]
theorem s2_vec : vecB S2 = true := by decide +kernel
theorem s2_short : ∀ i, i < S2.length → ShortL (S2.getD i z0).1 := by
  intro i hi
  have hi2 : i < 2 := hi
  obtain rfl | rfl : i = 0 ∨ i = 1 := by omega
  · refine ⟨by decide, fun j hj => ?_⟩
    have hj2 : j < 2 := hj
    obtain rfl | rfl : j = 0 ∨ j = 1 := by omega
    · exact ⟨by decide, by decide⟩
    · exact ⟨by decide, by decide⟩
  · refine ⟨by decide, fun j hj => ?_⟩
    have hj2 : j < 2 := hj
    obtain rfl | rfl : j = 0 ∨ j = 1 := by omega
    · exact ⟨by decide, by decide⟩
    · exact ⟨by decide, by decide⟩
theorem lab_a : labF 1 nA eA.1 = [(⟨#[97]⟩, ⟨#[49]⟩)] ∧ labF 1 nA eB.1 = [(⟨#[97]⟩, ⟨#[49]⟩)] := by decide +kernel
theorem s2_one {σ : List Pl} (h : PInv 1 nA S2 S2.length σ) : ∃ l, σ = [([(⟨#[97]⟩, ⟨#[49]⟩)], l)] ∧ l.Perm S2 := by
  have hl : ∀ p ∈ σ, p.1 = [(⟨#[97]⟩, ⟨#[49]⟩)] := fun p hp => by
    obtain ⟨x, hx, e⟩ := h.labs p hp
    simp only [S2, List.mem_cons, List.not_mem_nil, or_false] at hx
    rcases hx with rfl | rfl
    · rw [e, lab_a.1]
    · rw [e, lab_a.2]
  have hp := h.perm
  have hk := h.keys
  match σ, hl, hp, hk with
  | [], _, hp, _ => exact absurd hp.length_eq (by decide)
  | [(a, l)], hl, hp, _ =>
    refine ⟨l, by rw [← hl (a, l) (by simp)], ?_⟩
    simpa using hp
  | p :: q :: r, hl, _, hk =>
    have : keyF p.1 ≠ keyF q.1 := (List.pairwise_cons.1 hk).1 q.1 (by simp)
    rw [hl p (by simp), hl q (by simp)] at this
    exact absurd rfl this
theorem perm_two {l : List El} (h : l.Perm S2) : l = [eA, eB] ∨ l = [eB, eA] := by
  have hn : l.length = 2 := h.length_eq
  match l, hn with
  | [a, b], _ =>
    have ha := h.subset (show a ∈ [a, b] by simp)
    have hb := h.subset (show b ∈ [a, b] by simp)
    simp only [S2, List.mem_cons, List.not_mem_nil, or_false] at ha hb
    rcases ha with rfl | rfl <;> rcases hb with rfl | rfl
    · have := h.subset; have := h.symm.subset (show eB ∈ S2 by simp [S2]); simp at this; exact absurd this (by decide)
    · exact .inl rfl
    · exact .inr rfl
    · have := h.symm.subset (show eA ∈ S2 by simp [S2]); simp at this; exact absurd this (by decide)
def sumF (l : List El) : Nat := 4617315517961601024
theorem sum_c : NumC 19 sumF (fun l => l.Perm S2) := by
  intro W LA EA nl lc ec n S hP hn hE h0 hl
  subst hn
  have key := fun C => sum_any LA EA nl lc ec S C W hE h0 (by omega)
  rcases perm_two hP with rfl | rfl
  · exact key (fun k => if k = 0 then 4611686018427387904 else 4617315517961601024) rfl (fun k hk => by
      have hk2 : k + 1 < 2 := hk
      obtain rfl : k = 0 := by omega
      decide +kernel)
  · exact key (fun k => if k = 0 then 4613937818241073152 else 4617315517961601024) rfl (fun k hk => by
      have hk2 : k + 1 < 2 := hk
      obtain rfl : k = 0 := by omega
      decide +kernel)
end Go.Proofs.YtencpjhpedenbaaGreatDoor

namespace Go.Proofs.YtencpjhpedenbaaGreatDoor
open Go.RowKit Lb
set_option linter.unusedVariables false
set_option linter.unusedSimpArgs false
set_option maxRecDepth 100000
set_option maxHeartbeats 2000000

theorem apply_sum (A NA : Option Addr) (cap nc : Nat) (w : World) (hE : Els w A S2) (hN : Sts w NA nA) (hT : Tabs w) (hP : PT w) (h4 : 4 ≤ w.heap.size) :
    Calls Tryz.prog 8 #[.string ⟨#[115, 117, 109]⟩, .int .i64 1, .slice NA 1 nc, .int .u64 0, .slice A 2 cap] w (AppP 1 nA S2 (finN sumF) w) :=
  apply_num _ 19 sumF (fun l => l.Perm S2) 1 A NA cap nc 0 S2 nA w (by decide) ⟨(⟨#[115, 117, 109]⟩, .func (.func 19) #[] #[]), by simp [numL], rfl⟩
    (by intro p hp he; simp only [numL, List.mem_cons, List.not_mem_nil, or_false] at hp; rcases hp with rfl | rfl | rfl | rfl | rfl <;> first | rfl | exact absurd he (by decide))
    (by intro p hp; simp only [bestL, List.mem_cons, List.not_mem_nil, or_false] at hp; rcases hp with rfl | rfl <;> decide)
    sum_c (fun σ hI p hp => by obtain ⟨l, rfl, hl⟩ := s2_one hI; rw [List.mem_singleton.1 hp]; exact hl) (fun args w => by kernel_rfl) (fun _ => by unfold sumF; omega) hE hN (by decide) (by decide) s2_short s2_vec hT hP h4 (by omega) (by omega)
theorem s2_top : topX S2 = eB := by
  have : (bestAt gtI S2 (S2.length - 1)).2 = 1 := by decide +kernel
  unfold topX
  rw [this]; rfl
def SumP (w : World) (e : Ending) (w' : World) : Prop := ∃ b off LA lc c, e = .returned (.tuple #[.slice (some ⟨b, off, none⟩) 1 c, .nilIface]) ∧ w'.cell? ⟨b, off, none⟩ = some (.slice LA 1 lc) ∧ w'.cell? ⟨b, off + 1, none⟩ = some (.int .u64 4617315517961601024) ∧ Below w.heap.size w w'
def TopP (w : World) (e : Ending) (w' : World) : Prop := ∃ b off LA lc c, e = .returned (.tuple #[.slice (some ⟨b, off, none⟩) 1 c, .nilIface]) ∧ w'.cell? ⟨b, off, none⟩ = some (.slice LA 2 lc) ∧ w'.cell? ⟨b, off + 1, none⟩ = some (.int .u64 4613937818241073152) ∧ Below w.heap.size w w'
theorem sum_two (A NA : Option Addr) (cap nc : Nat) (w : World) (hE : Els w A S2) (hN : Sts w NA nA) (hT : Tabs w) (hP : PT w) (h4 : 4 ≤ w.heap.size) :
    Calls Tryz.prog 8 #[.string ⟨#[115, 117, 109]⟩, .int .i64 1, .slice NA 1 nc, .int .u64 0, .slice A 2 cap] w (SumP w) := by
  refine (apply_sum A NA cap nc w hE hN hT hP h4).mono ?_
  rintro e w' ⟨σ, hI, S', A', c, hp, rfl, hE', hb⟩
  obtain ⟨l, rfl, hl⟩ := s2_one hI
  have hs : S' = [([(⟨#[97]⟩, ⟨#[49]⟩)], 4617315517961601024)] := List.perm_singleton.1 (hp.trans (by show List.Perm [finN sumF _] _; rw [show finN sumF ([(⟨#[97]⟩, ⟨#[49]⟩)], l) = ([(⟨#[97]⟩, ⟨#[49]⟩)], 4617315517961601024) from by unfold finN sumF; rw [show Vl.normI ((4617315517961601024 : Nat) : Int) = 4617315517961601024 by decide]]))
  subst hs
  obtain ⟨b, off, LA, lc, rfl, _, h1, h2, _⟩ := hE'.at_ (i := 0) (by decide)
  exact ⟨b, off, LA, lc, c, rfl, by rw [Nat.zero_mul, Nat.add_zero] at h1; exact h1, by rw [Nat.zero_mul, Nat.add_zero] at h2; exact h2, hb⟩
theorem finB_top : finB topX ([], S2) = eB := by unfold finB; exact s2_top
theorem top_two (A : Option Addr) (cap : Nat) (w : World) (hE : Els w A S2) (hT : Tabs w) (hP : PT w) (h4 : 4 ≤ w.heap.size) :
    Calls Tryz.prog 8 #[.string ⟨#[116, 111, 112, 107]⟩, .int .i64 0, .slice none 0 0, .int .u64 4607182418800017408, .slice A 2 cap] w (TopP w) := by
  refine (apply_topk A none cap 0 S2 [] w hE (fun h => absurd h (by simp)) (by decide) (by decide) s2_short s2_vec hT hP h4).mono ?_
  rintro e w' ⟨σ, hI, S', A', c, hp, rfl, hE', hb⟩
  have hσ := one_pile hI
  rw [if_neg (by decide)] at hσ
  subst hσ
  have hs : S' = [eB] := List.perm_singleton.1 (hp.trans (by show List.Perm [finB topX _] _; rw [finB_top]))
  subst hs
  obtain ⟨b, off, LA, lc, rfl, _, h1, h2, _⟩ := hE'.at_ (i := 0) (by decide)
  exact ⟨b, off, LA, lc, c, rfl, by rw [Nat.zero_mul, Nat.add_zero] at h1; exact h1, by rw [Nat.zero_mul, Nat.add_zero] at h2; exact h2, hb⟩
theorem awake_any (w : World) (hT : Tabs w) (hP : PT w) (h4 : 4 ≤ w.heap.size) : Calls Tryz.prog 4 #[] w fun e w' => e = .returned (.bool true) ∧ Below w.heap.size w w' := by
  have HT := Lib.hid hT
  have HP := Lib.hid hP
  have htb := tobits
  clear hT hP
  go_enter Tryz.func4, Tryz.ntmps4
  go_wp2_with fail
  refine (set_any _ _ _).mono ?_
  rintro e w1 ⟨rfl, h1, hb1⟩
  have HL1 := Lib.hid h1
  have HB1 := Lib.hid hb1
  clear h1 hb1
  go_wp2_with fail
  refine (set_any _ _ _).mono ?_
  rintro e w2 ⟨rfl, h2, hb2⟩
  have HL2 := Lib.hid h2
  have HL3 := Lib.hid (HL1.out.below hb2)
  have HB2 := Lib.hid (HB1.out.trans (hb2.mono HB1.out.size))
  clear h2 hb2
  go_upto_region 2 with fail
  have hx := Blk.new w2 36 #[.slice (some ⟨w.heap.size, 0, none⟩) 2 2, .int .u64 4611686018427387904, .slice (some ⟨w1.heap.size, 0, none⟩) 2 2, .int .u64 4613937818241073152]
  have hb3 : Below w2.heap.size w2 (w2.alloc (.cells #[.slice (some ⟨w.heap.size, 0, none⟩) 2 2, .int .u64 4611686018427387904, .slice (some ⟨w1.heap.size, 0, none⟩) 2 2, .int .u64 4613937818241073152] 36)) := (Below.refl _ _).alloc (Nat.le_refl _) _
  have HE3 : Hid (Els (w2.alloc (.cells #[.slice (some ⟨w.heap.size, 0, none⟩) 2 2, .int .u64 4611686018427387904, .slice (some ⟨w1.heap.size, 0, none⟩) 2 2, .int .u64 4613937818241073152] 36)) (some ⟨w2.heap.size, 0, none⟩) S2) := by
    refine ⟨[(.slice (some ⟨w.heap.size, 0, none⟩) 2 2, .int .u64 4611686018427387904), (.slice (some ⟨w1.heap.size, 0, none⟩) 2 2, .int .u64 4613937818241073152)], fun _ => ⟨_, 0, rfl, by simp, fun i hi => ?_⟩, rfl, fun i hi => ?_⟩
    · have hi2 : i < 2 := hi
      obtain rfl | rfl : i = 0 ∨ i = 1 := by omega
      · exact ⟨hx.cell 0, hx.cell 1⟩
      · exact ⟨hx.cell 2, hx.cell 3⟩
    · have hi2 : i < 2 := hi
      obtain rfl | rfl : i = 0 ∨ i = 1 := by omega
      · exact ⟨_, 2, rfl, HL3.out.below hb3, (fun h => by cases h), by decide, by decide⟩
      · exact ⟨_, 2, rfl, HL2.out.below hb3, (fun h => by cases h), by decide, by decide⟩
  have HB3 := Lib.hid (HB2.out.trans (hb3.mono HB2.out.size))
  clear hx hb3
  generalize w2.alloc (.cells #[.slice (some ⟨w.heap.size, 0, none⟩) 2 2, .int .u64 4611686018427387904, .slice (some ⟨w1.heap.size, 0, none⟩) 2 2, .int .u64 4613937818241073152] 36) = w3 at *
  generalize w2.heap.size = g2 at *
  have hx := Blk.new w3 9 #[.string ⟨#[97]⟩]
  have hb4 : Below w3.heap.size w3 (w3.alloc (.cells #[.string ⟨#[97]⟩] 9)) := (Below.refl _ _).alloc (Nat.le_refl _) _
  have HN4 : Hid (Sts (w3.alloc (.cells #[.string ⟨#[97]⟩] 9)) (some ⟨w3.heap.size, 0, none⟩) nA) := fun _ => ⟨_, 0, rfl, by simp, fun i hi => by
    have hi1 : i < 1 := hi
    obtain rfl : i = 0 := by omega
    exact hx.cell 0⟩
  have HE4 := Lib.hid (HE3.out.below hb4)
  have HB4 := Lib.hid (HB3.out.trans (hb4.mono HB3.out.size))
  clear hx hb4
  have HQ := Lib.hid (fun W A NA cap nc (hE : Els W A S2) (hN : Sts W NA nA) (hb : Below w.heap.size w W) => sum_two A NA cap nc W hE hN (HT.out.below (by omega) hb) (HP.out.below h4 hb) (by have := hb.size; omega))
  have HR := Lib.hid (fun W A cap (hE : Els W A S2) (hb : Below w.heap.size w W) => top_two A cap W hE (HT.out.below (by omega) hb) (HP.out.below h4 hb) (by have := hb.size; omega))
  unfold SumP at HQ
  unfold TopP at HR
  go_wp2_with fail
  generalize w3.alloc (.cells #[.string ⟨#[97]⟩] 9) = w4 at *
  generalize w3.heap.size = g3 at *
  refine (HQ.out w4 _ _ _ _ HE4.out HN4.out HB4.out).mono ?_
  rintro e w5 ⟨b5, o5, L5, lc5, c5, rfl, x0, x1, hb5⟩
  have HE5 := Lib.hid (HE4.out.below hb5)
  have HB5 := Lib.hid (HB4.out.trans (hb5.mono HB4.out.size))
  have HX0 := Lib.hid x0
  have HX1 := Lib.hid x1
  clear x0 x1 hb5
  go_wp2_with fail
  refine (HR.out w5 _ _ HE5.out HB5.out).mono ?_
  rintro e w6 ⟨b6, o6, L6, lc6, c6, rfl, y0, y1, hb6⟩
  have HB6 := Lib.hid (HB5.out.trans (hb6.mono HB5.out.size))
  obtain ⟨bq, oq, LA, lc, eq, hbq, z0', z1, _⟩ := (HE5.out.below hb6).at_ (i := 1) (by decide)
  injection eq with eq
  injection eq with e1 e2
  subst e1; subst e2
  have x0 := cell_far hb6 HX0.out
  have x1 := cell_far hb6 HX1.out
  have z2 : w6.cell? ⟨g2, 3, none⟩ = some (.int .u64 4613937818241073152) := z1
  clear z0' z1 hb6
  go_upto_region 4 with fail
  have HBL : Hid (Below w.heap.size w w6) := HB6
  have hd : decide ((0 : Int) < 1) = true := by decide
  go_quiet (fail)
  go_wp2
  go_ret
  exact ⟨rfl, bel_drawn HBL.out _⟩
end Go.Proofs.YtencpjhpedenbaaGreatDoor

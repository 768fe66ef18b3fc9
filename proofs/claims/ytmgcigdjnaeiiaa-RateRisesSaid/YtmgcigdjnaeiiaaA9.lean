import Derived.Test.YtmgcigdjnaeiiaaA8
namespace Go.Proofs.Ytmgcigdjnaeiiaa
open Go.RowKit Fl Ieee
set_option linter.unusedVariables false

theorem isnone_low (v : Nat) (hv : v ≤ 9214364837600034816) (w : World) : Calls Try.prog 9 #[.int .u64 (v : Int)] w fun e w' => e = .returned (.bool false) ∧ w = w' := by
  have h1 : (v : Int) / 4503599627370496 % 2048 ≤ 2046 := by omega
  have h2 : ((v : Int) / 4503599627370496 % 2048 == 2047) = false := beq_eq_false_iff_ne.2 (by omega)
  go_enter Try.func9, Try.ntmps9
  go_wp2
  go_ret
  exact ⟨rfl, rfl⟩
theorem isnone_some (v : Nat) (hv : v < 18446744073709551616) (w : World) : Calls Try.prog 9 #[.int .u64 (v : Int)] w fun e w' => (e = .returned (.bool false) ∨ e = .returned (.bool true)) ∧ w = w' := by
  cases h2 : ((v : Int) / 4503599627370496 % 2048 == 2047) with
  | false =>
    go_enter Try.func9, Try.ntmps9
    go_wp2
    go_ret
    exact ⟨.inl rfl, rfl⟩
  | true =>
    cases h3 : ((v : Int) % 4503599627370496 != 0) with
    | false =>
      go_enter Try.func9, Try.ntmps9
      go_wp2
      go_ret
      exact ⟨.inl rfl, rfl⟩
    | true =>
      go_enter Try.func9, Try.ntmps9
      go_wp2
      go_ret
      exact ⟨.inr rfl, rfl⟩
theorem isinf_any (x : Nat) (w : World) : Calls Try.prog 11 #[.float .f64 x, .int .i64 1] w fun e w' => e = .returned (.bool (double.order x 9218868437227405311 == some .gt)) ∧ w = w' := by
  generalize hr : (double.order x 9218868437227405311 == some .gt) = r
  have h : (FloatKind.f64.format.order x 9218868437227405311 == some .gt) = r := hr
  clear hr
  go_enter Try.func11, Try.ntmps11
  go_wp2
  go_ret
  exact ⟨rfl, rfl⟩

/-! awake -/
def two : List Pt := [(10000, 0), (20000, 4621819117588971520)]
def onep : List Pt := [(10000, 0)]
theorem two_pts (w : World) : Pts (w.alloc (.cells #[.int .i64 10000, .int .u64 0, .int .i64 20000, .int .u64 4621819117588971520] 31)) (some ⟨w.heap.size, 0, none⟩) two := by
  intro _
  refine ⟨w.heap.size, 0, rfl, by simp, fun i hi => ?_⟩
  match i, hi with
  | 0, _ => exact ⟨by rw [World.cell?_alloc_at _ _ _ _ rfl]; rfl, by rw [World.cell?_alloc_at _ _ _ _ rfl]; rfl⟩
  | 1, _ => exact ⟨by rw [World.cell?_alloc_at _ _ _ _ rfl]; rfl, by rw [World.cell?_alloc_at _ _ _ _ rfl]; rfl⟩
theorem one_pts (w : World) : Pts (w.alloc (.cells #[.int .i64 10000, .int .u64 0, .int .i64 20000, .int .u64 4621819117588971520] 31)) (some ⟨w.heap.size, 0, none⟩) onep := by
  intro _
  refine ⟨w.heap.size, 0, rfl, by simp, fun i hi => ?_⟩
  match i, hi with
  | 0, _ => exact ⟨by rw [World.cell?_alloc_at _ _ _ _ rfl]; rfl, by rw [World.cell?_alloc_at _ _ _ _ rfl]; rfl⟩
theorem two_usable : Usable two 0 20000 := ⟨by decide, by decide, by decide, by decide, by decide, by decide, by decide, fun k h1 h2 => by
  have : k = 1 := by have : two.length = 2 := rfl; omega
  subst this; decide⟩
theorem sec10 : secF 10000 = 4621819117588971520 := by decide +kernel
theorem sec0 : secF 0 = 0 := by decide +kernel
theorem delta_two (b o : Nat) (w : World) (hL : Pts w (some ⟨b, o, none⟩) two) : Calls Try.prog 15 #[.slice (some ⟨b, o, none⟩) two.length 2, .int .i64 0, .int .i64 20000, .bool false, .float .f64 4607182418800017408] w fun x w' => x = .returned (.float .f64 4626322717216342016) ∧ Below w.heap.size w w' :=
  growth_is (some ⟨b, o, none⟩) 2 two 0 20000 false 4607182418800017408 4621819117588971520 w hL (by decide) (by decide) 10000 0 10000 4621819117588971520 4621819117588971520 4622382067542392832 4617315517961601024 4621819117588971520 0 4626322717216342016 4626322717216342016 4611686018427387904 4611686018427387904 4626322717216342016
    (by decide) (by decide) (by decide) (by decide) (by decide) (by decide) (by decide +kernel) (.inl ⟨rfl, sec10.symm⟩) (by decide +kernel) (by decide +kernel) (by decide +kernel) (by decide +kernel) (by decide +kernel) (by decide +kernel) (by decide +kernel) (by decide +kernel) (by decide +kernel)
    (fun W hW => gained_false 4621819117588971520 (some ⟨b, o, none⟩) 2 two W (hL.below hW) (by decide) (by decide) (by decide +kernel))
set_option maxHeartbeats 1000000 in
theorem grow_delta (b o : Nat) (w : World) (hL : Pts w (some ⟨b, o, none⟩) two) :
    Calls Try.prog 7 #[.string ⟨#[100, 101, 108, 116, 97]⟩, .slice (some ⟨b, o, none⟩) 2 2, .int .i64 0, .int .i64 20000] w fun x w' => x = .returned (.tuple #[.int .u64 4626322717216342016, .bool true]) ∧ Below w.heap.size w w' := by
  have H := Lib.hid (usable_any (some ⟨b, o, none⟩) 2 two 0 20000 true (fun _ => rfl) (fun h => absurd two_usable h) w hL (by decide))
  have HG := Lib.hid (fun W (hW : Below w.heap.size w W) => delta_two b o W (hL.below hW))
  have HN := Lib.hid (fun W => norm_any 4626322717216342016 (by unfold NN; omega) W)
  have hb := fun w => tobits 4626322717216342016 w
  change Hid (Calls Try.prog 14 #[.slice (some ⟨b, o, none⟩) 2 2, .int .i64 0, .int .i64 20000] w _) at H
  change Hid (∀ W, Below w.heap.size w W → Calls Try.prog 15 #[.slice (some ⟨b, o, none⟩) 2 2, .int .i64 0, .int .i64 20000, .bool false, .float .f64 4607182418800017408] W _) at HG
  change Hid (∀ W, Calls Try.prog 17 #[.int .u64 4626322717216342016] W _) at HN
  clear hL
  go_enter Try.func7, Try.ntmps7
  go_wp2_with fail
  refine (H.out).mono ?_
  rintro x w1 ⟨rfl, b1⟩
  go_wp2_with fail
  refine (HG.out _ b1).mono ?_
  rintro x w2 ⟨rfl, b2⟩
  have k2 := b1.trans (b2.mono b1.size)
  clear b2
  go_wp2_with fail
  refine (HN.out _).mono ?_
  rintro x w3 ⟨rfl, rfl⟩
  go_wp2
  go_ret2
  exact ⟨rfl, k2⟩
end Go.Proofs.Ytmgcigdjnaeiiaa

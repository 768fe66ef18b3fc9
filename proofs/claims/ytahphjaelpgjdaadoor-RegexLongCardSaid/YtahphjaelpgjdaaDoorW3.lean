import Derived.Test.YtahphjaelpgjdaaDoorW2
namespace Go.Proofs.YtahphjaelpgjdaaDoor
open Go.RowKit Rx
set_option linter.unusedVariables false

theorem uw_zero (i : Nat) : uw 0 i = 0 := by unfold uw; rw [wd_zero]; rfl
theorem wv_zero (i : Nat) : wv 0 i = .int .u64 0 := by unfold wv uw; rw [wd_zero]; rfl
set_option maxRecDepth 100000 in
set_option maxHeartbeats 2000000 in
theorem one_any (c : Nat) (hc : c < 256) (w : World) :
    Calls Tryd.prog 82 #[.int .u8 c] w fun e w' => e = .returned (setV (2 ^ c)) ∧ Below w.heap.size w w' := by
  have H := Lib.hid (fun g W hg => add_any 0 c g hc W hg)
  go_enter Tryd.func82, Tryd.ntmps82
  go_wp2_with fail
  have hb : Blk ((w.alloc (.cells #[.int .u64 0, .int .u64 0, .int .u64 0, .int .u64 0] 61)).alloc (.cells #[.int .u64 0, .int .u64 0, .int .u64 0, .int .u64 0] 61)) (w.heap.size + 1) 61 #[wv 0 0, wv 0 1, wv 0 2, wv 0 3] := by
    rw [wv_zero, wv_zero, wv_zero, wv_zero]
    have := Blk.new (w.alloc (.cells #[.int .u64 0, .int .u64 0, .int .u64 0, .int .u64 0] 61)) 61 #[.int .u64 0, .int .u64 0, .int .u64 0, .int .u64 0]
    rw [World.size_alloc] at this
    exact this
  have HB := Lib.hid hb
  clear hb
  refine (H.out _ _ HB.out).mono ?_
  rintro e w1 ⟨rfl, hk, hg⟩
  have hr : Blk w1 w.heap.size 61 #[.int .u64 0, .int .u64 0, .int .u64 0, .int .u64 0] := ((Blk.new w 61 _).alloc _).grown hg (by intro e; injection e; omega)
  have hbel : Below w.heap.size w w1 := (((Below.refl _ _).alloc (Nat.le_refl _) _).alloc (by simp) _).grown hg (by simp; omega) (fun k hk => by injection hk; omega)
  rw [Nat.zero_or] at hk
  have r0 := hr.cell 0
  have r1 := hr.cell 1
  have r2 := hr.cell 2
  have r3 := hr.cell 3
  have q0 := hr.frozen 0
  have q1 := hr.frozen 1
  have q2 := hr.frozen 2
  have q3 := hr.frozen 3
  have k0 := hk.cell 0
  have k1 := hk.cell 1
  have k2 := hk.cell 2
  have k3 := hk.cell 3
  simp only [List.getElem?_toArray, List.getElem?_cons_zero, List.getElem?_cons_succ] at r0 r1 r2 r3 k0 k1 k2 k3
  have HL := Lib.hid hbel
  clear hr hk hg hbel HB
  go_wp2
  refine bodyPost_ret (v := .agg #[wv (2 ^ c) 0, wv (2 ^ c) 1, wv (2 ^ c) 2, wv (2 ^ c) 3]) (by simp [results, Tryd.results82, go_sem, r0, r1, r2, r3]) rfl ?_
  exact ⟨rfl, (((HL.out.setCell (p := ⟨w.heap.size, 0, none⟩) (Nat.le_refl _) _).setCell (p := ⟨w.heap.size, 1, none⟩) (Nat.le_refl _) _).setCell (p := ⟨w.heap.size, 2, none⟩) (Nat.le_refl _) _).setCell (p := ⟨w.heap.size, 3, none⟩) (Nat.le_refl _) _⟩

end Go.Proofs.YtahphjaelpgjdaaDoor

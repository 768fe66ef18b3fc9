/- What stands between parentheses, of any depth: the reader's answer is the function's. Condition: a text of at most 200 bytes. -/
import Derived.Test.YtahphjaelpgjdaaDoorW21
namespace Go.Proofs.YtahphjaelpgjdaaDoor
open Go.RowKit Rx
set_option linter.unusedVariables false

theorem kept_alloc {w : World} {a : Addr} {v : Value} (h : w.cell? a = some v) (o : Obj) : (w.alloc o).cell? a = some v := below_cell ((Below.refl _ _).alloc (Nat.le_refl _) o) h
set_option maxRecDepth 100000 in
set_option maxHeartbeats 8000000 in
theorem group_deep (b a : Nat) (T F : Value) (l : ByteArray) (m : Mach) (w : World) (hr : Rdr w b T F l m a 32) (hl : l.size ≤ 200) :
    Calls Tryd.prog 77 #[.pointer (some ⟨b, 0, none⟩)] w (PP b T F l 32 w (grpF l 0 a m)) := by
  have HR := Lib.hid (hr.alloc (.cells zero9 85))
  have HM := Lib.hid ((Moves.refl b T F w).alloc (.cells zero9 85))
  have B0 := Lib.hid (Blk.new w 85 zero9)
  have HFT : Hid (∀ j, w.heap.size ≤ j → ¬ Foot b T F j) := fun j hj hf => by have := (hr.lt_foot hf).1; omega
  clear hr
  go_enter Tryd.func77, Tryd.ntmps77
  go_upto_region 1 with fail
  generalize hW : w.alloc (.cells zero9 85) = W at *
  have hsz : w.heap.size < W.heap.size := B0.out.lt
  clear hW
  have q4 := (rd_cells HR.out).2.2.2.1
  have q5 := (rd_cells HR.out).2.2.2.2
  have HNB : Hid (b ≠ w.heap.size) := fun e => HFT.out _ (Nat.le_refl _) (.inl e.symm)
  have HBA := Lib.hid (B0.out.alloc (.cells #[.int .i64 a, .iface 55 (.int .i64 12)] 74))
  have HMA := Lib.hid ((HM.out.alloc (.cells #[.int .i64 a, .iface 55 (.int .i64 12)] 74)).set9 (Nat.le_refl _) (.bool false) (.int .u64 0) (.int .u64 0) (.int .u64 0) (.int .u64 0) (.int .u64 0) (.int .u64 0) (.int .u64 0) (.int .u64 0))
  have HFA := Lib.hid ((Blk.new W 74 #[.int .i64 a, .iface 55 (.int .i64 12)]).set9_other (j := w.heap.size) (by omega) (.bool false) (.int .u64 0) (.int .u64 0) (.int .u64 0) (.int .u64 0) (.int .u64 0) (.int .u64 0) (.int .u64 0) (.int .u64 0))
  have HMB := Lib.hid ((HM.out.set9 (Nat.le_refl _) (.bool false) (.int .u64 0) (.int .u64 0) (.int .u64 0) (.int .u64 0) (.int .u64 0) (.int .u64 0) (.int .u64 0) (.int .u64 0)).alloc (.cells #[.int .i64 a, .iface 55 (.int .i64 12)] 74))
  have HFB : Hid (Blk ((put9 W w.heap.size (.bool false) (.int .u64 0) (.int .u64 0) (.int .u64 0) (.int .u64 0) (.int .u64 0) (.int .u64 0) (.int .u64 0) (.int .u64 0)).alloc (.cells #[.int .i64 a, .iface 55 (.int .i64 12)] 74)) W.heap.size 74 #[.int .i64 a, .iface 55 (.int .i64 12)]) := by
    have h := Blk.new (put9 W w.heap.size (.bool false) (.int .u64 0) (.int .u64 0) (.int .u64 0) (.int .u64 0) (.int .u64 0) (.int .u64 0) (.int .u64 0) (.int .u64 0)) 74 #[.int .i64 a, .iface 55 (.int .i64 12)]
    have e : (put9 W w.heap.size (.bool false) (.int .u64 0) (.int .u64 0) (.int .u64 0) (.int .u64 0) (.int .u64 0) (.int .u64 0) (.int .u64 0) (.int .u64 0)).heap.size = W.heap.size := by simp [put9, World.setCell]
    rw [e] at h
    exact h
  have HBA2 := Lib.hid (HBA.out.set9 (.bool false) (.int .u64 0) (.int .u64 0) (.int .u64 0) (.int .u64 0) (.int .u64 0) (.int .u64 0) (.int .u64 0) (.int .u64 0))
  have HBB := Lib.hid ((B0.out.set9 (.bool false) (.int .u64 0) (.int .u64 0) (.int .u64 0) (.int .u64 0) (.int .u64 0) (.int .u64 0) (.int .u64 0) (.int .u64 0)).alloc (.cells #[.int .i64 a, .iface 55 (.int .i64 12)] 74))
  obtain ⟨g0, g1, g2, g3, g4, g5, g6, g7, g8⟩ := frozen9 B0.out
  obtain ⟨r0, r1, r2, r3, r4, r5, r6, r7, r8⟩ := cells9 B0.out
  go_wp2_with fail
  go_region_held3 (fun w' => w'.cell? ⟨b, 12, none⟩ = some (.int .i64 a)) ((rw [World.cell?_drew]; first | with_reducible exact q4 | with_reducible exact kept_alloc q4 _ | with_reducible exact kept9 q4 HNB.out | with_reducible exact kept9 (kept_alloc q4 _) HNB.out | with_reducible exact kept_alloc (kept9 q4 HNB.out) _)) (fail)
  all_goals
    clear r0 r1 r2 r3 r4 r5 r6 r7 r8 g0 g1 g2 g3 g4 g5 g6 g7 g8 q4 q5
    unfold put9 at HMA HFA HMB HFB HBA2 HBB
    first
      | (generalize World.alloc (World.setCell _ ⟨w.heap.size, 8, none⟩ _) _ = W9 at *
         obtain ⟨y0, y1, y2, y3, y4, y5, y6, y7, y8⟩ := cells9 HBB.out
         go_wp2
         exact bodyPost_ret (v := .tuple #[.agg zero9, .iface 70 (.pointer (some ⟨W.heap.size, 0, none⟩))]) (by simp [results, Tryd.results77, go_sem, y0, y1, y2, y3, y4, y5, y6, y7, y8]) rfl (pp_bad (T' := T) (F' := F) rfl HMB.out.drew pc0_eq HFB.out))
      | (generalize World.setCell _ ⟨w.heap.size, 8, none⟩ _ = W9 at *
         obtain ⟨y0, y1, y2, y3, y4, y5, y6, y7, y8⟩ := cells9 HBA2.out
         go_wp2
         exact bodyPost_ret (v := .tuple #[.agg zero9, .iface 70 (.pointer (some ⟨W.heap.size, 0, none⟩))]) (by simp [results, Tryd.results77, go_sem, y0, y1, y2, y3, y4, y5, y6, y7, y8]) rfl (pp_bad (T' := T) (F' := F) rfl HMA.out.drew pc0_eq HFA.out))
theorem group_any (b : Nat) (l : ByteArray) (hl : l.size ≤ 200) : ∀ d o, o + d = 32 → GC b l o (grpF l d)
  | 0, o, h => fun T F m a w hr hT ha hm hn => by
    obtain rfl : o = 32 := by omega
    exact group_deep b a T F l m w hr hl
  | d + 1, o, h => fun T F m a w hr hT ha hm hn => group_more b a o d T F l m w hr hT hl ha hm hn (by omega) (group_any b l hl d (o + 1) (by omega))
end Go.Proofs.YtahphjaelpgjdaaDoor

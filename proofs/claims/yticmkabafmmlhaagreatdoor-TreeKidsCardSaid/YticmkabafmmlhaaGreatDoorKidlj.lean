/- TreeKids, of a world in which a call begins: it answers true: each kid of a right tree is right, and no more nested; its text stands in the tree's text. Its condition: the seventeen listed package-level variables hold what the program's text lays; the card ties them to it. -/
import Derived.Test.YticmkabafmmlhaaGreatDoorGaj
import Derived.Test.YticmkabafmmlhaaGreatDoorN28j
import Derived.Test.YticmkabafmmlhaaGreatDoorPtj
set_option linter.unusedVariables false
set_option maxRecDepth 100000
namespace Go.Proofs.YticmkabafmmlhaaGreatDoor.kidsDone
open Go.ChangeShapes Go.WideShapes Go.ChangeAt Go.RowKit
theorem lifted (os : Os) (started : os.Started) (H : Type) (enc : TypeId × Value → H) :
 ReturnsInHanded {} Tryz.checked os 3 .any (fun w args => (Rows.treeKidsSpec.pre enc Tryz.prog Tryz.f3 [] false w args ∧ laidMetH Tryz.prog laid17 w) ∧ sizedMet enc Tryz.prog Tryz.f3 (OpenSpec.ofChange Rows.treeKidsSpec) false w args)
  (Rows.treeKidsSpec.post enc Tryz.prog Tryz.f3 false true false false) := by
 refine handedG (C := Tryz.checked) (X := fun w _ => laidMetH Tryz.prog laid17 w) own Ck.MaxL (fun _ h => max_shaped h) (fun _ _ _ hh h => h.of_heap hh) started (by kernel_rfl) Tryz.func3
  (ChangeSpec.witness_shaped (enc := enc) (C := Tryz.checked) (os := os) (X := fun w _ => laidMetH Tryz.prog laid17 w) false (laidW os) #[.agg #[.int .i64 0, .int .i64 0, .int .u64 0, .string ⟨#[]⟩, .slice none 0 0, .int .i64 0, .int .i64 0, .bool false, .int .i64 0, .int .i64 0, .slice none 0 0, .bool false, .slice none 0 0]] 8 (laidW_os os)
    (World.shaped_of_ZipB (by kernel_rfl) (by kernel_rfl)) (by kernel_rfl) (by kernel_rfl) (by kernel_rfl) (laidW_met os _)) ?_
 intro W base args ds gs before hML hval0 hW hwt hL
 have hval : ∀ (j : Nat) t v, Tryz.f3.params[j]? = some t → args[j]? = some v → Value.okWide Tryz.prog W .any base t v := hval0
 have hW' := hW
 obtain ⟨p, q, hA0, hV, rfl, hfz, hnd⟩ := hW
 have hA : DataW.TrodAll enc Tryz.prog W 0 (fun _ => true) true Tryz.f3.params.toList args.toList ds p := hA0
 rw [Tryz.params3] at hA hval
 obtain ⟨v0, vs0, d0, ds0, p0, q0, hargs, rfl, rfl, h0, r0⟩ := trodAll_cons hA
 obtain ⟨rfl, rfl, rfl⟩ := trodAll_nil r0
 obtain rfl : args = #[v0] := by cases args; simp_all
 obtain ⟨rfl, rfl⟩ := trodVars_none hV
 have k0 := h0
 have lt0 : ∀ x ∈ p0, x.block < W.heap.size := by obtain ⟨m, hm⟩ := k0; exact DataW.trod_lt m _ _ _ hm
 have hw0 : ∀ y ∈ d0.weights Tryz.prog 27, y ≤ reachBytes := by
  intro y hy
  have hwt' := List.all_eq_true.1 hwt y (by rw [Tryz.params3]; simp only [List.cons_append, List.nil_append, DataW.weightsEach]; exact List.mem_append.2 (.inl hy))
  exact of_decide_eq_true hwt'
 obtain ⟨t, rfl, hLies⟩ := Ck.open_arg (hval 0 27 v0 rfl rfl) h0 hw0
 obtain ⟨hTab, hEnv, hErr⟩ := laid_of hL hML
 clear hA0 hval0
 refine (Ck.tree_law t W hTab hEnv hErr hLies).mono fun e W' ⟨he, bel⟩ => ?_
 subst he
 exact ⟨_, rfl, _, _, _, [], _, [], hW', trodAll_mk1 (shut_bool Tryz.underlying4 _), (trodAll_cons_mk (Below.trod laidOut (by kernel_rfl) (of_decide_eq_true (by kernel_rfl)) k0 bel lt0) trodAll_mk0), rfl, bel.frame _, fun h => by cases h⟩
end Go.Proofs.YticmkabafmmlhaaGreatDoor.kidsDone

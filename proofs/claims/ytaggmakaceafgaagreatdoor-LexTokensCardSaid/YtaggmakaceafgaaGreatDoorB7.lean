import Derived.Test.YtaggmakaceafgaaGreatDoorB3
import Derived.Test.YtaggmakaceafgaaGreatDoorB5
import Derived.Test.YtaggmakaceafgaaGreatDoorB6
namespace Go.Proofs.YtaggmakaceafgaaGreatDoor
open Go.RowKit Ieee
set_option linter.unusedVariables false

/-! a float out of a text: no matter which -/
theorem below_cell {w w' : World} (h : Below w.heap.size w w') {a : Addr} {v : Value} (hc : w.cell? a = some v) : w'.cell? a = some v := (h.cell (World.block_lt_of_cell? _ _ hc)).trans hc
/-- the tables -/
structure Tabs (Q qo qc P off c F fo fc : Nat) (w : World) : Prop where
  f0 : w.cell? ⟨10, 0, none⟩ = some (.int .u64 52)
  f1 : w.cell? ⟨10, 1, none⟩ = some (.int .u64 11)
  f2 : w.cell? ⟨10, 2, none⟩ = some (.int .i64 (-1023))
  pt : w.cell? ⟨12, 0, none⟩ = some (.slice (some ⟨Q, qo, none⟩) 9 qc)
  pw : ∀ i, i < 9 → w.cell? ⟨Q, qo + i, none⟩ = some (.int .i64 (powN i : Int))
  ch : Cheat w P off c
  flp : FlP w F fo fc
  p10 : P10 w
  opt : w.cell? ⟨9, 0, none⟩ = some (.bool true)
  e6 : ∃ te pe, w.cell? ⟨6, 0, none⟩ = some (.iface te pe)
  e7 : ∃ te pe, w.cell? ⟨7, 0, none⟩ = some (.iface te pe)
  size : 16 ≤ w.heap.size
section
variable {Q qo qc P off c F fo fc : Nat} {w w' : World}
theorem Tabs.below (h : Tabs Q qo qc P off c F fo fc w) (hb : Below w.heap.size w w') : Tabs Q qo qc P off c F fo fc w' := by
  obtain ⟨te6, pe6, h6⟩ := h.e6
  obtain ⟨te7, pe7, h7⟩ := h.e7
  exact ⟨below_cell hb h.f0, below_cell hb h.f1, below_cell hb h.f2, below_cell hb h.pt, fun i hi => below_cell hb (h.pw i hi), ⟨below_cell hb h.ch.1, fun k hk => ⟨below_cell hb (h.ch.2 k hk).1, below_cell hb (h.ch.2 k hk).2⟩⟩,
    ⟨below_cell hb h.flp.1, fun i hi => by obtain ⟨y, a, b⟩ := h.flp.2 i hi; exact ⟨y, below_cell hb a, b⟩⟩, fun i hi => ⟨below_cell hb (h.p10 i hi).1, below_cell hb (h.p10 i hi).2⟩, below_cell hb h.opt,
    ⟨te6, pe6, below_cell hb h6⟩, ⟨te7, pe7, below_cell hb h7⟩, Nat.le_trans h.size hb.size⟩
/-- what lies beside a new decimal -/
theorem Tabs.env (h : Tabs Q qo qc P off c F fo fc w) (hb : Below w.heap.size w w') : Env w' w.heap.size Q qo qc P off c := by
  have h' := h.below hb
  have l (p : Addr) (v : Value) (hc : w.cell? p = some v) : p.block < w.heap.size := World.block_lt_of_cell? _ _ hc
  have l10 := l _ _ h.f0
  have l12 := l _ _ h.pt
  have l15 := l _ _ h.ch.1
  have lQ := l _ _ (h.pw 0 (by omega))
  have lP := l _ _ (h.ch.2 0 (by omega)).1
  exact ⟨h'.f0, h'.f1, h'.f2, h'.pt, h'.pw, h'.ch, by dsimp only at l10; omega, by dsimp only at l12; omega, by dsimp only at l15; omega, by dsimp only at lQ; omega, by dsimp only at lP; omega⟩
end
def isZ (v : Option Value) : Bool := match v with | some (.int .u8 0) => true | _ => false
theorem isZ_is {v : Option Value} (h : isZ v = true) : v = some (.int .u8 0) := by
  unfold isZ at h
  split at h
  · rfl
  · cases h
theorem zero_all : ((List.range 800).all fun i => isZ Tryz.zeroCells170[i]?) = true := by decide +kernel
theorem zero_size : Tryz.zeroCells170.size = 804 := by decide +kernel
theorem dz_new (w : World) : Dz (w.alloc (.cells Tryz.zeroCells170 170)) w.heap.size (fun _ => 0) 0 0 false false :=
  ⟨_, Blk.new _ _ _, zero_size, fun i hi => isZ_is (List.all_eq_true.1 zero_all i (List.mem_range.2 hi)), by kernel_rfl, by kernel_rfl, by kernel_rfl, by kernel_rfl⟩
theorem Dse.ok {w : World} {B : Nat} {f : Nat → Nat} {nd : Nat} {dp : Int} {ng tr : Bool} (h : Dse w B f nd dp ng tr) : nd = 0 ∨ Dok w B f nd dp ng tr := by
  by_cases h0 : nd = 0
  · exact .inl h0
  · exact .inr ⟨h.dz, h.dg, h.first (by omega), by omega, h.le⟩
theorem Al.cut {s : ByteArray} (h : Al s) (i : Nat) (hi : i ≤ s.size) : Al (s.extract 0 i) := by
  intro j hj
  have hj2 : j < s.size := by rw [ByteArray.size_extract] at hj; omega
  have h3 := h j hj2
  have e : (s.extract 0 i)[j] = s[j] := by simp [ByteArray.getElem_extract]
  rw [e]
  exact h3
end Go.Proofs.YtaggmakaceafgaaGreatDoor

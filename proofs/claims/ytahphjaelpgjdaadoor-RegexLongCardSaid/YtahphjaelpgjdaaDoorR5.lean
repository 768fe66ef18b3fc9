/- The document's reader: a class. Condition: a text of at most 200 bytes. -/
import Derived.Test.YtahphjaelpgjdaaDoorR4
import Derived.Test.YtahphjaelpgjdaaDoorW7
namespace Go.Proofs.YtahphjaelpgjdaaDoor
open Go.RowKit Rx
set_option linter.unusedVariables false

/-- what a reader leaves: a part, the place, and what is wrong -/
def RN (b : Nat) (l : ByteArray) (o : Nat) (w : World) (r : Res) (e : Ending) (w' : World) : Prop :=
  (∃ v, e = .returned v ∧ Nd v) ∧ w.grownBy w' (some b) ∧ match r with
  | .bad pl c => Par w' b l pl o c ∧ (c = 2 ∨ c = 12)
  | .ok a m p => Par w' b l a o 0
theorem rn_bad {b : Nat} {l : ByteArray} {o : Nat} {w w' : World} {r : Res} {pl c : Nat} {v : Value} (hr : r = .bad pl c) (hv : Nd v) (hg : w.grownBy w' (some b)) (hp : Par w' b l pl o c) (hc : c = 2 ∨ c = 12) : RN b l o w r (.returned v) w' := by
  subst hr; exact ⟨⟨v, rfl, hv⟩, hg, hp, hc⟩
theorem rn_ok {b : Nat} {l : ByteArray} {o : Nat} {w w' : World} {r : Res} {a : Nat} {m : Mach} {p : Pc} {v : Value} (hr : r = .ok a m p) (hv : Nd v) (hg : w.grownBy w' (some b)) (hp : Par w' b l a o 0) : RN b l o w r (.returned v) w' := by
  subst hr; exact ⟨⟨v, rfl, hv⟩, hg, hp⟩
/-- how far a reader is from its end, for a loop's measure -/
def parM (w : World) (b n : Nat) : Nat := match w.cell? ⟨b, 3, none⟩, w.cell? ⟨b, 1, none⟩ with
  | some v3, some v1 => if intOf v3 = 0 then n + 1 - (intOf v1).toNat else 0
  | _, _ => 0
theorem parM_ok {w : World} {b : Nat} {l : ByteArray} {a o : Nat} (h : Par w b l a o 0) (n : Nat) : parM w b n = n + 1 - a := by
  unfold parM; rw [h.cells.2.2.2, h.cells.2.1]; simp [intOf]
theorem parM_bad {w : World} {b : Nat} {l : ByteArray} {a o c : Nat} (h : Par w b l a o c) (hc : c = 2 ∨ c = 12) (n : Nat) : parM w b n = 0 := by
  unfold parM; rw [h.cells.2.2.2, h.cells.2.1]; rcases hc with rfl | rfl <;> simp [intOf]
abbrev clN (g : Nat) : Array Value := #[.int .u8 91, .slice (some ⟨g, 0, none⟩) 256 256, .slice none 0 0]
/-- what a class' loop holds -/
def ClS (b : Nat) (l : ByteArray) (o q g j2 j4 : Nat) (w : World) (s5 : Value) (wr : World) : Prop :=
  BB wr g ∧ Blk wr j2 30 zero3 ∧ Blk wr j4 30 (clN g) ∧ w.grownBy wr (some b) ∧
  ((∃ mn k a1 t : Nat, s5 = .int .i64 mn ∧ mn ≤ a1 ∧ l.size < k + a1 ∧ a1 ≤ l.size ∧ t < 2 ^ 256 ∧ Par wr b l a1 o 0 ∧
      itemsF l (l.size + 1) q 0 = if mn = 0 then itemsF l k a1 t else if sees l a1 93 = true then .ok a1 t else itemsF l k a1 t) ∨
   (∃ mn pl : Nat, s5 = .int .i64 mn ∧ Par wr b l pl o 2 ∧ itemsF l (l.size + 1) q 0 = .bad pl))
theorem cls_ok {b : Nat} {l : ByteArray} {o q g j2 j4 mn k a1 t : Nat} {w wr : World} {s5 : Value} (hs : s5 = .int .i64 mn) (h1 : BB wr g) (h2 : Blk wr j2 30 zero3) (h3 : Blk wr j4 30 (clN g)) (h4 : w.grownBy wr (some b)) (h5 : mn ≤ a1) (h6 : l.size < k + a1) (h7 : a1 ≤ l.size) (h8 : t < 2 ^ 256) (h9 : Par wr b l a1 o 0)
    (h10 : itemsF l (l.size + 1) q 0 = if mn = 0 then itemsF l k a1 t else if sees l a1 93 = true then .ok a1 t else itemsF l k a1 t) : ClS b l o q g j2 j4 w s5 wr := ⟨h1, h2, h3, h4, .inl ⟨mn, k, a1, t, hs, h5, h6, h7, h8, h9, h10⟩⟩
theorem cls_bad {b : Nat} {l : ByteArray} {o q g j2 j4 mn pl : Nat} {w wr : World} {s5 : Value} (hs : s5 = .int .i64 mn) (h1 : BB wr g) (h2 : Blk wr j2 30 zero3) (h3 : Blk wr j4 30 (clN g)) (h4 : w.grownBy wr (some b)) (h9 : Par wr b l pl o 2)
    (h10 : itemsF l (l.size + 1) q 0 = .bad pl) : ClS b l o q g j2 j4 w s5 wr := ⟨h1, h2, h3, h4, .inr ⟨mn, pl, hs, h9, h10⟩⟩
theorem itemsF_next {l : ByteArray} {k a t a1 t1 : Nat} (h : itemF l a t = .ok a1 t1) : itemsF l (k + 1) a t = if sees l a1 93 = true then .ok a1 t1 else itemsF l k a1 t1 := by
  conv => lhs; unfold itemsF
  rw [h]
theorem itemsF_stop {l : ByteArray} {k a t pl : Nat} (h : itemF l a t = .bad pl) : itemsF l (k + 1) a t = .bad pl := by
  conv => lhs; unfold itemsF
  rw [h]
end Go.Proofs.YtahphjaelpgjdaaDoor

/- labelsOf: the labels of an element's group. Conditions: few labels and names. -/
import Derived.Test.YtencpjhpedenbaaGreatDoorG1
namespace Go.Proofs.YtencpjhpedenbaaGreatDoor
open Go.RowKit Lb
set_option linter.unusedVariables false
set_option linter.unusedSimpArgs false
set_option maxRecDepth 100000
set_option maxHeartbeats 4000000

def nameL : List ByteArray := [⟨#[95, 95, 110, 97, 109, 101, 95, 95]⟩]
def labF (how : Int) (ns : List ByteArray) (l : List Lab) : List Lab :=
  if how = 1 then l.filter (isIn ns) else if how = 2 then (l.filter (isOut ns)).filter (isOut nameL) else []
def LabP (o : List Lab) (w : World) (e : Ending) (w' : World) : Prop := ∃ A c, e = .returned (.slice A o.length c) ∧ OwnL w' A c o ∧ Below w.heap.size w w'
theorem labelsof_any (how : Int) (LA NA : Option Addr) (lc nc : Nat) (l : List Lab) (ns : List ByteArray) (v : Int) (w : World) (hL : Lbs w LA l) (hN : Sts w NA ns) (hl : l.length ≤ 65536) (hn : ns.length ≤ 65536) :
    Calls Tryz.prog 43 #[.int .i64 how, .slice NA ns.length nc, .agg #[.slice LA l.length lc, .int .u64 v]] w (LabP (labF how ns l) w) := by
  have HK := Lib.hid (fun W (hW : Below w.heap.size w W) => keep_any LA NA lc nc l ns W (hL.below hW) (hN.below hW) hl hn)
  have HD := Lib.hid (fun W (hW : Below w.heap.size w W) => drop_any LA NA lc nc l ns W (hL.below hW) (hN.below hW) hl hn)
  have HD2 := Lib.hid (fun W A c a (hW : Lbs W A (l.filter (isOut ns))) (h1 : Sts W (some ⟨a, 0, none⟩) nameL) => drop_any A (some ⟨a, 0, none⟩) c 1 (l.filter (isOut ns)) nameL W hW h1 (Nat.le_trans (List.length_filter_le _ _) hl) (by decide))
  obtain ⟨o, ho⟩ : ∃ o, labF how ns l = o := ⟨_, rfl⟩
  rw [ho]
  have HO := Lib.hid ho
  have hn1 : nameL.length = 1 := rfl
  rw [hn1] at HD2
  clear ho hL hN hn1
  generalize l.length = n at *
  generalize ns.length = m at *
  have hb0 := Lib.hid ((Below.refl w.heap.size w).alloc (Nat.le_refl _) (.cells #[.slice LA n lc, .int .u64 v] 36))
  have hk0 := Lib.hid (Blk.new w 36 #[.slice LA n lc, .int .u64 v])
  by_cases h1 : how = 1
  · subst h1
    have ho : l.filter (isIn ns) = o := by rw [← HO.out]; rfl
    rw [ho] at HK
    clear ho HO HD HD2
    go_enter Tryz.func43, Tryz.ntmps43
    go_upto_region 1 with fail
    generalize w.alloc (.cells #[.slice LA n lc, .int .u64 v] 36) = w0 at *
    have c0 := hk0.out.cell 0
    simp at c0
    go_wp2_with fail
    refine (HK.out _ hb0.out).mono ?_
    rintro e w1 ⟨A, c, rfl, h1, h2⟩
    have H1 := Lib.hid h1
    have H2 := Lib.hid (hb0.out.trans (h2.mono hb0.out.size))
    clear h1 h2
    go_wp2
    go_ret
    exact ⟨A, c, rfl, H1.out, H2.out⟩
  have b1 : (how == 1) = false := by simpa using h1
  by_cases h2 : how = 2
  · subst h2
    have ho : (l.filter (isOut ns)).filter (isOut nameL) = o := by rw [← HO.out]; rfl
    rw [ho] at HD2
    clear ho HO HK h1
    generalize l.filter (isOut ns) = o1 at *
    go_enter Tryz.func43, Tryz.ntmps43
    go_upto_region 1 with fail
    generalize w.alloc (.cells #[.slice LA n lc, .int .u64 v] 36) = w0 at *
    have c0 := hk0.out.cell 0
    simp at c0
    go_wp2_with fail
    refine (HD.out _ hb0.out).mono ?_
    rintro e w1 ⟨A, c, rfl, h1, h2⟩
    have H1 := Lib.hid h1.1
    have H2 := Lib.hid (hb0.out.trans (h2.mono hb0.out.size))
    clear h1 h2 c0
    have HS : Hid (Sts (w1.alloc (.cells #[.string ⟨#[95, 95, 110, 97, 109, 101, 95, 95]⟩] 9)) (some ⟨w1.heap.size, 0, none⟩) nameL) := by
      intro _
      refine ⟨w1.heap.size, 0, rfl, by simp, fun i hi => ?_⟩
      have : i = 0 := by simp [nameL] at hi; omega
      subst this
      rw [World.cell?_alloc_at _ _ _ _ rfl]; rfl
    have H3 := Lib.hid (H1.out.below ((Below.refl w1.heap.size w1).alloc (Nat.le_refl _) (.cells #[.string ⟨#[95, 95, 110, 97, 109, 101, 95, 95]⟩] 9)))
    have H4 : Hid (Below w.heap.size w (w1.alloc (.cells #[.string ⟨#[95, 95, 110, 97, 109, 101, 95, 95]⟩] 9))) := H2.out.alloc H2.out.size _
    generalize o1.length = m1 at *
    go_wp2_with fail
    refine (HD2.out _ A c _ H3.out HS.out).mono ?_
    rintro e w2 ⟨A2, c2, rfl, h1, h2⟩
    have H5 := Lib.hid h1
    have H6 := Lib.hid (H4.out.trans (h2.mono H4.out.size))
    clear h1 h2
    go_wp2
    go_ret
    exact ⟨A2, c2, rfl, H5.out, H6.out⟩
  have b2 : (how == 2) = false := by simpa using h2
  obtain rfl : [] = o := by rw [← HO.out]; unfold labF; rw [if_neg h1, if_neg h2]
  clear h1 h2 HO HK HD HD2
  go_enter Tryz.func43, Tryz.ntmps43
  go_upto_region 1 with fail
  generalize w.alloc (.cells #[.slice LA n lc, .int .u64 v] 36) = w0 at *
  go_wp2
  go_ret
  exact ⟨none, 0, rfl, ⟨fun h => absurd h (by simp), fun _ => rfl, nofun⟩, hb0.out⟩
end Go.Proofs.YtencpjhpedenbaaGreatDoor

import Derived.Test.YtmgcigdjnaeiiaaA7
namespace Go.Proofs.Ytmgcigdjnaeiiaa
open Go.RowKit Fl Ieee
set_option linter.unusedVariables false

theorem grow_no (nm : ByteArray) (A : Option Addr) (cap : Nat) (l : List Pt) (s e : Int) (w : World) (hL : Pts w A l) (hm : l.length ≤ 65536) (hu : ¬ Usable l s e) :
    Calls Try.prog 7 #[.string nm, .slice A l.length cap, .int .i64 s, .int .i64 e] w fun x w' => x = .returned (.tuple #[.int .u64 0, .bool false]) ∧ Below w.heap.size w w' := by
  have H := Lib.hid (usable_any A cap l s e false (fun h => absurd h hu) (fun _ => rfl) w hL hm)
  clear hL hu hm
  generalize l.length = n at *
  go_enter Try.func7, Try.ntmps7
  go_wp2_with fail
  refine (H.out).mono ?_
  rintro x w1 ⟨rfl, b1⟩
  go_wp2
  go_ret2
  exact ⟨rfl, b1⟩
def GrowOut (w : World) (x : Ending) (w' : World) : Prop := ∃ res : Nat, NN res ∧ x = .returned (.tuple #[.int .u64 (res : Int), .bool true]) ∧ Below w.heap.size w w'
theorem grow_inc (A : Option Addr) (cap : Nat) (l : List Pt) (s e : Int) (w : World) (hL : Pts w A l) (hu : Usable l s e) (hm : l.length ≤ 400) (hv : ∀ i, i < l.length → (l.getD i e0).2 < 9218868437227405312) :
    Calls Try.prog 7 #[.string ⟨#[105, 110, 99, 114, 101, 97, 115, 101]⟩, .slice A l.length cap, .int .i64 s, .int .i64 e] w (GrowOut w) := by
  have H := Lib.hid (usable_any A cap l s e true (fun _ => rfl) (fun h => absurd hu h) w hL (by omega))
  obtain ⟨res, hn, hg⟩ := growth_up A cap l s e 4607182418800017408 w hL hu hm hv (one_in.wide (by omega) (by omega))
  have HG := Lib.hid hg
  have HN := Lib.hid (fun W => norm_any res hn W)
  have hb := fun w => tobits res w
  have HNN := Lib.hid hn
  clear hL hu hm hv hg hn
  generalize l.length = n at *
  go_enter Try.func7, Try.ntmps7
  go_wp2_with fail
  refine (H.out).mono ?_
  rintro x w1 ⟨rfl, b1⟩
  go_wp2_with fail
  refine (HG.out _ b1).mono ?_
  rintro x w2 ⟨rfl, b2⟩
  have k2 := b1.trans (b2.mono b1.size)
  clear b2
  go_wp2_with fail
  refine (HN.out _).mono ?_
  rintro x w3 ⟨rfl, rfl⟩
  go_wp2
  go_ret2
  exact ⟨res, HNN.out, rfl, k2⟩
theorem grow_rate (A : Option Addr) (cap : Nat) (l : List Pt) (s e : Int) (w : World) (hL : Pts w A l) (hu : Usable l s e) (hm : l.length ≤ 400) (hv : ∀ i, i < l.length → (l.getD i e0).2 < 9218868437227405312) :
    Calls Try.prog 7 #[.string ⟨#[114, 97, 116, 101]⟩, .slice A l.length cap, .int .i64 s, .int .i64 e] w (GrowOut w) := by
  have H := Lib.hid (usable_any A cap l s e true (fun _ => rfl) (fun h => absurd hu h) w hL (by omega))
  have hse : s < e := by
    have h1 := (usable_rise hu (l.length - 1) (by have := hu.1; omega)).1
    have h2 := hu.2.2.2.2.2.1
    have h3 := hu.2.2.2.2.2.2.1
    omega
  have hd : (e - s).toNat ≤ 9007199254740992 := by
    have h1 := hu.2.1
    have h2 := hu.2.2.2.2.1
    omega
  obtain ⟨res, hn, hg⟩ := growth_up A cap l s e (secF (e - s).toNat) w hL hu hm hv ((sec_is _ hd).2.1 (by omega))
  have HS := Lib.hid (fun W => seconds_any s e (e - s).toNat (by omega) hd W)
  have HG := Lib.hid hg
  have HN := Lib.hid (fun W => norm_any res hn W)
  have hb := fun w => tobits res w
  have HNN := Lib.hid hn
  clear hL hu hm hv hg hn hse hd
  generalize secF (e - s).toNat = dv at *
  generalize l.length = n at *
  go_enter Try.func7, Try.ntmps7
  go_wp2_with fail
  refine (H.out).mono ?_
  rintro x w1 ⟨rfl, b1⟩
  go_wp2_with fail
  refine (HS.out _).mono ?_
  rintro x w2 ⟨rfl, rfl⟩
  go_wp2_with fail
  refine (HG.out _ b1).mono ?_
  rintro x w2 ⟨rfl, b2⟩
  have k2 := b1.trans (b2.mono b1.size)
  clear b2
  go_wp2_with fail
  refine (HN.out _).mono ?_
  rintro x w3 ⟨rfl, rfl⟩
  go_wp2
  go_ret2
  exact ⟨res, HNN.out, rfl, k2⟩
end Go.Proofs.Ytmgcigdjnaeiiaa

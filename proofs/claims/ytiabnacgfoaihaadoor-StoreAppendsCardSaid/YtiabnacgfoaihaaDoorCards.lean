/-
  DERIVED. GIVEN WITH THE SEED: THE CARDS: each row of YtiabnacgfoaihaaDoorRows.lean that lists a variable, with what it lists TIED to the program's text (the seventh form; the later family's looks); each row that meets fmt, with fmt's text TOLD by the authors' own Lean function (tested against real Go, not proved from fmt's source: count such statements apart). THE CARD IS WHAT COUNTS. Prove the row's statement (the work); the ties are given (YtiabnacgfoaihaaDoorTie.lean); close each card by the builder's one call (the guide's Derived/Test/ToyasCard.lean, 'card_holds'). Laid BY PROGRAM, IN A SANDBOX (cutbox-door.mjs). By AI agents, Wed Nov 11 2026. No macro, syntax, notation, axiom, sorry.
-/
import Derived.Test.YtiabnacgfoaihaaDoorRows
import GoSem.ClaimSeven
namespace Go.Proofs.YtiabnacgfoaihaaDoor
namespace Rows

/-- THE TIED CARD OF 'soundingslaw05.StoreAppends'. -/
def storeAppendsCard : Claim7 := { stood := { row := storeAppendsRow, standIns := [], harness := (true, "e2a7d5cff7edccbf855887b168769e4a7cd3c570ef77fc92a3f859a724f3e631"), looks := true }, kinds := [], alts := [], laidByText := true, laidKinds := [.data, .handle, .pinned], laidTests := true, laidLooks := .later }
def StoreAppendsCardSaid : Prop := Claim7.holds Tryd.pinned (.plain (OpenSpec.ofChange storeAppendsSpec)) storeAppendsCard

/-- THE TIED CARD OF 'soundingslaw05.StoreAny'. -/
def storeAnyCard : Claim7 := { stood := { row := storeAnyRow, standIns := [], harness := (true, "e2a7d5cff7edccbf855887b168769e4a7cd3c570ef77fc92a3f859a724f3e631"), looks := true }, kinds := [], alts := [], laidByText := true, laidKinds := [.data, .handle, .pinned], laidTests := true, laidLooks := .later }
def StoreAnyCardSaid : Prop := Claim7.holds Tryd.pinned (.plain (OpenSpec.ofChange storeAnySpec)) storeAnyCard

/-- THE TIED CARD OF 'soundingslaw05.StoreGrows'. -/
def storeGrowsCard : Claim7 := { stood := { row := storeGrowsRow, standIns := [], harness := (true, "e2a7d5cff7edccbf855887b168769e4a7cd3c570ef77fc92a3f859a724f3e631"), looks := true }, kinds := [], alts := [], laidByText := true, laidKinds := [.data, .handle, .pinned], laidTests := true, laidLooks := .later }
def StoreGrowsCardSaid : Prop := Claim7.holds Tryd.pinned (.plain (OpenSpec.ofChange storeGrowsSpec)) storeGrowsCard

/-- THE SECOND FORM's CARD OF 'soundingslaw05.StoreAppends'. -/
def storeAppendsUptoCard : Claim7 := { stood := { row := storeAppendsUptoRow, standIns := [], harness := (true, "e2a7d5cff7edccbf855887b168769e4a7cd3c570ef77fc92a3f859a724f3e631"), looks := true }, kinds := [], alts := [], laidByText := true, laidKinds := [.data, .handle, .pinned], laidTests := true, laidLooks := .later }
def StoreAppendsUptoCardSaid : Prop := Claim7.holds Tryd.pinned (.plain (OpenSpec.upto storeAppendsSpec)) storeAppendsUptoCard

/-- THE SECOND FORM's CARD OF 'soundingslaw05.StoreAny'. -/
def storeAnyUptoCard : Claim7 := { stood := { row := storeAnyUptoRow, standIns := [], harness := (true, "e2a7d5cff7edccbf855887b168769e4a7cd3c570ef77fc92a3f859a724f3e631"), looks := true }, kinds := [], alts := [], laidByText := true, laidKinds := [.data, .handle, .pinned], laidTests := true, laidLooks := .later }
def StoreAnyUptoCardSaid : Prop := Claim7.holds Tryd.pinned (.plain (OpenSpec.upto storeAnySpec)) storeAnyUptoCard

/-- THE SECOND FORM's CARD OF 'soundingslaw05.StoreGrows'. -/
def storeGrowsUptoCard : Claim7 := { stood := { row := storeGrowsUptoRow, standIns := [], harness := (true, "e2a7d5cff7edccbf855887b168769e4a7cd3c570ef77fc92a3f859a724f3e631"), looks := true }, kinds := [], alts := [], laidByText := true, laidKinds := [.data, .handle, .pinned], laidTests := true, laidLooks := .later }
def StoreGrowsUptoCardSaid : Prop := Claim7.holds Tryd.pinned (.plain (OpenSpec.upto storeGrowsSpec)) storeGrowsUptoCard
end Rows
end Go.Proofs.YtiabnacgfoaihaaDoor

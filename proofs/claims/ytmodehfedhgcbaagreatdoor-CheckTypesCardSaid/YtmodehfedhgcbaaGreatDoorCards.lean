/-
  DERIVED. GIVEN WITH THE SEED: THE CARDS: each row of YtmodehfedhgcbaaGreatDoorRows.lean that lists a variable, with what it lists TIED to the program's text (the seventh form; the later family's looks); each row that meets fmt, with fmt's text TOLD by the authors' own Lean function (tested against real Go, not proved from fmt's source: count such statements apart). THE CARD IS WHAT COUNTS. Prove the row's statement (the work); the ties are given (YtmodehfedhgcbaaGreatDoorTie.lean); close each card by the builder's one call (the guide's Derived/Test/ToyasCard.lean, 'card_holds'). Laid BY PROGRAM, IN A SANDBOX (cutbox-door.mjs). By AI agents, Wed Nov 11 2026. No macro, syntax, notation, axiom, sorry.
-/
import Derived.Test.YtmodehfedhgcbaaGreatDoorRows
import GoSem.ClaimSeven
namespace Go.Proofs.YtmodehfedhgcbaaGreatDoor
namespace Rows

/-- THE TIED CARD OF 'soundingslaw11.CheckTypes'. -/
def checkTypesCard : Claim7 := { stood := { row := checkTypesRow, standIns := [], harness := (true, "3e88e63d3b48beb441d8f675801ec465aecf82b5eb0382600e8250ab08091297"), looks := true }, kinds := [], alts := [], laidByText := true, laidKinds := [.data, .data, .widerDeep, .widerDeep, .data, .data, .data, .data, .data, .data, .handle, .sentinel, .sentinel, .data, .pinned, .pinned, .pinned], laidTests := true, laidLooks := .later }
def CheckTypesCardSaid : Prop := Claim7.holds Tryz.pinned (.plain (OpenSpec.ofChange checkTypesSpec)) checkTypesCard

/-- THE TIED CARD OF 'soundingslaw11.CheckKids'. -/
def checkKidsCard : Claim7 := { stood := { row := checkKidsRow, standIns := [], harness := (true, "3e88e63d3b48beb441d8f675801ec465aecf82b5eb0382600e8250ab08091297"), looks := true }, kinds := [], alts := [], laidByText := true, laidKinds := [.data, .data, .widerDeep, .widerDeep, .data, .data, .data, .data, .data, .data, .handle, .sentinel, .sentinel, .data, .pinned, .pinned, .pinned], laidTests := true, laidLooks := .later }
def CheckKidsCardSaid : Prop := Claim7.holds Tryz.pinned (.plain (OpenSpec.ofChange checkKidsSpec)) checkKidsCard

/-- THE SECOND FORM's CARD OF 'soundingslaw11.CheckTypes'. -/
def checkTypesUptoCard : Claim7 := { stood := { row := checkTypesUptoRow, standIns := [], harness := (true, "3e88e63d3b48beb441d8f675801ec465aecf82b5eb0382600e8250ab08091297"), looks := true }, kinds := [], alts := [], laidByText := true, laidKinds := [.data, .data, .widerDeep, .widerDeep, .data, .data, .data, .data, .data, .data, .handle, .sentinel, .sentinel, .data, .pinned, .pinned, .pinned], laidTests := true, laidLooks := .later }
def CheckTypesUptoCardSaid : Prop := Claim7.holds Tryz.pinned (.plain (OpenSpec.upto checkTypesSpec)) checkTypesUptoCard

/-- THE SECOND FORM's CARD OF 'soundingslaw11.CheckKids'. -/
def checkKidsUptoCard : Claim7 := { stood := { row := checkKidsUptoRow, standIns := [], harness := (true, "3e88e63d3b48beb441d8f675801ec465aecf82b5eb0382600e8250ab08091297"), looks := true }, kinds := [], alts := [], laidByText := true, laidKinds := [.data, .data, .widerDeep, .widerDeep, .data, .data, .data, .data, .data, .data, .handle, .sentinel, .sentinel, .data, .pinned, .pinned, .pinned], laidTests := true, laidLooks := .later }
def CheckKidsUptoCardSaid : Prop := Claim7.holds Tryz.pinned (.plain (OpenSpec.upto checkKidsSpec)) checkKidsUptoCard
end Rows
end Go.Proofs.YtmodehfedhgcbaaGreatDoor

/-
  DERIVED. GIVEN WITH THE SEED: THE CARDS: each row of YtencpjhpedenbaaGreatDoorRows.lean that lists a variable, with what it lists TIED to the program's text (the seventh form; the later family's looks); each row that meets fmt, with fmt's text TOLD by the authors' own Lean function (tested against real Go, not proved from fmt's source: count such statements apart). THE CARD IS WHAT COUNTS. Prove the row's statement (the work); the ties are given (YtencpjhpedenbaaGreatDoorTie.lean); close each card by the builder's one call (the guide's Derived/Test/ToyasCard.lean, 'card_holds'). Laid BY PROGRAM, IN A SANDBOX (cutbox-door.mjs). By AI agents, Wed Nov 11 2026. No macro, syntax, notation, axiom, sorry.
-/
import Derived.Test.YtencpjhpedenbaaGreatDoorRows
import GoSem.ClaimSeven
namespace Go.Proofs.YtencpjhpedenbaaGreatDoor
namespace Rows

/-- THE TIED CARD OF 'soundingslaw13.GroupEnds'. -/
def groupEndsCard : Claim7 := { stood := { row := groupEndsRow, standIns := [], harness := (true, "cc223073789b4c8ada8904c9804345b2033c7bc279f77221b93fbf8391295216"), looks := true }, kinds := [], alts := [], laidByText := true, laidKinds := [.data, .data, .data, .data, .pinned], laidTests := true, laidLooks := .later }
def GroupEndsCardSaid : Prop := Claim7.holds Tryz.pinned (.plain (OpenSpec.ofChange groupEndsSpec)) groupEndsCard

/-- THE SECOND FORM's CARD OF 'soundingslaw13.GroupEnds'. -/
def groupEndsUptoCard : Claim7 := { stood := { row := groupEndsUptoRow, standIns := [], harness := (true, "cc223073789b4c8ada8904c9804345b2033c7bc279f77221b93fbf8391295216"), looks := true }, kinds := [], alts := [], laidByText := true, laidKinds := [.data, .data, .data, .data, .pinned], laidTests := true, laidLooks := .later }
def GroupEndsUptoCardSaid : Prop := Claim7.holds Tryz.pinned (.plain (OpenSpec.upto groupEndsSpec)) groupEndsUptoCard
end Rows
end Go.Proofs.YtencpjhpedenbaaGreatDoor

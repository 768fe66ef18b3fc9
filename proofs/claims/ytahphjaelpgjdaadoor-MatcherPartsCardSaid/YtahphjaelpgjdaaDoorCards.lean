/-
  DERIVED. GIVEN WITH THE SEED: THE CARDS: each row of YtahphjaelpgjdaaDoorRows.lean that lists a variable, with what it lists TIED to the program's text (the seventh form; the later family's looks); each row that meets fmt, with fmt's text TOLD by the authors' own Lean function (tested against real Go, not proved from fmt's source: count such statements apart). THE CARD IS WHAT COUNTS. Prove the row's statement (the work); the ties are given (YtahphjaelpgjdaaDoorTie.lean); close each card by the builder's one call (the guide's Derived/Test/ToyasCard.lean, 'card_holds'). Laid BY PROGRAM, IN A SANDBOX (cutbox-door.mjs). By AI agents, Wed Nov 11 2026. No macro, syntax, notation, axiom, sorry.
-/
import Derived.Test.YtahphjaelpgjdaaDoorRows
import GoSem.ClaimSeven
namespace Go.Proofs.YtahphjaelpgjdaaDoor
namespace Rows

/-- THE TIED CARD OF 'soundingslaw02.RegexLong'. -/
def regexLongCard : Claim7 := { stood := { row := regexLongRow, standIns := [], harness := (true, "a266b9fc25585241dae72ef6bda60611f49cda45c4fe1078a5d0031f61d4f0f7"), looks := true }, kinds := [], alts := [], laidByText := true, laidKinds := [.data, .handle], laidTests := true, laidLooks := .later }
def RegexLongCardSaid : Prop := Claim7.holds Tryd.pinned (.plain (OpenSpec.ofChange regexLongSpec)) regexLongCard

/-- THE TIED CARD OF 'soundingslaw03.MatcherTurned'. -/
def matcherTurnedCard : Claim7 := { stood := { row := matcherTurnedRow, standIns := [], harness := (true, "a266b9fc25585241dae72ef6bda60611f49cda45c4fe1078a5d0031f61d4f0f7"), looks := true }, kinds := [], alts := [], laidByText := true, laidKinds := [.data, .data, .pinned], laidTests := true, laidLooks := .later }
def MatcherTurnedCardSaid : Prop := Claim7.holds Tryd.pinned (.plain (OpenSpec.ofChange matcherTurnedSpec)) matcherTurnedCard

/-- THE TIED CARD OF 'soundingslaw03.MatcherParts'. -/
def matcherPartsCard : Claim7 := { stood := { row := matcherPartsRow, standIns := [], harness := (true, "a266b9fc25585241dae72ef6bda60611f49cda45c4fe1078a5d0031f61d4f0f7"), looks := true }, kinds := [], alts := [], laidByText := true, laidKinds := [.data, .data, .pinned], laidTests := true, laidLooks := .later }
def MatcherPartsCardSaid : Prop := Claim7.holds Tryd.pinned (.plain (OpenSpec.ofChange matcherPartsSpec)) matcherPartsCard

/-- THE SECOND FORM's CARD OF 'soundingslaw02.RegexLong'. -/
def regexLongUptoCard : Claim7 := { stood := { row := regexLongUptoRow, standIns := [], harness := (true, "a266b9fc25585241dae72ef6bda60611f49cda45c4fe1078a5d0031f61d4f0f7"), looks := true }, kinds := [], alts := [], laidByText := true, laidKinds := [.data, .handle], laidTests := true, laidLooks := .later }
def RegexLongUptoCardSaid : Prop := Claim7.holds Tryd.pinned (.plain (OpenSpec.upto regexLongSpec)) regexLongUptoCard

/-- THE SECOND FORM's CARD OF 'soundingslaw03.MatcherTurned'. -/
def matcherTurnedUptoCard : Claim7 := { stood := { row := matcherTurnedUptoRow, standIns := [], harness := (true, "a266b9fc25585241dae72ef6bda60611f49cda45c4fe1078a5d0031f61d4f0f7"), looks := true }, kinds := [], alts := [], laidByText := true, laidKinds := [.data, .data, .pinned], laidTests := true, laidLooks := .later }
def MatcherTurnedUptoCardSaid : Prop := Claim7.holds Tryd.pinned (.plain (OpenSpec.upto matcherTurnedSpec)) matcherTurnedUptoCard

/-- THE SECOND FORM's CARD OF 'soundingslaw03.MatcherParts'. -/
def matcherPartsUptoCard : Claim7 := { stood := { row := matcherPartsUptoRow, standIns := [], harness := (true, "a266b9fc25585241dae72ef6bda60611f49cda45c4fe1078a5d0031f61d4f0f7"), looks := true }, kinds := [], alts := [], laidByText := true, laidKinds := [.data, .data, .pinned], laidTests := true, laidLooks := .later }
def MatcherPartsUptoCardSaid : Prop := Claim7.holds Tryd.pinned (.plain (OpenSpec.upto matcherPartsSpec)) matcherPartsUptoCard
end Rows
end Go.Proofs.YtahphjaelpgjdaaDoor

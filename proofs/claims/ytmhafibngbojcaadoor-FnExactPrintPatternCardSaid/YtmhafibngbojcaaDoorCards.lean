/-
  DERIVED. GIVEN WITH THE SEED: THE CARDS: each row of YtmhafibngbojcaaDoorRows.lean that lists a variable, with what it lists TIED to the program's text (the seventh form; the later family's looks); each row that meets fmt, with fmt's text TOLD by the authors' own Lean function (tested against real Go, not proved from fmt's source: count such statements apart). THE CARD IS WHAT COUNTS. Prove the row's statement (the work); the ties are given (YtmhafibngbojcaaDoorTie.lean); close each card by the builder's one call (the guide's Derived/Test/ToyasCard.lean, 'card_holds'). Laid BY PROGRAM, IN A SANDBOX (cutbox-door.mjs). By AI agents, Wed Nov 11 2026. No macro, syntax, notation, axiom, sorry.
-/
import Derived.Test.YtmhafibngbojcaaDoorRows
import GoSem.ClaimSeven
namespace Go.Proofs.YtmhafibngbojcaaDoor
namespace Rows

/-- THE TIED CARD OF 'laws.FnExactPrintPattern'. -/
def fnExactPrintPatternCard : Claim7 := { stood := { row := fnExactPrintPatternRow, standIns := [], harness := (true, "7f7cfe387a83a1554d3826ab0d55d357138152e84c726947e8ca818a79204d34"), looks := true }, kinds := [], alts := [], laidByText := true, laidKinds := [.data, .data, .data], laidTests := true, laidLooks := .later }
def FnExactPrintPatternCardSaid : Prop := Claim7.holds Tryd.pinned (.plain (OpenSpec.ofChange fnExactPrintPatternSpec)) fnExactPrintPatternCard

/-- THE SECOND FORM's CARD OF 'laws.FnExactPrintPattern'. -/
def fnExactPrintPatternUptoCard : Claim7 := { stood := { row := fnExactPrintPatternUptoRow, standIns := [], harness := (true, "7f7cfe387a83a1554d3826ab0d55d357138152e84c726947e8ca818a79204d34"), looks := true }, kinds := [], alts := [], laidByText := true, laidKinds := [.data, .data, .data], laidTests := true, laidLooks := .later }
def FnExactPrintPatternUptoCardSaid : Prop := Claim7.holds Tryd.pinned (.plain (OpenSpec.upto fnExactPrintPatternSpec)) fnExactPrintPatternUptoCard
end Rows
end Go.Proofs.YtmhafibngbojcaaDoor

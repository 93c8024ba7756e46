/-
  DERIVED. GIVEN WITH THE SEED: THE CARDS: each row of YtijejbdpagbmpaaDoorRows.lean that lists a variable, with what it lists TIED to the program's text (the seventh form; the later family's looks); each row that meets fmt, with fmt's text TOLD by the authors' own Lean function (tested against real Go, not proved from fmt's source: count such statements apart). THE CARD IS WHAT COUNTS. Prove the row's statement (the work); the ties are given (YtijejbdpagbmpaaDoorTie.lean); close each card by the builder's one call (the guide's Derived/Test/ToyasCard.lean, 'card_holds'). Laid BY PROGRAM, IN A SANDBOX (cutbox-door.mjs). By AI agents, Wed Nov 11 2026. No macro, syntax, notation, axiom, sorry.
-/
import Derived.Test.YtijejbdpagbmpaaDoorRows
import GoSem.ClaimSeven
namespace Go.Proofs.YtijejbdpagbmpaaDoor
namespace Rows

/-- THE TIED CARD OF 'laws.FnExactPositions'. -/
def fnExactPositionsCard : Claim7 := { stood := { row := fnExactPositionsRow, standIns := [], harness := (true, "73fa2de2124a66aa68893d6766cd07f93c2cedb4913e41df9b479b9576241b59"), looks := true }, kinds := [], alts := [], laidByText := true, laidKinds := [.data], laidTests := true, laidLooks := .later }
def FnExactPositionsCardSaid : Prop := Claim7.holds Tryd.pinned (.plain (OpenSpec.ofChange fnExactPositionsSpec)) fnExactPositionsCard

/-- THE SECOND FORM's CARD OF 'laws.FnExactPositions'. -/
def fnExactPositionsUptoCard : Claim7 := { stood := { row := fnExactPositionsUptoRow, standIns := [], harness := (true, "73fa2de2124a66aa68893d6766cd07f93c2cedb4913e41df9b479b9576241b59"), looks := true }, kinds := [], alts := [], laidByText := true, laidKinds := [.data], laidTests := true, laidLooks := .later }
def FnExactPositionsUptoCardSaid : Prop := Claim7.holds Tryd.pinned (.plain (OpenSpec.upto fnExactPositionsSpec)) fnExactPositionsUptoCard
end Rows
end Go.Proofs.YtijejbdpagbmpaaDoor

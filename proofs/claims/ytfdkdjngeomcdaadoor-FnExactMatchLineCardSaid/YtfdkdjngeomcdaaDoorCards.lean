/-
  DERIVED. GIVEN WITH THE SEED: THE CARDS: each row of YtfdkdjngeomcdaaDoorRows.lean that lists a variable, with what it lists TIED to the program's text (the seventh form; the later family's looks); each row that meets fmt, with fmt's text TOLD by the authors' own Lean function (tested against real Go, not proved from fmt's source: count such statements apart). THE CARD IS WHAT COUNTS. Prove the row's statement (the work); the ties are given (YtfdkdjngeomcdaaDoorTie.lean); close each card by the builder's one call (the guide's Derived/Test/ToyasCard.lean, 'card_holds'). Laid BY PROGRAM, IN A SANDBOX (cutbox-door.mjs). By AI agents, Wed Nov 11 2026. No macro, syntax, notation, axiom, sorry.
-/
import Derived.Test.YtfdkdjngeomcdaaDoorRows
import GoSem.ClaimSeven
namespace Go.Proofs.YtfdkdjngeomcdaaDoor
namespace Rows

/-- THE TIED CARD OF 'laws.FnExactMatchLine'. -/
def fnExactMatchLineCard : Claim7 := { stood := { row := fnExactMatchLineRow, standIns := [], harness := (true, "331ac80898f0e3280c038c91466d1fdaf9264fcd5fe0404c1f71210cefe4a619"), looks := true }, kinds := [], alts := [], laidByText := true, laidKinds := [.data], laidTests := true, laidLooks := .later }
def FnExactMatchLineCardSaid : Prop := Claim7.holds Tryd.pinned (.plain (OpenSpec.ofChange fnExactMatchLineSpec)) fnExactMatchLineCard

/-- THE SECOND FORM's CARD OF 'laws.FnExactMatchLine'. -/
def fnExactMatchLineUptoCard : Claim7 := { stood := { row := fnExactMatchLineUptoRow, standIns := [], harness := (true, "331ac80898f0e3280c038c91466d1fdaf9264fcd5fe0404c1f71210cefe4a619"), looks := true }, kinds := [], alts := [], laidByText := true, laidKinds := [.data], laidTests := true, laidLooks := .later }
def FnExactMatchLineUptoCardSaid : Prop := Claim7.holds Tryd.pinned (.plain (OpenSpec.upto fnExactMatchLineSpec)) fnExactMatchLineUptoCard
end Rows
end Go.Proofs.YtfdkdjngeomcdaaDoor

/-
  DERIVED. GIVEN WITH THE SEED: THE CARDS: each row of YtcmofgehhdfifaaGreatDoorRows.lean that lists a variable, with what it lists TIED to the program's text (the seventh form; the later family's looks); each row that meets fmt, with fmt's text TOLD by the authors' own Lean function (tested against real Go, not proved from fmt's source: count such statements apart). THE CARD IS WHAT COUNTS. Prove the row's statement (the work); the ties are given (YtcmofgehhdfifaaGreatDoorTie.lean); close each card by the builder's one call (the guide's Derived/Test/ToyasCard.lean, 'card_holds'). Laid BY PROGRAM, IN A SANDBOX (cutbox-door.mjs). By AI agents, Wed Nov 11 2026. No macro, syntax, notation, axiom, sorry.
-/
import Derived.Test.YtcmofgehhdfifaaGreatDoorRows
import GoSem.ClaimSeven
namespace Go.Proofs.YtcmofgehhdfifaaGreatDoor
namespace Rows

/-- THE TIED CARD OF 'laws.FnPrint'. -/
def fnPrintCard : Claim7 := { stood := { row := fnPrintRow, standIns := [], harness := (true, "267a89f31493b83731b7cefba262582b1f8babfe7d511b585178504d4965f9d3"), looks := true }, kinds := [], alts := [], laidByText := true, laidKinds := [.data, .data, .data], laidTests := true, laidLooks := .later }
def FnPrintCardSaid : Prop := Claim7.holds Tryz.pinned (.plain (OpenSpec.ofChange fnPrintSpec)) fnPrintCard

/-- THE SECOND FORM's CARD OF 'laws.FnPrint'. -/
def fnPrintUptoCard : Claim7 := { stood := { row := fnPrintUptoRow, standIns := [], harness := (true, "267a89f31493b83731b7cefba262582b1f8babfe7d511b585178504d4965f9d3"), looks := true }, kinds := [], alts := [], laidByText := true, laidKinds := [.data, .data, .data], laidTests := true, laidLooks := .later }
def FnPrintUptoCardSaid : Prop := Claim7.holds Tryz.pinned (.plain (OpenSpec.upto fnPrintSpec)) fnPrintUptoCard
end Rows
end Go.Proofs.YtcmofgehhdfifaaGreatDoor

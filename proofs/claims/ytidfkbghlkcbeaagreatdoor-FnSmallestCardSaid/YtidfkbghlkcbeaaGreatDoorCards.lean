/-
  DERIVED. GIVEN WITH THE SEED: THE CARDS: each row of YtidfkbghlkcbeaaGreatDoorRows.lean that lists a variable, with what it lists TIED to the program's text (the seventh form; the later family's looks); each row that meets fmt, with fmt's text TOLD by the authors' own Lean function (tested against real Go, not proved from fmt's source: count such statements apart). THE CARD IS WHAT COUNTS. Prove the row's statement (the work); the ties are given (YtidfkbghlkcbeaaGreatDoorTie.lean); close each card by the builder's one call (the guide's Derived/Test/ToyasCard.lean, 'card_holds'). Laid BY PROGRAM, IN A SANDBOX (cutbox-door.mjs). By AI agents, Wed Nov 11 2026. No macro, syntax, notation, axiom, sorry.
-/
import Derived.Test.YtidfkbghlkcbeaaGreatDoorRows
import GoSem.ClaimSeven
namespace Go.Proofs.YtidfkbghlkcbeaaGreatDoor
namespace Rows

/-- THE TIED CARD OF 'laws.FnSmallest'. -/
def fnSmallestCard : Claim7 := { stood := { row := fnSmallestRow, standIns := [], harness := (true, "af5e473e3023a484aef2d1140de6b0fb612afbcbaf3955f2c2c27399fa3c3e69"), looks := true }, kinds := [], alts := [], laidByText := true, laidKinds := [.data], laidTests := true, laidLooks := .later }
def FnSmallestCardSaid : Prop := Claim7.holds Tryz.pinned (.plain (OpenSpec.ofChange fnSmallestSpec)) fnSmallestCard

/-- THE SECOND FORM's CARD OF 'laws.FnSmallest'. -/
def fnSmallestUptoCard : Claim7 := { stood := { row := fnSmallestUptoRow, standIns := [], harness := (true, "af5e473e3023a484aef2d1140de6b0fb612afbcbaf3955f2c2c27399fa3c3e69"), looks := true }, kinds := [], alts := [], laidByText := true, laidKinds := [.data], laidTests := true, laidLooks := .later }
def FnSmallestUptoCardSaid : Prop := Claim7.holds Tryz.pinned (.plain (OpenSpec.upto fnSmallestSpec)) fnSmallestUptoCard
end Rows
end Go.Proofs.YtidfkbghlkcbeaaGreatDoor

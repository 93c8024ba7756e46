/-
  DERIVED. GIVEN WITH THE SEED: THE CARDS: each row of YtpmcjimgkabpeaaGreatDoorRows.lean that lists a variable, with what it lists TIED to the program's text (the seventh form; the later family's looks); each row that meets fmt, with fmt's text TOLD by the authors' own Lean function (tested against real Go, not proved from fmt's source: count such statements apart). THE CARD IS WHAT COUNTS. Prove the row's statement (the work); the ties are given (YtpmcjimgkabpeaaGreatDoorTie.lean); close each card by the builder's one call (the guide's Derived/Test/ToyasCard.lean, 'card_holds'). Laid BY PROGRAM, IN A SANDBOX (cutbox-door.mjs). By AI agents, Wed Nov 11 2026. No macro, syntax, notation, axiom, sorry.
-/
import Derived.Test.YtpmcjimgkabpeaaGreatDoorRows
import GoSem.ClaimSeven
namespace Go.Proofs.YtpmcjimgkabpeaaGreatDoor
namespace Rows

/-- THE TIED CARD OF 'laws.FnDfa'. -/
def fnDfaCard : Claim7 := { stood := { row := fnDfaRow, standIns := [], harness := (true, "3643197bb0ecf96a9cc755d03848f32dee3d36bee58295658a3dc478a110be90"), looks := true }, kinds := [], alts := [], laidByText := true, laidKinds := [.data], laidTests := true, laidLooks := .later }
def FnDfaCardSaid : Prop := Claim7.holds Tryz.pinned (.plain (OpenSpec.ofChange fnDfaSpec)) fnDfaCard

/-- THE SECOND FORM's CARD OF 'laws.FnDfa'. -/
def fnDfaUptoCard : Claim7 := { stood := { row := fnDfaUptoRow, standIns := [], harness := (true, "3643197bb0ecf96a9cc755d03848f32dee3d36bee58295658a3dc478a110be90"), looks := true }, kinds := [], alts := [], laidByText := true, laidKinds := [.data], laidTests := true, laidLooks := .later }
def FnDfaUptoCardSaid : Prop := Claim7.holds Tryz.pinned (.plain (OpenSpec.upto fnDfaSpec)) fnDfaUptoCard
end Rows
end Go.Proofs.YtpmcjimgkabpeaaGreatDoor

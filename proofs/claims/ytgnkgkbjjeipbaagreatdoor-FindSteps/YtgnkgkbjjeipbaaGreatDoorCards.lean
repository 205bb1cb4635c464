/-
  DERIVED. GIVEN WITH THE SEED: THE CARDS: each row of YtgnkgkbjjeipbaaGreatDoorRows.lean that lists a variable, with what it lists TIED to the program's text (the seventh form; the later family's looks); each row that meets fmt, with fmt's text TOLD by the authors' own Lean function (tested against real Go, not proved from fmt's source: count such statements apart). THE CARD IS WHAT COUNTS. Prove the row's statement (the work); the ties are given (YtgnkgkbjjeipbaaGreatDoorTie.lean); close each card by the builder's one call (the guide's Derived/Test/ToyasCard.lean, 'card_holds'). Laid BY PROGRAM, IN A SANDBOX (cutbox-door.mjs). By AI agents, Wed Nov 11 2026. No macro, syntax, notation, axiom, sorry.
-/
import Derived.Test.YtgnkgkbjjeipbaaGreatDoorRows
import GoSem.ClaimSeven
namespace Go.Proofs.YtgnkgkbjjeipbaaGreatDoor
namespace Rows

/-- THE TIED CARD OF 'stepstonelaw11.FindSteps'. -/
def findStepsCard : Claim7 := { stood := { row := findStepsRow, standIns := [], harness := (true, "3b4cc252c2b5b3512cd20a85a53bf416dd58be86b1e463421800726e948ec7e7"), looks := false }, kinds := [], alts := [], laidByText := true, laidKinds := [.data], laidTests := true, laidLooks := .later }
def FindStepsCardSaid : Prop := Claim7.holds Tryz.pinned (.plain (OpenSpec.ofChange findStepsSpec)) findStepsCard

/-- THE SECOND FORM's CARD OF 'stepstonelaw11.FindSteps'. -/
def findStepsUptoCard : Claim7 := { stood := { row := findStepsUptoRow, standIns := [], harness := (true, "3b4cc252c2b5b3512cd20a85a53bf416dd58be86b1e463421800726e948ec7e7"), looks := false }, kinds := [], alts := [], laidByText := true, laidKinds := [.data], laidTests := true, laidLooks := .later }
def FindStepsUptoCardSaid : Prop := Claim7.holds Tryz.pinned (.plain (OpenSpec.upto findStepsSpec)) findStepsUptoCard
end Rows
end Go.Proofs.YtgnkgkbjjeipbaaGreatDoor

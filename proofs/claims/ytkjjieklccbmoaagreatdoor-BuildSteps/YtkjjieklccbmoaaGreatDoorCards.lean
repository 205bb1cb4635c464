/-
  DERIVED. GIVEN WITH THE SEED: THE CARDS: each row of YtkjjieklccbmoaaGreatDoorRows.lean that lists a variable, with what it lists TIED to the program's text (the seventh form; the later family's looks); each row that meets fmt, with fmt's text TOLD by the authors' own Lean function (tested against real Go, not proved from fmt's source: count such statements apart). THE CARD IS WHAT COUNTS. Prove the row's statement (the work); the ties are given (YtkjjieklccbmoaaGreatDoorTie.lean); close each card by the builder's one call (the guide's Derived/Test/ToyasCard.lean, 'card_holds'). Laid BY PROGRAM, IN A SANDBOX (cutbox-door.mjs). By AI agents, Wed Nov 11 2026. No macro, syntax, notation, axiom, sorry.
-/
import Derived.Test.YtkjjieklccbmoaaGreatDoorRows
import GoSem.ClaimSeven
namespace Go.Proofs.YtkjjieklccbmoaaGreatDoor
namespace Rows

/-- THE TIED CARD OF 'stepstonelaw13.BuildSteps'. -/
def buildStepsCard : Claim7 := { stood := { row := buildStepsRow, standIns := [], harness := (true, "924a84e69f34b652e8307c40d0d35fd11644f62b9cf9942ce47eb18dca9cd8b5"), looks := false }, kinds := [], alts := [], laidByText := true, laidKinds := [.data], laidTests := true, laidLooks := .later }
def BuildStepsCardSaid : Prop := Claim7.holds Tryz.pinned (.plain (OpenSpec.ofChange buildStepsSpec)) buildStepsCard

/-- THE SECOND FORM's CARD OF 'stepstonelaw13.BuildSteps'. -/
def buildStepsUptoCard : Claim7 := { stood := { row := buildStepsUptoRow, standIns := [], harness := (true, "924a84e69f34b652e8307c40d0d35fd11644f62b9cf9942ce47eb18dca9cd8b5"), looks := false }, kinds := [], alts := [], laidByText := true, laidKinds := [.data], laidTests := true, laidLooks := .later }
def BuildStepsUptoCardSaid : Prop := Claim7.holds Tryz.pinned (.plain (OpenSpec.upto buildStepsSpec)) buildStepsUptoCard
end Rows
end Go.Proofs.YtkjjieklccbmoaaGreatDoor

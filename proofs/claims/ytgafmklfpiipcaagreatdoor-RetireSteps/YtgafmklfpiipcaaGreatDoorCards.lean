/-
  DERIVED. GIVEN WITH THE SEED: THE CARDS: each row of YtgafmklfpiipcaaGreatDoorRows.lean that lists a variable, with what it lists TIED to the program's text (the seventh form; the later family's looks); each row that meets fmt, with fmt's text TOLD by the authors' own Lean function (tested against real Go, not proved from fmt's source: count such statements apart). THE CARD IS WHAT COUNTS. Prove the row's statement (the work); the ties are given (YtgafmklfpiipcaaGreatDoorTie.lean); close each card by the builder's one call (the guide's Derived/Test/ToyasCard.lean, 'card_holds'). Laid BY PROGRAM, IN A SANDBOX (cutbox-door.mjs). By AI agents, Wed Nov 11 2026. No macro, syntax, notation, axiom, sorry.
-/
import Derived.Test.YtgafmklfpiipcaaGreatDoorRows
import GoSem.ClaimSeven
namespace Go.Proofs.YtgafmklfpiipcaaGreatDoor
namespace Rows

/-- THE TIED CARD OF 'stepstonelaw14.RetireSteps'. -/
def retireStepsCard : Claim7 := { stood := { row := retireStepsRow, standIns := [], harness := (true, "90e0bf2d49eb816682fc9abb9962e801d5eaf8a7585c30a12c576ffbe2b868c5"), looks := false }, kinds := [], alts := [], laidByText := true, laidKinds := [.data], laidTests := true, laidLooks := .later }
def RetireStepsCardSaid : Prop := Claim7.holds Tryz.pinned (.plain (OpenSpec.ofChange retireStepsSpec)) retireStepsCard

/-- THE SECOND FORM's CARD OF 'stepstonelaw14.RetireSteps'. -/
def retireStepsUptoCard : Claim7 := { stood := { row := retireStepsUptoRow, standIns := [], harness := (true, "90e0bf2d49eb816682fc9abb9962e801d5eaf8a7585c30a12c576ffbe2b868c5"), looks := false }, kinds := [], alts := [], laidByText := true, laidKinds := [.data], laidTests := true, laidLooks := .later }
def RetireStepsUptoCardSaid : Prop := Claim7.holds Tryz.pinned (.plain (OpenSpec.upto retireStepsSpec)) retireStepsUptoCard
end Rows
end Go.Proofs.YtgafmklfpiipcaaGreatDoor

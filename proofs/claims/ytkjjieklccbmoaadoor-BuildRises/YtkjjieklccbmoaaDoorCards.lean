/-
  DERIVED. GIVEN WITH THE SEED: THE CARDS: each row of YtkjjieklccbmoaaDoorRows.lean that lists a variable, with what it lists TIED to the program's text (the seventh form; the later family's looks); each row that meets fmt, with fmt's text TOLD by the authors' own Lean function (tested against real Go, not proved from fmt's source: count such statements apart). THE CARD IS WHAT COUNTS. Prove the row's statement (the work); the ties are given (YtkjjieklccbmoaaDoorTie.lean); close each card by the builder's one call (the guide's Derived/Test/ToyasCard.lean, 'card_holds'). Laid BY PROGRAM, IN A SANDBOX (cutbox-door.mjs). By AI agents, Wed Nov 11 2026. No macro, syntax, notation, axiom, sorry.
-/
import Derived.Test.YtkjjieklccbmoaaDoorRows
import GoSem.ClaimSeven
namespace Go.Proofs.YtkjjieklccbmoaaDoor
namespace Rows

/-- THE TIED CARD OF 'stepstonelaw13.BuildAlone'. -/
def buildAloneCard : Claim7 := { stood := { row := buildAloneRow, standIns := [], harness := (true, "7598bd54c92d53e360db6de8ec306489af839585ba1e399dd7dd108781c18b49"), looks := false }, kinds := [], alts := [], laidByText := true, laidKinds := [.data], laidTests := true, laidLooks := .later }
def BuildAloneCardSaid : Prop := Claim7.holds Tryd.pinned (.plain (OpenSpec.ofChange buildAloneSpec)) buildAloneCard

/-- THE TIED CARD OF 'stepstonelaw13.BuildDeleted'. -/
def buildDeletedCard : Claim7 := { stood := { row := buildDeletedRow, standIns := [], harness := (true, "7598bd54c92d53e360db6de8ec306489af839585ba1e399dd7dd108781c18b49"), looks := false }, kinds := [], alts := [], laidByText := true, laidKinds := [.data], laidTests := true, laidLooks := .later }
def BuildDeletedCardSaid : Prop := Claim7.holds Tryd.pinned (.plain (OpenSpec.ofChange buildDeletedSpec)) buildDeletedCard

/-- THE TIED CARD OF 'stepstonelaw13.BuildOther'. -/
def buildOtherCard : Claim7 := { stood := { row := buildOtherRow, standIns := [], harness := (true, "7598bd54c92d53e360db6de8ec306489af839585ba1e399dd7dd108781c18b49"), looks := false }, kinds := [], alts := [], laidByText := true, laidKinds := [.data], laidTests := true, laidLooks := .later }
def BuildOtherCardSaid : Prop := Claim7.holds Tryd.pinned (.plain (OpenSpec.ofChange buildOtherSpec)) buildOtherCard

/-- THE TIED CARD OF 'stepstonelaw13.BuildRises'. -/
def buildRisesCard : Claim7 := { stood := { row := buildRisesRow, standIns := [], harness := (true, "7598bd54c92d53e360db6de8ec306489af839585ba1e399dd7dd108781c18b49"), looks := false }, kinds := [], alts := [], laidByText := true, laidKinds := [.data], laidTests := true, laidLooks := .later }
def BuildRisesCardSaid : Prop := Claim7.holds Tryd.pinned (.plain (OpenSpec.ofChange buildRisesSpec)) buildRisesCard

/-- THE TIED CARD OF 'stepstonelaw13.BuildAgain'. -/
def buildAgainCard : Claim7 := { stood := { row := buildAgainRow, standIns := [], harness := (true, "7598bd54c92d53e360db6de8ec306489af839585ba1e399dd7dd108781c18b49"), looks := false }, kinds := [], alts := [], laidByText := true, laidKinds := [.data], laidTests := true, laidLooks := .later }
def BuildAgainCardSaid : Prop := Claim7.holds Tryd.pinned (.plain (OpenSpec.ofChange buildAgainSpec)) buildAgainCard

/-- THE SECOND FORM's CARD OF 'stepstonelaw13.BuildAlone'. -/
def buildAloneUptoCard : Claim7 := { stood := { row := buildAloneUptoRow, standIns := [], harness := (true, "7598bd54c92d53e360db6de8ec306489af839585ba1e399dd7dd108781c18b49"), looks := false }, kinds := [], alts := [], laidByText := true, laidKinds := [.data], laidTests := true, laidLooks := .later }
def BuildAloneUptoCardSaid : Prop := Claim7.holds Tryd.pinned (.plain (OpenSpec.upto buildAloneSpec)) buildAloneUptoCard

/-- THE SECOND FORM's CARD OF 'stepstonelaw13.BuildDeleted'. -/
def buildDeletedUptoCard : Claim7 := { stood := { row := buildDeletedUptoRow, standIns := [], harness := (true, "7598bd54c92d53e360db6de8ec306489af839585ba1e399dd7dd108781c18b49"), looks := false }, kinds := [], alts := [], laidByText := true, laidKinds := [.data], laidTests := true, laidLooks := .later }
def BuildDeletedUptoCardSaid : Prop := Claim7.holds Tryd.pinned (.plain (OpenSpec.upto buildDeletedSpec)) buildDeletedUptoCard

/-- THE SECOND FORM's CARD OF 'stepstonelaw13.BuildOther'. -/
def buildOtherUptoCard : Claim7 := { stood := { row := buildOtherUptoRow, standIns := [], harness := (true, "7598bd54c92d53e360db6de8ec306489af839585ba1e399dd7dd108781c18b49"), looks := false }, kinds := [], alts := [], laidByText := true, laidKinds := [.data], laidTests := true, laidLooks := .later }
def BuildOtherUptoCardSaid : Prop := Claim7.holds Tryd.pinned (.plain (OpenSpec.upto buildOtherSpec)) buildOtherUptoCard

/-- THE SECOND FORM's CARD OF 'stepstonelaw13.BuildRises'. -/
def buildRisesUptoCard : Claim7 := { stood := { row := buildRisesUptoRow, standIns := [], harness := (true, "7598bd54c92d53e360db6de8ec306489af839585ba1e399dd7dd108781c18b49"), looks := false }, kinds := [], alts := [], laidByText := true, laidKinds := [.data], laidTests := true, laidLooks := .later }
def BuildRisesUptoCardSaid : Prop := Claim7.holds Tryd.pinned (.plain (OpenSpec.upto buildRisesSpec)) buildRisesUptoCard

/-- THE SECOND FORM's CARD OF 'stepstonelaw13.BuildAgain'. -/
def buildAgainUptoCard : Claim7 := { stood := { row := buildAgainUptoRow, standIns := [], harness := (true, "7598bd54c92d53e360db6de8ec306489af839585ba1e399dd7dd108781c18b49"), looks := false }, kinds := [], alts := [], laidByText := true, laidKinds := [.data], laidTests := true, laidLooks := .later }
def BuildAgainUptoCardSaid : Prop := Claim7.holds Tryd.pinned (.plain (OpenSpec.upto buildAgainSpec)) buildAgainUptoCard
end Rows
end Go.Proofs.YtkjjieklccbmoaaDoor

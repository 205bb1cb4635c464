/-
  DERIVED. GIVEN WITH THE SEED: THE CARDS: each row of YtgbgaphmoemokaaDoorRows.lean that lists a variable, with what it lists TIED to the program's text (the seventh form; the later family's looks); each row that meets fmt, with fmt's text TOLD by the authors' own Lean function (tested against real Go, not proved from fmt's source: count such statements apart). THE CARD IS WHAT COUNTS. Prove the row's statement (the work); the ties are given (YtgbgaphmoemokaaDoorTie.lean); close each card by the builder's one call (the guide's Derived/Test/ToyasCard.lean, 'card_holds'). Laid BY PROGRAM, IN A SANDBOX (cutbox-door.mjs). By AI agents, Wed Nov 11 2026. No macro, syntax, notation, axiom, sorry.
-/
import Derived.Test.YtgbgaphmoemokaaDoorRows
import GoSem.ClaimSeven
namespace Go.Proofs.YtgbgaphmoemokaaDoor
namespace Rows

/-- THE TIED CARD OF 'stepstonelaw04.PlanRight'. -/
def planRightCard : Claim7 := { stood := { row := planRightRow, standIns := [], harness := (true, "e3d404ef9abe130c130384d299250e9f91cc40664bec313a866518bcdb2f0e4d"), looks := false }, kinds := [], alts := [], laidByText := true, laidKinds := [.data], laidTests := true, laidLooks := .later }
def PlanRightCardSaid : Prop := Claim7.holds Tryd.pinned (.plain (OpenSpec.ofChange planRightSpec)) planRightCard

/-- THE TIED CARD OF 'stepstonelaw04.PlanCells'. -/
def planCellsCard : Claim7 := { stood := { row := planCellsRow, standIns := [], harness := (true, "e3d404ef9abe130c130384d299250e9f91cc40664bec313a866518bcdb2f0e4d"), looks := false }, kinds := [], alts := [], laidByText := true, laidKinds := [.data], laidTests := true, laidLooks := .later }
def PlanCellsCardSaid : Prop := Claim7.holds Tryd.pinned (.plain (OpenSpec.ofChange planCellsSpec)) planCellsCard

/-- THE TIED CARD OF 'stepstonelaw04.PlanWhere'. -/
def planWhereCard : Claim7 := { stood := { row := planWhereRow, standIns := [], harness := (true, "e3d404ef9abe130c130384d299250e9f91cc40664bec313a866518bcdb2f0e4d"), looks := false }, kinds := [], alts := [], laidByText := true, laidKinds := [.data], laidTests := true, laidLooks := .later }
def PlanWhereCardSaid : Prop := Claim7.holds Tryd.pinned (.plain (OpenSpec.ofChange planWhereSpec)) planWhereCard

/-- THE TIED CARD OF 'stepstonelaw04.PlanApart'. -/
def planApartCard : Claim7 := { stood := { row := planApartRow, standIns := [], harness := (true, "e3d404ef9abe130c130384d299250e9f91cc40664bec313a866518bcdb2f0e4d"), looks := false }, kinds := [], alts := [], laidByText := true, laidKinds := [.data], laidTests := true, laidLooks := .later }
def PlanApartCardSaid : Prop := Claim7.holds Tryd.pinned (.plain (OpenSpec.ofChange planApartSpec)) planApartCard

/-- THE TIED CARD OF 'stepstonelaw04.PlanWhole'. -/
def planWholeCard : Claim7 := { stood := { row := planWholeRow, standIns := [], harness := (true, "e3d404ef9abe130c130384d299250e9f91cc40664bec313a866518bcdb2f0e4d"), looks := false }, kinds := [], alts := [], laidByText := true, laidKinds := [.data], laidTests := true, laidLooks := .later }
def PlanWholeCardSaid : Prop := Claim7.holds Tryd.pinned (.plain (OpenSpec.ofChange planWholeSpec)) planWholeCard

/-- THE TIED CARD OF 'stepstonelaw04.PlanMore'. -/
def planMoreCard : Claim7 := { stood := { row := planMoreRow, standIns := [], harness := (true, "e3d404ef9abe130c130384d299250e9f91cc40664bec313a866518bcdb2f0e4d"), looks := false }, kinds := [], alts := [], laidByText := true, laidKinds := [.data], laidTests := true, laidLooks := .later }
def PlanMoreCardSaid : Prop := Claim7.holds Tryd.pinned (.plain (OpenSpec.ofChange planMoreSpec)) planMoreCard

/-- THE SECOND FORM's CARD OF 'stepstonelaw04.PlanRight'. -/
def planRightUptoCard : Claim7 := { stood := { row := planRightUptoRow, standIns := [], harness := (true, "e3d404ef9abe130c130384d299250e9f91cc40664bec313a866518bcdb2f0e4d"), looks := false }, kinds := [], alts := [], laidByText := true, laidKinds := [.data], laidTests := true, laidLooks := .later }
def PlanRightUptoCardSaid : Prop := Claim7.holds Tryd.pinned (.plain (OpenSpec.upto planRightSpec)) planRightUptoCard

/-- THE SECOND FORM's CARD OF 'stepstonelaw04.PlanCells'. -/
def planCellsUptoCard : Claim7 := { stood := { row := planCellsUptoRow, standIns := [], harness := (true, "e3d404ef9abe130c130384d299250e9f91cc40664bec313a866518bcdb2f0e4d"), looks := false }, kinds := [], alts := [], laidByText := true, laidKinds := [.data], laidTests := true, laidLooks := .later }
def PlanCellsUptoCardSaid : Prop := Claim7.holds Tryd.pinned (.plain (OpenSpec.upto planCellsSpec)) planCellsUptoCard

/-- THE SECOND FORM's CARD OF 'stepstonelaw04.PlanWhere'. -/
def planWhereUptoCard : Claim7 := { stood := { row := planWhereUptoRow, standIns := [], harness := (true, "e3d404ef9abe130c130384d299250e9f91cc40664bec313a866518bcdb2f0e4d"), looks := false }, kinds := [], alts := [], laidByText := true, laidKinds := [.data], laidTests := true, laidLooks := .later }
def PlanWhereUptoCardSaid : Prop := Claim7.holds Tryd.pinned (.plain (OpenSpec.upto planWhereSpec)) planWhereUptoCard

/-- THE SECOND FORM's CARD OF 'stepstonelaw04.PlanApart'. -/
def planApartUptoCard : Claim7 := { stood := { row := planApartUptoRow, standIns := [], harness := (true, "e3d404ef9abe130c130384d299250e9f91cc40664bec313a866518bcdb2f0e4d"), looks := false }, kinds := [], alts := [], laidByText := true, laidKinds := [.data], laidTests := true, laidLooks := .later }
def PlanApartUptoCardSaid : Prop := Claim7.holds Tryd.pinned (.plain (OpenSpec.upto planApartSpec)) planApartUptoCard

/-- THE SECOND FORM's CARD OF 'stepstonelaw04.PlanWhole'. -/
def planWholeUptoCard : Claim7 := { stood := { row := planWholeUptoRow, standIns := [], harness := (true, "e3d404ef9abe130c130384d299250e9f91cc40664bec313a866518bcdb2f0e4d"), looks := false }, kinds := [], alts := [], laidByText := true, laidKinds := [.data], laidTests := true, laidLooks := .later }
def PlanWholeUptoCardSaid : Prop := Claim7.holds Tryd.pinned (.plain (OpenSpec.upto planWholeSpec)) planWholeUptoCard

/-- THE SECOND FORM's CARD OF 'stepstonelaw04.PlanMore'. -/
def planMoreUptoCard : Claim7 := { stood := { row := planMoreUptoRow, standIns := [], harness := (true, "e3d404ef9abe130c130384d299250e9f91cc40664bec313a866518bcdb2f0e4d"), looks := false }, kinds := [], alts := [], laidByText := true, laidKinds := [.data], laidTests := true, laidLooks := .later }
def PlanMoreUptoCardSaid : Prop := Claim7.holds Tryd.pinned (.plain (OpenSpec.upto planMoreSpec)) planMoreUptoCard
end Rows
end Go.Proofs.YtgbgaphmoemokaaDoor

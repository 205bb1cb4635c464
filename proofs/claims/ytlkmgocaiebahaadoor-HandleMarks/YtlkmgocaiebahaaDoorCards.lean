/-
  DERIVED. GIVEN WITH THE SEED: THE CARDS: each row of YtlkmgocaiebahaaDoorRows.lean that lists a variable, with what it lists TIED to the program's text (the seventh form; the later family's looks); each row that meets fmt, with fmt's text TOLD by the authors' own Lean function (tested against real Go, not proved from fmt's source: count such statements apart). THE CARD IS WHAT COUNTS. Prove the row's statement (the work); the ties are given (YtlkmgocaiebahaaDoorTie.lean); close each card by the builder's one call (the guide's Derived/Test/ToyasCard.lean, 'card_holds'). Laid BY PROGRAM, IN A SANDBOX (cutbox-door.mjs). By AI agents, Wed Nov 11 2026. No macro, syntax, notation, axiom, sorry.
-/
import Derived.Test.YtlkmgocaiebahaaDoorRows
import GoSem.ClaimSeven
namespace Go.Proofs.YtlkmgocaiebahaaDoor
namespace Rows

/-- THE TIED CARD OF 'stepstonelaw01.HandlePacks'. -/
def handlePacksCard : Claim7 := { stood := { row := handlePacksRow, standIns := [], harness := (true, "b36f92fb2381185dfda4eae340e506bb6ca2c37e8e84eb18718242d8dcd49757"), looks := false }, kinds := [], alts := [], laidByText := true, laidKinds := [.data], laidTests := true, laidLooks := .later }
def HandlePacksCardSaid : Prop := Claim7.holds Tryd.pinned (.plain (OpenSpec.ofChange handlePacksSpec)) handlePacksCard

/-- THE TIED CARD OF 'stepstonelaw01.HandleParts'. -/
def handlePartsCard : Claim7 := { stood := { row := handlePartsRow, standIns := [], harness := (true, "b36f92fb2381185dfda4eae340e506bb6ca2c37e8e84eb18718242d8dcd49757"), looks := false }, kinds := [], alts := [], laidByText := true, laidKinds := [.data], laidTests := true, laidLooks := .later }
def HandlePartsCardSaid : Prop := Claim7.holds Tryd.pinned (.plain (OpenSpec.ofChange handlePartsSpec)) handlePartsCard

/-- THE TIED CARD OF 'stepstonelaw01.HandleBack'. -/
def handleBackCard : Claim7 := { stood := { row := handleBackRow, standIns := [], harness := (true, "b36f92fb2381185dfda4eae340e506bb6ca2c37e8e84eb18718242d8dcd49757"), looks := false }, kinds := [], alts := [], laidByText := true, laidKinds := [.data], laidTests := true, laidLooks := .later }
def HandleBackCardSaid : Prop := Claim7.holds Tryd.pinned (.plain (OpenSpec.ofChange handleBackSpec)) handleBackCard

/-- THE TIED CARD OF 'stepstonelaw01.HandleMarks'. -/
def handleMarksCard : Claim7 := { stood := { row := handleMarksRow, standIns := [], harness := (true, "b36f92fb2381185dfda4eae340e506bb6ca2c37e8e84eb18718242d8dcd49757"), looks := false }, kinds := [], alts := [], laidByText := true, laidKinds := [.data], laidTests := true, laidLooks := .later }
def HandleMarksCardSaid : Prop := Claim7.holds Tryd.pinned (.plain (OpenSpec.ofChange handleMarksSpec)) handleMarksCard

/-- THE TIED CARD OF 'stepstonelaw01.HandleApart'. -/
def handleApartCard : Claim7 := { stood := { row := handleApartRow, standIns := [], harness := (true, "b36f92fb2381185dfda4eae340e506bb6ca2c37e8e84eb18718242d8dcd49757"), looks := false }, kinds := [], alts := [], laidByText := true, laidKinds := [.data], laidTests := true, laidLooks := .later }
def HandleApartCardSaid : Prop := Claim7.holds Tryd.pinned (.plain (OpenSpec.ofChange handleApartSpec)) handleApartCard

/-- THE TIED CARD OF 'stepstonelaw01.HandleWhole'. -/
def handleWholeCard : Claim7 := { stood := { row := handleWholeRow, standIns := [], harness := (true, "b36f92fb2381185dfda4eae340e506bb6ca2c37e8e84eb18718242d8dcd49757"), looks := false }, kinds := [], alts := [], laidByText := true, laidKinds := [.data], laidTests := true, laidLooks := .later }
def HandleWholeCardSaid : Prop := Claim7.holds Tryd.pinned (.plain (OpenSpec.ofChange handleWholeSpec)) handleWholeCard

/-- THE SECOND FORM's CARD OF 'stepstonelaw01.HandlePacks'. -/
def handlePacksUptoCard : Claim7 := { stood := { row := handlePacksUptoRow, standIns := [], harness := (true, "b36f92fb2381185dfda4eae340e506bb6ca2c37e8e84eb18718242d8dcd49757"), looks := false }, kinds := [], alts := [], laidByText := true, laidKinds := [.data], laidTests := true, laidLooks := .later }
def HandlePacksUptoCardSaid : Prop := Claim7.holds Tryd.pinned (.plain (OpenSpec.upto handlePacksSpec)) handlePacksUptoCard

/-- THE SECOND FORM's CARD OF 'stepstonelaw01.HandleParts'. -/
def handlePartsUptoCard : Claim7 := { stood := { row := handlePartsUptoRow, standIns := [], harness := (true, "b36f92fb2381185dfda4eae340e506bb6ca2c37e8e84eb18718242d8dcd49757"), looks := false }, kinds := [], alts := [], laidByText := true, laidKinds := [.data], laidTests := true, laidLooks := .later }
def HandlePartsUptoCardSaid : Prop := Claim7.holds Tryd.pinned (.plain (OpenSpec.upto handlePartsSpec)) handlePartsUptoCard

/-- THE SECOND FORM's CARD OF 'stepstonelaw01.HandleBack'. -/
def handleBackUptoCard : Claim7 := { stood := { row := handleBackUptoRow, standIns := [], harness := (true, "b36f92fb2381185dfda4eae340e506bb6ca2c37e8e84eb18718242d8dcd49757"), looks := false }, kinds := [], alts := [], laidByText := true, laidKinds := [.data], laidTests := true, laidLooks := .later }
def HandleBackUptoCardSaid : Prop := Claim7.holds Tryd.pinned (.plain (OpenSpec.upto handleBackSpec)) handleBackUptoCard

/-- THE SECOND FORM's CARD OF 'stepstonelaw01.HandleMarks'. -/
def handleMarksUptoCard : Claim7 := { stood := { row := handleMarksUptoRow, standIns := [], harness := (true, "b36f92fb2381185dfda4eae340e506bb6ca2c37e8e84eb18718242d8dcd49757"), looks := false }, kinds := [], alts := [], laidByText := true, laidKinds := [.data], laidTests := true, laidLooks := .later }
def HandleMarksUptoCardSaid : Prop := Claim7.holds Tryd.pinned (.plain (OpenSpec.upto handleMarksSpec)) handleMarksUptoCard

/-- THE SECOND FORM's CARD OF 'stepstonelaw01.HandleApart'. -/
def handleApartUptoCard : Claim7 := { stood := { row := handleApartUptoRow, standIns := [], harness := (true, "b36f92fb2381185dfda4eae340e506bb6ca2c37e8e84eb18718242d8dcd49757"), looks := false }, kinds := [], alts := [], laidByText := true, laidKinds := [.data], laidTests := true, laidLooks := .later }
def HandleApartUptoCardSaid : Prop := Claim7.holds Tryd.pinned (.plain (OpenSpec.upto handleApartSpec)) handleApartUptoCard

/-- THE SECOND FORM's CARD OF 'stepstonelaw01.HandleWhole'. -/
def handleWholeUptoCard : Claim7 := { stood := { row := handleWholeUptoRow, standIns := [], harness := (true, "b36f92fb2381185dfda4eae340e506bb6ca2c37e8e84eb18718242d8dcd49757"), looks := false }, kinds := [], alts := [], laidByText := true, laidKinds := [.data], laidTests := true, laidLooks := .later }
def HandleWholeUptoCardSaid : Prop := Claim7.holds Tryd.pinned (.plain (OpenSpec.upto handleWholeSpec)) handleWholeUptoCard
end Rows
end Go.Proofs.YtlkmgocaiebahaaDoor

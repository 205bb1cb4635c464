/-
  DERIVED. GIVEN WITH THE SEED: THE CARDS: each row of YtmmpafhfanldbaaDoorRows.lean that lists a variable, with what it lists TIED to the program's text (the seventh form; the later family's looks); each row that meets fmt, with fmt's text TOLD by the authors' own Lean function (tested against real Go, not proved from fmt's source: count such statements apart). THE CARD IS WHAT COUNTS. Prove the row's statement (the work); the ties are given (YtmmpafhfanldbaaDoorTie.lean); close each card by the builder's one call (the guide's Derived/Test/ToyasCard.lean, 'card_holds'). Laid BY PROGRAM, IN A SANDBOX (cutbox-door.mjs). By AI agents, Wed Nov 11 2026. No macro, syntax, notation, axiom, sorry.
-/
import Derived.Test.YtmmpafhfanldbaaDoorRows
import GoSem.ClaimSeven
namespace Go.Proofs.YtmmpafhfanldbaaDoor
namespace Rows

/-- THE TIED CARD OF 'stepstonelaw09.ClaimSteps'. -/
def claimStepsCard : Claim7 := { stood := { row := claimStepsRow, standIns := [], harness := (true, "16d24a33fc2aa0e14e1eec150c167cb59402c41f178cda57adfd34c93caf4e6b"), looks := false }, kinds := [], alts := [], laidByText := true, laidKinds := [.data], laidTests := true, laidLooks := .later }
def ClaimStepsCardSaid : Prop := Claim7.holds Tryd.pinned (.plain (OpenSpec.ofChange claimStepsSpec)) claimStepsCard

/-- THE TIED CARD OF 'stepstonelaw09.ClaimBacks'. -/
def claimBacksCard : Claim7 := { stood := { row := claimBacksRow, standIns := [], harness := (true, "16d24a33fc2aa0e14e1eec150c167cb59402c41f178cda57adfd34c93caf4e6b"), looks := false }, kinds := [], alts := [], laidByText := true, laidKinds := [.data], laidTests := true, laidLooks := .later }
def ClaimBacksCardSaid : Prop := Claim7.holds Tryd.pinned (.plain (OpenSpec.ofChange claimBacksSpec)) claimBacksCard

/-- THE TIED CARD OF 'stepstonelaw09.ClaimAlone'. -/
def claimAloneCard : Claim7 := { stood := { row := claimAloneRow, standIns := [], harness := (true, "16d24a33fc2aa0e14e1eec150c167cb59402c41f178cda57adfd34c93caf4e6b"), looks := false }, kinds := [], alts := [], laidByText := true, laidKinds := [.data], laidTests := true, laidLooks := .later }
def ClaimAloneCardSaid : Prop := Claim7.holds Tryd.pinned (.plain (OpenSpec.ofChange claimAloneSpec)) claimAloneCard

/-- THE TIED CARD OF 'stepstonelaw09.ClaimTwo'. -/
def claimTwoCard : Claim7 := { stood := { row := claimTwoRow, standIns := [], harness := (true, "16d24a33fc2aa0e14e1eec150c167cb59402c41f178cda57adfd34c93caf4e6b"), looks := false }, kinds := [], alts := [], laidByText := true, laidKinds := [.data], laidTests := true, laidLooks := .later }
def ClaimTwoCardSaid : Prop := Claim7.holds Tryd.pinned (.plain (OpenSpec.ofChange claimTwoSpec)) claimTwoCard

/-- THE TIED CARD OF 'stepstonelaw09.ClaimEnds'. -/
def claimEndsCard : Claim7 := { stood := { row := claimEndsRow, standIns := [], harness := (true, "16d24a33fc2aa0e14e1eec150c167cb59402c41f178cda57adfd34c93caf4e6b"), looks := false }, kinds := [], alts := [], laidByText := true, laidKinds := [.data], laidTests := true, laidLooks := .later }
def ClaimEndsCardSaid : Prop := Claim7.holds Tryd.pinned (.plain (OpenSpec.ofChange claimEndsSpec)) claimEndsCard

/-- THE TIED CARD OF 'stepstonelaw09.ClaimRound'. -/
def claimRoundCard : Claim7 := { stood := { row := claimRoundRow, standIns := [], harness := (true, "16d24a33fc2aa0e14e1eec150c167cb59402c41f178cda57adfd34c93caf4e6b"), looks := false }, kinds := [], alts := [], laidByText := true, laidKinds := [.data], laidTests := true, laidLooks := .later }
def ClaimRoundCardSaid : Prop := Claim7.holds Tryd.pinned (.plain (OpenSpec.ofChange claimRoundSpec)) claimRoundCard

/-- THE SECOND FORM's CARD OF 'stepstonelaw09.ClaimSteps'. -/
def claimStepsUptoCard : Claim7 := { stood := { row := claimStepsUptoRow, standIns := [], harness := (true, "16d24a33fc2aa0e14e1eec150c167cb59402c41f178cda57adfd34c93caf4e6b"), looks := false }, kinds := [], alts := [], laidByText := true, laidKinds := [.data], laidTests := true, laidLooks := .later }
def ClaimStepsUptoCardSaid : Prop := Claim7.holds Tryd.pinned (.plain (OpenSpec.upto claimStepsSpec)) claimStepsUptoCard

/-- THE SECOND FORM's CARD OF 'stepstonelaw09.ClaimBacks'. -/
def claimBacksUptoCard : Claim7 := { stood := { row := claimBacksUptoRow, standIns := [], harness := (true, "16d24a33fc2aa0e14e1eec150c167cb59402c41f178cda57adfd34c93caf4e6b"), looks := false }, kinds := [], alts := [], laidByText := true, laidKinds := [.data], laidTests := true, laidLooks := .later }
def ClaimBacksUptoCardSaid : Prop := Claim7.holds Tryd.pinned (.plain (OpenSpec.upto claimBacksSpec)) claimBacksUptoCard

/-- THE SECOND FORM's CARD OF 'stepstonelaw09.ClaimAlone'. -/
def claimAloneUptoCard : Claim7 := { stood := { row := claimAloneUptoRow, standIns := [], harness := (true, "16d24a33fc2aa0e14e1eec150c167cb59402c41f178cda57adfd34c93caf4e6b"), looks := false }, kinds := [], alts := [], laidByText := true, laidKinds := [.data], laidTests := true, laidLooks := .later }
def ClaimAloneUptoCardSaid : Prop := Claim7.holds Tryd.pinned (.plain (OpenSpec.upto claimAloneSpec)) claimAloneUptoCard

/-- THE SECOND FORM's CARD OF 'stepstonelaw09.ClaimTwo'. -/
def claimTwoUptoCard : Claim7 := { stood := { row := claimTwoUptoRow, standIns := [], harness := (true, "16d24a33fc2aa0e14e1eec150c167cb59402c41f178cda57adfd34c93caf4e6b"), looks := false }, kinds := [], alts := [], laidByText := true, laidKinds := [.data], laidTests := true, laidLooks := .later }
def ClaimTwoUptoCardSaid : Prop := Claim7.holds Tryd.pinned (.plain (OpenSpec.upto claimTwoSpec)) claimTwoUptoCard

/-- THE SECOND FORM's CARD OF 'stepstonelaw09.ClaimEnds'. -/
def claimEndsUptoCard : Claim7 := { stood := { row := claimEndsUptoRow, standIns := [], harness := (true, "16d24a33fc2aa0e14e1eec150c167cb59402c41f178cda57adfd34c93caf4e6b"), looks := false }, kinds := [], alts := [], laidByText := true, laidKinds := [.data], laidTests := true, laidLooks := .later }
def ClaimEndsUptoCardSaid : Prop := Claim7.holds Tryd.pinned (.plain (OpenSpec.upto claimEndsSpec)) claimEndsUptoCard

/-- THE SECOND FORM's CARD OF 'stepstonelaw09.ClaimRound'. -/
def claimRoundUptoCard : Claim7 := { stood := { row := claimRoundUptoRow, standIns := [], harness := (true, "16d24a33fc2aa0e14e1eec150c167cb59402c41f178cda57adfd34c93caf4e6b"), looks := false }, kinds := [], alts := [], laidByText := true, laidKinds := [.data], laidTests := true, laidLooks := .later }
def ClaimRoundUptoCardSaid : Prop := Claim7.holds Tryd.pinned (.plain (OpenSpec.upto claimRoundSpec)) claimRoundUptoCard
end Rows
end Go.Proofs.YtmmpafhfanldbaaDoor

/-
  DERIVED. GIVEN WITH THE SEED: THE CARDS: each row of YtjbdaejkofkcpaaDoorRows.lean that lists a variable, with what it lists TIED to the program's text (the seventh form; the later family's looks); each row that meets fmt, with fmt's text TOLD by the authors' own Lean function (tested against real Go, not proved from fmt's source: count such statements apart). THE CARD IS WHAT COUNTS. Prove the row's statement (the work); the ties are given (YtjbdaejkofkcpaaDoorTie.lean); close each card by the builder's one call (the guide's Derived/Test/ToyasCard.lean, 'card_holds'). Laid BY PROGRAM, IN A SANDBOX (cutbox-door.mjs). By AI agents, Wed Nov 11 2026. No macro, syntax, notation, axiom, sorry.
-/
import Derived.Test.YtjbdaejkofkcpaaDoorRows
import GoSem.ClaimSeven
namespace Go.Proofs.YtjbdaejkofkcpaaDoor
namespace Rows

/-- THE TIED CARD OF 'stepstonelaw12.HelpSteps'. -/
def helpStepsCard : Claim7 := { stood := { row := helpStepsRow, standIns := [], harness := (true, "8da01a15b0ed21f15b06d493984036c42457dccc076fb2a2ce17b33141c9b120"), looks := false }, kinds := [], alts := [], laidByText := true, laidKinds := [.data], laidTests := true, laidLooks := .later }
def HelpStepsCardSaid : Prop := Claim7.holds Tryd.pinned (.plain (OpenSpec.ofChange helpStepsSpec)) helpStepsCard

/-- THE TIED CARD OF 'stepstonelaw12.HelpAlone'. -/
def helpAloneCard : Claim7 := { stood := { row := helpAloneRow, standIns := [], harness := (true, "8da01a15b0ed21f15b06d493984036c42457dccc076fb2a2ce17b33141c9b120"), looks := false }, kinds := [], alts := [], laidByText := true, laidKinds := [.data], laidTests := true, laidLooks := .later }
def HelpAloneCardSaid : Prop := Claim7.holds Tryd.pinned (.plain (OpenSpec.ofChange helpAloneSpec)) helpAloneCard

/-- THE TIED CARD OF 'stepstonelaw12.HelpTwo'. -/
def helpTwoCard : Claim7 := { stood := { row := helpTwoRow, standIns := [], harness := (true, "8da01a15b0ed21f15b06d493984036c42457dccc076fb2a2ce17b33141c9b120"), looks := false }, kinds := [], alts := [], laidByText := true, laidKinds := [.data], laidTests := true, laidLooks := .later }
def HelpTwoCardSaid : Prop := Claim7.holds Tryd.pinned (.plain (OpenSpec.ofChange helpTwoSpec)) helpTwoCard

/-- THE TIED CARD OF 'stepstonelaw12.HelpDown'. -/
def helpDownCard : Claim7 := { stood := { row := helpDownRow, standIns := [], harness := (true, "8da01a15b0ed21f15b06d493984036c42457dccc076fb2a2ce17b33141c9b120"), looks := false }, kinds := [], alts := [], laidByText := true, laidKinds := [.data], laidTests := true, laidLooks := .later }
def HelpDownCardSaid : Prop := Claim7.holds Tryd.pinned (.plain (OpenSpec.ofChange helpDownSpec)) helpDownCard

/-- THE TIED CARD OF 'stepstonelaw12.HelpAgain'. -/
def helpAgainCard : Claim7 := { stood := { row := helpAgainRow, standIns := [], harness := (true, "8da01a15b0ed21f15b06d493984036c42457dccc076fb2a2ce17b33141c9b120"), looks := false }, kinds := [], alts := [], laidByText := true, laidKinds := [.data], laidTests := true, laidLooks := .later }
def HelpAgainCardSaid : Prop := Claim7.holds Tryd.pinned (.plain (OpenSpec.ofChange helpAgainSpec)) helpAgainCard

/-- THE TIED CARD OF 'stepstonelaw12.HelpLost'. -/
def helpLostCard : Claim7 := { stood := { row := helpLostRow, standIns := [], harness := (true, "8da01a15b0ed21f15b06d493984036c42457dccc076fb2a2ce17b33141c9b120"), looks := false }, kinds := [], alts := [], laidByText := true, laidKinds := [.data], laidTests := true, laidLooks := .later }
def HelpLostCardSaid : Prop := Claim7.holds Tryd.pinned (.plain (OpenSpec.ofChange helpLostSpec)) helpLostCard

/-- THE SECOND FORM's CARD OF 'stepstonelaw12.HelpSteps'. -/
def helpStepsUptoCard : Claim7 := { stood := { row := helpStepsUptoRow, standIns := [], harness := (true, "8da01a15b0ed21f15b06d493984036c42457dccc076fb2a2ce17b33141c9b120"), looks := false }, kinds := [], alts := [], laidByText := true, laidKinds := [.data], laidTests := true, laidLooks := .later }
def HelpStepsUptoCardSaid : Prop := Claim7.holds Tryd.pinned (.plain (OpenSpec.upto helpStepsSpec)) helpStepsUptoCard

/-- THE SECOND FORM's CARD OF 'stepstonelaw12.HelpAlone'. -/
def helpAloneUptoCard : Claim7 := { stood := { row := helpAloneUptoRow, standIns := [], harness := (true, "8da01a15b0ed21f15b06d493984036c42457dccc076fb2a2ce17b33141c9b120"), looks := false }, kinds := [], alts := [], laidByText := true, laidKinds := [.data], laidTests := true, laidLooks := .later }
def HelpAloneUptoCardSaid : Prop := Claim7.holds Tryd.pinned (.plain (OpenSpec.upto helpAloneSpec)) helpAloneUptoCard

/-- THE SECOND FORM's CARD OF 'stepstonelaw12.HelpTwo'. -/
def helpTwoUptoCard : Claim7 := { stood := { row := helpTwoUptoRow, standIns := [], harness := (true, "8da01a15b0ed21f15b06d493984036c42457dccc076fb2a2ce17b33141c9b120"), looks := false }, kinds := [], alts := [], laidByText := true, laidKinds := [.data], laidTests := true, laidLooks := .later }
def HelpTwoUptoCardSaid : Prop := Claim7.holds Tryd.pinned (.plain (OpenSpec.upto helpTwoSpec)) helpTwoUptoCard

/-- THE SECOND FORM's CARD OF 'stepstonelaw12.HelpDown'. -/
def helpDownUptoCard : Claim7 := { stood := { row := helpDownUptoRow, standIns := [], harness := (true, "8da01a15b0ed21f15b06d493984036c42457dccc076fb2a2ce17b33141c9b120"), looks := false }, kinds := [], alts := [], laidByText := true, laidKinds := [.data], laidTests := true, laidLooks := .later }
def HelpDownUptoCardSaid : Prop := Claim7.holds Tryd.pinned (.plain (OpenSpec.upto helpDownSpec)) helpDownUptoCard

/-- THE SECOND FORM's CARD OF 'stepstonelaw12.HelpAgain'. -/
def helpAgainUptoCard : Claim7 := { stood := { row := helpAgainUptoRow, standIns := [], harness := (true, "8da01a15b0ed21f15b06d493984036c42457dccc076fb2a2ce17b33141c9b120"), looks := false }, kinds := [], alts := [], laidByText := true, laidKinds := [.data], laidTests := true, laidLooks := .later }
def HelpAgainUptoCardSaid : Prop := Claim7.holds Tryd.pinned (.plain (OpenSpec.upto helpAgainSpec)) helpAgainUptoCard

/-- THE SECOND FORM's CARD OF 'stepstonelaw12.HelpLost'. -/
def helpLostUptoCard : Claim7 := { stood := { row := helpLostUptoRow, standIns := [], harness := (true, "8da01a15b0ed21f15b06d493984036c42457dccc076fb2a2ce17b33141c9b120"), looks := false }, kinds := [], alts := [], laidByText := true, laidKinds := [.data], laidTests := true, laidLooks := .later }
def HelpLostUptoCardSaid : Prop := Claim7.holds Tryd.pinned (.plain (OpenSpec.upto helpLostSpec)) helpLostUptoCard
end Rows
end Go.Proofs.YtjbdaejkofkcpaaDoor

/-
  DERIVED. GIVEN WITH THE SEED: THE CARDS: each row of YtgafmklfpiipcaaDoorRows.lean that lists a variable, with what it lists TIED to the program's text (the seventh form; the later family's looks); each row that meets fmt, with fmt's text TOLD by the authors' own Lean function (tested against real Go, not proved from fmt's source: count such statements apart). THE CARD IS WHAT COUNTS. Prove the row's statement (the work); the ties are given (YtgafmklfpiipcaaDoorTie.lean); close each card by the builder's one call (the guide's Derived/Test/ToyasCard.lean, 'card_holds'). Laid BY PROGRAM, IN A SANDBOX (cutbox-door.mjs). By AI agents, Wed Nov 11 2026. No macro, syntax, notation, axiom, sorry.
-/
import Derived.Test.YtgafmklfpiipcaaDoorRows
import GoSem.ClaimSeven
namespace Go.Proofs.YtgafmklfpiipcaaDoor
namespace Rows

/-- THE TIED CARD OF 'stepstonelaw14.RetireLast'. -/
def retireLastCard : Claim7 := { stood := { row := retireLastRow, standIns := [], harness := (true, "a31f6f01599eee3ce13a6e1683cb531bb06135781a9e9eb854bb6c4ee7479a88"), looks := false }, kinds := [], alts := [], laidByText := true, laidKinds := [.data], laidTests := true, laidLooks := .later }
def RetireLastCardSaid : Prop := Claim7.holds Tryd.pinned (.plain (OpenSpec.ofChange retireLastSpec)) retireLastCard

/-- THE TIED CARD OF 'stepstonelaw14.RetireFirst'. -/
def retireFirstCard : Claim7 := { stood := { row := retireFirstRow, standIns := [], harness := (true, "a31f6f01599eee3ce13a6e1683cb531bb06135781a9e9eb854bb6c4ee7479a88"), looks := false }, kinds := [], alts := [], laidByText := true, laidKinds := [.data], laidTests := true, laidLooks := .later }
def RetireFirstCardSaid : Prop := Claim7.holds Tryd.pinned (.plain (OpenSpec.ofChange retireFirstSpec)) retireFirstCard

/-- THE TIED CARD OF 'stepstonelaw14.RetireTwo'. -/
def retireTwoCard : Claim7 := { stood := { row := retireTwoRow, standIns := [], harness := (true, "a31f6f01599eee3ce13a6e1683cb531bb06135781a9e9eb854bb6c4ee7479a88"), looks := false }, kinds := [], alts := [], laidByText := true, laidKinds := [.data], laidTests := true, laidLooks := .later }
def RetireTwoCardSaid : Prop := Claim7.holds Tryd.pinned (.plain (OpenSpec.ofChange retireTwoSpec)) retireTwoCard

/-- THE TIED CARD OF 'stepstonelaw14.RetireLate'. -/
def retireLateCard : Claim7 := { stood := { row := retireLateRow, standIns := [], harness := (true, "a31f6f01599eee3ce13a6e1683cb531bb06135781a9e9eb854bb6c4ee7479a88"), looks := false }, kinds := [], alts := [], laidByText := true, laidKinds := [.data], laidTests := true, laidLooks := .later }
def RetireLateCardSaid : Prop := Claim7.holds Tryd.pinned (.plain (OpenSpec.ofChange retireLateSpec)) retireLateCard

/-- THE TIED CARD OF 'stepstonelaw14.RetireOnce'. -/
def retireOnceCard : Claim7 := { stood := { row := retireOnceRow, standIns := [], harness := (true, "a31f6f01599eee3ce13a6e1683cb531bb06135781a9e9eb854bb6c4ee7479a88"), looks := false }, kinds := [], alts := [], laidByText := true, laidKinds := [.data], laidTests := true, laidLooks := .later }
def RetireOnceCardSaid : Prop := Claim7.holds Tryd.pinned (.plain (OpenSpec.ofChange retireOnceSpec)) retireOnceCard

/-- THE SECOND FORM's CARD OF 'stepstonelaw14.RetireLast'. -/
def retireLastUptoCard : Claim7 := { stood := { row := retireLastUptoRow, standIns := [], harness := (true, "a31f6f01599eee3ce13a6e1683cb531bb06135781a9e9eb854bb6c4ee7479a88"), looks := false }, kinds := [], alts := [], laidByText := true, laidKinds := [.data], laidTests := true, laidLooks := .later }
def RetireLastUptoCardSaid : Prop := Claim7.holds Tryd.pinned (.plain (OpenSpec.upto retireLastSpec)) retireLastUptoCard

/-- THE SECOND FORM's CARD OF 'stepstonelaw14.RetireFirst'. -/
def retireFirstUptoCard : Claim7 := { stood := { row := retireFirstUptoRow, standIns := [], harness := (true, "a31f6f01599eee3ce13a6e1683cb531bb06135781a9e9eb854bb6c4ee7479a88"), looks := false }, kinds := [], alts := [], laidByText := true, laidKinds := [.data], laidTests := true, laidLooks := .later }
def RetireFirstUptoCardSaid : Prop := Claim7.holds Tryd.pinned (.plain (OpenSpec.upto retireFirstSpec)) retireFirstUptoCard

/-- THE SECOND FORM's CARD OF 'stepstonelaw14.RetireTwo'. -/
def retireTwoUptoCard : Claim7 := { stood := { row := retireTwoUptoRow, standIns := [], harness := (true, "a31f6f01599eee3ce13a6e1683cb531bb06135781a9e9eb854bb6c4ee7479a88"), looks := false }, kinds := [], alts := [], laidByText := true, laidKinds := [.data], laidTests := true, laidLooks := .later }
def RetireTwoUptoCardSaid : Prop := Claim7.holds Tryd.pinned (.plain (OpenSpec.upto retireTwoSpec)) retireTwoUptoCard

/-- THE SECOND FORM's CARD OF 'stepstonelaw14.RetireLate'. -/
def retireLateUptoCard : Claim7 := { stood := { row := retireLateUptoRow, standIns := [], harness := (true, "a31f6f01599eee3ce13a6e1683cb531bb06135781a9e9eb854bb6c4ee7479a88"), looks := false }, kinds := [], alts := [], laidByText := true, laidKinds := [.data], laidTests := true, laidLooks := .later }
def RetireLateUptoCardSaid : Prop := Claim7.holds Tryd.pinned (.plain (OpenSpec.upto retireLateSpec)) retireLateUptoCard

/-- THE SECOND FORM's CARD OF 'stepstonelaw14.RetireOnce'. -/
def retireOnceUptoCard : Claim7 := { stood := { row := retireOnceUptoRow, standIns := [], harness := (true, "a31f6f01599eee3ce13a6e1683cb531bb06135781a9e9eb854bb6c4ee7479a88"), looks := false }, kinds := [], alts := [], laidByText := true, laidKinds := [.data], laidTests := true, laidLooks := .later }
def RetireOnceUptoCardSaid : Prop := Claim7.holds Tryd.pinned (.plain (OpenSpec.upto retireOnceSpec)) retireOnceUptoCard
end Rows
end Go.Proofs.YtgafmklfpiipcaaDoor

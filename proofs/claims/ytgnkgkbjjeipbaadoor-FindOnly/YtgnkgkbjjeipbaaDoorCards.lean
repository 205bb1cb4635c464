/-
  DERIVED. GIVEN WITH THE SEED: THE CARDS: each row of YtgnkgkbjjeipbaaDoorRows.lean that lists a variable, with what it lists TIED to the program's text (the seventh form; the later family's looks); each row that meets fmt, with fmt's text TOLD by the authors' own Lean function (tested against real Go, not proved from fmt's source: count such statements apart). THE CARD IS WHAT COUNTS. Prove the row's statement (the work); the ties are given (YtgnkgkbjjeipbaaDoorTie.lean); close each card by the builder's one call (the guide's Derived/Test/ToyasCard.lean, 'card_holds'). Laid BY PROGRAM, IN A SANDBOX (cutbox-door.mjs). By AI agents, Wed Nov 11 2026. No macro, syntax, notation, axiom, sorry.
-/
import Derived.Test.YtgnkgkbjjeipbaaDoorRows
import GoSem.ClaimSeven
namespace Go.Proofs.YtgnkgkbjjeipbaaDoor
namespace Rows

/-- THE TIED CARD OF 'stepstonelaw11.FindAlone'. -/
def findAloneCard : Claim7 := { stood := { row := findAloneRow, standIns := [], harness := (true, "7f80696f4898032b1e9ebe7e0048ae521e445675cf0580a22aeeebebced35714"), looks := false }, kinds := [], alts := [], laidByText := true, laidKinds := [.data], laidTests := true, laidLooks := .later }
def FindAloneCardSaid : Prop := Claim7.holds Tryd.pinned (.plain (OpenSpec.ofChange findAloneSpec)) findAloneCard

/-- THE TIED CARD OF 'stepstonelaw11.FindTwice'. -/
def findTwiceCard : Claim7 := { stood := { row := findTwiceRow, standIns := [], harness := (true, "7f80696f4898032b1e9ebe7e0048ae521e445675cf0580a22aeeebebced35714"), looks := false }, kinds := [], alts := [], laidByText := true, laidKinds := [.data], laidTests := true, laidLooks := .later }
def FindTwiceCardSaid : Prop := Claim7.holds Tryd.pinned (.plain (OpenSpec.ofChange findTwiceSpec)) findTwiceCard

/-- THE TIED CARD OF 'stepstonelaw11.FindOnly'. -/
def findOnlyCard : Claim7 := { stood := { row := findOnlyRow, standIns := [], harness := (true, "7f80696f4898032b1e9ebe7e0048ae521e445675cf0580a22aeeebebced35714"), looks := false }, kinds := [], alts := [], laidByText := true, laidKinds := [.data], laidTests := true, laidLooks := .later }
def FindOnlyCardSaid : Prop := Claim7.holds Tryd.pinned (.plain (OpenSpec.ofChange findOnlySpec)) findOnlyCard

/-- THE TIED CARD OF 'stepstonelaw11.FindUnlinks'. -/
def findUnlinksCard : Claim7 := { stood := { row := findUnlinksRow, standIns := [], harness := (true, "7f80696f4898032b1e9ebe7e0048ae521e445675cf0580a22aeeebebced35714"), looks := false }, kinds := [], alts := [], laidByText := true, laidKinds := [.data], laidTests := true, laidLooks := .later }
def FindUnlinksCardSaid : Prop := Claim7.holds Tryd.pinned (.plain (OpenSpec.ofChange findUnlinksSpec)) findUnlinksCard

/-- THE TIED CARD OF 'stepstonelaw11.FindTicks'. -/
def findTicksCard : Claim7 := { stood := { row := findTicksRow, standIns := [], harness := (true, "7f80696f4898032b1e9ebe7e0048ae521e445675cf0580a22aeeebebced35714"), looks := false }, kinds := [], alts := [], laidByText := true, laidKinds := [.data], laidTests := true, laidLooks := .later }
def FindTicksCardSaid : Prop := Claim7.holds Tryd.pinned (.plain (OpenSpec.ofChange findTicksSpec)) findTicksCard

/-- THE SECOND FORM's CARD OF 'stepstonelaw11.FindAlone'. -/
def findAloneUptoCard : Claim7 := { stood := { row := findAloneUptoRow, standIns := [], harness := (true, "7f80696f4898032b1e9ebe7e0048ae521e445675cf0580a22aeeebebced35714"), looks := false }, kinds := [], alts := [], laidByText := true, laidKinds := [.data], laidTests := true, laidLooks := .later }
def FindAloneUptoCardSaid : Prop := Claim7.holds Tryd.pinned (.plain (OpenSpec.upto findAloneSpec)) findAloneUptoCard

/-- THE SECOND FORM's CARD OF 'stepstonelaw11.FindTwice'. -/
def findTwiceUptoCard : Claim7 := { stood := { row := findTwiceUptoRow, standIns := [], harness := (true, "7f80696f4898032b1e9ebe7e0048ae521e445675cf0580a22aeeebebced35714"), looks := false }, kinds := [], alts := [], laidByText := true, laidKinds := [.data], laidTests := true, laidLooks := .later }
def FindTwiceUptoCardSaid : Prop := Claim7.holds Tryd.pinned (.plain (OpenSpec.upto findTwiceSpec)) findTwiceUptoCard

/-- THE SECOND FORM's CARD OF 'stepstonelaw11.FindOnly'. -/
def findOnlyUptoCard : Claim7 := { stood := { row := findOnlyUptoRow, standIns := [], harness := (true, "7f80696f4898032b1e9ebe7e0048ae521e445675cf0580a22aeeebebced35714"), looks := false }, kinds := [], alts := [], laidByText := true, laidKinds := [.data], laidTests := true, laidLooks := .later }
def FindOnlyUptoCardSaid : Prop := Claim7.holds Tryd.pinned (.plain (OpenSpec.upto findOnlySpec)) findOnlyUptoCard

/-- THE SECOND FORM's CARD OF 'stepstonelaw11.FindUnlinks'. -/
def findUnlinksUptoCard : Claim7 := { stood := { row := findUnlinksUptoRow, standIns := [], harness := (true, "7f80696f4898032b1e9ebe7e0048ae521e445675cf0580a22aeeebebced35714"), looks := false }, kinds := [], alts := [], laidByText := true, laidKinds := [.data], laidTests := true, laidLooks := .later }
def FindUnlinksUptoCardSaid : Prop := Claim7.holds Tryd.pinned (.plain (OpenSpec.upto findUnlinksSpec)) findUnlinksUptoCard

/-- THE SECOND FORM's CARD OF 'stepstonelaw11.FindTicks'. -/
def findTicksUptoCard : Claim7 := { stood := { row := findTicksUptoRow, standIns := [], harness := (true, "7f80696f4898032b1e9ebe7e0048ae521e445675cf0580a22aeeebebced35714"), looks := false }, kinds := [], alts := [], laidByText := true, laidKinds := [.data], laidTests := true, laidLooks := .later }
def FindTicksUptoCardSaid : Prop := Claim7.holds Tryd.pinned (.plain (OpenSpec.upto findTicksSpec)) findTicksUptoCard
end Rows
end Go.Proofs.YtgnkgkbjjeipbaaDoor

/-
  DERIVED. GIVEN WITH THE SEED: THE CARDS: each row of YtpobanjpgdghlaaDoorRows.lean that lists a variable, with what it lists TIED to the program's text (the seventh form; the later family's looks); each row that meets fmt, with fmt's text TOLD by the authors' own Lean function (tested against real Go, not proved from fmt's source: count such statements apart). THE CARD IS WHAT COUNTS. Prove the row's statement (the work); the ties are given (YtpobanjpgdghlaaDoorTie.lean); close each card by the builder's one call (the guide's Derived/Test/ToyasCard.lean, 'card_holds'). Laid BY PROGRAM, IN A SANDBOX (cutbox-door.mjs). By AI agents, Wed Nov 11 2026. No macro, syntax, notation, axiom, sorry.
-/
import Derived.Test.YtpobanjpgdghlaaDoorRows
import GoSem.ClaimSeven
namespace Go.Proofs.YtpobanjpgdghlaaDoor
namespace Rows

/-- THE TIED CARD OF 'stepstonelaw10.GuardAll'. -/
def guardAllCard : Claim7 := { stood := { row := guardAllRow, standIns := [], harness := (true, "b4883c6acc027d471720382080dd105359c62c6a05fa2fbd39293c40dd38c4e0"), looks := false }, kinds := [], alts := [], laidByText := true, laidKinds := [.data], laidTests := true, laidLooks := .later }
def GuardAllCardSaid : Prop := Claim7.holds Tryd.pinned (.plain (OpenSpec.ofChange guardAllSpec)) guardAllCard

/-- THE TIED CARD OF 'stepstonelaw10.GuardStands'. -/
def guardStandsCard : Claim7 := { stood := { row := guardStandsRow, standIns := [], harness := (true, "b4883c6acc027d471720382080dd105359c62c6a05fa2fbd39293c40dd38c4e0"), looks := false }, kinds := [], alts := [], laidByText := true, laidKinds := [.data], laidTests := true, laidLooks := .later }
def GuardStandsCardSaid : Prop := Claim7.holds Tryd.pinned (.plain (OpenSpec.ofChange guardStandsSpec)) guardStandsCard

/-- THE TIED CARD OF 'stepstonelaw10.GuardOthers'. -/
def guardOthersCard : Claim7 := { stood := { row := guardOthersRow, standIns := [], harness := (true, "b4883c6acc027d471720382080dd105359c62c6a05fa2fbd39293c40dd38c4e0"), looks := false }, kinds := [], alts := [], laidByText := true, laidKinds := [.data], laidTests := true, laidLooks := .later }
def GuardOthersCardSaid : Prop := Claim7.holds Tryd.pinned (.plain (OpenSpec.ofChange guardOthersSpec)) guardOthersCard

/-- THE TIED CARD OF 'stepstonelaw10.GuardClears'. -/
def guardClearsCard : Claim7 := { stood := { row := guardClearsRow, standIns := [], harness := (true, "b4883c6acc027d471720382080dd105359c62c6a05fa2fbd39293c40dd38c4e0"), looks := false }, kinds := [], alts := [], laidByText := true, laidKinds := [.data], laidTests := true, laidLooks := .later }
def GuardClearsCardSaid : Prop := Claim7.holds Tryd.pinned (.plain (OpenSpec.ofChange guardClearsSpec)) guardClearsCard

/-- THE TIED CARD OF 'stepstonelaw10.GuardChecks'. -/
def guardChecksCard : Claim7 := { stood := { row := guardChecksRow, standIns := [], harness := (true, "b4883c6acc027d471720382080dd105359c62c6a05fa2fbd39293c40dd38c4e0"), looks := false }, kinds := [], alts := [], laidByText := true, laidKinds := [.data], laidTests := true, laidLooks := .later }
def GuardChecksCardSaid : Prop := Claim7.holds Tryd.pinned (.plain (OpenSpec.ofChange guardChecksSpec)) guardChecksCard

/-- THE TIED CARD OF 'stepstonelaw10.GuardTwo'. -/
def guardTwoCard : Claim7 := { stood := { row := guardTwoRow, standIns := [], harness := (true, "b4883c6acc027d471720382080dd105359c62c6a05fa2fbd39293c40dd38c4e0"), looks := false }, kinds := [], alts := [], laidByText := true, laidKinds := [.data], laidTests := true, laidLooks := .later }
def GuardTwoCardSaid : Prop := Claim7.holds Tryd.pinned (.plain (OpenSpec.ofChange guardTwoSpec)) guardTwoCard

/-- THE SECOND FORM's CARD OF 'stepstonelaw10.GuardAll'. -/
def guardAllUptoCard : Claim7 := { stood := { row := guardAllUptoRow, standIns := [], harness := (true, "b4883c6acc027d471720382080dd105359c62c6a05fa2fbd39293c40dd38c4e0"), looks := false }, kinds := [], alts := [], laidByText := true, laidKinds := [.data], laidTests := true, laidLooks := .later }
def GuardAllUptoCardSaid : Prop := Claim7.holds Tryd.pinned (.plain (OpenSpec.upto guardAllSpec)) guardAllUptoCard

/-- THE SECOND FORM's CARD OF 'stepstonelaw10.GuardStands'. -/
def guardStandsUptoCard : Claim7 := { stood := { row := guardStandsUptoRow, standIns := [], harness := (true, "b4883c6acc027d471720382080dd105359c62c6a05fa2fbd39293c40dd38c4e0"), looks := false }, kinds := [], alts := [], laidByText := true, laidKinds := [.data], laidTests := true, laidLooks := .later }
def GuardStandsUptoCardSaid : Prop := Claim7.holds Tryd.pinned (.plain (OpenSpec.upto guardStandsSpec)) guardStandsUptoCard

/-- THE SECOND FORM's CARD OF 'stepstonelaw10.GuardOthers'. -/
def guardOthersUptoCard : Claim7 := { stood := { row := guardOthersUptoRow, standIns := [], harness := (true, "b4883c6acc027d471720382080dd105359c62c6a05fa2fbd39293c40dd38c4e0"), looks := false }, kinds := [], alts := [], laidByText := true, laidKinds := [.data], laidTests := true, laidLooks := .later }
def GuardOthersUptoCardSaid : Prop := Claim7.holds Tryd.pinned (.plain (OpenSpec.upto guardOthersSpec)) guardOthersUptoCard

/-- THE SECOND FORM's CARD OF 'stepstonelaw10.GuardClears'. -/
def guardClearsUptoCard : Claim7 := { stood := { row := guardClearsUptoRow, standIns := [], harness := (true, "b4883c6acc027d471720382080dd105359c62c6a05fa2fbd39293c40dd38c4e0"), looks := false }, kinds := [], alts := [], laidByText := true, laidKinds := [.data], laidTests := true, laidLooks := .later }
def GuardClearsUptoCardSaid : Prop := Claim7.holds Tryd.pinned (.plain (OpenSpec.upto guardClearsSpec)) guardClearsUptoCard

/-- THE SECOND FORM's CARD OF 'stepstonelaw10.GuardChecks'. -/
def guardChecksUptoCard : Claim7 := { stood := { row := guardChecksUptoRow, standIns := [], harness := (true, "b4883c6acc027d471720382080dd105359c62c6a05fa2fbd39293c40dd38c4e0"), looks := false }, kinds := [], alts := [], laidByText := true, laidKinds := [.data], laidTests := true, laidLooks := .later }
def GuardChecksUptoCardSaid : Prop := Claim7.holds Tryd.pinned (.plain (OpenSpec.upto guardChecksSpec)) guardChecksUptoCard

/-- THE SECOND FORM's CARD OF 'stepstonelaw10.GuardTwo'. -/
def guardTwoUptoCard : Claim7 := { stood := { row := guardTwoUptoRow, standIns := [], harness := (true, "b4883c6acc027d471720382080dd105359c62c6a05fa2fbd39293c40dd38c4e0"), looks := false }, kinds := [], alts := [], laidByText := true, laidKinds := [.data], laidTests := true, laidLooks := .later }
def GuardTwoUptoCardSaid : Prop := Claim7.holds Tryd.pinned (.plain (OpenSpec.upto guardTwoSpec)) guardTwoUptoCard
end Rows
end Go.Proofs.YtpobanjpgdghlaaDoor

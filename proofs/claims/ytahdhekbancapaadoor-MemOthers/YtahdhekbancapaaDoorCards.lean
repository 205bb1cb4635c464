/-
  DERIVED. GIVEN WITH THE SEED: THE CARDS: each row of YtahdhekbancapaaDoorRows.lean that lists a variable, with what it lists TIED to the program's text (the seventh form; the later family's looks); each row that meets fmt, with fmt's text TOLD by the authors' own Lean function (tested against real Go, not proved from fmt's source: count such statements apart). THE CARD IS WHAT COUNTS. Prove the row's statement (the work); the ties are given (YtahdhekbancapaaDoorTie.lean); close each card by the builder's one call (the guide's Derived/Test/ToyasCard.lean, 'card_holds'). Laid BY PROGRAM, IN A SANDBOX (cutbox-door.mjs). By AI agents, Wed Nov 11 2026. No macro, syntax, notation, axiom, sorry.
-/
import Derived.Test.YtahdhekbancapaaDoorRows
import GoSem.ClaimSeven
namespace Go.Proofs.YtahdhekbancapaaDoor
namespace Rows

/-- THE TIED CARD OF 'stepstonelaw05.MemNew'. -/
def memNewCard : Claim7 := { stood := { row := memNewRow, standIns := [], harness := (true, "8fbe9499f1103e4c4dda2993993749ae3f6b66e8777a4b39f9f429556d4835eb"), looks := false }, kinds := [], alts := [], laidByText := true, laidKinds := [.data], laidTests := true, laidLooks := .later }
def MemNewCardSaid : Prop := Claim7.holds Tryd.pinned (.plain (OpenSpec.ofChange memNewSpec)) memNewCard

/-- THE TIED CARD OF 'stepstonelaw05.MemOf'. -/
def memOfCard : Claim7 := { stood := { row := memOfRow, standIns := [], harness := (true, "8fbe9499f1103e4c4dda2993993749ae3f6b66e8777a4b39f9f429556d4835eb"), looks := false }, kinds := [], alts := [], laidByText := true, laidKinds := [.data], laidTests := true, laidLooks := .later }
def MemOfCardSaid : Prop := Claim7.holds Tryd.pinned (.plain (OpenSpec.ofChange memOfSpec)) memOfCard

/-- THE TIED CARD OF 'stepstonelaw05.MemAll'. -/
def memAllCard : Claim7 := { stood := { row := memAllRow, standIns := [], harness := (true, "8fbe9499f1103e4c4dda2993993749ae3f6b66e8777a4b39f9f429556d4835eb"), looks := false }, kinds := [], alts := [], laidByText := true, laidKinds := [.data], laidTests := true, laidLooks := .later }
def MemAllCardSaid : Prop := Claim7.holds Tryd.pinned (.plain (OpenSpec.ofChange memAllSpec)) memAllCard

/-- THE TIED CARD OF 'stepstonelaw05.MemOthers'. -/
def memOthersCard : Claim7 := { stood := { row := memOthersRow, standIns := [], harness := (true, "8fbe9499f1103e4c4dda2993993749ae3f6b66e8777a4b39f9f429556d4835eb"), looks := false }, kinds := [], alts := [], laidByText := true, laidKinds := [.data], laidTests := true, laidLooks := .later }
def MemOthersCardSaid : Prop := Claim7.holds Tryd.pinned (.plain (OpenSpec.ofChange memOthersSpec)) memOthersCard

/-- THE TIED CARD OF 'stepstonelaw05.MemMarks'. -/
def memMarksCard : Claim7 := { stood := { row := memMarksRow, standIns := [], harness := (true, "8fbe9499f1103e4c4dda2993993749ae3f6b66e8777a4b39f9f429556d4835eb"), looks := false }, kinds := [], alts := [], laidByText := true, laidKinds := [.data], laidTests := true, laidLooks := .later }
def MemMarksCardSaid : Prop := Claim7.holds Tryd.pinned (.plain (OpenSpec.ofChange memMarksSpec)) memMarksCard

/-- THE TIED CARD OF 'stepstonelaw05.MemApart'. -/
def memApartCard : Claim7 := { stood := { row := memApartRow, standIns := [], harness := (true, "8fbe9499f1103e4c4dda2993993749ae3f6b66e8777a4b39f9f429556d4835eb"), looks := false }, kinds := [], alts := [], laidByText := true, laidKinds := [.data], laidTests := true, laidLooks := .later }
def MemApartCardSaid : Prop := Claim7.holds Tryd.pinned (.plain (OpenSpec.ofChange memApartSpec)) memApartCard

/-- THE SECOND FORM's CARD OF 'stepstonelaw05.MemNew'. -/
def memNewUptoCard : Claim7 := { stood := { row := memNewUptoRow, standIns := [], harness := (true, "8fbe9499f1103e4c4dda2993993749ae3f6b66e8777a4b39f9f429556d4835eb"), looks := false }, kinds := [], alts := [], laidByText := true, laidKinds := [.data], laidTests := true, laidLooks := .later }
def MemNewUptoCardSaid : Prop := Claim7.holds Tryd.pinned (.plain (OpenSpec.upto memNewSpec)) memNewUptoCard

/-- THE SECOND FORM's CARD OF 'stepstonelaw05.MemOf'. -/
def memOfUptoCard : Claim7 := { stood := { row := memOfUptoRow, standIns := [], harness := (true, "8fbe9499f1103e4c4dda2993993749ae3f6b66e8777a4b39f9f429556d4835eb"), looks := false }, kinds := [], alts := [], laidByText := true, laidKinds := [.data], laidTests := true, laidLooks := .later }
def MemOfUptoCardSaid : Prop := Claim7.holds Tryd.pinned (.plain (OpenSpec.upto memOfSpec)) memOfUptoCard

/-- THE SECOND FORM's CARD OF 'stepstonelaw05.MemAll'. -/
def memAllUptoCard : Claim7 := { stood := { row := memAllUptoRow, standIns := [], harness := (true, "8fbe9499f1103e4c4dda2993993749ae3f6b66e8777a4b39f9f429556d4835eb"), looks := false }, kinds := [], alts := [], laidByText := true, laidKinds := [.data], laidTests := true, laidLooks := .later }
def MemAllUptoCardSaid : Prop := Claim7.holds Tryd.pinned (.plain (OpenSpec.upto memAllSpec)) memAllUptoCard

/-- THE SECOND FORM's CARD OF 'stepstonelaw05.MemOthers'. -/
def memOthersUptoCard : Claim7 := { stood := { row := memOthersUptoRow, standIns := [], harness := (true, "8fbe9499f1103e4c4dda2993993749ae3f6b66e8777a4b39f9f429556d4835eb"), looks := false }, kinds := [], alts := [], laidByText := true, laidKinds := [.data], laidTests := true, laidLooks := .later }
def MemOthersUptoCardSaid : Prop := Claim7.holds Tryd.pinned (.plain (OpenSpec.upto memOthersSpec)) memOthersUptoCard

/-- THE SECOND FORM's CARD OF 'stepstonelaw05.MemMarks'. -/
def memMarksUptoCard : Claim7 := { stood := { row := memMarksUptoRow, standIns := [], harness := (true, "8fbe9499f1103e4c4dda2993993749ae3f6b66e8777a4b39f9f429556d4835eb"), looks := false }, kinds := [], alts := [], laidByText := true, laidKinds := [.data], laidTests := true, laidLooks := .later }
def MemMarksUptoCardSaid : Prop := Claim7.holds Tryd.pinned (.plain (OpenSpec.upto memMarksSpec)) memMarksUptoCard

/-- THE SECOND FORM's CARD OF 'stepstonelaw05.MemApart'. -/
def memApartUptoCard : Claim7 := { stood := { row := memApartUptoRow, standIns := [], harness := (true, "8fbe9499f1103e4c4dda2993993749ae3f6b66e8777a4b39f9f429556d4835eb"), looks := false }, kinds := [], alts := [], laidByText := true, laidKinds := [.data], laidTests := true, laidLooks := .later }
def MemApartUptoCardSaid : Prop := Claim7.holds Tryd.pinned (.plain (OpenSpec.upto memApartSpec)) memApartUptoCard
end Rows
end Go.Proofs.YtahdhekbancapaaDoor

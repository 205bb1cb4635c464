/-
  NARROWER THAN 'FOR EVERY INPUT', by the rows' own cells (each row's printed sentence says how): HandlePacks: laid · HandleParts: laid · HandleBack: laid · HandleMarks: laid · HandleApart: laid · HandleWhole: laid.
  DERIVED. THE GIVEN ROWS OF THIS SEAT. 6 by the template 'for every input the law returns true; each argument reads behind the call as it read before'; 0 by the template 'total and deterministic' (their statements: YtlkmgocaiebahaaDoorTotals.lean).
  GIVEN WITH THE SEED: the statements are not yours to turn. If you find one false, say at which input.
  Laid BY PROGRAM, IN A SANDBOX (cutbox-rows.mjs): the forced cells as the released guide's own fill.sh prints them over the translation 855edafb58c964d8… (all of the seat's roots in one cut). By AI agents, Wed Nov 11 2026. No macro, syntax, notation, axiom, sorry.
-/
import Derived.Test.YtlkmgocaiebahaaDoorChecked
import GoSem.Claim
import GoSem.ClaimJoined
import GoSem.ClaimMapViews
import Derived.JoinedTies
import Derived.KernelRfl
namespace Go.Proofs.YtlkmgocaiebahaaDoor
/- THE CELL 'sum', in the pinned program and in every row, IS THE sha256 OF THE DUMP (.gsa) THAT YtlkmgocaiebahaaDoorProg.lean LOADS. Nothing in Lean hashes anything: it is a label: what it is worth is what the hold of that sum in a sandbox is worth. -/
noncomputable def Tryd.pinned : Pinned := { name := "ytlkmgocaiebahaadoor", sum := "855edafb58c964d80ecd38abc5d72447e3d3743e5284c977175896b87a39296f", checked := Tryd.checked }
namespace Rows
def none {H : Type} : Left H := { results := [], args := [] }

/- WHAT THE LISTED PACKAGE-LEVEL VARIABLES READ AS WHEN THE CALL BEGINS. Each datum BY PROGRAM (the guide's laid-datum.mjs) off the statement by which the dump's own 'gosem.cut.vars' lays the variable. In a bare row this is a premise. The card (YtlkmgocaiebahaaDoorCards.lean) ties it to the program's text. -/
def laid_stepstone_handle_greatest {H : Type} : DataW H := .agg [.lit (.int .u64 4294967295), .lit (.int .u64 1073741823), .lit (.int .u64 1), .lit (.int .u64 1)]

/-- 'stepstonelaw01.HandlePacks': WHATEVER THE INPUT: true; the input reads as it did. -/
def handlePacksSpec : ChangeSpec := { name := "handlePacks", fn := fun _ => fun
  | [d1, d2, d3] => { results := [.lit (.bool true)], args := [d1, d2, d3] }
  | _ => none }
def handlePacksRow : OpenClaim := { program := "ytlkmgocaiebahaadoor", sum := "855edafb58c964d80ecd38abc5d72447e3d3743e5284c977175896b87a39296f", func := "stepstone/stepstonelaw01.HandlePacks", spec := "handlePacks", unfollowed := true, recurses := true, named := ["stepstone/handle.greatest"], apart := false, laid := [("stepstone/handle.greatest", laid_stepstone_handle_greatest)] }
def HandlePacksSaid : Prop := handlePacksRow.holds Tryd.pinned (OpenSpec.ofChange handlePacksSpec)

/-- ITS FALSE NEIGHBOUR: 'it returns false'. Refute it at one input. -/
def handlePacksWrong : ChangeSpec := { name := "handlePacks", fn := fun _ => fun
  | [d1, d2, d3] => { results := [.lit (.bool false)], args := [d1, d2, d3] }
  | _ => none }
def HandlePacksWrongFalsely : Prop := handlePacksRow.holds Tryd.pinned (OpenSpec.ofChange handlePacksWrong)

/-- 'stepstonelaw01.HandleParts': WHATEVER THE INPUT: true; the input reads as it did. -/
def handlePartsSpec : ChangeSpec := { name := "handleParts", fn := fun _ => fun
  | [d] => { results := [.lit (.bool true)], args := [d] }
  | _ => none }
def handlePartsRow : OpenClaim := { program := "ytlkmgocaiebahaadoor", sum := "855edafb58c964d80ecd38abc5d72447e3d3743e5284c977175896b87a39296f", func := "stepstone/stepstonelaw01.HandleParts", spec := "handleParts", unfollowed := true, recurses := true, named := ["stepstone/handle.greatest"], apart := false, laid := [("stepstone/handle.greatest", laid_stepstone_handle_greatest)] }
def HandlePartsSaid : Prop := handlePartsRow.holds Tryd.pinned (OpenSpec.ofChange handlePartsSpec)

/-- ITS FALSE NEIGHBOUR: 'it returns false'. Refute it at one input. -/
def handlePartsWrong : ChangeSpec := { name := "handleParts", fn := fun _ => fun
  | [d] => { results := [.lit (.bool false)], args := [d] }
  | _ => none }
def HandlePartsWrongFalsely : Prop := handlePartsRow.holds Tryd.pinned (OpenSpec.ofChange handlePartsWrong)

/-- 'stepstonelaw01.HandleBack': WHATEVER THE INPUT: true; the input reads as it did. -/
def handleBackSpec : ChangeSpec := { name := "handleBack", fn := fun _ => fun
  | [d] => { results := [.lit (.bool true)], args := [d] }
  | _ => none }
def handleBackRow : OpenClaim := { program := "ytlkmgocaiebahaadoor", sum := "855edafb58c964d80ecd38abc5d72447e3d3743e5284c977175896b87a39296f", func := "stepstone/stepstonelaw01.HandleBack", spec := "handleBack", unfollowed := true, recurses := true, named := ["stepstone/handle.greatest"], apart := false, laid := [("stepstone/handle.greatest", laid_stepstone_handle_greatest)] }
def HandleBackSaid : Prop := handleBackRow.holds Tryd.pinned (OpenSpec.ofChange handleBackSpec)

/-- ITS FALSE NEIGHBOUR: 'it returns false'. Refute it at one input. -/
def handleBackWrong : ChangeSpec := { name := "handleBack", fn := fun _ => fun
  | [d] => { results := [.lit (.bool false)], args := [d] }
  | _ => none }
def HandleBackWrongFalsely : Prop := handleBackRow.holds Tryd.pinned (OpenSpec.ofChange handleBackWrong)

/-- 'stepstonelaw01.HandleMarks': WHATEVER THE INPUT: true; the input reads as it did. -/
def handleMarksSpec : ChangeSpec := { name := "handleMarks", fn := fun _ => fun
  | [d] => { results := [.lit (.bool true)], args := [d] }
  | _ => none }
def handleMarksRow : OpenClaim := { program := "ytlkmgocaiebahaadoor", sum := "855edafb58c964d80ecd38abc5d72447e3d3743e5284c977175896b87a39296f", func := "stepstone/stepstonelaw01.HandleMarks", spec := "handleMarks", unfollowed := true, recurses := true, named := ["stepstone/handle.greatest"], apart := false, laid := [("stepstone/handle.greatest", laid_stepstone_handle_greatest)] }
def HandleMarksSaid : Prop := handleMarksRow.holds Tryd.pinned (OpenSpec.ofChange handleMarksSpec)

/-- ITS FALSE NEIGHBOUR: 'it returns false'. Refute it at one input. -/
def handleMarksWrong : ChangeSpec := { name := "handleMarks", fn := fun _ => fun
  | [d] => { results := [.lit (.bool false)], args := [d] }
  | _ => none }
def HandleMarksWrongFalsely : Prop := handleMarksRow.holds Tryd.pinned (OpenSpec.ofChange handleMarksWrong)

/-- 'stepstonelaw01.HandleApart': WHATEVER THE INPUT: true; the input reads as it did. -/
def handleApartSpec : ChangeSpec := { name := "handleApart", fn := fun _ => fun
  | [d1, d2, d3] => { results := [.lit (.bool true)], args := [d1, d2, d3] }
  | _ => none }
def handleApartRow : OpenClaim := { program := "ytlkmgocaiebahaadoor", sum := "855edafb58c964d80ecd38abc5d72447e3d3743e5284c977175896b87a39296f", func := "stepstone/stepstonelaw01.HandleApart", spec := "handleApart", unfollowed := true, recurses := true, named := ["stepstone/handle.greatest"], apart := false, laid := [("stepstone/handle.greatest", laid_stepstone_handle_greatest)] }
def HandleApartSaid : Prop := handleApartRow.holds Tryd.pinned (OpenSpec.ofChange handleApartSpec)

/-- ITS FALSE NEIGHBOUR: 'it returns false'. Refute it at one input. -/
def handleApartWrong : ChangeSpec := { name := "handleApart", fn := fun _ => fun
  | [d1, d2, d3] => { results := [.lit (.bool false)], args := [d1, d2, d3] }
  | _ => none }
def HandleApartWrongFalsely : Prop := handleApartRow.holds Tryd.pinned (OpenSpec.ofChange handleApartWrong)

/-- 'stepstonelaw01.HandleWhole': WHATEVER THE INPUT: true; the input reads as it did. -/
def handleWholeSpec : ChangeSpec := { name := "handleWhole", fn := fun _ => fun
  | [d1, d2] => { results := [.lit (.bool true)], args := [d1, d2] }
  | _ => none }
def handleWholeRow : OpenClaim := { program := "ytlkmgocaiebahaadoor", sum := "855edafb58c964d80ecd38abc5d72447e3d3743e5284c977175896b87a39296f", func := "stepstone/stepstonelaw01.HandleWhole", spec := "handleWhole", unfollowed := true, recurses := true, named := ["stepstone/handle.greatest"], apart := false, laid := [("stepstone/handle.greatest", laid_stepstone_handle_greatest)] }
def HandleWholeSaid : Prop := handleWholeRow.holds Tryd.pinned (OpenSpec.ofChange handleWholeSpec)

/-- ITS FALSE NEIGHBOUR: 'it returns false'. Refute it at one input. -/
def handleWholeWrong : ChangeSpec := { name := "handleWhole", fn := fun _ => fun
  | [d1, d2] => { results := [.lit (.bool false)], args := [d1, d2] }
  | _ => none }
def HandleWholeWrongFalsely : Prop := handleWholeRow.holds Tryd.pinned (OpenSpec.ofChange handleWholeWrong)

/- THE SECOND FORM. 'bulk': how many values and letters a reading holds, each counted each time it is reached (what is shared counts as often as it is met; a slice's spare places count too). A statement '..UptoSaid' is the law's where the arguments, and the package variables that the reading takes, are together of bulk at most 1048576: NARROWER than '..Said'. Prove '..Said' where nothing that the law and all that it calls make is longer than what came in: it says more and counts as full. Else prove '..UptoSaid'. A law counts once. -/
mutual
def uptoBulk {H : Type} : DataW H → Nat
  | .lit (.string bytes) => bytes.length + 1
  | .lit _ => 1
  | .nil => 1
  | .ptr d => uptoBulk d + 1
  | .slice elems spare => uptoBulkAll elems + uptoBulkAll spare + 1
  | .agg parts => uptoBulkAll parts + 1
  | .iface _ d => uptoBulk d + 1
  | .map entries => uptoBulkEntries entries + 1
  | .held _ => 1
def uptoBulkAll {H : Type} : List (DataW H) → Nat
  | [] => 0
  | d :: r => uptoBulk d + uptoBulkAll r
def uptoBulkEntries {H : Type} : List (Lit × DataW H) → Nat
  | [] => 0
  | x :: r => uptoBulkEntry x + uptoBulkEntries r
def uptoBulkEntry {H : Type} : Lit × DataW H → Nat
  | (.string bytes, d) => bytes.length + uptoBulk d + 1
  | (_, d) => uptoBulk d + 1
 end
def uptoSmall : (H : Type) → List (DataW H) → Bool := fun _ ds => decide (uptoBulkAll ds ≤ 1048576)
def OpenSpec.upto (s : _root_.Go.ChangeSpec) : _root_.Go.OpenSpec := { _root_.Go.OpenSpec.ofChange s with cond := some uptoSmall }

/-- 'stepstonelaw01.HandlePacks', WHERE WHAT IT READS IS OF BULK AT MOST 1048576: true; the input reads as it did. -/
def handlePacksUptoRow : OpenClaim := { program := "ytlkmgocaiebahaadoor", sum := "855edafb58c964d80ecd38abc5d72447e3d3743e5284c977175896b87a39296f", func := "stepstone/stepstonelaw01.HandlePacks", spec := "handlePacks", unfollowed := true, recurses := true, named := ["stepstone/handle.greatest"], apart := false, laid := [("stepstone/handle.greatest", laid_stepstone_handle_greatest)], narrowed := true }
def HandlePacksUptoSaid : Prop := handlePacksUptoRow.holds Tryd.pinned (OpenSpec.upto handlePacksSpec)

/-- 'stepstonelaw01.HandleParts', WHERE WHAT IT READS IS OF BULK AT MOST 1048576: true; the input reads as it did. -/
def handlePartsUptoRow : OpenClaim := { program := "ytlkmgocaiebahaadoor", sum := "855edafb58c964d80ecd38abc5d72447e3d3743e5284c977175896b87a39296f", func := "stepstone/stepstonelaw01.HandleParts", spec := "handleParts", unfollowed := true, recurses := true, named := ["stepstone/handle.greatest"], apart := false, laid := [("stepstone/handle.greatest", laid_stepstone_handle_greatest)], narrowed := true }
def HandlePartsUptoSaid : Prop := handlePartsUptoRow.holds Tryd.pinned (OpenSpec.upto handlePartsSpec)

/-- 'stepstonelaw01.HandleBack', WHERE WHAT IT READS IS OF BULK AT MOST 1048576: true; the input reads as it did. -/
def handleBackUptoRow : OpenClaim := { program := "ytlkmgocaiebahaadoor", sum := "855edafb58c964d80ecd38abc5d72447e3d3743e5284c977175896b87a39296f", func := "stepstone/stepstonelaw01.HandleBack", spec := "handleBack", unfollowed := true, recurses := true, named := ["stepstone/handle.greatest"], apart := false, laid := [("stepstone/handle.greatest", laid_stepstone_handle_greatest)], narrowed := true }
def HandleBackUptoSaid : Prop := handleBackUptoRow.holds Tryd.pinned (OpenSpec.upto handleBackSpec)

/-- 'stepstonelaw01.HandleMarks', WHERE WHAT IT READS IS OF BULK AT MOST 1048576: true; the input reads as it did. -/
def handleMarksUptoRow : OpenClaim := { program := "ytlkmgocaiebahaadoor", sum := "855edafb58c964d80ecd38abc5d72447e3d3743e5284c977175896b87a39296f", func := "stepstone/stepstonelaw01.HandleMarks", spec := "handleMarks", unfollowed := true, recurses := true, named := ["stepstone/handle.greatest"], apart := false, laid := [("stepstone/handle.greatest", laid_stepstone_handle_greatest)], narrowed := true }
def HandleMarksUptoSaid : Prop := handleMarksUptoRow.holds Tryd.pinned (OpenSpec.upto handleMarksSpec)

/-- 'stepstonelaw01.HandleApart', WHERE WHAT IT READS IS OF BULK AT MOST 1048576: true; the input reads as it did. -/
def handleApartUptoRow : OpenClaim := { program := "ytlkmgocaiebahaadoor", sum := "855edafb58c964d80ecd38abc5d72447e3d3743e5284c977175896b87a39296f", func := "stepstone/stepstonelaw01.HandleApart", spec := "handleApart", unfollowed := true, recurses := true, named := ["stepstone/handle.greatest"], apart := false, laid := [("stepstone/handle.greatest", laid_stepstone_handle_greatest)], narrowed := true }
def HandleApartUptoSaid : Prop := handleApartUptoRow.holds Tryd.pinned (OpenSpec.upto handleApartSpec)

/-- 'stepstonelaw01.HandleWhole', WHERE WHAT IT READS IS OF BULK AT MOST 1048576: true; the input reads as it did. -/
def handleWholeUptoRow : OpenClaim := { program := "ytlkmgocaiebahaadoor", sum := "855edafb58c964d80ecd38abc5d72447e3d3743e5284c977175896b87a39296f", func := "stepstone/stepstonelaw01.HandleWhole", spec := "handleWhole", unfollowed := true, recurses := true, named := ["stepstone/handle.greatest"], apart := false, laid := [("stepstone/handle.greatest", laid_stepstone_handle_greatest)], narrowed := true }
def HandleWholeUptoSaid : Prop := handleWholeUptoRow.holds Tryd.pinned (OpenSpec.upto handleWholeSpec)

end Rows
end Go.Proofs.YtlkmgocaiebahaaDoor

/-
  NARROWER THAN 'FOR EVERY INPUT', by the rows' own cells (each row's printed sentence says how): BuildAlone: laid · BuildDeleted: laid · BuildOther: laid · BuildRises: laid · BuildAgain: laid.
  DERIVED. THE GIVEN ROWS OF THIS SEAT. 5 by the template 'for every input the law returns true; each argument reads behind the call as it read before'; 0 by the template 'total and deterministic' (their statements: YtkjjieklccbmoaaDoorTotals.lean).
  GIVEN WITH THE SEED: the statements are not yours to turn. If you find one false, say at which input.
  Laid BY PROGRAM, IN A SANDBOX (cutbox-rows.mjs): the forced cells as the released guide's own fill.sh prints them over the translation 6e809a9390b4256f… (all of the seat's roots in one cut). By AI agents, Wed Nov 11 2026. No macro, syntax, notation, axiom, sorry.
-/
import Derived.Test.YtkjjieklccbmoaaDoorChecked
import GoSem.Claim
import GoSem.ClaimJoined
import GoSem.ClaimMapViews
import Derived.JoinedTies
import Derived.KernelRfl
namespace Go.Proofs.YtkjjieklccbmoaaDoor
/- THE CELL 'sum', in the pinned program and in every row, IS THE sha256 OF THE DUMP (.gsa) THAT YtkjjieklccbmoaaDoorProg.lean LOADS. Nothing in Lean hashes anything: it is a label: what it is worth is what the hold of that sum in a sandbox is worth. -/
noncomputable def Tryd.pinned : Pinned := { name := "ytkjjieklccbmoaadoor", sum := "6e809a9390b4256f2e0a2e3bfb84d9033de2823ca5af747be11e0c38a55d4e47", checked := Tryd.checked }
namespace Rows
def none {H : Type} : Left H := { results := [], args := [] }

/- WHAT THE LISTED PACKAGE-LEVEL VARIABLES READ AS WHEN THE CALL BEGINS. Each datum BY PROGRAM (the guide's laid-datum.mjs) off the statement by which the dump's own 'gosem.cut.vars' lays the variable. In a bare row this is a premise. The card (YtkjjieklccbmoaaDoorCards.lean) ties it to the program's text. -/
def laid_stepstone_handle_greatest {H : Type} : DataW H := .agg [.lit (.int .u64 4294967295), .lit (.int .u64 1073741823), .lit (.int .u64 1), .lit (.int .u64 1)]

/-- 'stepstonelaw13.BuildAlone': WHATEVER THE INPUT: true; the input reads as it did. -/
def buildAloneSpec : ChangeSpec := { name := "buildAlone", fn := fun _ => fun
  | [d1, d2, d3] => { results := [.lit (.bool true)], args := [d1, d2, d3] }
  | _ => none }
def buildAloneRow : OpenClaim := { program := "ytkjjieklccbmoaadoor", sum := "6e809a9390b4256f2e0a2e3bfb84d9033de2823ca5af747be11e0c38a55d4e47", func := "stepstone/stepstonelaw13.BuildAlone", spec := "buildAlone", unfollowed := true, recurses := true, named := ["stepstone/handle.greatest"], apart := false, laid := [("stepstone/handle.greatest", laid_stepstone_handle_greatest)] }
def BuildAloneSaid : Prop := buildAloneRow.holds Tryd.pinned (OpenSpec.ofChange buildAloneSpec)

/-- ITS FALSE NEIGHBOUR: 'it returns false'. Refute it at one input. -/
def buildAloneWrong : ChangeSpec := { name := "buildAlone", fn := fun _ => fun
  | [d1, d2, d3] => { results := [.lit (.bool false)], args := [d1, d2, d3] }
  | _ => none }
def BuildAloneWrongFalsely : Prop := buildAloneRow.holds Tryd.pinned (OpenSpec.ofChange buildAloneWrong)

/-- 'stepstonelaw13.BuildDeleted': WHATEVER THE INPUT: true; the input reads as it did. -/
def buildDeletedSpec : ChangeSpec := { name := "buildDeleted", fn := fun _ => fun
  | [d1, d2, d3] => { results := [.lit (.bool true)], args := [d1, d2, d3] }
  | _ => none }
def buildDeletedRow : OpenClaim := { program := "ytkjjieklccbmoaadoor", sum := "6e809a9390b4256f2e0a2e3bfb84d9033de2823ca5af747be11e0c38a55d4e47", func := "stepstone/stepstonelaw13.BuildDeleted", spec := "buildDeleted", unfollowed := true, recurses := true, named := ["stepstone/handle.greatest"], apart := false, laid := [("stepstone/handle.greatest", laid_stepstone_handle_greatest)] }
def BuildDeletedSaid : Prop := buildDeletedRow.holds Tryd.pinned (OpenSpec.ofChange buildDeletedSpec)

/-- ITS FALSE NEIGHBOUR: 'it returns false'. Refute it at one input. -/
def buildDeletedWrong : ChangeSpec := { name := "buildDeleted", fn := fun _ => fun
  | [d1, d2, d3] => { results := [.lit (.bool false)], args := [d1, d2, d3] }
  | _ => none }
def BuildDeletedWrongFalsely : Prop := buildDeletedRow.holds Tryd.pinned (OpenSpec.ofChange buildDeletedWrong)

/-- 'stepstonelaw13.BuildOther': WHATEVER THE INPUT: true; the input reads as it did. -/
def buildOtherSpec : ChangeSpec := { name := "buildOther", fn := fun _ => fun
  | [d1, d2, d3] => { results := [.lit (.bool true)], args := [d1, d2, d3] }
  | _ => none }
def buildOtherRow : OpenClaim := { program := "ytkjjieklccbmoaadoor", sum := "6e809a9390b4256f2e0a2e3bfb84d9033de2823ca5af747be11e0c38a55d4e47", func := "stepstone/stepstonelaw13.BuildOther", spec := "buildOther", unfollowed := true, recurses := true, named := ["stepstone/handle.greatest"], apart := false, laid := [("stepstone/handle.greatest", laid_stepstone_handle_greatest)] }
def BuildOtherSaid : Prop := buildOtherRow.holds Tryd.pinned (OpenSpec.ofChange buildOtherSpec)

/-- ITS FALSE NEIGHBOUR: 'it returns false'. Refute it at one input. -/
def buildOtherWrong : ChangeSpec := { name := "buildOther", fn := fun _ => fun
  | [d1, d2, d3] => { results := [.lit (.bool false)], args := [d1, d2, d3] }
  | _ => none }
def BuildOtherWrongFalsely : Prop := buildOtherRow.holds Tryd.pinned (OpenSpec.ofChange buildOtherWrong)

/-- 'stepstonelaw13.BuildRises': WHATEVER THE INPUT: true; the input reads as it did. -/
def buildRisesSpec : ChangeSpec := { name := "buildRises", fn := fun _ => fun
  | [d1, d2, d3] => { results := [.lit (.bool true)], args := [d1, d2, d3] }
  | _ => none }
def buildRisesRow : OpenClaim := { program := "ytkjjieklccbmoaadoor", sum := "6e809a9390b4256f2e0a2e3bfb84d9033de2823ca5af747be11e0c38a55d4e47", func := "stepstone/stepstonelaw13.BuildRises", spec := "buildRises", unfollowed := true, recurses := true, named := ["stepstone/handle.greatest"], apart := false, laid := [("stepstone/handle.greatest", laid_stepstone_handle_greatest)] }
def BuildRisesSaid : Prop := buildRisesRow.holds Tryd.pinned (OpenSpec.ofChange buildRisesSpec)

/-- ITS FALSE NEIGHBOUR: 'it returns false'. Refute it at one input. -/
def buildRisesWrong : ChangeSpec := { name := "buildRises", fn := fun _ => fun
  | [d1, d2, d3] => { results := [.lit (.bool false)], args := [d1, d2, d3] }
  | _ => none }
def BuildRisesWrongFalsely : Prop := buildRisesRow.holds Tryd.pinned (OpenSpec.ofChange buildRisesWrong)

/-- 'stepstonelaw13.BuildAgain': WHATEVER THE INPUT: true; the input reads as it did. -/
def buildAgainSpec : ChangeSpec := { name := "buildAgain", fn := fun _ => fun
  | [d1, d2, d3] => { results := [.lit (.bool true)], args := [d1, d2, d3] }
  | _ => none }
def buildAgainRow : OpenClaim := { program := "ytkjjieklccbmoaadoor", sum := "6e809a9390b4256f2e0a2e3bfb84d9033de2823ca5af747be11e0c38a55d4e47", func := "stepstone/stepstonelaw13.BuildAgain", spec := "buildAgain", unfollowed := true, recurses := true, named := ["stepstone/handle.greatest"], apart := false, laid := [("stepstone/handle.greatest", laid_stepstone_handle_greatest)] }
def BuildAgainSaid : Prop := buildAgainRow.holds Tryd.pinned (OpenSpec.ofChange buildAgainSpec)

/-- ITS FALSE NEIGHBOUR: 'it returns false'. Refute it at one input. -/
def buildAgainWrong : ChangeSpec := { name := "buildAgain", fn := fun _ => fun
  | [d1, d2, d3] => { results := [.lit (.bool false)], args := [d1, d2, d3] }
  | _ => none }
def BuildAgainWrongFalsely : Prop := buildAgainRow.holds Tryd.pinned (OpenSpec.ofChange buildAgainWrong)

/- THE SECOND FORM. 'bulk': how many values and letters a reading holds, each counted each time it is reached (what is shared counts as often as it is met; a slice's spare places count too). A statement '..UptoSaid' is the law's where the arguments, and the package variables that the reading takes, are together of bulk at most 1048576: NARROWER than '..Said'. Prove '..Said' where nothing that the law and all that it calls make is longer than what came in: it says more and counts as full. Else prove '..UptoSaid'. A law counts once. -/
mutual
def uptoBulk {H : Type} : DataW H → Nat
  | .lit (.string bytes) => bytes.length + 1
  | .lit _ => 1
  | .nil => 1
  | .ptr d => uptoBulk d + 1
  | .slice elems spare => uptoBulkAll elems + uptoBulkAll spare + 1
  | .agg parts => uptoBulkAll parts + 1
  | .iface _ d => uptoBulk d + 1
  | .map entries => uptoBulkEntries entries + 1
  | .held _ => 1
def uptoBulkAll {H : Type} : List (DataW H) → Nat
  | [] => 0
  | d :: r => uptoBulk d + uptoBulkAll r
def uptoBulkEntries {H : Type} : List (Lit × DataW H) → Nat
  | [] => 0
  | x :: r => uptoBulkEntry x + uptoBulkEntries r
def uptoBulkEntry {H : Type} : Lit × DataW H → Nat
  | (.string bytes, d) => bytes.length + uptoBulk d + 1
  | (_, d) => uptoBulk d + 1
 end
def uptoSmall : (H : Type) → List (DataW H) → Bool := fun _ ds => decide (uptoBulkAll ds ≤ 1048576)
def OpenSpec.upto (s : _root_.Go.ChangeSpec) : _root_.Go.OpenSpec := { _root_.Go.OpenSpec.ofChange s with cond := some uptoSmall }

/-- 'stepstonelaw13.BuildAlone', WHERE WHAT IT READS IS OF BULK AT MOST 1048576: true; the input reads as it did. -/
def buildAloneUptoRow : OpenClaim := { program := "ytkjjieklccbmoaadoor", sum := "6e809a9390b4256f2e0a2e3bfb84d9033de2823ca5af747be11e0c38a55d4e47", func := "stepstone/stepstonelaw13.BuildAlone", spec := "buildAlone", unfollowed := true, recurses := true, named := ["stepstone/handle.greatest"], apart := false, laid := [("stepstone/handle.greatest", laid_stepstone_handle_greatest)], narrowed := true }
def BuildAloneUptoSaid : Prop := buildAloneUptoRow.holds Tryd.pinned (OpenSpec.upto buildAloneSpec)

/-- 'stepstonelaw13.BuildDeleted', WHERE WHAT IT READS IS OF BULK AT MOST 1048576: true; the input reads as it did. -/
def buildDeletedUptoRow : OpenClaim := { program := "ytkjjieklccbmoaadoor", sum := "6e809a9390b4256f2e0a2e3bfb84d9033de2823ca5af747be11e0c38a55d4e47", func := "stepstone/stepstonelaw13.BuildDeleted", spec := "buildDeleted", unfollowed := true, recurses := true, named := ["stepstone/handle.greatest"], apart := false, laid := [("stepstone/handle.greatest", laid_stepstone_handle_greatest)], narrowed := true }
def BuildDeletedUptoSaid : Prop := buildDeletedUptoRow.holds Tryd.pinned (OpenSpec.upto buildDeletedSpec)

/-- 'stepstonelaw13.BuildOther', WHERE WHAT IT READS IS OF BULK AT MOST 1048576: true; the input reads as it did. -/
def buildOtherUptoRow : OpenClaim := { program := "ytkjjieklccbmoaadoor", sum := "6e809a9390b4256f2e0a2e3bfb84d9033de2823ca5af747be11e0c38a55d4e47", func := "stepstone/stepstonelaw13.BuildOther", spec := "buildOther", unfollowed := true, recurses := true, named := ["stepstone/handle.greatest"], apart := false, laid := [("stepstone/handle.greatest", laid_stepstone_handle_greatest)], narrowed := true }
def BuildOtherUptoSaid : Prop := buildOtherUptoRow.holds Tryd.pinned (OpenSpec.upto buildOtherSpec)

/-- 'stepstonelaw13.BuildRises', WHERE WHAT IT READS IS OF BULK AT MOST 1048576: true; the input reads as it did. -/
def buildRisesUptoRow : OpenClaim := { program := "ytkjjieklccbmoaadoor", sum := "6e809a9390b4256f2e0a2e3bfb84d9033de2823ca5af747be11e0c38a55d4e47", func := "stepstone/stepstonelaw13.BuildRises", spec := "buildRises", unfollowed := true, recurses := true, named := ["stepstone/handle.greatest"], apart := false, laid := [("stepstone/handle.greatest", laid_stepstone_handle_greatest)], narrowed := true }
def BuildRisesUptoSaid : Prop := buildRisesUptoRow.holds Tryd.pinned (OpenSpec.upto buildRisesSpec)

/-- 'stepstonelaw13.BuildAgain', WHERE WHAT IT READS IS OF BULK AT MOST 1048576: true; the input reads as it did. -/
def buildAgainUptoRow : OpenClaim := { program := "ytkjjieklccbmoaadoor", sum := "6e809a9390b4256f2e0a2e3bfb84d9033de2823ca5af747be11e0c38a55d4e47", func := "stepstone/stepstonelaw13.BuildAgain", spec := "buildAgain", unfollowed := true, recurses := true, named := ["stepstone/handle.greatest"], apart := false, laid := [("stepstone/handle.greatest", laid_stepstone_handle_greatest)], narrowed := true }
def BuildAgainUptoSaid : Prop := buildAgainUptoRow.holds Tryd.pinned (OpenSpec.upto buildAgainSpec)

end Rows
end Go.Proofs.YtkjjieklccbmoaaDoor

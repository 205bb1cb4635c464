/-
  NARROWER THAN 'FOR EVERY INPUT', by the rows' own cells (each row's printed sentence says how): HelpSteps: laid · HelpAlone: laid · HelpTwo: laid · HelpDown: laid · HelpAgain: laid · HelpLost: laid.
  DERIVED. THE GIVEN ROWS OF THIS SEAT. 6 by the template 'for every input the law returns true; each argument reads behind the call as it read before'; 0 by the template 'total and deterministic' (their statements: YtjbdaejkofkcpaaDoorTotals.lean).
  GIVEN WITH THE SEED: the statements are not yours to turn. If you find one false, say at which input.
  Laid BY PROGRAM, IN A SANDBOX (cutbox-rows.mjs): the forced cells as the released guide's own fill.sh prints them over the translation d02ed3b34a2a6650… (all of the seat's roots in one cut). By AI agents, Wed Nov 11 2026. No macro, syntax, notation, axiom, sorry.
-/
import Derived.Test.YtjbdaejkofkcpaaDoorChecked
import GoSem.Claim
import GoSem.ClaimJoined
import GoSem.ClaimMapViews
import Derived.JoinedTies
import Derived.KernelRfl
namespace Go.Proofs.YtjbdaejkofkcpaaDoor
/- THE CELL 'sum', in the pinned program and in every row, IS THE sha256 OF THE DUMP (.gsa) THAT YtjbdaejkofkcpaaDoorProg.lean LOADS. Nothing in Lean hashes anything: it is a label: what it is worth is what the hold of that sum in a sandbox is worth. -/
noncomputable def Tryd.pinned : Pinned := { name := "ytjbdaejkofkcpaadoor", sum := "d02ed3b34a2a665014f843916a43e8afe3e62d861b1ca47a63f72e56d455af15", checked := Tryd.checked }
namespace Rows
def none {H : Type} : Left H := { results := [], args := [] }

/- WHAT THE LISTED PACKAGE-LEVEL VARIABLES READ AS WHEN THE CALL BEGINS. Each datum BY PROGRAM (the guide's laid-datum.mjs) off the statement by which the dump's own 'gosem.cut.vars' lays the variable. In a bare row this is a premise. The card (YtjbdaejkofkcpaaDoorCards.lean) ties it to the program's text. -/
def laid_stepstone_handle_greatest {H : Type} : DataW H := .agg [.lit (.int .u64 4294967295), .lit (.int .u64 1073741823), .lit (.int .u64 1), .lit (.int .u64 1)]

/-- 'stepstonelaw12.HelpSteps': WHATEVER THE INPUT: true; the input reads as it did. -/
def helpStepsSpec : ChangeSpec := { name := "helpSteps", fn := fun _ => fun
  | [d1, d2, d3] => { results := [.lit (.bool true)], args := [d1, d2, d3] }
  | _ => none }
def helpStepsRow : OpenClaim := { program := "ytjbdaejkofkcpaadoor", sum := "d02ed3b34a2a665014f843916a43e8afe3e62d861b1ca47a63f72e56d455af15", func := "stepstone/stepstonelaw12.HelpSteps", spec := "helpSteps", unfollowed := true, recurses := true, named := ["stepstone/handle.greatest"], apart := false, laid := [("stepstone/handle.greatest", laid_stepstone_handle_greatest)] }
def HelpStepsSaid : Prop := helpStepsRow.holds Tryd.pinned (OpenSpec.ofChange helpStepsSpec)

/-- ITS FALSE NEIGHBOUR: 'it returns false'. Refute it at one input. -/
def helpStepsWrong : ChangeSpec := { name := "helpSteps", fn := fun _ => fun
  | [d1, d2, d3] => { results := [.lit (.bool false)], args := [d1, d2, d3] }
  | _ => none }
def HelpStepsWrongFalsely : Prop := helpStepsRow.holds Tryd.pinned (OpenSpec.ofChange helpStepsWrong)

/-- 'stepstonelaw12.HelpAlone': WHATEVER THE INPUT: true; the input reads as it did. -/
def helpAloneSpec : ChangeSpec := { name := "helpAlone", fn := fun _ => fun
  | [d1, d2, d3] => { results := [.lit (.bool true)], args := [d1, d2, d3] }
  | _ => none }
def helpAloneRow : OpenClaim := { program := "ytjbdaejkofkcpaadoor", sum := "d02ed3b34a2a665014f843916a43e8afe3e62d861b1ca47a63f72e56d455af15", func := "stepstone/stepstonelaw12.HelpAlone", spec := "helpAlone", unfollowed := true, recurses := true, named := ["stepstone/handle.greatest"], apart := false, laid := [("stepstone/handle.greatest", laid_stepstone_handle_greatest)] }
def HelpAloneSaid : Prop := helpAloneRow.holds Tryd.pinned (OpenSpec.ofChange helpAloneSpec)

/-- ITS FALSE NEIGHBOUR: 'it returns false'. Refute it at one input. -/
def helpAloneWrong : ChangeSpec := { name := "helpAlone", fn := fun _ => fun
  | [d1, d2, d3] => { results := [.lit (.bool false)], args := [d1, d2, d3] }
  | _ => none }
def HelpAloneWrongFalsely : Prop := helpAloneRow.holds Tryd.pinned (OpenSpec.ofChange helpAloneWrong)

/-- 'stepstonelaw12.HelpTwo': WHATEVER THE INPUT: true; the input reads as it did. -/
def helpTwoSpec : ChangeSpec := { name := "helpTwo", fn := fun _ => fun
  | [d1, d2, d3] => { results := [.lit (.bool true)], args := [d1, d2, d3] }
  | _ => none }
def helpTwoRow : OpenClaim := { program := "ytjbdaejkofkcpaadoor", sum := "d02ed3b34a2a665014f843916a43e8afe3e62d861b1ca47a63f72e56d455af15", func := "stepstone/stepstonelaw12.HelpTwo", spec := "helpTwo", unfollowed := true, recurses := true, named := ["stepstone/handle.greatest"], apart := false, laid := [("stepstone/handle.greatest", laid_stepstone_handle_greatest)] }
def HelpTwoSaid : Prop := helpTwoRow.holds Tryd.pinned (OpenSpec.ofChange helpTwoSpec)

/-- ITS FALSE NEIGHBOUR: 'it returns false'. Refute it at one input. -/
def helpTwoWrong : ChangeSpec := { name := "helpTwo", fn := fun _ => fun
  | [d1, d2, d3] => { results := [.lit (.bool false)], args := [d1, d2, d3] }
  | _ => none }
def HelpTwoWrongFalsely : Prop := helpTwoRow.holds Tryd.pinned (OpenSpec.ofChange helpTwoWrong)

/-- 'stepstonelaw12.HelpDown': WHATEVER THE INPUT: true; the input reads as it did. -/
def helpDownSpec : ChangeSpec := { name := "helpDown", fn := fun _ => fun
  | [d1, d2, d3] => { results := [.lit (.bool true)], args := [d1, d2, d3] }
  | _ => none }
def helpDownRow : OpenClaim := { program := "ytjbdaejkofkcpaadoor", sum := "d02ed3b34a2a665014f843916a43e8afe3e62d861b1ca47a63f72e56d455af15", func := "stepstone/stepstonelaw12.HelpDown", spec := "helpDown", unfollowed := true, recurses := true, named := ["stepstone/handle.greatest"], apart := false, laid := [("stepstone/handle.greatest", laid_stepstone_handle_greatest)] }
def HelpDownSaid : Prop := helpDownRow.holds Tryd.pinned (OpenSpec.ofChange helpDownSpec)

/-- ITS FALSE NEIGHBOUR: 'it returns false'. Refute it at one input. -/
def helpDownWrong : ChangeSpec := { name := "helpDown", fn := fun _ => fun
  | [d1, d2, d3] => { results := [.lit (.bool false)], args := [d1, d2, d3] }
  | _ => none }
def HelpDownWrongFalsely : Prop := helpDownRow.holds Tryd.pinned (OpenSpec.ofChange helpDownWrong)

/-- 'stepstonelaw12.HelpAgain': WHATEVER THE INPUT: true; the input reads as it did. -/
def helpAgainSpec : ChangeSpec := { name := "helpAgain", fn := fun _ => fun
  | [d1, d2, d3] => { results := [.lit (.bool true)], args := [d1, d2, d3] }
  | _ => none }
def helpAgainRow : OpenClaim := { program := "ytjbdaejkofkcpaadoor", sum := "d02ed3b34a2a665014f843916a43e8afe3e62d861b1ca47a63f72e56d455af15", func := "stepstone/stepstonelaw12.HelpAgain", spec := "helpAgain", unfollowed := true, recurses := true, named := ["stepstone/handle.greatest"], apart := false, laid := [("stepstone/handle.greatest", laid_stepstone_handle_greatest)] }
def HelpAgainSaid : Prop := helpAgainRow.holds Tryd.pinned (OpenSpec.ofChange helpAgainSpec)

/-- ITS FALSE NEIGHBOUR: 'it returns false'. Refute it at one input. -/
def helpAgainWrong : ChangeSpec := { name := "helpAgain", fn := fun _ => fun
  | [d1, d2, d3] => { results := [.lit (.bool false)], args := [d1, d2, d3] }
  | _ => none }
def HelpAgainWrongFalsely : Prop := helpAgainRow.holds Tryd.pinned (OpenSpec.ofChange helpAgainWrong)

/-- 'stepstonelaw12.HelpLost': WHATEVER THE INPUT: true; the input reads as it did. -/
def helpLostSpec : ChangeSpec := { name := "helpLost", fn := fun _ => fun
  | [d1, d2, d3] => { results := [.lit (.bool true)], args := [d1, d2, d3] }
  | _ => none }
def helpLostRow : OpenClaim := { program := "ytjbdaejkofkcpaadoor", sum := "d02ed3b34a2a665014f843916a43e8afe3e62d861b1ca47a63f72e56d455af15", func := "stepstone/stepstonelaw12.HelpLost", spec := "helpLost", unfollowed := true, recurses := true, named := ["stepstone/handle.greatest"], apart := false, laid := [("stepstone/handle.greatest", laid_stepstone_handle_greatest)] }
def HelpLostSaid : Prop := helpLostRow.holds Tryd.pinned (OpenSpec.ofChange helpLostSpec)

/-- ITS FALSE NEIGHBOUR: 'it returns false'. Refute it at one input. -/
def helpLostWrong : ChangeSpec := { name := "helpLost", fn := fun _ => fun
  | [d1, d2, d3] => { results := [.lit (.bool false)], args := [d1, d2, d3] }
  | _ => none }
def HelpLostWrongFalsely : Prop := helpLostRow.holds Tryd.pinned (OpenSpec.ofChange helpLostWrong)

/- THE SECOND FORM. 'bulk': how many values and letters a reading holds, each counted each time it is reached (what is shared counts as often as it is met; a slice's spare places count too). A statement '..UptoSaid' is the law's where the arguments, and the package variables that the reading takes, are together of bulk at most 1048576: NARROWER than '..Said'. Prove '..Said' where nothing that the law and all that it calls make is longer than what came in: it says more and counts as full. Else prove '..UptoSaid'. A law counts once. -/
mutual
def uptoBulk {H : Type} : DataW H → Nat
  | .lit (.string bytes) => bytes.length + 1
  | .lit _ => 1
  | .nil => 1
  | .ptr d => uptoBulk d + 1
  | .slice elems spare => uptoBulkAll elems + uptoBulkAll spare + 1
  | .agg parts => uptoBulkAll parts + 1
  | .iface _ d => uptoBulk d + 1
  | .map entries => uptoBulkEntries entries + 1
  | .held _ => 1
def uptoBulkAll {H : Type} : List (DataW H) → Nat
  | [] => 0
  | d :: r => uptoBulk d + uptoBulkAll r
def uptoBulkEntries {H : Type} : List (Lit × DataW H) → Nat
  | [] => 0
  | x :: r => uptoBulkEntry x + uptoBulkEntries r
def uptoBulkEntry {H : Type} : Lit × DataW H → Nat
  | (.string bytes, d) => bytes.length + uptoBulk d + 1
  | (_, d) => uptoBulk d + 1
 end
def uptoSmall : (H : Type) → List (DataW H) → Bool := fun _ ds => decide (uptoBulkAll ds ≤ 1048576)
def OpenSpec.upto (s : _root_.Go.ChangeSpec) : _root_.Go.OpenSpec := { _root_.Go.OpenSpec.ofChange s with cond := some uptoSmall }

/-- 'stepstonelaw12.HelpSteps', WHERE WHAT IT READS IS OF BULK AT MOST 1048576: true; the input reads as it did. -/
def helpStepsUptoRow : OpenClaim := { program := "ytjbdaejkofkcpaadoor", sum := "d02ed3b34a2a665014f843916a43e8afe3e62d861b1ca47a63f72e56d455af15", func := "stepstone/stepstonelaw12.HelpSteps", spec := "helpSteps", unfollowed := true, recurses := true, named := ["stepstone/handle.greatest"], apart := false, laid := [("stepstone/handle.greatest", laid_stepstone_handle_greatest)], narrowed := true }
def HelpStepsUptoSaid : Prop := helpStepsUptoRow.holds Tryd.pinned (OpenSpec.upto helpStepsSpec)

/-- 'stepstonelaw12.HelpAlone', WHERE WHAT IT READS IS OF BULK AT MOST 1048576: true; the input reads as it did. -/
def helpAloneUptoRow : OpenClaim := { program := "ytjbdaejkofkcpaadoor", sum := "d02ed3b34a2a665014f843916a43e8afe3e62d861b1ca47a63f72e56d455af15", func := "stepstone/stepstonelaw12.HelpAlone", spec := "helpAlone", unfollowed := true, recurses := true, named := ["stepstone/handle.greatest"], apart := false, laid := [("stepstone/handle.greatest", laid_stepstone_handle_greatest)], narrowed := true }
def HelpAloneUptoSaid : Prop := helpAloneUptoRow.holds Tryd.pinned (OpenSpec.upto helpAloneSpec)

/-- 'stepstonelaw12.HelpTwo', WHERE WHAT IT READS IS OF BULK AT MOST 1048576: true; the input reads as it did. -/
def helpTwoUptoRow : OpenClaim := { program := "ytjbdaejkofkcpaadoor", sum := "d02ed3b34a2a665014f843916a43e8afe3e62d861b1ca47a63f72e56d455af15", func := "stepstone/stepstonelaw12.HelpTwo", spec := "helpTwo", unfollowed := true, recurses := true, named := ["stepstone/handle.greatest"], apart := false, laid := [("stepstone/handle.greatest", laid_stepstone_handle_greatest)], narrowed := true }
def HelpTwoUptoSaid : Prop := helpTwoUptoRow.holds Tryd.pinned (OpenSpec.upto helpTwoSpec)

/-- 'stepstonelaw12.HelpDown', WHERE WHAT IT READS IS OF BULK AT MOST 1048576: true; the input reads as it did. -/
def helpDownUptoRow : OpenClaim := { program := "ytjbdaejkofkcpaadoor", sum := "d02ed3b34a2a665014f843916a43e8afe3e62d861b1ca47a63f72e56d455af15", func := "stepstone/stepstonelaw12.HelpDown", spec := "helpDown", unfollowed := true, recurses := true, named := ["stepstone/handle.greatest"], apart := false, laid := [("stepstone/handle.greatest", laid_stepstone_handle_greatest)], narrowed := true }
def HelpDownUptoSaid : Prop := helpDownUptoRow.holds Tryd.pinned (OpenSpec.upto helpDownSpec)

/-- 'stepstonelaw12.HelpAgain', WHERE WHAT IT READS IS OF BULK AT MOST 1048576: true; the input reads as it did. -/
def helpAgainUptoRow : OpenClaim := { program := "ytjbdaejkofkcpaadoor", sum := "d02ed3b34a2a665014f843916a43e8afe3e62d861b1ca47a63f72e56d455af15", func := "stepstone/stepstonelaw12.HelpAgain", spec := "helpAgain", unfollowed := true, recurses := true, named := ["stepstone/handle.greatest"], apart := false, laid := [("stepstone/handle.greatest", laid_stepstone_handle_greatest)], narrowed := true }
def HelpAgainUptoSaid : Prop := helpAgainUptoRow.holds Tryd.pinned (OpenSpec.upto helpAgainSpec)

/-- 'stepstonelaw12.HelpLost', WHERE WHAT IT READS IS OF BULK AT MOST 1048576: true; the input reads as it did. -/
def helpLostUptoRow : OpenClaim := { program := "ytjbdaejkofkcpaadoor", sum := "d02ed3b34a2a665014f843916a43e8afe3e62d861b1ca47a63f72e56d455af15", func := "stepstone/stepstonelaw12.HelpLost", spec := "helpLost", unfollowed := true, recurses := true, named := ["stepstone/handle.greatest"], apart := false, laid := [("stepstone/handle.greatest", laid_stepstone_handle_greatest)], narrowed := true }
def HelpLostUptoSaid : Prop := helpLostUptoRow.holds Tryd.pinned (OpenSpec.upto helpLostSpec)

end Rows
end Go.Proofs.YtjbdaejkofkcpaaDoor

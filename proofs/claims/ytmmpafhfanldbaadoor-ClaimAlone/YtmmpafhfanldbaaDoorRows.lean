/-
  NARROWER THAN 'FOR EVERY INPUT', by the rows' own cells (each row's printed sentence says how): ClaimSteps: laid · ClaimBacks: laid · ClaimAlone: laid · ClaimTwo: laid · ClaimEnds: laid · ClaimRound: laid.
  DERIVED. THE GIVEN ROWS OF THIS SEAT. 6 by the template 'for every input the law returns true; each argument reads behind the call as it read before'; 0 by the template 'total and deterministic' (their statements: YtmmpafhfanldbaaDoorTotals.lean).
  GIVEN WITH THE SEED: the statements are not yours to turn. If you find one false, say at which input.
  Laid BY PROGRAM, IN A SANDBOX (cutbox-rows.mjs): the forced cells as the released guide's own fill.sh prints them over the translation 4460a9457eec4fc5… (all of the seat's roots in one cut). By AI agents, Wed Nov 11 2026. No macro, syntax, notation, axiom, sorry.
-/
import Derived.Test.YtmmpafhfanldbaaDoorChecked
import GoSem.Claim
import GoSem.ClaimJoined
import GoSem.ClaimMapViews
import Derived.JoinedTies
import Derived.KernelRfl
namespace Go.Proofs.YtmmpafhfanldbaaDoor
/- THE CELL 'sum', in the pinned program and in every row, IS THE sha256 OF THE DUMP (.gsa) THAT YtmmpafhfanldbaaDoorProg.lean LOADS. Nothing in Lean hashes anything: it is a label: what it is worth is what the hold of that sum in a sandbox is worth. -/
noncomputable def Tryd.pinned : Pinned := { name := "ytmmpafhfanldbaadoor", sum := "4460a9457eec4fc5f5abc9af98648b15528f3286659b8d5f9d4d2a2affdfc88b", checked := Tryd.checked }
namespace Rows
def none {H : Type} : Left H := { results := [], args := [] }

/- WHAT THE LISTED PACKAGE-LEVEL VARIABLES READ AS WHEN THE CALL BEGINS. Each datum BY PROGRAM (the guide's laid-datum.mjs) off the statement by which the dump's own 'gosem.cut.vars' lays the variable. In a bare row this is a premise. The card (YtmmpafhfanldbaaDoorCards.lean) ties it to the program's text. -/
def laid_stepstone_handle_greatest {H : Type} : DataW H := .agg [.lit (.int .u64 4294967295), .lit (.int .u64 1073741823), .lit (.int .u64 1), .lit (.int .u64 1)]

/-- 'stepstonelaw09.ClaimSteps': WHATEVER THE INPUT: true; the input reads as it did. -/
def claimStepsSpec : ChangeSpec := { name := "claimSteps", fn := fun _ => fun
  | [d1, d2, d3] => { results := [.lit (.bool true)], args := [d1, d2, d3] }
  | _ => none }
def claimStepsRow : OpenClaim := { program := "ytmmpafhfanldbaadoor", sum := "4460a9457eec4fc5f5abc9af98648b15528f3286659b8d5f9d4d2a2affdfc88b", func := "stepstone/stepstonelaw09.ClaimSteps", spec := "claimSteps", unfollowed := true, recurses := true, named := ["stepstone/handle.greatest"], apart := false, laid := [("stepstone/handle.greatest", laid_stepstone_handle_greatest)] }
def ClaimStepsSaid : Prop := claimStepsRow.holds Tryd.pinned (OpenSpec.ofChange claimStepsSpec)

/-- ITS FALSE NEIGHBOUR: 'it returns false'. Refute it at one input. -/
def claimStepsWrong : ChangeSpec := { name := "claimSteps", fn := fun _ => fun
  | [d1, d2, d3] => { results := [.lit (.bool false)], args := [d1, d2, d3] }
  | _ => none }
def ClaimStepsWrongFalsely : Prop := claimStepsRow.holds Tryd.pinned (OpenSpec.ofChange claimStepsWrong)

/-- 'stepstonelaw09.ClaimBacks': WHATEVER THE INPUT: true; the input reads as it did. -/
def claimBacksSpec : ChangeSpec := { name := "claimBacks", fn := fun _ => fun
  | [d1, d2, d3] => { results := [.lit (.bool true)], args := [d1, d2, d3] }
  | _ => none }
def claimBacksRow : OpenClaim := { program := "ytmmpafhfanldbaadoor", sum := "4460a9457eec4fc5f5abc9af98648b15528f3286659b8d5f9d4d2a2affdfc88b", func := "stepstone/stepstonelaw09.ClaimBacks", spec := "claimBacks", unfollowed := true, recurses := true, named := ["stepstone/handle.greatest"], apart := false, laid := [("stepstone/handle.greatest", laid_stepstone_handle_greatest)] }
def ClaimBacksSaid : Prop := claimBacksRow.holds Tryd.pinned (OpenSpec.ofChange claimBacksSpec)

/-- ITS FALSE NEIGHBOUR: 'it returns false'. Refute it at one input. -/
def claimBacksWrong : ChangeSpec := { name := "claimBacks", fn := fun _ => fun
  | [d1, d2, d3] => { results := [.lit (.bool false)], args := [d1, d2, d3] }
  | _ => none }
def ClaimBacksWrongFalsely : Prop := claimBacksRow.holds Tryd.pinned (OpenSpec.ofChange claimBacksWrong)

/-- 'stepstonelaw09.ClaimAlone': WHATEVER THE INPUT: true; the input reads as it did. -/
def claimAloneSpec : ChangeSpec := { name := "claimAlone", fn := fun _ => fun
  | [d1, d2, d3] => { results := [.lit (.bool true)], args := [d1, d2, d3] }
  | _ => none }
def claimAloneRow : OpenClaim := { program := "ytmmpafhfanldbaadoor", sum := "4460a9457eec4fc5f5abc9af98648b15528f3286659b8d5f9d4d2a2affdfc88b", func := "stepstone/stepstonelaw09.ClaimAlone", spec := "claimAlone", unfollowed := true, recurses := true, named := ["stepstone/handle.greatest"], apart := false, laid := [("stepstone/handle.greatest", laid_stepstone_handle_greatest)] }
def ClaimAloneSaid : Prop := claimAloneRow.holds Tryd.pinned (OpenSpec.ofChange claimAloneSpec)

/-- ITS FALSE NEIGHBOUR: 'it returns false'. Refute it at one input. -/
def claimAloneWrong : ChangeSpec := { name := "claimAlone", fn := fun _ => fun
  | [d1, d2, d3] => { results := [.lit (.bool false)], args := [d1, d2, d3] }
  | _ => none }
def ClaimAloneWrongFalsely : Prop := claimAloneRow.holds Tryd.pinned (OpenSpec.ofChange claimAloneWrong)

/-- 'stepstonelaw09.ClaimTwo': WHATEVER THE INPUT: true; the input reads as it did. -/
def claimTwoSpec : ChangeSpec := { name := "claimTwo", fn := fun _ => fun
  | [d1, d2, d3] => { results := [.lit (.bool true)], args := [d1, d2, d3] }
  | _ => none }
def claimTwoRow : OpenClaim := { program := "ytmmpafhfanldbaadoor", sum := "4460a9457eec4fc5f5abc9af98648b15528f3286659b8d5f9d4d2a2affdfc88b", func := "stepstone/stepstonelaw09.ClaimTwo", spec := "claimTwo", unfollowed := true, recurses := true, named := ["stepstone/handle.greatest"], apart := false, laid := [("stepstone/handle.greatest", laid_stepstone_handle_greatest)] }
def ClaimTwoSaid : Prop := claimTwoRow.holds Tryd.pinned (OpenSpec.ofChange claimTwoSpec)

/-- ITS FALSE NEIGHBOUR: 'it returns false'. Refute it at one input. -/
def claimTwoWrong : ChangeSpec := { name := "claimTwo", fn := fun _ => fun
  | [d1, d2, d3] => { results := [.lit (.bool false)], args := [d1, d2, d3] }
  | _ => none }
def ClaimTwoWrongFalsely : Prop := claimTwoRow.holds Tryd.pinned (OpenSpec.ofChange claimTwoWrong)

/-- 'stepstonelaw09.ClaimEnds': WHATEVER THE INPUT: true; the input reads as it did. -/
def claimEndsSpec : ChangeSpec := { name := "claimEnds", fn := fun _ => fun
  | [d] => { results := [.lit (.bool true)], args := [d] }
  | _ => none }
def claimEndsRow : OpenClaim := { program := "ytmmpafhfanldbaadoor", sum := "4460a9457eec4fc5f5abc9af98648b15528f3286659b8d5f9d4d2a2affdfc88b", func := "stepstone/stepstonelaw09.ClaimEnds", spec := "claimEnds", unfollowed := true, recurses := true, named := ["stepstone/handle.greatest"], apart := false, laid := [("stepstone/handle.greatest", laid_stepstone_handle_greatest)] }
def ClaimEndsSaid : Prop := claimEndsRow.holds Tryd.pinned (OpenSpec.ofChange claimEndsSpec)

/-- ITS FALSE NEIGHBOUR: 'it returns false'. Refute it at one input. -/
def claimEndsWrong : ChangeSpec := { name := "claimEnds", fn := fun _ => fun
  | [d] => { results := [.lit (.bool false)], args := [d] }
  | _ => none }
def ClaimEndsWrongFalsely : Prop := claimEndsRow.holds Tryd.pinned (OpenSpec.ofChange claimEndsWrong)

/-- 'stepstonelaw09.ClaimRound': WHATEVER THE INPUT: true; the input reads as it did. -/
def claimRoundSpec : ChangeSpec := { name := "claimRound", fn := fun _ => fun
  | [d1, d2] => { results := [.lit (.bool true)], args := [d1, d2] }
  | _ => none }
def claimRoundRow : OpenClaim := { program := "ytmmpafhfanldbaadoor", sum := "4460a9457eec4fc5f5abc9af98648b15528f3286659b8d5f9d4d2a2affdfc88b", func := "stepstone/stepstonelaw09.ClaimRound", spec := "claimRound", unfollowed := true, recurses := true, named := ["stepstone/handle.greatest"], apart := false, laid := [("stepstone/handle.greatest", laid_stepstone_handle_greatest)] }
def ClaimRoundSaid : Prop := claimRoundRow.holds Tryd.pinned (OpenSpec.ofChange claimRoundSpec)

/-- ITS FALSE NEIGHBOUR: 'it returns false'. Refute it at one input. -/
def claimRoundWrong : ChangeSpec := { name := "claimRound", fn := fun _ => fun
  | [d1, d2] => { results := [.lit (.bool false)], args := [d1, d2] }
  | _ => none }
def ClaimRoundWrongFalsely : Prop := claimRoundRow.holds Tryd.pinned (OpenSpec.ofChange claimRoundWrong)

/- THE SECOND FORM. 'bulk': how many values and letters a reading holds, each counted each time it is reached (what is shared counts as often as it is met; a slice's spare places count too). A statement '..UptoSaid' is the law's where the arguments, and the package variables that the reading takes, are together of bulk at most 1048576: NARROWER than '..Said'. Prove '..Said' where nothing that the law and all that it calls make is longer than what came in: it says more and counts as full. Else prove '..UptoSaid'. A law counts once. -/
mutual
def uptoBulk {H : Type} : DataW H → Nat
  | .lit (.string bytes) => bytes.length + 1
  | .lit _ => 1
  | .nil => 1
  | .ptr d => uptoBulk d + 1
  | .slice elems spare => uptoBulkAll elems + uptoBulkAll spare + 1
  | .agg parts => uptoBulkAll parts + 1
  | .iface _ d => uptoBulk d + 1
  | .map entries => uptoBulkEntries entries + 1
  | .held _ => 1
def uptoBulkAll {H : Type} : List (DataW H) → Nat
  | [] => 0
  | d :: r => uptoBulk d + uptoBulkAll r
def uptoBulkEntries {H : Type} : List (Lit × DataW H) → Nat
  | [] => 0
  | x :: r => uptoBulkEntry x + uptoBulkEntries r
def uptoBulkEntry {H : Type} : Lit × DataW H → Nat
  | (.string bytes, d) => bytes.length + uptoBulk d + 1
  | (_, d) => uptoBulk d + 1
 end
def uptoSmall : (H : Type) → List (DataW H) → Bool := fun _ ds => decide (uptoBulkAll ds ≤ 1048576)
def OpenSpec.upto (s : _root_.Go.ChangeSpec) : _root_.Go.OpenSpec := { _root_.Go.OpenSpec.ofChange s with cond := some uptoSmall }

/-- 'stepstonelaw09.ClaimSteps', WHERE WHAT IT READS IS OF BULK AT MOST 1048576: true; the input reads as it did. -/
def claimStepsUptoRow : OpenClaim := { program := "ytmmpafhfanldbaadoor", sum := "4460a9457eec4fc5f5abc9af98648b15528f3286659b8d5f9d4d2a2affdfc88b", func := "stepstone/stepstonelaw09.ClaimSteps", spec := "claimSteps", unfollowed := true, recurses := true, named := ["stepstone/handle.greatest"], apart := false, laid := [("stepstone/handle.greatest", laid_stepstone_handle_greatest)], narrowed := true }
def ClaimStepsUptoSaid : Prop := claimStepsUptoRow.holds Tryd.pinned (OpenSpec.upto claimStepsSpec)

/-- 'stepstonelaw09.ClaimBacks', WHERE WHAT IT READS IS OF BULK AT MOST 1048576: true; the input reads as it did. -/
def claimBacksUptoRow : OpenClaim := { program := "ytmmpafhfanldbaadoor", sum := "4460a9457eec4fc5f5abc9af98648b15528f3286659b8d5f9d4d2a2affdfc88b", func := "stepstone/stepstonelaw09.ClaimBacks", spec := "claimBacks", unfollowed := true, recurses := true, named := ["stepstone/handle.greatest"], apart := false, laid := [("stepstone/handle.greatest", laid_stepstone_handle_greatest)], narrowed := true }
def ClaimBacksUptoSaid : Prop := claimBacksUptoRow.holds Tryd.pinned (OpenSpec.upto claimBacksSpec)

/-- 'stepstonelaw09.ClaimAlone', WHERE WHAT IT READS IS OF BULK AT MOST 1048576: true; the input reads as it did. -/
def claimAloneUptoRow : OpenClaim := { program := "ytmmpafhfanldbaadoor", sum := "4460a9457eec4fc5f5abc9af98648b15528f3286659b8d5f9d4d2a2affdfc88b", func := "stepstone/stepstonelaw09.ClaimAlone", spec := "claimAlone", unfollowed := true, recurses := true, named := ["stepstone/handle.greatest"], apart := false, laid := [("stepstone/handle.greatest", laid_stepstone_handle_greatest)], narrowed := true }
def ClaimAloneUptoSaid : Prop := claimAloneUptoRow.holds Tryd.pinned (OpenSpec.upto claimAloneSpec)

/-- 'stepstonelaw09.ClaimTwo', WHERE WHAT IT READS IS OF BULK AT MOST 1048576: true; the input reads as it did. -/
def claimTwoUptoRow : OpenClaim := { program := "ytmmpafhfanldbaadoor", sum := "4460a9457eec4fc5f5abc9af98648b15528f3286659b8d5f9d4d2a2affdfc88b", func := "stepstone/stepstonelaw09.ClaimTwo", spec := "claimTwo", unfollowed := true, recurses := true, named := ["stepstone/handle.greatest"], apart := false, laid := [("stepstone/handle.greatest", laid_stepstone_handle_greatest)], narrowed := true }
def ClaimTwoUptoSaid : Prop := claimTwoUptoRow.holds Tryd.pinned (OpenSpec.upto claimTwoSpec)

/-- 'stepstonelaw09.ClaimEnds', WHERE WHAT IT READS IS OF BULK AT MOST 1048576: true; the input reads as it did. -/
def claimEndsUptoRow : OpenClaim := { program := "ytmmpafhfanldbaadoor", sum := "4460a9457eec4fc5f5abc9af98648b15528f3286659b8d5f9d4d2a2affdfc88b", func := "stepstone/stepstonelaw09.ClaimEnds", spec := "claimEnds", unfollowed := true, recurses := true, named := ["stepstone/handle.greatest"], apart := false, laid := [("stepstone/handle.greatest", laid_stepstone_handle_greatest)], narrowed := true }
def ClaimEndsUptoSaid : Prop := claimEndsUptoRow.holds Tryd.pinned (OpenSpec.upto claimEndsSpec)

/-- 'stepstonelaw09.ClaimRound', WHERE WHAT IT READS IS OF BULK AT MOST 1048576: true; the input reads as it did. -/
def claimRoundUptoRow : OpenClaim := { program := "ytmmpafhfanldbaadoor", sum := "4460a9457eec4fc5f5abc9af98648b15528f3286659b8d5f9d4d2a2affdfc88b", func := "stepstone/stepstonelaw09.ClaimRound", spec := "claimRound", unfollowed := true, recurses := true, named := ["stepstone/handle.greatest"], apart := false, laid := [("stepstone/handle.greatest", laid_stepstone_handle_greatest)], narrowed := true }
def ClaimRoundUptoSaid : Prop := claimRoundUptoRow.holds Tryd.pinned (OpenSpec.upto claimRoundSpec)

end Rows
end Go.Proofs.YtmmpafhfanldbaaDoor

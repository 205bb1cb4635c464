/-
  NARROWER THAN 'FOR EVERY INPUT', by the rows' own cells (each row's printed sentence says how): GuardAll: laid · GuardStands: laid · GuardOthers: laid · GuardClears: laid · GuardChecks: laid · GuardTwo: laid.
  DERIVED. THE GIVEN ROWS OF THIS SEAT. 6 by the template 'for every input the law returns true; each argument reads behind the call as it read before'; 0 by the template 'total and deterministic' (their statements: YtpobanjpgdghlaaDoorTotals.lean).
  GIVEN WITH THE SEED: the statements are not yours to turn. If you find one false, say at which input.
  Laid BY PROGRAM, IN A SANDBOX (cutbox-rows.mjs): the forced cells as the released guide's own fill.sh prints them over the translation f7559ac61faa397f… (all of the seat's roots in one cut). By AI agents, Wed Nov 11 2026. No macro, syntax, notation, axiom, sorry.
-/
import Derived.Test.YtpobanjpgdghlaaDoorChecked
import GoSem.Claim
import GoSem.ClaimJoined
import GoSem.ClaimMapViews
import Derived.JoinedTies
import Derived.KernelRfl
namespace Go.Proofs.YtpobanjpgdghlaaDoor
/- THE CELL 'sum', in the pinned program and in every row, IS THE sha256 OF THE DUMP (.gsa) THAT YtpobanjpgdghlaaDoorProg.lean LOADS. Nothing in Lean hashes anything: it is a label: what it is worth is what the hold of that sum in a sandbox is worth. -/
noncomputable def Tryd.pinned : Pinned := { name := "ytpobanjpgdghlaadoor", sum := "f7559ac61faa397f1920a1bebedf20dfb86f620a32f163ac01c6196407f04e6c", checked := Tryd.checked }
namespace Rows
def none {H : Type} : Left H := { results := [], args := [] }

/- WHAT THE LISTED PACKAGE-LEVEL VARIABLES READ AS WHEN THE CALL BEGINS. Each datum BY PROGRAM (the guide's laid-datum.mjs) off the statement by which the dump's own 'gosem.cut.vars' lays the variable. In a bare row this is a premise. The card (YtpobanjpgdghlaaDoorCards.lean) ties it to the program's text. -/
def laid_stepstone_handle_greatest {H : Type} : DataW H := .agg [.lit (.int .u64 4294967295), .lit (.int .u64 1073741823), .lit (.int .u64 1), .lit (.int .u64 1)]

/-- 'stepstonelaw10.GuardAll': WHATEVER THE INPUT: true; the input reads as it did. -/
def guardAllSpec : ChangeSpec := { name := "guardAll", fn := fun _ => fun
  | [d1, d2, d3] => { results := [.lit (.bool true)], args := [d1, d2, d3] }
  | _ => none }
def guardAllRow : OpenClaim := { program := "ytpobanjpgdghlaadoor", sum := "f7559ac61faa397f1920a1bebedf20dfb86f620a32f163ac01c6196407f04e6c", func := "stepstone/stepstonelaw10.GuardAll", spec := "guardAll", unfollowed := true, recurses := true, named := ["stepstone/handle.greatest"], apart := false, laid := [("stepstone/handle.greatest", laid_stepstone_handle_greatest)] }
def GuardAllSaid : Prop := guardAllRow.holds Tryd.pinned (OpenSpec.ofChange guardAllSpec)

/-- ITS FALSE NEIGHBOUR: 'it returns false'. Refute it at one input. -/
def guardAllWrong : ChangeSpec := { name := "guardAll", fn := fun _ => fun
  | [d1, d2, d3] => { results := [.lit (.bool false)], args := [d1, d2, d3] }
  | _ => none }
def GuardAllWrongFalsely : Prop := guardAllRow.holds Tryd.pinned (OpenSpec.ofChange guardAllWrong)

/-- 'stepstonelaw10.GuardStands': WHATEVER THE INPUT: true; the input reads as it did. -/
def guardStandsSpec : ChangeSpec := { name := "guardStands", fn := fun _ => fun
  | [d1, d2, d3] => { results := [.lit (.bool true)], args := [d1, d2, d3] }
  | _ => none }
def guardStandsRow : OpenClaim := { program := "ytpobanjpgdghlaadoor", sum := "f7559ac61faa397f1920a1bebedf20dfb86f620a32f163ac01c6196407f04e6c", func := "stepstone/stepstonelaw10.GuardStands", spec := "guardStands", unfollowed := true, recurses := true, named := ["stepstone/handle.greatest"], apart := false, laid := [("stepstone/handle.greatest", laid_stepstone_handle_greatest)] }
def GuardStandsSaid : Prop := guardStandsRow.holds Tryd.pinned (OpenSpec.ofChange guardStandsSpec)

/-- ITS FALSE NEIGHBOUR: 'it returns false'. Refute it at one input. -/
def guardStandsWrong : ChangeSpec := { name := "guardStands", fn := fun _ => fun
  | [d1, d2, d3] => { results := [.lit (.bool false)], args := [d1, d2, d3] }
  | _ => none }
def GuardStandsWrongFalsely : Prop := guardStandsRow.holds Tryd.pinned (OpenSpec.ofChange guardStandsWrong)

/-- 'stepstonelaw10.GuardOthers': WHATEVER THE INPUT: true; the input reads as it did. -/
def guardOthersSpec : ChangeSpec := { name := "guardOthers", fn := fun _ => fun
  | [d1, d2, d3] => { results := [.lit (.bool true)], args := [d1, d2, d3] }
  | _ => none }
def guardOthersRow : OpenClaim := { program := "ytpobanjpgdghlaadoor", sum := "f7559ac61faa397f1920a1bebedf20dfb86f620a32f163ac01c6196407f04e6c", func := "stepstone/stepstonelaw10.GuardOthers", spec := "guardOthers", unfollowed := true, recurses := true, named := ["stepstone/handle.greatest"], apart := false, laid := [("stepstone/handle.greatest", laid_stepstone_handle_greatest)] }
def GuardOthersSaid : Prop := guardOthersRow.holds Tryd.pinned (OpenSpec.ofChange guardOthersSpec)

/-- ITS FALSE NEIGHBOUR: 'it returns false'. Refute it at one input. -/
def guardOthersWrong : ChangeSpec := { name := "guardOthers", fn := fun _ => fun
  | [d1, d2, d3] => { results := [.lit (.bool false)], args := [d1, d2, d3] }
  | _ => none }
def GuardOthersWrongFalsely : Prop := guardOthersRow.holds Tryd.pinned (OpenSpec.ofChange guardOthersWrong)

/-- 'stepstonelaw10.GuardClears': WHATEVER THE INPUT: true; the input reads as it did. -/
def guardClearsSpec : ChangeSpec := { name := "guardClears", fn := fun _ => fun
  | [d1, d2, d3] => { results := [.lit (.bool true)], args := [d1, d2, d3] }
  | _ => none }
def guardClearsRow : OpenClaim := { program := "ytpobanjpgdghlaadoor", sum := "f7559ac61faa397f1920a1bebedf20dfb86f620a32f163ac01c6196407f04e6c", func := "stepstone/stepstonelaw10.GuardClears", spec := "guardClears", unfollowed := true, recurses := true, named := ["stepstone/handle.greatest"], apart := false, laid := [("stepstone/handle.greatest", laid_stepstone_handle_greatest)] }
def GuardClearsSaid : Prop := guardClearsRow.holds Tryd.pinned (OpenSpec.ofChange guardClearsSpec)

/-- ITS FALSE NEIGHBOUR: 'it returns false'. Refute it at one input. -/
def guardClearsWrong : ChangeSpec := { name := "guardClears", fn := fun _ => fun
  | [d1, d2, d3] => { results := [.lit (.bool false)], args := [d1, d2, d3] }
  | _ => none }
def GuardClearsWrongFalsely : Prop := guardClearsRow.holds Tryd.pinned (OpenSpec.ofChange guardClearsWrong)

/-- 'stepstonelaw10.GuardChecks': WHATEVER THE INPUT: true; the input reads as it did. -/
def guardChecksSpec : ChangeSpec := { name := "guardChecks", fn := fun _ => fun
  | [d1, d2, d3] => { results := [.lit (.bool true)], args := [d1, d2, d3] }
  | _ => none }
def guardChecksRow : OpenClaim := { program := "ytpobanjpgdghlaadoor", sum := "f7559ac61faa397f1920a1bebedf20dfb86f620a32f163ac01c6196407f04e6c", func := "stepstone/stepstonelaw10.GuardChecks", spec := "guardChecks", unfollowed := true, recurses := true, named := ["stepstone/handle.greatest"], apart := false, laid := [("stepstone/handle.greatest", laid_stepstone_handle_greatest)] }
def GuardChecksSaid : Prop := guardChecksRow.holds Tryd.pinned (OpenSpec.ofChange guardChecksSpec)

/-- ITS FALSE NEIGHBOUR: 'it returns false'. Refute it at one input. -/
def guardChecksWrong : ChangeSpec := { name := "guardChecks", fn := fun _ => fun
  | [d1, d2, d3] => { results := [.lit (.bool false)], args := [d1, d2, d3] }
  | _ => none }
def GuardChecksWrongFalsely : Prop := guardChecksRow.holds Tryd.pinned (OpenSpec.ofChange guardChecksWrong)

/-- 'stepstonelaw10.GuardTwo': WHATEVER THE INPUT: true; the input reads as it did. -/
def guardTwoSpec : ChangeSpec := { name := "guardTwo", fn := fun _ => fun
  | [d1, d2, d3] => { results := [.lit (.bool true)], args := [d1, d2, d3] }
  | _ => none }
def guardTwoRow : OpenClaim := { program := "ytpobanjpgdghlaadoor", sum := "f7559ac61faa397f1920a1bebedf20dfb86f620a32f163ac01c6196407f04e6c", func := "stepstone/stepstonelaw10.GuardTwo", spec := "guardTwo", unfollowed := true, recurses := true, named := ["stepstone/handle.greatest"], apart := false, laid := [("stepstone/handle.greatest", laid_stepstone_handle_greatest)] }
def GuardTwoSaid : Prop := guardTwoRow.holds Tryd.pinned (OpenSpec.ofChange guardTwoSpec)

/-- ITS FALSE NEIGHBOUR: 'it returns false'. Refute it at one input. -/
def guardTwoWrong : ChangeSpec := { name := "guardTwo", fn := fun _ => fun
  | [d1, d2, d3] => { results := [.lit (.bool false)], args := [d1, d2, d3] }
  | _ => none }
def GuardTwoWrongFalsely : Prop := guardTwoRow.holds Tryd.pinned (OpenSpec.ofChange guardTwoWrong)

/- THE SECOND FORM. 'bulk': how many values and letters a reading holds, each counted each time it is reached (what is shared counts as often as it is met; a slice's spare places count too). A statement '..UptoSaid' is the law's where the arguments, and the package variables that the reading takes, are together of bulk at most 1048576: NARROWER than '..Said'. Prove '..Said' where nothing that the law and all that it calls make is longer than what came in: it says more and counts as full. Else prove '..UptoSaid'. A law counts once. -/
mutual
def uptoBulk {H : Type} : DataW H → Nat
  | .lit (.string bytes) => bytes.length + 1
  | .lit _ => 1
  | .nil => 1
  | .ptr d => uptoBulk d + 1
  | .slice elems spare => uptoBulkAll elems + uptoBulkAll spare + 1
  | .agg parts => uptoBulkAll parts + 1
  | .iface _ d => uptoBulk d + 1
  | .map entries => uptoBulkEntries entries + 1
  | .held _ => 1
def uptoBulkAll {H : Type} : List (DataW H) → Nat
  | [] => 0
  | d :: r => uptoBulk d + uptoBulkAll r
def uptoBulkEntries {H : Type} : List (Lit × DataW H) → Nat
  | [] => 0
  | x :: r => uptoBulkEntry x + uptoBulkEntries r
def uptoBulkEntry {H : Type} : Lit × DataW H → Nat
  | (.string bytes, d) => bytes.length + uptoBulk d + 1
  | (_, d) => uptoBulk d + 1
 end
def uptoSmall : (H : Type) → List (DataW H) → Bool := fun _ ds => decide (uptoBulkAll ds ≤ 1048576)
def OpenSpec.upto (s : _root_.Go.ChangeSpec) : _root_.Go.OpenSpec := { _root_.Go.OpenSpec.ofChange s with cond := some uptoSmall }

/-- 'stepstonelaw10.GuardAll', WHERE WHAT IT READS IS OF BULK AT MOST 1048576: true; the input reads as it did. -/
def guardAllUptoRow : OpenClaim := { program := "ytpobanjpgdghlaadoor", sum := "f7559ac61faa397f1920a1bebedf20dfb86f620a32f163ac01c6196407f04e6c", func := "stepstone/stepstonelaw10.GuardAll", spec := "guardAll", unfollowed := true, recurses := true, named := ["stepstone/handle.greatest"], apart := false, laid := [("stepstone/handle.greatest", laid_stepstone_handle_greatest)], narrowed := true }
def GuardAllUptoSaid : Prop := guardAllUptoRow.holds Tryd.pinned (OpenSpec.upto guardAllSpec)

/-- 'stepstonelaw10.GuardStands', WHERE WHAT IT READS IS OF BULK AT MOST 1048576: true; the input reads as it did. -/
def guardStandsUptoRow : OpenClaim := { program := "ytpobanjpgdghlaadoor", sum := "f7559ac61faa397f1920a1bebedf20dfb86f620a32f163ac01c6196407f04e6c", func := "stepstone/stepstonelaw10.GuardStands", spec := "guardStands", unfollowed := true, recurses := true, named := ["stepstone/handle.greatest"], apart := false, laid := [("stepstone/handle.greatest", laid_stepstone_handle_greatest)], narrowed := true }
def GuardStandsUptoSaid : Prop := guardStandsUptoRow.holds Tryd.pinned (OpenSpec.upto guardStandsSpec)

/-- 'stepstonelaw10.GuardOthers', WHERE WHAT IT READS IS OF BULK AT MOST 1048576: true; the input reads as it did. -/
def guardOthersUptoRow : OpenClaim := { program := "ytpobanjpgdghlaadoor", sum := "f7559ac61faa397f1920a1bebedf20dfb86f620a32f163ac01c6196407f04e6c", func := "stepstone/stepstonelaw10.GuardOthers", spec := "guardOthers", unfollowed := true, recurses := true, named := ["stepstone/handle.greatest"], apart := false, laid := [("stepstone/handle.greatest", laid_stepstone_handle_greatest)], narrowed := true }
def GuardOthersUptoSaid : Prop := guardOthersUptoRow.holds Tryd.pinned (OpenSpec.upto guardOthersSpec)

/-- 'stepstonelaw10.GuardClears', WHERE WHAT IT READS IS OF BULK AT MOST 1048576: true; the input reads as it did. -/
def guardClearsUptoRow : OpenClaim := { program := "ytpobanjpgdghlaadoor", sum := "f7559ac61faa397f1920a1bebedf20dfb86f620a32f163ac01c6196407f04e6c", func := "stepstone/stepstonelaw10.GuardClears", spec := "guardClears", unfollowed := true, recurses := true, named := ["stepstone/handle.greatest"], apart := false, laid := [("stepstone/handle.greatest", laid_stepstone_handle_greatest)], narrowed := true }
def GuardClearsUptoSaid : Prop := guardClearsUptoRow.holds Tryd.pinned (OpenSpec.upto guardClearsSpec)

/-- 'stepstonelaw10.GuardChecks', WHERE WHAT IT READS IS OF BULK AT MOST 1048576: true; the input reads as it did. -/
def guardChecksUptoRow : OpenClaim := { program := "ytpobanjpgdghlaadoor", sum := "f7559ac61faa397f1920a1bebedf20dfb86f620a32f163ac01c6196407f04e6c", func := "stepstone/stepstonelaw10.GuardChecks", spec := "guardChecks", unfollowed := true, recurses := true, named := ["stepstone/handle.greatest"], apart := false, laid := [("stepstone/handle.greatest", laid_stepstone_handle_greatest)], narrowed := true }
def GuardChecksUptoSaid : Prop := guardChecksUptoRow.holds Tryd.pinned (OpenSpec.upto guardChecksSpec)

/-- 'stepstonelaw10.GuardTwo', WHERE WHAT IT READS IS OF BULK AT MOST 1048576: true; the input reads as it did. -/
def guardTwoUptoRow : OpenClaim := { program := "ytpobanjpgdghlaadoor", sum := "f7559ac61faa397f1920a1bebedf20dfb86f620a32f163ac01c6196407f04e6c", func := "stepstone/stepstonelaw10.GuardTwo", spec := "guardTwo", unfollowed := true, recurses := true, named := ["stepstone/handle.greatest"], apart := false, laid := [("stepstone/handle.greatest", laid_stepstone_handle_greatest)], narrowed := true }
def GuardTwoUptoSaid : Prop := guardTwoUptoRow.holds Tryd.pinned (OpenSpec.upto guardTwoSpec)

end Rows
end Go.Proofs.YtpobanjpgdghlaaDoor

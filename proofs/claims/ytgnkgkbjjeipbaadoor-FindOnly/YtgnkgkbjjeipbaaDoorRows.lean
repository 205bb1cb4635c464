/-
  NARROWER THAN 'FOR EVERY INPUT', by the rows' own cells (each row's printed sentence says how): FindAlone: laid · FindTwice: laid · FindOnly: laid · FindUnlinks: laid · FindTicks: laid.
  DERIVED. THE GIVEN ROWS OF THIS SEAT. 5 by the template 'for every input the law returns true; each argument reads behind the call as it read before'; 0 by the template 'total and deterministic' (their statements: YtgnkgkbjjeipbaaDoorTotals.lean).
  GIVEN WITH THE SEED: the statements are not yours to turn. If you find one false, say at which input.
  Laid BY PROGRAM, IN A SANDBOX (cutbox-rows.mjs): the forced cells as the released guide's own fill.sh prints them over the translation 09655511f5aa8014… (all of the seat's roots in one cut). By AI agents, Wed Nov 11 2026. No macro, syntax, notation, axiom, sorry.
-/
import Derived.Test.YtgnkgkbjjeipbaaDoorChecked
import GoSem.Claim
import GoSem.ClaimJoined
import GoSem.ClaimMapViews
import Derived.JoinedTies
import Derived.KernelRfl
namespace Go.Proofs.YtgnkgkbjjeipbaaDoor
/- THE CELL 'sum', in the pinned program and in every row, IS THE sha256 OF THE DUMP (.gsa) THAT YtgnkgkbjjeipbaaDoorProg.lean LOADS. Nothing in Lean hashes anything: it is a label: what it is worth is what the hold of that sum in a sandbox is worth. -/
noncomputable def Tryd.pinned : Pinned := { name := "ytgnkgkbjjeipbaadoor", sum := "09655511f5aa801421caa49227b83e8c23741c4f5cb2a45e0dee0872649cb629", checked := Tryd.checked }
namespace Rows
def none {H : Type} : Left H := { results := [], args := [] }

/- WHAT THE LISTED PACKAGE-LEVEL VARIABLES READ AS WHEN THE CALL BEGINS. Each datum BY PROGRAM (the guide's laid-datum.mjs) off the statement by which the dump's own 'gosem.cut.vars' lays the variable. In a bare row this is a premise. The card (YtgnkgkbjjeipbaaDoorCards.lean) ties it to the program's text. -/
def laid_stepstone_handle_greatest {H : Type} : DataW H := .agg [.lit (.int .u64 4294967295), .lit (.int .u64 1073741823), .lit (.int .u64 1), .lit (.int .u64 1)]

/-- 'stepstonelaw11.FindAlone': WHATEVER THE INPUT: true; the input reads as it did. -/
def findAloneSpec : ChangeSpec := { name := "findAlone", fn := fun _ => fun
  | [d1, d2, d3] => { results := [.lit (.bool true)], args := [d1, d2, d3] }
  | _ => none }
def findAloneRow : OpenClaim := { program := "ytgnkgkbjjeipbaadoor", sum := "09655511f5aa801421caa49227b83e8c23741c4f5cb2a45e0dee0872649cb629", func := "stepstone/stepstonelaw11.FindAlone", spec := "findAlone", unfollowed := true, recurses := true, named := ["stepstone/handle.greatest"], apart := false, laid := [("stepstone/handle.greatest", laid_stepstone_handle_greatest)] }
def FindAloneSaid : Prop := findAloneRow.holds Tryd.pinned (OpenSpec.ofChange findAloneSpec)

/-- ITS FALSE NEIGHBOUR: 'it returns false'. Refute it at one input. -/
def findAloneWrong : ChangeSpec := { name := "findAlone", fn := fun _ => fun
  | [d1, d2, d3] => { results := [.lit (.bool false)], args := [d1, d2, d3] }
  | _ => none }
def FindAloneWrongFalsely : Prop := findAloneRow.holds Tryd.pinned (OpenSpec.ofChange findAloneWrong)

/-- 'stepstonelaw11.FindTwice': WHATEVER THE INPUT: true; the input reads as it did. -/
def findTwiceSpec : ChangeSpec := { name := "findTwice", fn := fun _ => fun
  | [d1, d2, d3] => { results := [.lit (.bool true)], args := [d1, d2, d3] }
  | _ => none }
def findTwiceRow : OpenClaim := { program := "ytgnkgkbjjeipbaadoor", sum := "09655511f5aa801421caa49227b83e8c23741c4f5cb2a45e0dee0872649cb629", func := "stepstone/stepstonelaw11.FindTwice", spec := "findTwice", unfollowed := true, recurses := true, named := ["stepstone/handle.greatest"], apart := false, laid := [("stepstone/handle.greatest", laid_stepstone_handle_greatest)] }
def FindTwiceSaid : Prop := findTwiceRow.holds Tryd.pinned (OpenSpec.ofChange findTwiceSpec)

/-- ITS FALSE NEIGHBOUR: 'it returns false'. Refute it at one input. -/
def findTwiceWrong : ChangeSpec := { name := "findTwice", fn := fun _ => fun
  | [d1, d2, d3] => { results := [.lit (.bool false)], args := [d1, d2, d3] }
  | _ => none }
def FindTwiceWrongFalsely : Prop := findTwiceRow.holds Tryd.pinned (OpenSpec.ofChange findTwiceWrong)

/-- 'stepstonelaw11.FindOnly': WHATEVER THE INPUT: true; the input reads as it did. -/
def findOnlySpec : ChangeSpec := { name := "findOnly", fn := fun _ => fun
  | [d1, d2, d3] => { results := [.lit (.bool true)], args := [d1, d2, d3] }
  | _ => none }
def findOnlyRow : OpenClaim := { program := "ytgnkgkbjjeipbaadoor", sum := "09655511f5aa801421caa49227b83e8c23741c4f5cb2a45e0dee0872649cb629", func := "stepstone/stepstonelaw11.FindOnly", spec := "findOnly", unfollowed := true, recurses := true, named := ["stepstone/handle.greatest"], apart := false, laid := [("stepstone/handle.greatest", laid_stepstone_handle_greatest)] }
def FindOnlySaid : Prop := findOnlyRow.holds Tryd.pinned (OpenSpec.ofChange findOnlySpec)

/-- ITS FALSE NEIGHBOUR: 'it returns false'. Refute it at one input. -/
def findOnlyWrong : ChangeSpec := { name := "findOnly", fn := fun _ => fun
  | [d1, d2, d3] => { results := [.lit (.bool false)], args := [d1, d2, d3] }
  | _ => none }
def FindOnlyWrongFalsely : Prop := findOnlyRow.holds Tryd.pinned (OpenSpec.ofChange findOnlyWrong)

/-- 'stepstonelaw11.FindUnlinks': WHATEVER THE INPUT: true; the input reads as it did. -/
def findUnlinksSpec : ChangeSpec := { name := "findUnlinks", fn := fun _ => fun
  | [d1, d2, d3] => { results := [.lit (.bool true)], args := [d1, d2, d3] }
  | _ => none }
def findUnlinksRow : OpenClaim := { program := "ytgnkgkbjjeipbaadoor", sum := "09655511f5aa801421caa49227b83e8c23741c4f5cb2a45e0dee0872649cb629", func := "stepstone/stepstonelaw11.FindUnlinks", spec := "findUnlinks", unfollowed := true, recurses := true, named := ["stepstone/handle.greatest"], apart := false, laid := [("stepstone/handle.greatest", laid_stepstone_handle_greatest)] }
def FindUnlinksSaid : Prop := findUnlinksRow.holds Tryd.pinned (OpenSpec.ofChange findUnlinksSpec)

/-- ITS FALSE NEIGHBOUR: 'it returns false'. Refute it at one input. -/
def findUnlinksWrong : ChangeSpec := { name := "findUnlinks", fn := fun _ => fun
  | [d1, d2, d3] => { results := [.lit (.bool false)], args := [d1, d2, d3] }
  | _ => none }
def FindUnlinksWrongFalsely : Prop := findUnlinksRow.holds Tryd.pinned (OpenSpec.ofChange findUnlinksWrong)

/-- 'stepstonelaw11.FindTicks': WHATEVER THE INPUT: true; the input reads as it did. -/
def findTicksSpec : ChangeSpec := { name := "findTicks", fn := fun _ => fun
  | [d1, d2, d3] => { results := [.lit (.bool true)], args := [d1, d2, d3] }
  | _ => none }
def findTicksRow : OpenClaim := { program := "ytgnkgkbjjeipbaadoor", sum := "09655511f5aa801421caa49227b83e8c23741c4f5cb2a45e0dee0872649cb629", func := "stepstone/stepstonelaw11.FindTicks", spec := "findTicks", unfollowed := true, recurses := true, named := ["stepstone/handle.greatest"], apart := false, laid := [("stepstone/handle.greatest", laid_stepstone_handle_greatest)] }
def FindTicksSaid : Prop := findTicksRow.holds Tryd.pinned (OpenSpec.ofChange findTicksSpec)

/-- ITS FALSE NEIGHBOUR: 'it returns false'. Refute it at one input. -/
def findTicksWrong : ChangeSpec := { name := "findTicks", fn := fun _ => fun
  | [d1, d2, d3] => { results := [.lit (.bool false)], args := [d1, d2, d3] }
  | _ => none }
def FindTicksWrongFalsely : Prop := findTicksRow.holds Tryd.pinned (OpenSpec.ofChange findTicksWrong)

/- THE SECOND FORM. 'bulk': how many values and letters a reading holds, each counted each time it is reached (what is shared counts as often as it is met; a slice's spare places count too). A statement '..UptoSaid' is the law's where the arguments, and the package variables that the reading takes, are together of bulk at most 1048576: NARROWER than '..Said'. Prove '..Said' where nothing that the law and all that it calls make is longer than what came in: it says more and counts as full. Else prove '..UptoSaid'. A law counts once. -/
mutual
def uptoBulk {H : Type} : DataW H → Nat
  | .lit (.string bytes) => bytes.length + 1
  | .lit _ => 1
  | .nil => 1
  | .ptr d => uptoBulk d + 1
  | .slice elems spare => uptoBulkAll elems + uptoBulkAll spare + 1
  | .agg parts => uptoBulkAll parts + 1
  | .iface _ d => uptoBulk d + 1
  | .map entries => uptoBulkEntries entries + 1
  | .held _ => 1
def uptoBulkAll {H : Type} : List (DataW H) → Nat
  | [] => 0
  | d :: r => uptoBulk d + uptoBulkAll r
def uptoBulkEntries {H : Type} : List (Lit × DataW H) → Nat
  | [] => 0
  | x :: r => uptoBulkEntry x + uptoBulkEntries r
def uptoBulkEntry {H : Type} : Lit × DataW H → Nat
  | (.string bytes, d) => bytes.length + uptoBulk d + 1
  | (_, d) => uptoBulk d + 1
 end
def uptoSmall : (H : Type) → List (DataW H) → Bool := fun _ ds => decide (uptoBulkAll ds ≤ 1048576)
def OpenSpec.upto (s : _root_.Go.ChangeSpec) : _root_.Go.OpenSpec := { _root_.Go.OpenSpec.ofChange s with cond := some uptoSmall }

/-- 'stepstonelaw11.FindAlone', WHERE WHAT IT READS IS OF BULK AT MOST 1048576: true; the input reads as it did. -/
def findAloneUptoRow : OpenClaim := { program := "ytgnkgkbjjeipbaadoor", sum := "09655511f5aa801421caa49227b83e8c23741c4f5cb2a45e0dee0872649cb629", func := "stepstone/stepstonelaw11.FindAlone", spec := "findAlone", unfollowed := true, recurses := true, named := ["stepstone/handle.greatest"], apart := false, laid := [("stepstone/handle.greatest", laid_stepstone_handle_greatest)], narrowed := true }
def FindAloneUptoSaid : Prop := findAloneUptoRow.holds Tryd.pinned (OpenSpec.upto findAloneSpec)

/-- 'stepstonelaw11.FindTwice', WHERE WHAT IT READS IS OF BULK AT MOST 1048576: true; the input reads as it did. -/
def findTwiceUptoRow : OpenClaim := { program := "ytgnkgkbjjeipbaadoor", sum := "09655511f5aa801421caa49227b83e8c23741c4f5cb2a45e0dee0872649cb629", func := "stepstone/stepstonelaw11.FindTwice", spec := "findTwice", unfollowed := true, recurses := true, named := ["stepstone/handle.greatest"], apart := false, laid := [("stepstone/handle.greatest", laid_stepstone_handle_greatest)], narrowed := true }
def FindTwiceUptoSaid : Prop := findTwiceUptoRow.holds Tryd.pinned (OpenSpec.upto findTwiceSpec)

/-- 'stepstonelaw11.FindOnly', WHERE WHAT IT READS IS OF BULK AT MOST 1048576: true; the input reads as it did. -/
def findOnlyUptoRow : OpenClaim := { program := "ytgnkgkbjjeipbaadoor", sum := "09655511f5aa801421caa49227b83e8c23741c4f5cb2a45e0dee0872649cb629", func := "stepstone/stepstonelaw11.FindOnly", spec := "findOnly", unfollowed := true, recurses := true, named := ["stepstone/handle.greatest"], apart := false, laid := [("stepstone/handle.greatest", laid_stepstone_handle_greatest)], narrowed := true }
def FindOnlyUptoSaid : Prop := findOnlyUptoRow.holds Tryd.pinned (OpenSpec.upto findOnlySpec)

/-- 'stepstonelaw11.FindUnlinks', WHERE WHAT IT READS IS OF BULK AT MOST 1048576: true; the input reads as it did. -/
def findUnlinksUptoRow : OpenClaim := { program := "ytgnkgkbjjeipbaadoor", sum := "09655511f5aa801421caa49227b83e8c23741c4f5cb2a45e0dee0872649cb629", func := "stepstone/stepstonelaw11.FindUnlinks", spec := "findUnlinks", unfollowed := true, recurses := true, named := ["stepstone/handle.greatest"], apart := false, laid := [("stepstone/handle.greatest", laid_stepstone_handle_greatest)], narrowed := true }
def FindUnlinksUptoSaid : Prop := findUnlinksUptoRow.holds Tryd.pinned (OpenSpec.upto findUnlinksSpec)

/-- 'stepstonelaw11.FindTicks', WHERE WHAT IT READS IS OF BULK AT MOST 1048576: true; the input reads as it did. -/
def findTicksUptoRow : OpenClaim := { program := "ytgnkgkbjjeipbaadoor", sum := "09655511f5aa801421caa49227b83e8c23741c4f5cb2a45e0dee0872649cb629", func := "stepstone/stepstonelaw11.FindTicks", spec := "findTicks", unfollowed := true, recurses := true, named := ["stepstone/handle.greatest"], apart := false, laid := [("stepstone/handle.greatest", laid_stepstone_handle_greatest)], narrowed := true }
def FindTicksUptoSaid : Prop := findTicksUptoRow.holds Tryd.pinned (OpenSpec.upto findTicksSpec)

end Rows
end Go.Proofs.YtgnkgkbjjeipbaaDoor

/-
  NARROWER THAN 'FOR EVERY INPUT', by the rows' own cells (each row's printed sentence says how): PlanRight: laid · PlanCells: laid · PlanWhere: laid · PlanApart: laid · PlanWhole: laid · PlanMore: laid.
  DERIVED. THE GIVEN ROWS OF THIS SEAT. 6 by the template 'for every input the law returns true; each argument reads behind the call as it read before'; 0 by the template 'total and deterministic' (their statements: YtgbgaphmoemokaaDoorTotals.lean).
  GIVEN WITH THE SEED: the statements are not yours to turn. If you find one false, say at which input.
  Laid BY PROGRAM, IN A SANDBOX (cutbox-rows.mjs): the forced cells as the released guide's own fill.sh prints them over the translation a976856094f9a708… (all of the seat's roots in one cut). By AI agents, Wed Nov 11 2026. No macro, syntax, notation, axiom, sorry.
-/
import Derived.Test.YtgbgaphmoemokaaDoorChecked
import GoSem.Claim
import GoSem.ClaimJoined
import GoSem.ClaimMapViews
import Derived.JoinedTies
import Derived.KernelRfl
namespace Go.Proofs.YtgbgaphmoemokaaDoor
/- THE CELL 'sum', in the pinned program and in every row, IS THE sha256 OF THE DUMP (.gsa) THAT YtgbgaphmoemokaaDoorProg.lean LOADS. Nothing in Lean hashes anything: it is a label: what it is worth is what the hold of that sum in a sandbox is worth. -/
noncomputable def Tryd.pinned : Pinned := { name := "ytgbgaphmoemokaadoor", sum := "a976856094f9a708ce64b130ac6dbe5740da129fd525847d50ff30a3a483a356", checked := Tryd.checked }
namespace Rows
def none {H : Type} : Left H := { results := [], args := [] }

/- WHAT THE LISTED PACKAGE-LEVEL VARIABLES READ AS WHEN THE CALL BEGINS. Each datum BY PROGRAM (the guide's laid-datum.mjs) off the statement by which the dump's own 'gosem.cut.vars' lays the variable. In a bare row this is a premise. The card (YtgbgaphmoemokaaDoorCards.lean) ties it to the program's text. -/
def laid_stepstone_handle_greatest {H : Type} : DataW H := .agg [.lit (.int .u64 4294967295), .lit (.int .u64 1073741823), .lit (.int .u64 1), .lit (.int .u64 1)]

/-- 'stepstonelaw04.PlanRight': WHATEVER THE INPUT: true; the input reads as it did. -/
def planRightSpec : ChangeSpec := { name := "planRight", fn := fun _ => fun
  | [d] => { results := [.lit (.bool true)], args := [d] }
  | _ => none }
def planRightRow : OpenClaim := { program := "ytgbgaphmoemokaadoor", sum := "a976856094f9a708ce64b130ac6dbe5740da129fd525847d50ff30a3a483a356", func := "stepstone/stepstonelaw04.PlanRight", spec := "planRight", unfollowed := true, recurses := true, named := ["stepstone/handle.greatest"], apart := false, laid := [("stepstone/handle.greatest", laid_stepstone_handle_greatest)] }
def PlanRightSaid : Prop := planRightRow.holds Tryd.pinned (OpenSpec.ofChange planRightSpec)

/-- ITS FALSE NEIGHBOUR: 'it returns false'. Refute it at one input. -/
def planRightWrong : ChangeSpec := { name := "planRight", fn := fun _ => fun
  | [d] => { results := [.lit (.bool false)], args := [d] }
  | _ => none }
def PlanRightWrongFalsely : Prop := planRightRow.holds Tryd.pinned (OpenSpec.ofChange planRightWrong)

/-- 'stepstonelaw04.PlanCells': WHATEVER THE INPUT: true; the input reads as it did. -/
def planCellsSpec : ChangeSpec := { name := "planCells", fn := fun _ => fun
  | [d1, d2, d3] => { results := [.lit (.bool true)], args := [d1, d2, d3] }
  | _ => none }
def planCellsRow : OpenClaim := { program := "ytgbgaphmoemokaadoor", sum := "a976856094f9a708ce64b130ac6dbe5740da129fd525847d50ff30a3a483a356", func := "stepstone/stepstonelaw04.PlanCells", spec := "planCells", unfollowed := true, recurses := true, named := ["stepstone/handle.greatest"], apart := false, laid := [("stepstone/handle.greatest", laid_stepstone_handle_greatest)] }
def PlanCellsSaid : Prop := planCellsRow.holds Tryd.pinned (OpenSpec.ofChange planCellsSpec)

/-- ITS FALSE NEIGHBOUR: 'it returns false'. Refute it at one input. -/
def planCellsWrong : ChangeSpec := { name := "planCells", fn := fun _ => fun
  | [d1, d2, d3] => { results := [.lit (.bool false)], args := [d1, d2, d3] }
  | _ => none }
def PlanCellsWrongFalsely : Prop := planCellsRow.holds Tryd.pinned (OpenSpec.ofChange planCellsWrong)

/-- 'stepstonelaw04.PlanWhere': WHATEVER THE INPUT: true; the input reads as it did. -/
def planWhereSpec : ChangeSpec := { name := "planWhere", fn := fun _ => fun
  | [d1, d2] => { results := [.lit (.bool true)], args := [d1, d2] }
  | _ => none }
def planWhereRow : OpenClaim := { program := "ytgbgaphmoemokaadoor", sum := "a976856094f9a708ce64b130ac6dbe5740da129fd525847d50ff30a3a483a356", func := "stepstone/stepstonelaw04.PlanWhere", spec := "planWhere", unfollowed := true, recurses := true, named := ["stepstone/handle.greatest"], apart := false, laid := [("stepstone/handle.greatest", laid_stepstone_handle_greatest)] }
def PlanWhereSaid : Prop := planWhereRow.holds Tryd.pinned (OpenSpec.ofChange planWhereSpec)

/-- ITS FALSE NEIGHBOUR: 'it returns false'. Refute it at one input. -/
def planWhereWrong : ChangeSpec := { name := "planWhere", fn := fun _ => fun
  | [d1, d2] => { results := [.lit (.bool false)], args := [d1, d2] }
  | _ => none }
def PlanWhereWrongFalsely : Prop := planWhereRow.holds Tryd.pinned (OpenSpec.ofChange planWhereWrong)

/-- 'stepstonelaw04.PlanApart': WHATEVER THE INPUT: true; the input reads as it did. -/
def planApartSpec : ChangeSpec := { name := "planApart", fn := fun _ => fun
  | [d1, d2, d3] => { results := [.lit (.bool true)], args := [d1, d2, d3] }
  | _ => none }
def planApartRow : OpenClaim := { program := "ytgbgaphmoemokaadoor", sum := "a976856094f9a708ce64b130ac6dbe5740da129fd525847d50ff30a3a483a356", func := "stepstone/stepstonelaw04.PlanApart", spec := "planApart", unfollowed := true, recurses := true, named := ["stepstone/handle.greatest"], apart := false, laid := [("stepstone/handle.greatest", laid_stepstone_handle_greatest)] }
def PlanApartSaid : Prop := planApartRow.holds Tryd.pinned (OpenSpec.ofChange planApartSpec)

/-- ITS FALSE NEIGHBOUR: 'it returns false'. Refute it at one input. -/
def planApartWrong : ChangeSpec := { name := "planApart", fn := fun _ => fun
  | [d1, d2, d3] => { results := [.lit (.bool false)], args := [d1, d2, d3] }
  | _ => none }
def PlanApartWrongFalsely : Prop := planApartRow.holds Tryd.pinned (OpenSpec.ofChange planApartWrong)

/-- 'stepstonelaw04.PlanWhole': WHATEVER THE INPUT: true; the input reads as it did. -/
def planWholeSpec : ChangeSpec := { name := "planWhole", fn := fun _ => fun
  | [d] => { results := [.lit (.bool true)], args := [d] }
  | _ => none }
def planWholeRow : OpenClaim := { program := "ytgbgaphmoemokaadoor", sum := "a976856094f9a708ce64b130ac6dbe5740da129fd525847d50ff30a3a483a356", func := "stepstone/stepstonelaw04.PlanWhole", spec := "planWhole", unfollowed := true, recurses := true, named := ["stepstone/handle.greatest"], apart := false, laid := [("stepstone/handle.greatest", laid_stepstone_handle_greatest)] }
def PlanWholeSaid : Prop := planWholeRow.holds Tryd.pinned (OpenSpec.ofChange planWholeSpec)

/-- ITS FALSE NEIGHBOUR: 'it returns false'. Refute it at one input. -/
def planWholeWrong : ChangeSpec := { name := "planWhole", fn := fun _ => fun
  | [d] => { results := [.lit (.bool false)], args := [d] }
  | _ => none }
def PlanWholeWrongFalsely : Prop := planWholeRow.holds Tryd.pinned (OpenSpec.ofChange planWholeWrong)

/-- 'stepstonelaw04.PlanMore': WHATEVER THE INPUT: true; the input reads as it did. -/
def planMoreSpec : ChangeSpec := { name := "planMore", fn := fun _ => fun
  | [d1, d2, d3] => { results := [.lit (.bool true)], args := [d1, d2, d3] }
  | _ => none }
def planMoreRow : OpenClaim := { program := "ytgbgaphmoemokaadoor", sum := "a976856094f9a708ce64b130ac6dbe5740da129fd525847d50ff30a3a483a356", func := "stepstone/stepstonelaw04.PlanMore", spec := "planMore", unfollowed := true, recurses := true, named := ["stepstone/handle.greatest"], apart := false, laid := [("stepstone/handle.greatest", laid_stepstone_handle_greatest)] }
def PlanMoreSaid : Prop := planMoreRow.holds Tryd.pinned (OpenSpec.ofChange planMoreSpec)

/-- ITS FALSE NEIGHBOUR: 'it returns false'. Refute it at one input. -/
def planMoreWrong : ChangeSpec := { name := "planMore", fn := fun _ => fun
  | [d1, d2, d3] => { results := [.lit (.bool false)], args := [d1, d2, d3] }
  | _ => none }
def PlanMoreWrongFalsely : Prop := planMoreRow.holds Tryd.pinned (OpenSpec.ofChange planMoreWrong)

/- THE SECOND FORM. 'bulk': how many values and letters a reading holds, each counted each time it is reached (what is shared counts as often as it is met; a slice's spare places count too). A statement '..UptoSaid' is the law's where the arguments, and the package variables that the reading takes, are together of bulk at most 1048576: NARROWER than '..Said'. Prove '..Said' where nothing that the law and all that it calls make is longer than what came in: it says more and counts as full. Else prove '..UptoSaid'. A law counts once. -/
mutual
def uptoBulk {H : Type} : DataW H → Nat
  | .lit (.string bytes) => bytes.length + 1
  | .lit _ => 1
  | .nil => 1
  | .ptr d => uptoBulk d + 1
  | .slice elems spare => uptoBulkAll elems + uptoBulkAll spare + 1
  | .agg parts => uptoBulkAll parts + 1
  | .iface _ d => uptoBulk d + 1
  | .map entries => uptoBulkEntries entries + 1
  | .held _ => 1
def uptoBulkAll {H : Type} : List (DataW H) → Nat
  | [] => 0
  | d :: r => uptoBulk d + uptoBulkAll r
def uptoBulkEntries {H : Type} : List (Lit × DataW H) → Nat
  | [] => 0
  | x :: r => uptoBulkEntry x + uptoBulkEntries r
def uptoBulkEntry {H : Type} : Lit × DataW H → Nat
  | (.string bytes, d) => bytes.length + uptoBulk d + 1
  | (_, d) => uptoBulk d + 1
 end
def uptoSmall : (H : Type) → List (DataW H) → Bool := fun _ ds => decide (uptoBulkAll ds ≤ 1048576)
def OpenSpec.upto (s : _root_.Go.ChangeSpec) : _root_.Go.OpenSpec := { _root_.Go.OpenSpec.ofChange s with cond := some uptoSmall }

/-- 'stepstonelaw04.PlanRight', WHERE WHAT IT READS IS OF BULK AT MOST 1048576: true; the input reads as it did. -/
def planRightUptoRow : OpenClaim := { program := "ytgbgaphmoemokaadoor", sum := "a976856094f9a708ce64b130ac6dbe5740da129fd525847d50ff30a3a483a356", func := "stepstone/stepstonelaw04.PlanRight", spec := "planRight", unfollowed := true, recurses := true, named := ["stepstone/handle.greatest"], apart := false, laid := [("stepstone/handle.greatest", laid_stepstone_handle_greatest)], narrowed := true }
def PlanRightUptoSaid : Prop := planRightUptoRow.holds Tryd.pinned (OpenSpec.upto planRightSpec)

/-- 'stepstonelaw04.PlanCells', WHERE WHAT IT READS IS OF BULK AT MOST 1048576: true; the input reads as it did. -/
def planCellsUptoRow : OpenClaim := { program := "ytgbgaphmoemokaadoor", sum := "a976856094f9a708ce64b130ac6dbe5740da129fd525847d50ff30a3a483a356", func := "stepstone/stepstonelaw04.PlanCells", spec := "planCells", unfollowed := true, recurses := true, named := ["stepstone/handle.greatest"], apart := false, laid := [("stepstone/handle.greatest", laid_stepstone_handle_greatest)], narrowed := true }
def PlanCellsUptoSaid : Prop := planCellsUptoRow.holds Tryd.pinned (OpenSpec.upto planCellsSpec)

/-- 'stepstonelaw04.PlanWhere', WHERE WHAT IT READS IS OF BULK AT MOST 1048576: true; the input reads as it did. -/
def planWhereUptoRow : OpenClaim := { program := "ytgbgaphmoemokaadoor", sum := "a976856094f9a708ce64b130ac6dbe5740da129fd525847d50ff30a3a483a356", func := "stepstone/stepstonelaw04.PlanWhere", spec := "planWhere", unfollowed := true, recurses := true, named := ["stepstone/handle.greatest"], apart := false, laid := [("stepstone/handle.greatest", laid_stepstone_handle_greatest)], narrowed := true }
def PlanWhereUptoSaid : Prop := planWhereUptoRow.holds Tryd.pinned (OpenSpec.upto planWhereSpec)

/-- 'stepstonelaw04.PlanApart', WHERE WHAT IT READS IS OF BULK AT MOST 1048576: true; the input reads as it did. -/
def planApartUptoRow : OpenClaim := { program := "ytgbgaphmoemokaadoor", sum := "a976856094f9a708ce64b130ac6dbe5740da129fd525847d50ff30a3a483a356", func := "stepstone/stepstonelaw04.PlanApart", spec := "planApart", unfollowed := true, recurses := true, named := ["stepstone/handle.greatest"], apart := false, laid := [("stepstone/handle.greatest", laid_stepstone_handle_greatest)], narrowed := true }
def PlanApartUptoSaid : Prop := planApartUptoRow.holds Tryd.pinned (OpenSpec.upto planApartSpec)

/-- 'stepstonelaw04.PlanWhole', WHERE WHAT IT READS IS OF BULK AT MOST 1048576: true; the input reads as it did. -/
def planWholeUptoRow : OpenClaim := { program := "ytgbgaphmoemokaadoor", sum := "a976856094f9a708ce64b130ac6dbe5740da129fd525847d50ff30a3a483a356", func := "stepstone/stepstonelaw04.PlanWhole", spec := "planWhole", unfollowed := true, recurses := true, named := ["stepstone/handle.greatest"], apart := false, laid := [("stepstone/handle.greatest", laid_stepstone_handle_greatest)], narrowed := true }
def PlanWholeUptoSaid : Prop := planWholeUptoRow.holds Tryd.pinned (OpenSpec.upto planWholeSpec)

/-- 'stepstonelaw04.PlanMore', WHERE WHAT IT READS IS OF BULK AT MOST 1048576: true; the input reads as it did. -/
def planMoreUptoRow : OpenClaim := { program := "ytgbgaphmoemokaadoor", sum := "a976856094f9a708ce64b130ac6dbe5740da129fd525847d50ff30a3a483a356", func := "stepstone/stepstonelaw04.PlanMore", spec := "planMore", unfollowed := true, recurses := true, named := ["stepstone/handle.greatest"], apart := false, laid := [("stepstone/handle.greatest", laid_stepstone_handle_greatest)], narrowed := true }
def PlanMoreUptoSaid : Prop := planMoreUptoRow.holds Tryd.pinned (OpenSpec.upto planMoreSpec)

end Rows
end Go.Proofs.YtgbgaphmoemokaaDoor

/-
  NARROWER THAN 'FOR EVERY INPUT', by the rows' own cells (each row's printed sentence says how): MemNew: laid · MemOf: laid · MemAll: laid · MemOthers: laid · MemMarks: laid · MemApart: laid.
  DERIVED. THE GIVEN ROWS OF THIS SEAT. 6 by the template 'for every input the law returns true; each argument reads behind the call as it read before'; 0 by the template 'total and deterministic' (their statements: YtahdhekbancapaaDoorTotals.lean).
  GIVEN WITH THE SEED: the statements are not yours to turn. If you find one false, say at which input.
  Laid BY PROGRAM, IN A SANDBOX (cutbox-rows.mjs): the forced cells as the released guide's own fill.sh prints them over the translation c10615479657fc5b… (all of the seat's roots in one cut). By AI agents, Wed Nov 11 2026. No macro, syntax, notation, axiom, sorry.
-/
import Derived.Test.YtahdhekbancapaaDoorChecked
import GoSem.Claim
import GoSem.ClaimJoined
import GoSem.ClaimMapViews
import Derived.JoinedTies
import Derived.KernelRfl
namespace Go.Proofs.YtahdhekbancapaaDoor
/- THE CELL 'sum', in the pinned program and in every row, IS THE sha256 OF THE DUMP (.gsa) THAT YtahdhekbancapaaDoorProg.lean LOADS. Nothing in Lean hashes anything: it is a label: what it is worth is what the hold of that sum in a sandbox is worth. -/
noncomputable def Tryd.pinned : Pinned := { name := "ytahdhekbancapaadoor", sum := "c10615479657fc5b10d7db0962beea803b706fac8a79a9eedcebad0797906d3d", checked := Tryd.checked }
namespace Rows
def none {H : Type} : Left H := { results := [], args := [] }

/- WHAT THE LISTED PACKAGE-LEVEL VARIABLES READ AS WHEN THE CALL BEGINS. Each datum BY PROGRAM (the guide's laid-datum.mjs) off the statement by which the dump's own 'gosem.cut.vars' lays the variable. In a bare row this is a premise. The card (YtahdhekbancapaaDoorCards.lean) ties it to the program's text. -/
def laid_stepstone_handle_greatest {H : Type} : DataW H := .agg [.lit (.int .u64 4294967295), .lit (.int .u64 1073741823), .lit (.int .u64 1), .lit (.int .u64 1)]

/-- 'stepstonelaw05.MemNew': WHATEVER THE INPUT: true; the input reads as it did. -/
def memNewSpec : ChangeSpec := { name := "memNew", fn := fun _ => fun
  | [d] => { results := [.lit (.bool true)], args := [d] }
  | _ => none }
def memNewRow : OpenClaim := { program := "ytahdhekbancapaadoor", sum := "c10615479657fc5b10d7db0962beea803b706fac8a79a9eedcebad0797906d3d", func := "stepstone/stepstonelaw05.MemNew", spec := "memNew", unfollowed := true, recurses := true, named := ["stepstone/handle.greatest"], apart := false, laid := [("stepstone/handle.greatest", laid_stepstone_handle_greatest)] }
def MemNewSaid : Prop := memNewRow.holds Tryd.pinned (OpenSpec.ofChange memNewSpec)

/-- ITS FALSE NEIGHBOUR: 'it returns false'. Refute it at one input. -/
def memNewWrong : ChangeSpec := { name := "memNew", fn := fun _ => fun
  | [d] => { results := [.lit (.bool false)], args := [d] }
  | _ => none }
def MemNewWrongFalsely : Prop := memNewRow.holds Tryd.pinned (OpenSpec.ofChange memNewWrong)

/-- 'stepstonelaw05.MemOf': WHATEVER THE INPUT: true; the input reads as it did. -/
def memOfSpec : ChangeSpec := { name := "memOf", fn := fun _ => fun
  | [d1, d2] => { results := [.lit (.bool true)], args := [d1, d2] }
  | _ => none }
def memOfRow : OpenClaim := { program := "ytahdhekbancapaadoor", sum := "c10615479657fc5b10d7db0962beea803b706fac8a79a9eedcebad0797906d3d", func := "stepstone/stepstonelaw05.MemOf", spec := "memOf", unfollowed := true, recurses := true, named := ["stepstone/handle.greatest"], apart := false, laid := [("stepstone/handle.greatest", laid_stepstone_handle_greatest)] }
def MemOfSaid : Prop := memOfRow.holds Tryd.pinned (OpenSpec.ofChange memOfSpec)

/-- ITS FALSE NEIGHBOUR: 'it returns false'. Refute it at one input. -/
def memOfWrong : ChangeSpec := { name := "memOf", fn := fun _ => fun
  | [d1, d2] => { results := [.lit (.bool false)], args := [d1, d2] }
  | _ => none }
def MemOfWrongFalsely : Prop := memOfRow.holds Tryd.pinned (OpenSpec.ofChange memOfWrong)

/-- 'stepstonelaw05.MemAll': WHATEVER THE INPUT: true; the input reads as it did. -/
def memAllSpec : ChangeSpec := { name := "memAll", fn := fun _ => fun
  | [d1, d2, d3] => { results := [.lit (.bool true)], args := [d1, d2, d3] }
  | _ => none }
def memAllRow : OpenClaim := { program := "ytahdhekbancapaadoor", sum := "c10615479657fc5b10d7db0962beea803b706fac8a79a9eedcebad0797906d3d", func := "stepstone/stepstonelaw05.MemAll", spec := "memAll", unfollowed := true, recurses := true, named := ["stepstone/handle.greatest"], apart := false, laid := [("stepstone/handle.greatest", laid_stepstone_handle_greatest)] }
def MemAllSaid : Prop := memAllRow.holds Tryd.pinned (OpenSpec.ofChange memAllSpec)

/-- ITS FALSE NEIGHBOUR: 'it returns false'. Refute it at one input. -/
def memAllWrong : ChangeSpec := { name := "memAll", fn := fun _ => fun
  | [d1, d2, d3] => { results := [.lit (.bool false)], args := [d1, d2, d3] }
  | _ => none }
def MemAllWrongFalsely : Prop := memAllRow.holds Tryd.pinned (OpenSpec.ofChange memAllWrong)

/-- 'stepstonelaw05.MemOthers': WHATEVER THE INPUT: true; the input reads as it did. -/
def memOthersSpec : ChangeSpec := { name := "memOthers", fn := fun _ => fun
  | [d1, d2, d3] => { results := [.lit (.bool true)], args := [d1, d2, d3] }
  | _ => none }
def memOthersRow : OpenClaim := { program := "ytahdhekbancapaadoor", sum := "c10615479657fc5b10d7db0962beea803b706fac8a79a9eedcebad0797906d3d", func := "stepstone/stepstonelaw05.MemOthers", spec := "memOthers", unfollowed := true, recurses := true, named := ["stepstone/handle.greatest"], apart := false, laid := [("stepstone/handle.greatest", laid_stepstone_handle_greatest)] }
def MemOthersSaid : Prop := memOthersRow.holds Tryd.pinned (OpenSpec.ofChange memOthersSpec)

/-- ITS FALSE NEIGHBOUR: 'it returns false'. Refute it at one input. -/
def memOthersWrong : ChangeSpec := { name := "memOthers", fn := fun _ => fun
  | [d1, d2, d3] => { results := [.lit (.bool false)], args := [d1, d2, d3] }
  | _ => none }
def MemOthersWrongFalsely : Prop := memOthersRow.holds Tryd.pinned (OpenSpec.ofChange memOthersWrong)

/-- 'stepstonelaw05.MemMarks': WHATEVER THE INPUT: true; the input reads as it did. -/
def memMarksSpec : ChangeSpec := { name := "memMarks", fn := fun _ => fun
  | [d1, d2, d3] => { results := [.lit (.bool true)], args := [d1, d2, d3] }
  | _ => none }
def memMarksRow : OpenClaim := { program := "ytahdhekbancapaadoor", sum := "c10615479657fc5b10d7db0962beea803b706fac8a79a9eedcebad0797906d3d", func := "stepstone/stepstonelaw05.MemMarks", spec := "memMarks", unfollowed := true, recurses := true, named := ["stepstone/handle.greatest"], apart := false, laid := [("stepstone/handle.greatest", laid_stepstone_handle_greatest)] }
def MemMarksSaid : Prop := memMarksRow.holds Tryd.pinned (OpenSpec.ofChange memMarksSpec)

/-- ITS FALSE NEIGHBOUR: 'it returns false'. Refute it at one input. -/
def memMarksWrong : ChangeSpec := { name := "memMarks", fn := fun _ => fun
  | [d1, d2, d3] => { results := [.lit (.bool false)], args := [d1, d2, d3] }
  | _ => none }
def MemMarksWrongFalsely : Prop := memMarksRow.holds Tryd.pinned (OpenSpec.ofChange memMarksWrong)

/-- 'stepstonelaw05.MemApart': WHATEVER THE INPUT: true; the input reads as it did. -/
def memApartSpec : ChangeSpec := { name := "memApart", fn := fun _ => fun
  | [d1, d2] => { results := [.lit (.bool true)], args := [d1, d2] }
  | _ => none }
def memApartRow : OpenClaim := { program := "ytahdhekbancapaadoor", sum := "c10615479657fc5b10d7db0962beea803b706fac8a79a9eedcebad0797906d3d", func := "stepstone/stepstonelaw05.MemApart", spec := "memApart", unfollowed := true, recurses := true, named := ["stepstone/handle.greatest"], apart := false, laid := [("stepstone/handle.greatest", laid_stepstone_handle_greatest)] }
def MemApartSaid : Prop := memApartRow.holds Tryd.pinned (OpenSpec.ofChange memApartSpec)

/-- ITS FALSE NEIGHBOUR: 'it returns false'. Refute it at one input. -/
def memApartWrong : ChangeSpec := { name := "memApart", fn := fun _ => fun
  | [d1, d2] => { results := [.lit (.bool false)], args := [d1, d2] }
  | _ => none }
def MemApartWrongFalsely : Prop := memApartRow.holds Tryd.pinned (OpenSpec.ofChange memApartWrong)

/- THE SECOND FORM. 'bulk': how many values and letters a reading holds, each counted each time it is reached (what is shared counts as often as it is met; a slice's spare places count too). A statement '..UptoSaid' is the law's where the arguments, and the package variables that the reading takes, are together of bulk at most 1048576: NARROWER than '..Said'. Prove '..Said' where nothing that the law and all that it calls make is longer than what came in: it says more and counts as full. Else prove '..UptoSaid'. A law counts once. -/
mutual
def uptoBulk {H : Type} : DataW H → Nat
  | .lit (.string bytes) => bytes.length + 1
  | .lit _ => 1
  | .nil => 1
  | .ptr d => uptoBulk d + 1
  | .slice elems spare => uptoBulkAll elems + uptoBulkAll spare + 1
  | .agg parts => uptoBulkAll parts + 1
  | .iface _ d => uptoBulk d + 1
  | .map entries => uptoBulkEntries entries + 1
  | .held _ => 1
def uptoBulkAll {H : Type} : List (DataW H) → Nat
  | [] => 0
  | d :: r => uptoBulk d + uptoBulkAll r
def uptoBulkEntries {H : Type} : List (Lit × DataW H) → Nat
  | [] => 0
  | x :: r => uptoBulkEntry x + uptoBulkEntries r
def uptoBulkEntry {H : Type} : Lit × DataW H → Nat
  | (.string bytes, d) => bytes.length + uptoBulk d + 1
  | (_, d) => uptoBulk d + 1
 end
def uptoSmall : (H : Type) → List (DataW H) → Bool := fun _ ds => decide (uptoBulkAll ds ≤ 1048576)
def OpenSpec.upto (s : _root_.Go.ChangeSpec) : _root_.Go.OpenSpec := { _root_.Go.OpenSpec.ofChange s with cond := some uptoSmall }

/-- 'stepstonelaw05.MemNew', WHERE WHAT IT READS IS OF BULK AT MOST 1048576: true; the input reads as it did. -/
def memNewUptoRow : OpenClaim := { program := "ytahdhekbancapaadoor", sum := "c10615479657fc5b10d7db0962beea803b706fac8a79a9eedcebad0797906d3d", func := "stepstone/stepstonelaw05.MemNew", spec := "memNew", unfollowed := true, recurses := true, named := ["stepstone/handle.greatest"], apart := false, laid := [("stepstone/handle.greatest", laid_stepstone_handle_greatest)], narrowed := true }
def MemNewUptoSaid : Prop := memNewUptoRow.holds Tryd.pinned (OpenSpec.upto memNewSpec)

/-- 'stepstonelaw05.MemOf', WHERE WHAT IT READS IS OF BULK AT MOST 1048576: true; the input reads as it did. -/
def memOfUptoRow : OpenClaim := { program := "ytahdhekbancapaadoor", sum := "c10615479657fc5b10d7db0962beea803b706fac8a79a9eedcebad0797906d3d", func := "stepstone/stepstonelaw05.MemOf", spec := "memOf", unfollowed := true, recurses := true, named := ["stepstone/handle.greatest"], apart := false, laid := [("stepstone/handle.greatest", laid_stepstone_handle_greatest)], narrowed := true }
def MemOfUptoSaid : Prop := memOfUptoRow.holds Tryd.pinned (OpenSpec.upto memOfSpec)

/-- 'stepstonelaw05.MemAll', WHERE WHAT IT READS IS OF BULK AT MOST 1048576: true; the input reads as it did. -/
def memAllUptoRow : OpenClaim := { program := "ytahdhekbancapaadoor", sum := "c10615479657fc5b10d7db0962beea803b706fac8a79a9eedcebad0797906d3d", func := "stepstone/stepstonelaw05.MemAll", spec := "memAll", unfollowed := true, recurses := true, named := ["stepstone/handle.greatest"], apart := false, laid := [("stepstone/handle.greatest", laid_stepstone_handle_greatest)], narrowed := true }
def MemAllUptoSaid : Prop := memAllUptoRow.holds Tryd.pinned (OpenSpec.upto memAllSpec)

/-- 'stepstonelaw05.MemOthers', WHERE WHAT IT READS IS OF BULK AT MOST 1048576: true; the input reads as it did. -/
def memOthersUptoRow : OpenClaim := { program := "ytahdhekbancapaadoor", sum := "c10615479657fc5b10d7db0962beea803b706fac8a79a9eedcebad0797906d3d", func := "stepstone/stepstonelaw05.MemOthers", spec := "memOthers", unfollowed := true, recurses := true, named := ["stepstone/handle.greatest"], apart := false, laid := [("stepstone/handle.greatest", laid_stepstone_handle_greatest)], narrowed := true }
def MemOthersUptoSaid : Prop := memOthersUptoRow.holds Tryd.pinned (OpenSpec.upto memOthersSpec)

/-- 'stepstonelaw05.MemMarks', WHERE WHAT IT READS IS OF BULK AT MOST 1048576: true; the input reads as it did. -/
def memMarksUptoRow : OpenClaim := { program := "ytahdhekbancapaadoor", sum := "c10615479657fc5b10d7db0962beea803b706fac8a79a9eedcebad0797906d3d", func := "stepstone/stepstonelaw05.MemMarks", spec := "memMarks", unfollowed := true, recurses := true, named := ["stepstone/handle.greatest"], apart := false, laid := [("stepstone/handle.greatest", laid_stepstone_handle_greatest)], narrowed := true }
def MemMarksUptoSaid : Prop := memMarksUptoRow.holds Tryd.pinned (OpenSpec.upto memMarksSpec)

/-- 'stepstonelaw05.MemApart', WHERE WHAT IT READS IS OF BULK AT MOST 1048576: true; the input reads as it did. -/
def memApartUptoRow : OpenClaim := { program := "ytahdhekbancapaadoor", sum := "c10615479657fc5b10d7db0962beea803b706fac8a79a9eedcebad0797906d3d", func := "stepstone/stepstonelaw05.MemApart", spec := "memApart", unfollowed := true, recurses := true, named := ["stepstone/handle.greatest"], apart := false, laid := [("stepstone/handle.greatest", laid_stepstone_handle_greatest)], narrowed := true }
def MemApartUptoSaid : Prop := memApartUptoRow.holds Tryd.pinned (OpenSpec.upto memApartSpec)

end Rows
end Go.Proofs.YtahdhekbancapaaDoor

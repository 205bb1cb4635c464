/-
  NARROWER THAN 'FOR EVERY INPUT', by the rows' own cells (each row's printed sentence says how): RetireLast: laid · RetireFirst: laid · RetireTwo: laid · RetireLate: laid · RetireOnce: laid.
  DERIVED. THE GIVEN ROWS OF THIS SEAT. 5 by the template 'for every input the law returns true; each argument reads behind the call as it read before'; 0 by the template 'total and deterministic' (their statements: YtgafmklfpiipcaaDoorTotals.lean).
  GIVEN WITH THE SEED: the statements are not yours to turn. If you find one false, say at which input.
  Laid BY PROGRAM, IN A SANDBOX (cutbox-rows.mjs): the forced cells as the released guide's own fill.sh prints them over the translation 63fd6c3442179415… (all of the seat's roots in one cut). By AI agents, Wed Nov 11 2026. No macro, syntax, notation, axiom, sorry.
-/
import Derived.Test.YtgafmklfpiipcaaDoorChecked
import GoSem.Claim
import GoSem.ClaimJoined
import GoSem.ClaimMapViews
import Derived.JoinedTies
import Derived.KernelRfl
namespace Go.Proofs.YtgafmklfpiipcaaDoor
/- THE CELL 'sum', in the pinned program and in every row, IS THE sha256 OF THE DUMP (.gsa) THAT YtgafmklfpiipcaaDoorProg.lean LOADS. Nothing in Lean hashes anything: it is a label: what it is worth is what the hold of that sum in a sandbox is worth. -/
noncomputable def Tryd.pinned : Pinned := { name := "ytgafmklfpiipcaadoor", sum := "63fd6c34421794158511b13c4c5ca8a90c5e04257388bd515ba76cf443f59ab6", checked := Tryd.checked }
namespace Rows
def none {H : Type} : Left H := { results := [], args := [] }

/- WHAT THE LISTED PACKAGE-LEVEL VARIABLES READ AS WHEN THE CALL BEGINS. Each datum BY PROGRAM (the guide's laid-datum.mjs) off the statement by which the dump's own 'gosem.cut.vars' lays the variable. In a bare row this is a premise. The card (YtgafmklfpiipcaaDoorCards.lean) ties it to the program's text. -/
def laid_stepstone_handle_greatest {H : Type} : DataW H := .agg [.lit (.int .u64 4294967295), .lit (.int .u64 1073741823), .lit (.int .u64 1), .lit (.int .u64 1)]

/-- 'stepstonelaw14.RetireLast': WHATEVER THE INPUT: true; the input reads as it did. -/
def retireLastSpec : ChangeSpec := { name := "retireLast", fn := fun _ => fun
  | [d1, d2, d3] => { results := [.lit (.bool true)], args := [d1, d2, d3] }
  | _ => none }
def retireLastRow : OpenClaim := { program := "ytgafmklfpiipcaadoor", sum := "63fd6c34421794158511b13c4c5ca8a90c5e04257388bd515ba76cf443f59ab6", func := "stepstone/stepstonelaw14.RetireLast", spec := "retireLast", unfollowed := true, recurses := true, named := ["stepstone/handle.greatest"], apart := false, laid := [("stepstone/handle.greatest", laid_stepstone_handle_greatest)] }
def RetireLastSaid : Prop := retireLastRow.holds Tryd.pinned (OpenSpec.ofChange retireLastSpec)

/-- ITS FALSE NEIGHBOUR: 'it returns false'. Refute it at one input. -/
def retireLastWrong : ChangeSpec := { name := "retireLast", fn := fun _ => fun
  | [d1, d2, d3] => { results := [.lit (.bool false)], args := [d1, d2, d3] }
  | _ => none }
def RetireLastWrongFalsely : Prop := retireLastRow.holds Tryd.pinned (OpenSpec.ofChange retireLastWrong)

/-- 'stepstonelaw14.RetireFirst': WHATEVER THE INPUT: true; the input reads as it did. -/
def retireFirstSpec : ChangeSpec := { name := "retireFirst", fn := fun _ => fun
  | [d1, d2, d3] => { results := [.lit (.bool true)], args := [d1, d2, d3] }
  | _ => none }
def retireFirstRow : OpenClaim := { program := "ytgafmklfpiipcaadoor", sum := "63fd6c34421794158511b13c4c5ca8a90c5e04257388bd515ba76cf443f59ab6", func := "stepstone/stepstonelaw14.RetireFirst", spec := "retireFirst", unfollowed := true, recurses := true, named := ["stepstone/handle.greatest"], apart := false, laid := [("stepstone/handle.greatest", laid_stepstone_handle_greatest)] }
def RetireFirstSaid : Prop := retireFirstRow.holds Tryd.pinned (OpenSpec.ofChange retireFirstSpec)

/-- ITS FALSE NEIGHBOUR: 'it returns false'. Refute it at one input. -/
def retireFirstWrong : ChangeSpec := { name := "retireFirst", fn := fun _ => fun
  | [d1, d2, d3] => { results := [.lit (.bool false)], args := [d1, d2, d3] }
  | _ => none }
def RetireFirstWrongFalsely : Prop := retireFirstRow.holds Tryd.pinned (OpenSpec.ofChange retireFirstWrong)

/-- 'stepstonelaw14.RetireTwo': WHATEVER THE INPUT: true; the input reads as it did. -/
def retireTwoSpec : ChangeSpec := { name := "retireTwo", fn := fun _ => fun
  | [d1, d2, d3] => { results := [.lit (.bool true)], args := [d1, d2, d3] }
  | _ => none }
def retireTwoRow : OpenClaim := { program := "ytgafmklfpiipcaadoor", sum := "63fd6c34421794158511b13c4c5ca8a90c5e04257388bd515ba76cf443f59ab6", func := "stepstone/stepstonelaw14.RetireTwo", spec := "retireTwo", unfollowed := true, recurses := true, named := ["stepstone/handle.greatest"], apart := false, laid := [("stepstone/handle.greatest", laid_stepstone_handle_greatest)] }
def RetireTwoSaid : Prop := retireTwoRow.holds Tryd.pinned (OpenSpec.ofChange retireTwoSpec)

/-- ITS FALSE NEIGHBOUR: 'it returns false'. Refute it at one input. -/
def retireTwoWrong : ChangeSpec := { name := "retireTwo", fn := fun _ => fun
  | [d1, d2, d3] => { results := [.lit (.bool false)], args := [d1, d2, d3] }
  | _ => none }
def RetireTwoWrongFalsely : Prop := retireTwoRow.holds Tryd.pinned (OpenSpec.ofChange retireTwoWrong)

/-- 'stepstonelaw14.RetireLate': WHATEVER THE INPUT: true; the input reads as it did. -/
def retireLateSpec : ChangeSpec := { name := "retireLate", fn := fun _ => fun
  | [d1, d2, d3] => { results := [.lit (.bool true)], args := [d1, d2, d3] }
  | _ => none }
def retireLateRow : OpenClaim := { program := "ytgafmklfpiipcaadoor", sum := "63fd6c34421794158511b13c4c5ca8a90c5e04257388bd515ba76cf443f59ab6", func := "stepstone/stepstonelaw14.RetireLate", spec := "retireLate", unfollowed := true, recurses := true, named := ["stepstone/handle.greatest"], apart := false, laid := [("stepstone/handle.greatest", laid_stepstone_handle_greatest)] }
def RetireLateSaid : Prop := retireLateRow.holds Tryd.pinned (OpenSpec.ofChange retireLateSpec)

/-- ITS FALSE NEIGHBOUR: 'it returns false'. Refute it at one input. -/
def retireLateWrong : ChangeSpec := { name := "retireLate", fn := fun _ => fun
  | [d1, d2, d3] => { results := [.lit (.bool false)], args := [d1, d2, d3] }
  | _ => none }
def RetireLateWrongFalsely : Prop := retireLateRow.holds Tryd.pinned (OpenSpec.ofChange retireLateWrong)

/-- 'stepstonelaw14.RetireOnce': WHATEVER THE INPUT: true; the input reads as it did. -/
def retireOnceSpec : ChangeSpec := { name := "retireOnce", fn := fun _ => fun
  | [d1, d2, d3] => { results := [.lit (.bool true)], args := [d1, d2, d3] }
  | _ => none }
def retireOnceRow : OpenClaim := { program := "ytgafmklfpiipcaadoor", sum := "63fd6c34421794158511b13c4c5ca8a90c5e04257388bd515ba76cf443f59ab6", func := "stepstone/stepstonelaw14.RetireOnce", spec := "retireOnce", unfollowed := true, recurses := true, named := ["stepstone/handle.greatest"], apart := false, laid := [("stepstone/handle.greatest", laid_stepstone_handle_greatest)] }
def RetireOnceSaid : Prop := retireOnceRow.holds Tryd.pinned (OpenSpec.ofChange retireOnceSpec)

/-- ITS FALSE NEIGHBOUR: 'it returns false'. Refute it at one input. -/
def retireOnceWrong : ChangeSpec := { name := "retireOnce", fn := fun _ => fun
  | [d1, d2, d3] => { results := [.lit (.bool false)], args := [d1, d2, d3] }
  | _ => none }
def RetireOnceWrongFalsely : Prop := retireOnceRow.holds Tryd.pinned (OpenSpec.ofChange retireOnceWrong)

/- THE SECOND FORM. 'bulk': how many values and letters a reading holds, each counted each time it is reached (what is shared counts as often as it is met; a slice's spare places count too). A statement '..UptoSaid' is the law's where the arguments, and the package variables that the reading takes, are together of bulk at most 1048576: NARROWER than '..Said'. Prove '..Said' where nothing that the law and all that it calls make is longer than what came in: it says more and counts as full. Else prove '..UptoSaid'. A law counts once. -/
mutual
def uptoBulk {H : Type} : DataW H → Nat
  | .lit (.string bytes) => bytes.length + 1
  | .lit _ => 1
  | .nil => 1
  | .ptr d => uptoBulk d + 1
  | .slice elems spare => uptoBulkAll elems + uptoBulkAll spare + 1
  | .agg parts => uptoBulkAll parts + 1
  | .iface _ d => uptoBulk d + 1
  | .map entries => uptoBulkEntries entries + 1
  | .held _ => 1
def uptoBulkAll {H : Type} : List (DataW H) → Nat
  | [] => 0
  | d :: r => uptoBulk d + uptoBulkAll r
def uptoBulkEntries {H : Type} : List (Lit × DataW H) → Nat
  | [] => 0
  | x :: r => uptoBulkEntry x + uptoBulkEntries r
def uptoBulkEntry {H : Type} : Lit × DataW H → Nat
  | (.string bytes, d) => bytes.length + uptoBulk d + 1
  | (_, d) => uptoBulk d + 1
 end
def uptoSmall : (H : Type) → List (DataW H) → Bool := fun _ ds => decide (uptoBulkAll ds ≤ 1048576)
def OpenSpec.upto (s : _root_.Go.ChangeSpec) : _root_.Go.OpenSpec := { _root_.Go.OpenSpec.ofChange s with cond := some uptoSmall }

/-- 'stepstonelaw14.RetireLast', WHERE WHAT IT READS IS OF BULK AT MOST 1048576: true; the input reads as it did. -/
def retireLastUptoRow : OpenClaim := { program := "ytgafmklfpiipcaadoor", sum := "63fd6c34421794158511b13c4c5ca8a90c5e04257388bd515ba76cf443f59ab6", func := "stepstone/stepstonelaw14.RetireLast", spec := "retireLast", unfollowed := true, recurses := true, named := ["stepstone/handle.greatest"], apart := false, laid := [("stepstone/handle.greatest", laid_stepstone_handle_greatest)], narrowed := true }
def RetireLastUptoSaid : Prop := retireLastUptoRow.holds Tryd.pinned (OpenSpec.upto retireLastSpec)

/-- 'stepstonelaw14.RetireFirst', WHERE WHAT IT READS IS OF BULK AT MOST 1048576: true; the input reads as it did. -/
def retireFirstUptoRow : OpenClaim := { program := "ytgafmklfpiipcaadoor", sum := "63fd6c34421794158511b13c4c5ca8a90c5e04257388bd515ba76cf443f59ab6", func := "stepstone/stepstonelaw14.RetireFirst", spec := "retireFirst", unfollowed := true, recurses := true, named := ["stepstone/handle.greatest"], apart := false, laid := [("stepstone/handle.greatest", laid_stepstone_handle_greatest)], narrowed := true }
def RetireFirstUptoSaid : Prop := retireFirstUptoRow.holds Tryd.pinned (OpenSpec.upto retireFirstSpec)

/-- 'stepstonelaw14.RetireTwo', WHERE WHAT IT READS IS OF BULK AT MOST 1048576: true; the input reads as it did. -/
def retireTwoUptoRow : OpenClaim := { program := "ytgafmklfpiipcaadoor", sum := "63fd6c34421794158511b13c4c5ca8a90c5e04257388bd515ba76cf443f59ab6", func := "stepstone/stepstonelaw14.RetireTwo", spec := "retireTwo", unfollowed := true, recurses := true, named := ["stepstone/handle.greatest"], apart := false, laid := [("stepstone/handle.greatest", laid_stepstone_handle_greatest)], narrowed := true }
def RetireTwoUptoSaid : Prop := retireTwoUptoRow.holds Tryd.pinned (OpenSpec.upto retireTwoSpec)

/-- 'stepstonelaw14.RetireLate', WHERE WHAT IT READS IS OF BULK AT MOST 1048576: true; the input reads as it did. -/
def retireLateUptoRow : OpenClaim := { program := "ytgafmklfpiipcaadoor", sum := "63fd6c34421794158511b13c4c5ca8a90c5e04257388bd515ba76cf443f59ab6", func := "stepstone/stepstonelaw14.RetireLate", spec := "retireLate", unfollowed := true, recurses := true, named := ["stepstone/handle.greatest"], apart := false, laid := [("stepstone/handle.greatest", laid_stepstone_handle_greatest)], narrowed := true }
def RetireLateUptoSaid : Prop := retireLateUptoRow.holds Tryd.pinned (OpenSpec.upto retireLateSpec)

/-- 'stepstonelaw14.RetireOnce', WHERE WHAT IT READS IS OF BULK AT MOST 1048576: true; the input reads as it did. -/
def retireOnceUptoRow : OpenClaim := { program := "ytgafmklfpiipcaadoor", sum := "63fd6c34421794158511b13c4c5ca8a90c5e04257388bd515ba76cf443f59ab6", func := "stepstone/stepstonelaw14.RetireOnce", spec := "retireOnce", unfollowed := true, recurses := true, named := ["stepstone/handle.greatest"], apart := false, laid := [("stepstone/handle.greatest", laid_stepstone_handle_greatest)], narrowed := true }
def RetireOnceUptoSaid : Prop := retireOnceUptoRow.holds Tryd.pinned (OpenSpec.upto retireOnceSpec)

end Rows
end Go.Proofs.YtgafmklfpiipcaaDoor

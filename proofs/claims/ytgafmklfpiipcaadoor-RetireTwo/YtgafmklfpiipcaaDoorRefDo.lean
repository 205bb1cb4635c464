/-
  The document's own access to a bank by value, of whatever kind.
-/
import Derived.Test.YtgafmklfpiipcaaDoorDoes
import Derived.Deep.Cut
namespace Go.Proofs.YtgafmklfpiipcaaDoor
open Go.ChangeShapes Go.WideShapes Go.ChangeAt Go.RowKit
open Go.Deep
theorem set_same (cs : List Int) (i : Nat) (h : i < cs.length) (x : Int) (e : x = cs.getD i 0) : cs.set i x = cs := by
  subst e; apply List.ext_getElem?; intro j
  by_cases q : i = j
  · subst q; simp [h]
  · simp [q]
theorem kept5 (w : World) (a b c d e : Obj) : Kept [] w (((((w.alloc a).alloc b).alloc c).alloc d).alloc e) := (((((Kept.refl [] w).alloc a).alloc b).alloc c).alloc d).alloc e
end Go.Proofs.YtgafmklfpiipcaaDoor

/-
  The law's own call of the document's words, of whatever kind.
-/
import Derived.Test.YtahdhekbancapaaDoorMDoes
import Derived.Test.YtahdhekbancapaaDoorMRef0
namespace Go.Proofs.YtahdhekbancapaaDoor
open Go.ChangeShapes Go.WideShapes Go.ChangeAt Go.RowKit
open Go.Deep
set_option maxRecDepth 100000
theorem blk3 (w : World) (a b c : Obj) : (((w.alloc a).alloc b).alloc c).heap[w.heap.size + 1 + 1]? = some c := by
  rw [blk_alloc, if_pos (by rw [nblk_alloc, nblk_alloc])]
theorem kept3 (w : World) (a b c : Obj) : Kept [] w (((w.alloc a).alloc b).alloc c) := (((Kept.refl [] w).alloc a).alloc b).alloc c
end Go.Proofs.YtahdhekbancapaaDoor

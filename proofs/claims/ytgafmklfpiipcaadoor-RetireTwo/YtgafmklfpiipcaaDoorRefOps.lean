/-
  Load, Store, Swap and Add of the document's own bank, and the law's own access to it.
-/
import Derived.Test.YtgafmklfpiipcaaDoorRefDo2
namespace Go.Proofs.YtgafmklfpiipcaaDoor
open Go.ChangeShapes Go.WideShapes Go.ChangeAt Go.RowKit
open Go.Deep
theorem blk2 (w : World) (a b : Obj) : ((w.alloc a).alloc b).heap[w.heap.size + 1]? = some b := by
  rw [blk_alloc, if_pos (by rw [nblk_alloc])]
theorem RowR.ne {w : World} {g b : Nat} {xs : List Int} {cap : Nat} {c : Array Value} {t : TypeId} (h : RowR w g xs cap) (z : w.heap[b]? = some (.cells c t (0, 0))) (ht : t ≠ 26) : ¬ g = b := by
  rintro rfl
  obtain ⟨rest, h1, _⟩ := h
  rw [h1] at z; simp at z; exact ht z.2.symm
theorem kept2 (w : World) (a b : Obj) : Kept [] w ((w.alloc a).alloc b) := ((Kept.refl [] w).alloc a).alloc b
end Go.Proofs.YtgafmklfpiipcaaDoor

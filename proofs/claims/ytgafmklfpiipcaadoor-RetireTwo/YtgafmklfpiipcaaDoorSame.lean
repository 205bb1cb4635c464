/-
  Two rows that are the same: the document's own test of it answers true.
-/
import Derived.Test.YtgafmklfpiipcaaDoorOpen
namespace Go.Proofs.YtgafmklfpiipcaaDoor
set_option maxRecDepth 100000
open Go.ChangeShapes Go.WideShapes Go.ChangeAt Go.RowKit
open Go.Deep
theorem Sl.cell {w : World} {ao : Option Addr} {xs : List Int} (h : Sl w ao xs) {i : Nat} (hi : i < xs.length) : ∃ b off, ao = some ⟨b, off, none⟩ ∧ b < w.heap.size ∧ w.cell? ⟨b, off + i, none⟩ = some (.int .u64 (xs.getD i 0)) := by
  obtain ⟨⟨b, off, spot⟩, rfl, hc⟩ := h (by omega)
  have h1 := hc i hi
  have hs : spot = none := by have := World.cell?_spot (hc 0 (by omega)); simpa [Addr.add] using this
  subst hs
  rw [add_plain] at h1
  exact ⟨b, off, rfl, lt_of_cell h1, by rw [h1]; simp [hi]⟩
end Go.Proofs.YtgafmklfpiipcaaDoor

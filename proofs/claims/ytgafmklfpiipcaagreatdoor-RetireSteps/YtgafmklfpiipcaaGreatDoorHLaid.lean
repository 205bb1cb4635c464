/-
  The row's condition on the table gives the table's cells; the heap that the door's own run leaves meets it.
-/
import Derived.Test.YtgafmklfpiipcaaGreatDoorHParts
import Derived.Test.YtgafmklfpiipcaaGreatDoorCards
import Derived.Test.YtgafmklfpiipcaaGreatDoorTie
import Derived.ProofKit
import Derived.LaidMore
import Derived.OpenShut
import Derived.Stop.Joined
import Derived.SevenTiedAt
import Derived.Lib.LaidTab
namespace Go.Proofs.YtgafmklfpiipcaaGreatDoor
set_option maxRecDepth 100000
open Go.ChangeShapes Go.WideShapes Go.ChangeAt Go.RowKit
theorem own : ownKnob Tryz.prog.godebug = none := by kernel_rfl
theorem laidOut : laidOutB Tryz.prog = true := by kernel_rfl
theorem gTab : Tryz.prog.globalNamed "stepstone/handle.greatest" = some 0 := by kernel_rfl
theorem tTab : (Tryz.prog.globals[0]?).map (·.type) = some 147 := by kernel_rfl
theorem cellsW : Tryz.prog.cellsOf 25 = 1 := by kernel_rfl
theorem cellsP : Tryz.prog.cellsOf 147 = 4 := by kernel_rfl
def laid1 : List (String × DataW Unit) := [("stepstone/handle.greatest", Rows.laid_stepstone_handle_greatest)]
theorem door_met (os : Os) (args : Array Value) : laidMetH Tryz.prog laid1 ((World.doorLaid Tryz.prog 400 os).forCall (fun _ _ => 0) ⟨#[], args, []⟩).memory :=
  laidMetH_of_parts3 (fuel := 8) (laidMet_of_run' 8 (by kernel_rfl) (by kernel_rfl)) (by kernel_rfl) (by kernel_rfl)
theorem tab_of_laid {W : World} (h : laidMetH Tryz.prog laid1 W) : Tab W := by
  rw [MakeChecks.laidMetH_plain _ _ _ (by kernel_rfl)] at h
  have hT := Lib.tabIs_of_head (k := .u64) (zs := [4294967295, 1073741823, 1, 1]) gTab tTab Tryz.underlying147 Tryz.underlying25 cellsW cellsP h
  exact ⟨hT.cell gTab 0 (by decide), hT.cell gTab 1 (by decide), hT.cell gTab 2 (by decide), hT.cell gTab 3 (by decide)⟩
end Go.Proofs.YtgafmklfpiipcaaGreatDoor

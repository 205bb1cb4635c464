/-
  The law's own access to a bank, of whatever kind.
-/
import Derived.Test.YtgafmklfpiipcaaGreatDoorRefBank
namespace Go.Proofs.YtgafmklfpiipcaaGreatDoor
set_option maxRecDepth 100000
open Go.ChangeShapes Go.WideShapes Go.ChangeAt Go.RowKit
open Go.Deep
/-- An access that is asked for. -/
structure OpV where
  k : Int
  c : Int
  via : Int
  old : Int
  v : Int
  deriving Inhabited
def OpV.cells (o : OpV) : List Value := [.int .i64 o.k, .int .i64 o.c, .int .u64 o.via, .int .u64 o.old, .int .u64 o.v]
def OpV.val (o : OpV) : Value := .agg #[.int .i64 o.k, .int .i64 o.c, .int .u64 o.via, .int .u64 o.old, .int .u64 o.v]
def isOp (k : Int) : Prop := k = 1 ∨ k = 2 ∨ k = 3 ∨ k = 4
instance (k : Int) : Decidable (isOp k) := by unfold isOp; infer_instance
/-- What it tells, and what it leaves: the cells, the count, the last access. -/
def opA (cs : List Int) (o : OpV) : Acc := acV cs o.k o.c o.via o.old o.v
def dsU (cs : List Int) (o : OpV) : Int := if o.k = 1 ∨ o.k = 4 then (opA cs o).o else 0
def dsB (cs : List Int) (o : OpV) : Bool := if o.k = 3 then (opA cs o).d else false
def dsC (cs : List Int) (o : OpV) : List Int := if isOp o.k then clV cs o.k o.c o.old o.v else cs
def dsN (cnt : Int) (o : OpV) : Int := if isOp o.k then cnt + 1 else cnt
def dsA (cs : List Int) (a : Acc) (o : OpV) : Acc := if isOp o.k then opA cs o else a
theorem acV_1 (cs : List Int) (c via old v : Int) : acV cs 1 c via old v = acV cs 1 c via 0 0 := by unfold acV; split <;> simp [bhV, bhB]
theorem acV_2 (cs : List Int) (c via old v : Int) : acV cs 2 c via old v = acV cs 2 c via 0 v := by unfold acV; split <;> simp [bhV, bhB]
theorem acV_4 (cs : List Int) (c via old v : Int) : acV cs 4 c via old v = acV cs 4 c via 0 v := by unfold acV; split <;> simp [bhV, bhB]
theorem clV_1 (cs : List Int) (c old v : Int) : clV cs 1 c old v = clV cs 1 c 0 0 := by unfold clV; split <;> simp [bhV]
theorem clV_2 (cs : List Int) (c old v : Int) : clV cs 2 c old v = clV cs 2 c 0 v := by unfold clV; split <;> simp [bhV]
theorem clV_4 (cs : List Int) (c old v : Int) : clV cs 4 c old v = clV cs 4 c 0 v := by unfold clV; split <;> simp [bhV]
theorem tupUB {a b : Int} {c d : Bool} (h : a = b) (k : c = d) : Ending.returned (.tuple #[.int .u64 a, .bool c]) = .returned (.tuple #[.int .u64 b, .bool d]) := by rw [h, k]
theorem op_cells {cs : List Value} (hF : F2 [.int .i64, .int .i64, .int .u64, .int .u64, .int .u64] cs) : ∃ o : OpV, cs = o.cells := by
  obtain ⟨k, _, rfl, _, h⟩ := F2_int hF
  obtain ⟨c, _, rfl, _, h⟩ := F2_int h
  obtain ⟨via, _, rfl, _, h⟩ := F2_int h
  obtain ⟨old, _, rfl, _, h⟩ := F2_int h
  obtain ⟨v, _, rfl, _, h⟩ := F2_int h
  obtain rfl := F2_nil h
  exact ⟨⟨k, c, via, old, v⟩, rfl⟩
end Go.Proofs.YtgafmklfpiipcaaGreatDoor

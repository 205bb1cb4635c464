/-
  Arguments: a configuration, a pair of numbers.
-/
import Derived.Test.YtgafmklfpiipcaaGreatDoorFlat
import Derived.Test.YtgafmklfpiipcaaGreatDoorCfg
namespace Go.Proofs.YtgafmklfpiipcaaGreatDoor
set_option maxRecDepth 100000
open Go.ChangeShapes Go.WideShapes Go.ChangeAt Go.RowKit
open Go.Deep
theorem flat_cfg : (flat Tryz.prog 3 23) = some [.int .i64, .int .i64, .int .i64, .int .i64, .int .i64, .int .i64, .int .i64] := by kernel_rfl
theorem cfg_cells {cs : List Value} (h : F2 [.int .i64, .int .i64, .int .i64, .int .i64, .int .i64, .int .i64, .int .i64] cs) : ∃ c : Cfg, cs = c.cells ∧ c.wf := by
  obtain ⟨a0, r, rfl, w0, h⟩ := F2_int h
  obtain ⟨a1, r, rfl, w1, h⟩ := F2_int h
  obtain ⟨a2, r, rfl, w2, h⟩ := F2_int h
  obtain ⟨a3, r, rfl, w3, h⟩ := F2_int h
  obtain ⟨a4, r, rfl, w4, h⟩ := F2_int h
  obtain ⟨a5, r, rfl, w5, h⟩ := F2_int h
  obtain ⟨a6, r, rfl, w6, h⟩ := F2_int h
  obtain rfl := F2_nil h
  exact ⟨⟨a0, a1, a2, a3, a4, a5, a6⟩, rfl, ⟨w0, w1, w2, w3, w4, w5, w6⟩⟩
section
variable {H : Type} {enc : TypeId × Value → H} {w : World} {r : Reach} {b0 base : Nat} {spare : Nat → Bool} {held : Bool} {v : Value} {d : DataW H} {p : List MemPlace}
theorem open_cfg (hv : Value.okWide Tryz.prog w r b0 23 v) (h : DataW.Trod enc Tryz.prog w base spare held 23 v d p) : ∃ c : Cfg, v = c.val ∧ c.wf := by
  obtain ⟨cs, rfl, hF⟩ := flat_agg (Or.inl ⟨_, Tryz.underlying23⟩) flat_cfg hv h
  obtain ⟨c, hc, hw⟩ := cfg_cells hF
  exact ⟨c, by rw [show cs = cs.toList.toArray by simp, hc]; rfl, hw⟩
end
end Go.Proofs.YtgafmklfpiipcaaGreatDoor

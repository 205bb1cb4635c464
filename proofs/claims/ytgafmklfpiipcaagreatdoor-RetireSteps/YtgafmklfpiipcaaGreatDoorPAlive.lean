/-
  The small call that each law of plan ends with answers true, in any world whose table reads as the text lays it, and leaves what was there.
-/
import Derived.Test.YtgafmklfpiipcaaGreatDoorPlan2
namespace Go.Proofs.YtgafmklfpiipcaaGreatDoor
set_option maxRecDepth 100000
open Go.RowKit (Grown Hid Below)
open Go.Deep
abbrev smC : Cfg := ⟨2, 2, 3, 2, 1, 1, 9⟩
theorem reserved_is {c : Cfg} {a b v : Int} (h : rsV c a b = v) (w : World) : Calls Tryz.prog 121 #[.agg #[.int .i64 c.t, .int .i64 c.s, .int .i64 c.c, .int .i64 c.h, .int .i64 c.k, .int .i64 c.e, .int .i64 c.l], .int .i64 a, .int .i64 b] w fun e w' => e = .returned (.int .i64 v) ∧ Kept [] w w' := h ▸ reserved_any c a b w
theorem cell_is {c : Cfg} {a b v : Int} (h : clV' c a b = v) (w : World) : Calls Tryz.prog 85 #[.agg #[.int .i64 c.t, .int .i64 c.s, .int .i64 c.c, .int .i64 c.h, .int .i64 c.k, .int .i64 c.e, .int .i64 c.l], .int .i64 a, .int .i64 b] w fun e w' => e = .returned (.int .i64 v) ∧ Kept [] w w' := h ▸ cell_any c a b w
theorem len_is {c : Cfg} {v : Int} (h : lnV c = v) (w : World) : Calls Tryz.prog 43 #[.agg #[.int .i64 c.t, .int .i64 c.s, .int .i64 c.c, .int .i64 c.h, .int .i64 c.k, .int .i64 c.e, .int .i64 c.l]] w fun e w' => e = .returned (.int .i64 v) ∧ Kept [] w w' := h ▸ len_any c w
theorem fldk (a b d : Int) (w : World) : (Instr.field 164 (.agg #[.int .i64 a, .int .i64 b, .int .i64 d]) 0).run Tryz.prog w = .ok (.int .i64 a) w := by kernel_rfl
theorem Tab.kept {w w' : World} (h : Tab w) (k : Kept [] w w') : Tab w' := h.grown k
end Go.Proofs.YtgafmklfpiipcaaGreatDoor

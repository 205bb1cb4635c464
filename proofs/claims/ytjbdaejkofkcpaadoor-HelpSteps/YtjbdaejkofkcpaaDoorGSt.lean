/-
  The contracts of package guard: a guard's block, and what its calls make of it.
-/
import Derived.Test.YtjbdaejkofkcpaaDoorKBase
namespace Go.Proofs.YtjbdaejkofkcpaaDoor
open Go.RowKit (Grown Hid Below)
open Go.Deep
namespace K
set_option maxRecDepth 100000
/-- A guard: how many reservations it used, its latest era, its thread. -/
structure Gs where
  u : Int
  l : Int
  t : Int
/-- The reservation that is used next; a guard behind a publish, and behind a clear. -/
def pubN (c : Cfg) (g : Gs) : Int := if g.u < c.s then g.u else 0
def pubG (c : Cfg) (g : Gs) (e : Int) : Gs := ⟨pubN c g + 1, e, g.t⟩
def clrG (c : Cfg) (g : Gs) (x : Int) : Gs := if x = c.s - 1 then ⟨0, 0, g.t⟩ else g
theorem fldslots (c : Cfg) (w : World) : (Instr.field 23 c.val 1).run Tryd.prog w = .ok (.int .i64 c.s) w := by kernel_rfl
end K
end Go.Proofs.YtjbdaejkofkcpaaDoor

/-
  The document's own answers for layer 5: a world's words are a value (how great it is, and a bank); what each call makes of them.
-/
import Derived.Test.YtgafmklfpiipcaaDoorMMem
import Derived.Test.YtgafmklfpiipcaaDoorRefOps
import Derived.Test.YtgafmklfpiipcaaDoorPRef
namespace Go.Proofs.YtgafmklfpiipcaaDoor
open Go.RowKit (Grown Hid Below)
open Go.Deep
set_option maxRecDepth 100000
def rmV (c : Cfg) (ao : Option Addr) (n cap : Nat) (cnt : Int) (a : Acc) : Value := .agg #[.int .i64 c.t, .int .i64 c.s, .int .i64 c.c, .int .i64 c.h, .int .i64 c.k, .int .i64 c.e, .int .i64 c.l, .slice ao n cap, .int .i64 cnt, .int .i64 a.k, .int .i64 a.c, .int .u64 a.v, .int .u64 a.o, .int .u64 a.n, .bool a.d]
theorem hf1 {w w7 : World} {b g' c' : Nat} {C : List Int} (R : RowR w7 g' C c') (T : Kept [] w w7) (hb : w.heap.size ≤ b) (gy : ¬ g' = b + 1) : ∀ V, Kept [b + 1] w7 V → RowR V g' C c' ∧ Kept [] w V :=
  fun _ k => ⟨R.kept k (by simpa using gy), T.then k (by simp; omega)⟩
theorem hf2 {w w7 : World} {b d g' c' : Nat} {C : List Int} (R : RowR w7 g' C c') (T : Kept [] w w7) (hb : w.heap.size ≤ b) (hd : w.heap.size ≤ d) (gy : ¬ g' = b + 1) (gz : ¬ g' = d) : ∀ V, Kept [b + 1, d] w7 V → RowR V g' C c' ∧ Kept [] w V :=
  fun _ k => ⟨R.kept k (by simp [gy, gz]), T.then k (by simp; omega)⟩
end Go.Proofs.YtgafmklfpiipcaaDoor

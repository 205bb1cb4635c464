/-
  The contracts of handle.Valid, Marked, Index, Gen, Mark and Plain at any word, and of the document's own Valid, Marked, Index and Gen.
-/
import Derived.Test.YtpobanjpgdghlaaDoorHPack
namespace Go.Proofs.YtpobanjpgdghlaaDoor
open Go.RowKit (Grown Hid)
def mkB (x : Int) : Bool := x / 4294967296 / 1073741824 % 2 == 1
def vlB (x : Int) : Bool := x / 4294967296 / 1073741824 / 2 % 2 == 1
def ixV (x : Int) : Int := x % 4294967296
def gnV (x : Int) : Int := x / 4294967296 % 1073741824
def markV (x : Int) : Int := x - x / 4294967296 / 1073741824 % 2 * 4611686018427387904 + 4611686018427387904
def plainV (x : Int) : Int := x - x / 4294967296 / 1073741824 % 2 * 4611686018427387904

set_option maxRecDepth 100000 in
theorem index_any (x : Int) (w : World) (hT : Tab w) (h0 : 0 ≤ x) (h1 : x < 18446744073709551616) :
    Calls Tryd.prog 76 #[.int .u64 x] w fun e w' => e = .returned (.int .i64 (ixV x)) ∧ Kept [] w w' := by
  have hi : ∀ a b c d w, (Instr.index 131 (.agg #[a, b, c, d]) (.int .i64 0)).run Tryd.prog w = .ok a w := fun _ _ _ _ _ => by kernel_rfl
  go_enter Tryd.func76, Tryd.ntmps76
  go_wp2_with fail
  refine (split_any x _ hT h0 h1).mono ?_
  rintro e w1 ⟨rfl, G1⟩
  go_wp2
  go_ret
  exact ⟨rfl, G1⟩
theorem with_mark (x c : Int) (h0 : 0 ≤ x) (h1 : x < 18446744073709551616) (c0 : 0 ≤ c) (c1 : c < 2) :
    joinV (x % 4294967296) (x / 4294967296 % 1073741824) c (x / 4294967296 / 1073741824 / 2 % 2) = plainV x + c * 4611686018427387904 := by
  rw [joinV_eq _ _ _ _ (by omega) (by omega) (by omega) (by omega) c0 c1 (by omega) (by omega)]
  unfold plainV; omega
/-! the document's own answers -/
end Go.Proofs.YtpobanjpgdghlaaDoor

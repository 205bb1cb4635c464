/-
  The contracts of handle.Valid, Marked, Index, Gen, Mark and Plain at any word, and of the document's own Valid, Marked, Index and Gen.
-/
import Derived.Test.YtgafmklfpiipcaaGreatDoorHPack
namespace Go.Proofs.YtgafmklfpiipcaaGreatDoor
open Go.RowKit (Grown Hid)
def mkB (x : Int) : Bool := x / 4294967296 / 1073741824 % 2 == 1
def vlB (x : Int) : Bool := x / 4294967296 / 1073741824 / 2 % 2 == 1
def ixV (x : Int) : Int := x % 4294967296
def gnV (x : Int) : Int := x / 4294967296 % 1073741824
def markV (x : Int) : Int := x - x / 4294967296 / 1073741824 % 2 * 4611686018427387904 + 4611686018427387904
def plainV (x : Int) : Int := x - x / 4294967296 / 1073741824 % 2 * 4611686018427387904

set_option maxRecDepth 100000 in
theorem valid_any (x : Int) (w : World) (hT : Tab w) (h0 : 0 ≤ x) (h1 : x < 18446744073709551616) :
    Calls Tryz.prog 96 #[.int .u64 x] w fun e w' => e = .returned (.bool (vlB x)) ∧ Kept [] w w' := by
  have hi : ∀ a b c d w, (Instr.index 147 (.agg #[a, b, c, d]) (.int .i64 3)).run Tryz.prog w = .ok d w := fun _ _ _ _ _ => by kernel_rfl
  go_enter Tryz.func96, Tryz.ntmps96
  go_wp2_with fail
  refine (split_any x _ hT h0 h1).mono ?_
  rintro e w1 ⟨rfl, G1⟩
  go_wp2
  go_ret
  exact ⟨rfl, G1⟩
set_option maxRecDepth 100000 in
theorem marked_any (x : Int) (w : World) (hT : Tab w) (h0 : 0 ≤ x) (h1 : x < 18446744073709551616) :
    Calls Tryz.prog 95 #[.int .u64 x] w fun e w' => e = .returned (.bool (mkB x)) ∧ Kept [] w w' := by
  have hi : ∀ a b c d w, (Instr.index 147 (.agg #[a, b, c, d]) (.int .i64 2)).run Tryz.prog w = .ok c w := fun _ _ _ _ _ => by kernel_rfl
  go_enter Tryz.func95, Tryz.ntmps95
  go_wp2_with fail
  refine (split_any x _ hT h0 h1).mono ?_
  rintro e w1 ⟨rfl, G1⟩
  go_wp2
  go_ret
  exact ⟨rfl, G1⟩
set_option maxRecDepth 100000 in
theorem index_any (x : Int) (w : World) (hT : Tab w) (h0 : 0 ≤ x) (h1 : x < 18446744073709551616) :
    Calls Tryz.prog 86 #[.int .u64 x] w fun e w' => e = .returned (.int .i64 (ixV x)) ∧ Kept [] w w' := by
  have hi : ∀ a b c d w, (Instr.index 147 (.agg #[a, b, c, d]) (.int .i64 0)).run Tryz.prog w = .ok a w := fun _ _ _ _ _ => by kernel_rfl
  go_enter Tryz.func86, Tryz.ntmps86
  go_wp2_with fail
  refine (split_any x _ hT h0 h1).mono ?_
  rintro e w1 ⟨rfl, G1⟩
  go_wp2
  go_ret
  exact ⟨rfl, G1⟩
theorem with_mark (x c : Int) (h0 : 0 ≤ x) (h1 : x < 18446744073709551616) (c0 : 0 ≤ c) (c1 : c < 2) :
    joinV (x % 4294967296) (x / 4294967296 % 1073741824) c (x / 4294967296 / 1073741824 / 2 % 2) = plainV x + c * 4611686018427387904 := by
  rw [joinV_eq _ _ _ _ (by omega) (by omega) (by omega) (by omega) c0 c1 (by omega) (by omega)]
  unfold plainV; omega
set_option maxRecDepth 100000 in
theorem withMark_any (x c : Int) (w : World) (hT : Tab w) (h0 : 0 ≤ x) (h1 : x < 18446744073709551616) (c0 : 0 ≤ c) (c1 : c < 2) :
    Calls Tryz.prog 47 #[.int .u64 x, .int .u64 c] w fun e w' => e = .returned (.int .u64 (plainV x + c * 4611686018427387904)) ∧ Kept [] w w' := by
  have hm : Hid _ := with_mark x c h0 h1 c0 c1
  go_enter Tryz.func47, Tryz.ntmps47
  go_wp2_with fail
  refine (split_any x _ hT h0 h1).mono ?_
  rintro e w1 ⟨rfl, G1⟩
  go_wp2_with fail
  refine (join_any _ _ c _ _ ((hT.grown G1).grown ((Kept.refl [] w1).alloc _))).mono ?_
  rintro e w2 ⟨rfl, G2⟩
  go_wp2
  go_ret
  exact ⟨ret_u64 hm.out, (G1.trans ((Kept.refl [] w1).alloc _)).trans G2⟩
set_option maxRecDepth 100000 in
theorem plain_any (x : Int) (w : World) (hT : Tab w) (h0 : 0 ≤ x) (h1 : x < 18446744073709551616) :
    Calls Tryz.prog 22 #[.int .u64 x] w fun e w' => e = .returned (.int .u64 (plainV x)) ∧ Kept [] w w' := by
  go_enter Tryz.func22, Tryz.ntmps22
  go_wp2_with fail
  refine (withMark_any x 0 _ hT h0 h1 (by omega) (by omega)).mono ?_
  rintro e w1 ⟨rfl, G1⟩
  go_wp2
  go_ret
  exact ⟨ret_u64 (by omega), G1⟩
/-! the document's own answers -/
set_option maxRecDepth 100000 in
theorem rvalid_any (x : Int) (w : World) (h0 : 0 ≤ x) (h1 : x < 18446744073709551616) :
    Calls Tryz.prog 90 #[.int .u64 x] w fun e w' => e = .returned (.bool (vlB x)) ∧ Kept [] w w' := by
  have hv : Hid (decide (9223372036854775808 ≤ x) = vlB x) := by
    unfold Hid vlB; rw [Bool.eq_iff_iff]; simp; omega
  go_enter Tryz.func90, Tryz.ntmps90
  go_wp2
  go_ret
  exact ⟨ret_bool hv.out, Kept.refl _ _⟩
set_option maxRecDepth 100000 in
theorem rmarked_any (x : Int) (w : World) (h0 : 0 ≤ x) (h1 : x < 18446744073709551616) :
    Calls Tryz.prog 67 #[.int .u64 x] w fun e w' => e = .returned (.bool (mkB x)) ∧ Kept [] w w' := by
  have hv : Hid ((x / 4611686018427387904 % 2 == 1) = mkB x) := by
    unfold Hid mkB; rw [Bool.eq_iff_iff]; simp; omega
  go_enter Tryz.func67, Tryz.ntmps67
  go_wp2
  go_ret
  exact ⟨ret_bool hv.out, Kept.refl _ _⟩
set_option maxRecDepth 100000 in
theorem rindex_any (x : Int) (w : World) (h0 : 0 ≤ x) (h1 : x < 18446744073709551616) :
    Calls Tryz.prog 89 #[.int .u64 x] w fun e w' => e = .returned (.int .i64 (ixV x)) ∧ Kept [] w w' := by
  go_enter Tryz.func89, Tryz.ntmps89
  go_wp2
  go_ret
  exact ⟨rfl, Kept.refl _ _⟩
end Go.Proofs.YtgafmklfpiipcaaGreatDoor

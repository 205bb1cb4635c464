/-
  The contracts of handle.Valid, Marked, Index, Gen, Mark and Plain at any word, and of the document's own Valid, Marked, Index and Gen.
-/
import Derived.Test.YtlkmgocaiebahaaDoorPack
namespace Go.Proofs.YtlkmgocaiebahaaDoor
open Go.RowKit (Grown Hid)
/-- The world is one in which the table stands, grown out of w0. -/
def St (w0 w : World) : Prop := Tab w ∧ Grown w0 w
theorem St.step {w0 w w' : World} (h : St w0 w) (g : Grown w w') : St w0 w' := ⟨h.1.grown g, grown_trans h.2 g⟩
def mkB (x : Int) : Bool := x / 4294967296 / 1073741824 % 2 == 1
def vlB (x : Int) : Bool := x / 4294967296 / 1073741824 / 2 % 2 == 1
def ixV (x : Int) : Int := x % 4294967296
def gnV (x : Int) : Int := x / 4294967296 % 1073741824
def markV (x : Int) : Int := x - x / 4294967296 / 1073741824 % 2 * 4611686018427387904 + 4611686018427387904
def plainV (x : Int) : Int := x - x / 4294967296 / 1073741824 % 2 * 4611686018427387904
theorem ret_i64 {a b : Int} (h : a = b) : Ending.returned (.int .i64 a) = .returned (.int .i64 b) := by rw [h]

set_option maxRecDepth 100000 in
theorem valid_any (x : Int) (w0 w : World) (hS : St w0 w) (h0 : 0 ≤ x) (h1 : x < 18446744073709551616) :
    Calls Tryd.prog 12 #[.int .u64 x] w fun e w' => e = .returned (.bool (vlB x)) ∧ St w0 w' := by
  have hi : ∀ a b c d w, (Instr.index 35 (.agg #[a, b, c, d]) (.int .i64 3)).run Tryd.prog w = .ok d w := fun _ _ _ _ _ => by kernel_rfl
  go_enter Tryd.func12, Tryd.ntmps12
  go_wp2_with fail
  refine (split_any x _ hS.1 h0 h1).mono ?_
  rintro e w1 ⟨rfl, G1⟩
  go_wp2
  go_ret
  exact ⟨rfl, hS.step G1⟩
set_option maxRecDepth 100000 in
theorem marked_any (x : Int) (w0 w : World) (hS : St w0 w) (h0 : 0 ≤ x) (h1 : x < 18446744073709551616) :
    Calls Tryd.prog 15 #[.int .u64 x] w fun e w' => e = .returned (.bool (mkB x)) ∧ St w0 w' := by
  have hi : ∀ a b c d w, (Instr.index 35 (.agg #[a, b, c, d]) (.int .i64 2)).run Tryd.prog w = .ok c w := fun _ _ _ _ _ => by kernel_rfl
  go_enter Tryd.func15, Tryd.ntmps15
  go_wp2_with fail
  refine (split_any x _ hS.1 h0 h1).mono ?_
  rintro e w1 ⟨rfl, G1⟩
  go_wp2
  go_ret
  exact ⟨rfl, hS.step G1⟩
set_option maxRecDepth 100000 in
theorem index_any (x : Int) (w0 w : World) (hS : St w0 w) (h0 : 0 ≤ x) (h1 : x < 18446744073709551616) :
    Calls Tryd.prog 13 #[.int .u64 x] w fun e w' => e = .returned (.int .i64 (ixV x)) ∧ St w0 w' := by
  have hi : ∀ a b c d w, (Instr.index 35 (.agg #[a, b, c, d]) (.int .i64 0)).run Tryd.prog w = .ok a w := fun _ _ _ _ _ => by kernel_rfl
  go_enter Tryd.func13, Tryd.ntmps13
  go_wp2_with fail
  refine (split_any x _ hS.1 h0 h1).mono ?_
  rintro e w1 ⟨rfl, G1⟩
  go_wp2
  go_ret
  exact ⟨rfl, hS.step G1⟩
set_option maxRecDepth 100000 in
theorem gen_any (x : Int) (w0 w : World) (hS : St w0 w) (h0 : 0 ≤ x) (h1 : x < 18446744073709551616) :
    Calls Tryd.prog 14 #[.int .u64 x] w fun e w' => e = .returned (.int .i64 (gnV x)) ∧ St w0 w' := by
  have hi : ∀ a b c d w, (Instr.index 35 (.agg #[a, b, c, d]) (.int .i64 1)).run Tryd.prog w = .ok b w := fun _ _ _ _ _ => by kernel_rfl
  go_enter Tryd.func14, Tryd.ntmps14
  go_wp2_with fail
  refine (split_any x _ hS.1 h0 h1).mono ?_
  rintro e w1 ⟨rfl, G1⟩
  go_wp2
  go_ret
  exact ⟨rfl, hS.step G1⟩
theorem with_mark (x c : Int) (h0 : 0 ≤ x) (h1 : x < 18446744073709551616) (c0 : 0 ≤ c) (c1 : c < 2) :
    joinV (x % 4294967296) (x / 4294967296 % 1073741824) c (x / 4294967296 / 1073741824 / 2 % 2) = plainV x + c * 4611686018427387904 := by
  rw [joinV_eq _ _ _ _ (by omega) (by omega) (by omega) (by omega) c0 c1 (by omega) (by omega)]
  unfold plainV; omega
set_option maxRecDepth 100000 in
theorem withMark_any (x c : Int) (w0 w : World) (hS : St w0 w) (h0 : 0 ≤ x) (h1 : x < 18446744073709551616) (c0 : 0 ≤ c) (c1 : c < 2) :
    Calls Tryd.prog 26 #[.int .u64 x, .int .u64 c] w fun e w' => e = .returned (.int .u64 (plainV x + c * 4611686018427387904)) ∧ St w0 w' := by
  have hm : Hid _ := with_mark x c h0 h1 c0 c1
  go_enter Tryd.func26, Tryd.ntmps26
  go_wp2_with fail
  refine (split_any x _ hS.1 h0 h1).mono ?_
  rintro e w1 ⟨rfl, G1⟩
  go_wp2_with fail
  refine (join_any _ _ c _ _ ((hS.step G1).step ((Grown.refl w1).alloc _ _)).1).mono ?_
  rintro e w2 ⟨rfl, G2⟩
  go_wp2
  go_ret
  exact ⟨ret_u64 hm.out, ((hS.step G1).step ((Grown.refl w1).alloc _ _)).step G2⟩
set_option maxRecDepth 100000 in
theorem mark_any (x : Int) (w0 w : World) (hS : St w0 w) (h0 : 0 ≤ x) (h1 : x < 18446744073709551616) :
    Calls Tryd.prog 20 #[.int .u64 x] w fun e w' => e = .returned (.int .u64 (markV x)) ∧ St w0 w' := by
  go_enter Tryd.func20, Tryd.ntmps20
  go_wp2_with fail
  refine (withMark_any x 1 w0 _ hS h0 h1 (by omega) (by omega)).mono ?_
  rintro e w1 ⟨rfl, G1⟩
  go_wp2
  go_ret
  exact ⟨ret_u64 (by unfold plainV markV; omega), G1⟩
set_option maxRecDepth 100000 in
theorem plain_any (x : Int) (w0 w : World) (hS : St w0 w) (h0 : 0 ≤ x) (h1 : x < 18446744073709551616) :
    Calls Tryd.prog 22 #[.int .u64 x] w fun e w' => e = .returned (.int .u64 (plainV x)) ∧ St w0 w' := by
  go_enter Tryd.func22, Tryd.ntmps22
  go_wp2_with fail
  refine (withMark_any x 0 w0 _ hS h0 h1 (by omega) (by omega)).mono ?_
  rintro e w1 ⟨rfl, G1⟩
  go_wp2
  go_ret
  exact ⟨ret_u64 (by omega), G1⟩
/-! the document's own answers -/
theorem ret_bool {a b : Bool} (h : a = b) : Ending.returned (.bool a) = .returned (.bool b) := by rw [h]
set_option maxRecDepth 100000 in
theorem rvalid_any (x : Int) (w0 w : World) (hS : St w0 w) (h0 : 0 ≤ x) (h1 : x < 18446744073709551616) :
    Calls Tryd.prog 16 #[.int .u64 x] w fun e w' => e = .returned (.bool (vlB x)) ∧ St w0 w' := by
  have hv : Hid (decide (9223372036854775808 ≤ x) = vlB x) := by
    unfold Hid vlB; rw [Bool.eq_iff_iff]; simp; omega
  go_enter Tryd.func16, Tryd.ntmps16
  go_wp2
  go_ret
  exact ⟨ret_bool hv.out, hS⟩
set_option maxRecDepth 100000 in
theorem rmarked_any (x : Int) (w0 w : World) (hS : St w0 w) (h0 : 0 ≤ x) (h1 : x < 18446744073709551616) :
    Calls Tryd.prog 17 #[.int .u64 x] w fun e w' => e = .returned (.bool (mkB x)) ∧ St w0 w' := by
  have hv : Hid ((x / 4611686018427387904 % 2 == 1) = mkB x) := by
    unfold Hid mkB; rw [Bool.eq_iff_iff]; simp; omega
  go_enter Tryd.func17, Tryd.ntmps17
  go_wp2
  go_ret
  exact ⟨ret_bool hv.out, hS⟩
set_option maxRecDepth 100000 in
theorem rindex_any (x : Int) (w0 w : World) (hS : St w0 w) (h0 : 0 ≤ x) (h1 : x < 18446744073709551616) :
    Calls Tryd.prog 18 #[.int .u64 x] w fun e w' => e = .returned (.int .i64 (ixV x)) ∧ St w0 w' := by
  go_enter Tryd.func18, Tryd.ntmps18
  go_wp2
  go_ret
  exact ⟨rfl, hS⟩
set_option maxRecDepth 100000 in
theorem rgen_any (x : Int) (w0 w : World) (hS : St w0 w) (h0 : 0 ≤ x) (h1 : x < 18446744073709551616) :
    Calls Tryd.prog 19 #[.int .u64 x] w fun e w' => e = .returned (.int .i64 (gnV x)) ∧ St w0 w' := by
  go_enter Tryd.func19, Tryd.ntmps19
  go_wp2
  go_ret
  exact ⟨rfl, hS⟩
end Go.Proofs.YtlkmgocaiebahaaDoor

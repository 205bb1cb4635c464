/-
  The contracts of handle.Pack and of the document's own Pack, Mark and Plain, in any world.
-/
import Derived.Test.YtpobanjpgdghlaaDoorHWords
namespace Go.Proofs.YtpobanjpgdghlaaDoor
open Go.RowKit (Grown Hid)
theorem markV_of (x : Int) : (mkB x = true → markV x = x) ∧ (mkB x = false → markV x = x + 4611686018427387904) := by
  unfold mkB markV; simp only [beq_iff_eq, beq_eq_false_iff_ne]; omega
theorem plainV_of (x : Int) : (mkB x = true → plainV x = x - 4611686018427387904) ∧ (mkB x = false → plainV x = x) := by
  unfold mkB plainV; simp only [beq_iff_eq, beq_eq_false_iff_ne]; omega
theorem mkB_lo (x : Int) (h : mkB x = true) : 4611686018427387904 ≤ x % 9223372036854775808 := by
  unfold mkB at h; simp only [beq_iff_eq] at h; omega
theorem mkB_hi (x : Int) (_h1 : x < 18446744073709551616) (h : mkB x = false) : x + 4611686018427387904 < 18446744073709551616 := by
  unfold mkB at h; simp only [beq_eq_false_iff_ne] at h; omega
/-- Do the parts fit? -/
def fitB (i g : Int) : Bool := decide (0 ≤ i) && decide (i < 4294967296) && decide (0 ≤ g) && decide (g < 1073741824)
theorem fitB_true {i g : Int} (h : fitB i g = true) : 0 ≤ i ∧ i < 4294967296 ∧ 0 ≤ g ∧ g < 1073741824 := by
  unfold fitB at h; simp at h; omega
theorem fitB_false {i g : Int} (h : fitB i g = false) : i < 0 ∨ 4294967296 ≤ i ∨ g < 0 ∨ 1073741824 ≤ g := by
  unfold fitB at h; simp at h; omega
theorem pack_yes (i g : Int) (m : Bool) (w : World) (hT : Tab w) (h : fitB i g = true) :
    Calls Tryd.prog 77 #[.int .i64 i, .int .i64 g, .bool m] w fun e w' => e = .returned (.tuple #[.int .u64 (packV i g m), .bool true]) ∧ Kept [] w w' := by
  obtain ⟨i0, i1, g0, g1⟩ := fitB_true h
  cases m
  · exact (pack_in_false i g w hT i0 i1 g0 g1)
  · exact (pack_in_true i g w hT i0 i1 g0 g1)
theorem pack_no (i g : Int) (m : Bool) (w : World) (hT : Tab w) (h : fitB i g = false) (wi : -9223372036854775808 ≤ i ∧ i ≤ 9223372036854775807) (wg : -9223372036854775808 ≤ g ∧ g ≤ 9223372036854775807) :
    Calls Tryd.prog 77 #[.int .i64 i, .int .i64 g, .bool m] w fun e w' => e = .returned (.tuple #[.int .u64 0, .bool false]) ∧ Kept [] w w' := by
  cases m
  · exact (pack_out_false i g w hT (fitB_false h) wi wg)
  · exact (pack_out_true i g w hT (fitB_false h) wi wg)
theorem ret_word {a b : Int} {t : Bool} (h : a = b) : Ending.returned (.tuple #[.int .u64 a, .bool t]) = .returned (.tuple #[.int .u64 b, .bool t]) := by rw [h]
end Go.Proofs.YtpobanjpgdghlaaDoor

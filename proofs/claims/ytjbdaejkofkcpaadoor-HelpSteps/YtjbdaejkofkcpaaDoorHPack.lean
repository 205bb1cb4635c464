/-
  The contracts of handle.Pack, for parts that fit and for parts that do not, in any world whose table reads as the text lays it.
-/
import Derived.Test.YtjbdaejkofkcpaaDoorHParts
namespace Go.Proofs.YtjbdaejkofkcpaaDoor
open Go.RowKit (Grown Hid)
theorem Tab.pos {w : World} (h : Tab w) : 0 < w.heap.size := by
  rcases Nat.eq_zero_or_pos w.heap.size with h0 | hh
  · have := h.1; simp [World.cell?, h0] at this
  · exact hh
theorem Tab.grown {w w' : World} (h : Tab w) (g : Kept [] w w') : Tab w' := by
  have hp := h.pos
  exact ⟨(kept_cell g hp).trans h.1, (kept_cell g hp).trans h.2.1, (kept_cell g hp).trans h.2.2.1, (kept_cell g hp).trans h.2.2.2⟩
structure PW (B : Nat) (w1 : World) (a b c d : Int) : Prop where
  p0 : w1.cell? ⟨B, 0, none⟩ = some (.int .u64 a)
  p1 : w1.cell? ⟨B, 1, none⟩ = some (.int .u64 b)
  p2 : w1.cell? ⟨B, 2, none⟩ = some (.int .u64 c)
  p3 : w1.cell? ⟨B, 3, none⟩ = some (.int .u64 d)
  lt : B < w1.heap.size
theorem PW.grown {B : Nat} {w w' : World} {a b c d : Int} (h : PW B w a b c d) (g : Kept [] w w') : PW B w' a b c d :=
  ⟨(kept_cell g h.lt).trans h.p0, (kept_cell g h.lt).trans h.p1, (kept_cell g h.lt).trans h.p2, (kept_cell g h.lt).trans h.p3, Nat.lt_of_lt_of_le h.lt g.size⟩
theorem PW.new (w : World) (a b c d : Int) : PW w.heap.size (w.alloc (.cells #[.int .u64 a, .int .u64 b, .int .u64 c, .int .u64 d] 100)) a b c d :=
  ⟨by go_simp, by go_simp, by go_simp, by go_simp, by simp⟩
def packV (i g : Int) (m : Bool) : Int := i + g * 4294967296 + (if m then 4611686018427387904 else 0) + 9223372036854775808
theorem split_join (i g c J : Int) (i0 : 0 ≤ i) (i1 : i < 4294967296) (g0 : 0 ≤ g) (g1 : g < 1073741824) (c0 : 0 ≤ c) (c1 : c < 2) (hJ : joinV i g c 1 = J) :
    (J % 4294967296 == i) = true ∧ (J / 4294967296 % 1073741824 == g) = true ∧ (J / 4294967296 / 1073741824 % 2 == c) = true ∧ (J / 4294967296 / 1073741824 / 2 % 2 == 1) = true ∧ J = i + g * 4294967296 + c * 4611686018427387904 + 9223372036854775808 := by
  have h := joinV_eq i g c 1 i0 i1 g0 g1 c0 c1 (by omega) (by omega)
  rw [hJ] at h
  simp only [beq_iff_eq]
  omega
end Go.Proofs.YtjbdaejkofkcpaaDoor

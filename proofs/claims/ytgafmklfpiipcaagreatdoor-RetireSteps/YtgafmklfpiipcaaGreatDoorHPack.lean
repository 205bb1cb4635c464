/-
  The contracts of handle.Pack, for parts that fit and for parts that do not, in any world whose table reads as the text lays it.
-/
import Derived.Test.YtgafmklfpiipcaaGreatDoorHParts
namespace Go.Proofs.YtgafmklfpiipcaaGreatDoor
open Go.RowKit (Grown Hid)
theorem Tab.pos {w : World} (h : Tab w) : 0 < w.heap.size := by
  rcases Nat.eq_zero_or_pos w.heap.size with h0 | hh
  · have := h.1; simp [World.cell?, h0] at this
  · exact hh
theorem Tab.grown {w w' : World} (h : Tab w) (g : Kept [] w w') : Tab w' := by
  have hp := h.pos
  exact ⟨(kept_cell g hp).trans h.1, (kept_cell g hp).trans h.2.1, (kept_cell g hp).trans h.2.2.1, (kept_cell g hp).trans h.2.2.2⟩
structure PW (B : Nat) (w1 : World) (a b c d : Int) : Prop where
  p0 : w1.cell? ⟨B, 0, none⟩ = some (.int .u64 a)
  p1 : w1.cell? ⟨B, 1, none⟩ = some (.int .u64 b)
  p2 : w1.cell? ⟨B, 2, none⟩ = some (.int .u64 c)
  p3 : w1.cell? ⟨B, 3, none⟩ = some (.int .u64 d)
  lt : B < w1.heap.size
theorem PW.grown {B : Nat} {w w' : World} {a b c d : Int} (h : PW B w a b c d) (g : Kept [] w w') : PW B w' a b c d :=
  ⟨(kept_cell g h.lt).trans h.p0, (kept_cell g h.lt).trans h.p1, (kept_cell g h.lt).trans h.p2, (kept_cell g h.lt).trans h.p3, Nat.lt_of_lt_of_le h.lt g.size⟩
theorem PW.new (w : World) (a b c d : Int) : PW w.heap.size (w.alloc (.cells #[.int .u64 a, .int .u64 b, .int .u64 c, .int .u64 d] 147)) a b c d :=
  ⟨by go_simp, by go_simp, by go_simp, by go_simp, by simp⟩
def packV (i g : Int) (m : Bool) : Int := i + g * 4294967296 + (if m then 4611686018427387904 else 0) + 9223372036854775808
theorem split_join (i g c J : Int) (i0 : 0 ≤ i) (i1 : i < 4294967296) (g0 : 0 ≤ g) (g1 : g < 1073741824) (c0 : 0 ≤ c) (c1 : c < 2) (hJ : joinV i g c 1 = J) :
    (J % 4294967296 == i) = true ∧ (J / 4294967296 % 1073741824 == g) = true ∧ (J / 4294967296 / 1073741824 % 2 == c) = true ∧ (J / 4294967296 / 1073741824 / 2 % 2 == 1) = true ∧ J = i + g * 4294967296 + c * 4611686018427387904 + 9223372036854775808 := by
  have h := joinV_eq i g c 1 i0 i1 g0 g1 c0 c1 (by omega) (by omega)
  rw [hJ] at h
  simp only [beq_iff_eq]
  omega
set_option maxRecDepth 100000 in
set_option maxHeartbeats 400000 in
theorem pack_in_true (i g : Int) (w : World) (hT : Tab w) (i0 : 0 ≤ i) (i1 : i < 4294967296) (g0 : 0 ≤ g) (g1 : g < 1073741824) :
    Calls Tryz.prog 58 #[.int .i64 i, .int .i64 g, .bool true] w fun e w' => e = .returned (.tuple #[.int .u64 (packV i g true), .bool true]) ∧ Kept [] w w' := by
  have heq := eq_parts
  have GA := (Kept.refl [] w).alloc (.cells #[.int .u64 i, .int .u64 g, .int .u64 1, .int .u64 1] 147)
  have TA := hT.grown GA
  have PA := PW.new w i g 1 1
  go_enter Tryz.func58, Tryz.ntmps58
  go_wp2_with fail
  refine (join_any i g 1 1 _ TA).mono ?_
  rintro e w1 ⟨rfl, G1⟩
  have T1 := TA.grown G1
  have P1 := PA.grown G1
  have GG := GA.trans G1
  clear TA PA GA G1
  obtain ⟨b0, b1⟩ := joinV_bd i g 1 1
  generalize hJ : joinV i g 1 1 = J at b0 b1 ⊢
  obtain ⟨e0, e1, e2, e3, eJ⟩ := split_join i g 1 J i0 i1 g0 g1 (by omega) (by omega) hJ
  have EJ : Hid (packV i g true = J) := by unfold Hid packV; simp; omega
  clear hJ eJ
  go_wp2_with fail
  obtain ⟨p0, p1, p2, p3, plt⟩ := P1
  have P1 : Hid (PW w.heap.size w1 i g 1 1) := ⟨p0, p1, p2, p3, plt⟩
  go_region_with (go_at_call 77; refine (split_any J _ (by exact T1) b0 (by omega)).mono ?_; rintro e w2 ⟨rfl, hg2'⟩; have hg2 : Kept [] w1 w2 := Kept.undrew (by exact hg2'); clear hg2'; obtain ⟨q0, q1, q2, q3, _⟩ := P1.out.grown (by exact hg2))
  all_goals go_wp2
  all_goals go_ret2
  all_goals (rw [EJ.out]; exact ⟨rfl, GG.trans ‹_›⟩)
set_option maxRecDepth 100000 in
set_option maxHeartbeats 400000 in
theorem pack_out_true (i g : Int) (w : World) (hT : Tab w) (hi : i < 0 ∨ 4294967296 ≤ i ∨ g < 0 ∨ 1073741824 ≤ g) (wi : -9223372036854775808 ≤ i ∧ i ≤ 9223372036854775807) (wg : -9223372036854775808 ≤ g ∧ g ≤ 9223372036854775807) :
    Calls Tryz.prog 58 #[.int .i64 i, .int .i64 g, .bool true] w fun e w' => e = .returned (.tuple #[.int .u64 0, .bool false]) ∧ Kept [] w w' := by
  have heq := eq_parts
  have hI : Hid ((4294967296 ≤ IntKind.u64.wrap i) ∨ 1073741824 ≤ IntKind.u64.wrap g) := by
    show _ ∨ _
    rw [IntKind.wrap_u64, IntKind.wrap_u64]; omega
  clear hi wi wg
  go_enter Tryz.func58, Tryz.ntmps58
  go_wp2_with fail
  generalize IntKind.u64.wrap i = I at *
  generalize IntKind.u64.wrap g = G at *
  have GA := (Kept.refl [] w).alloc (.cells #[.int .u64 I, .int .u64 G, .int .u64 1, .int .u64 1] 147)
  have TA := hT.grown GA
  have PA := PW.new w I G 1 1
  refine (join_any I G 1 1 _ TA).mono ?_
  rintro e w1 ⟨rfl, G1⟩
  have T1 := TA.grown G1
  have P1 := PA.grown G1
  have GG := GA.trans G1
  clear TA PA GA G1
  obtain ⟨b0, b1⟩ := joinV_bd I G 1 1
  generalize joinV I G 1 1 = J at b0 b1 ⊢
  go_wp2_with fail
  obtain ⟨p0, p1, p2, p3, plt⟩ := P1
  have P1 : Hid (PW w.heap.size w1 I G 1 1) := ⟨p0, p1, p2, p3, plt⟩
  rcases hI.out with h | h
  · have e0 : (J % 4294967296 == I) = false := by rw [beq_eq_false_iff_ne]; omega
    go_region_with (go_at_call 77; refine (split_any J _ (by exact T1) b0 (by omega)).mono ?_; rintro e w2 ⟨rfl, hg2'⟩; have hg2 : Kept [] w1 w2 := Kept.undrew (by exact hg2'); clear hg2'; obtain ⟨q0, q1, q2, q3, _⟩ := P1.out.grown (by exact hg2))
    all_goals go_wp2
    all_goals go_ret2
    all_goals exact ⟨rfl, GG.trans ‹_›⟩
  · have e1 : (J / 4294967296 % 1073741824 == G) = false := by rw [beq_eq_false_iff_ne]; omega
    go_region_with (go_at_call 77; refine (split_any J _ (by exact T1) b0 (by omega)).mono ?_; rintro e w2 ⟨rfl, hg2'⟩; have hg2 : Kept [] w1 w2 := Kept.undrew (by exact hg2'); clear hg2'; obtain ⟨q0, q1, q2, q3, _⟩ := P1.out.grown (by exact hg2))
    all_goals go_wp2
    all_goals go_ret2
    all_goals exact ⟨rfl, GG.trans ‹_›⟩
set_option maxRecDepth 100000 in
set_option maxHeartbeats 400000 in
theorem pack_in_false (i g : Int) (w : World) (hT : Tab w) (i0 : 0 ≤ i) (i1 : i < 4294967296) (g0 : 0 ≤ g) (g1 : g < 1073741824) :
    Calls Tryz.prog 58 #[.int .i64 i, .int .i64 g, .bool false] w fun e w' => e = .returned (.tuple #[.int .u64 (packV i g false), .bool true]) ∧ Kept [] w w' := by
  have heq := eq_parts
  have GA := (Kept.refl [] w).alloc (.cells #[.int .u64 i, .int .u64 g, .int .u64 0, .int .u64 1] 147)
  have TA := hT.grown GA
  have PA := PW.new w i g 0 1
  go_enter Tryz.func58, Tryz.ntmps58
  go_wp2_with fail
  refine (join_any i g 0 1 _ TA).mono ?_
  rintro e w1 ⟨rfl, G1⟩
  have T1 := TA.grown G1
  have P1 := PA.grown G1
  have GG := GA.trans G1
  clear TA PA GA G1
  obtain ⟨b0, b1⟩ := joinV_bd i g 0 1
  generalize hJ : joinV i g 0 1 = J at b0 b1 ⊢
  obtain ⟨e0, e1, e2, e3, eJ⟩ := split_join i g 0 J i0 i1 g0 g1 (by omega) (by omega) hJ
  have EJ : Hid (packV i g false = J) := by unfold Hid packV; simp; omega
  clear hJ eJ
  go_wp2_with fail
  obtain ⟨p0, p1, p2, p3, plt⟩ := P1
  have P1 : Hid (PW w.heap.size w1 i g 0 1) := ⟨p0, p1, p2, p3, plt⟩
  go_region_with (go_at_call 77; refine (split_any J _ (by exact T1) b0 (by omega)).mono ?_; rintro e w2 ⟨rfl, hg2'⟩; have hg2 : Kept [] w1 w2 := Kept.undrew (by exact hg2'); clear hg2'; obtain ⟨q0, q1, q2, q3, _⟩ := P1.out.grown (by exact hg2))
  all_goals go_wp2
  all_goals go_ret2
  all_goals (rw [EJ.out]; exact ⟨rfl, GG.trans ‹_›⟩)
set_option maxRecDepth 100000 in
set_option maxHeartbeats 400000 in
theorem pack_out_false (i g : Int) (w : World) (hT : Tab w) (hi : i < 0 ∨ 4294967296 ≤ i ∨ g < 0 ∨ 1073741824 ≤ g) (wi : -9223372036854775808 ≤ i ∧ i ≤ 9223372036854775807) (wg : -9223372036854775808 ≤ g ∧ g ≤ 9223372036854775807) :
    Calls Tryz.prog 58 #[.int .i64 i, .int .i64 g, .bool false] w fun e w' => e = .returned (.tuple #[.int .u64 0, .bool false]) ∧ Kept [] w w' := by
  have heq := eq_parts
  have hI : Hid ((4294967296 ≤ IntKind.u64.wrap i) ∨ 1073741824 ≤ IntKind.u64.wrap g) := by
    show _ ∨ _
    rw [IntKind.wrap_u64, IntKind.wrap_u64]; omega
  clear hi wi wg
  go_enter Tryz.func58, Tryz.ntmps58
  go_wp2_with fail
  generalize IntKind.u64.wrap i = I at *
  generalize IntKind.u64.wrap g = G at *
  have GA := (Kept.refl [] w).alloc (.cells #[.int .u64 I, .int .u64 G, .int .u64 0, .int .u64 1] 147)
  have TA := hT.grown GA
  have PA := PW.new w I G 0 1
  refine (join_any I G 0 1 _ TA).mono ?_
  rintro e w1 ⟨rfl, G1⟩
  have T1 := TA.grown G1
  have P1 := PA.grown G1
  have GG := GA.trans G1
  clear TA PA GA G1
  obtain ⟨b0, b1⟩ := joinV_bd I G 0 1
  generalize joinV I G 0 1 = J at b0 b1 ⊢
  go_wp2_with fail
  obtain ⟨p0, p1, p2, p3, plt⟩ := P1
  have P1 : Hid (PW w.heap.size w1 I G 0 1) := ⟨p0, p1, p2, p3, plt⟩
  rcases hI.out with h | h
  · have e0 : (J % 4294967296 == I) = false := by rw [beq_eq_false_iff_ne]; omega
    go_region_with (go_at_call 77; refine (split_any J _ (by exact T1) b0 (by omega)).mono ?_; rintro e w2 ⟨rfl, hg2'⟩; have hg2 : Kept [] w1 w2 := Kept.undrew (by exact hg2'); clear hg2'; obtain ⟨q0, q1, q2, q3, _⟩ := P1.out.grown (by exact hg2))
    all_goals go_wp2
    all_goals go_ret2
    all_goals exact ⟨rfl, GG.trans ‹_›⟩
  · have e1 : (J / 4294967296 % 1073741824 == G) = false := by rw [beq_eq_false_iff_ne]; omega
    go_region_with (go_at_call 77; refine (split_any J _ (by exact T1) b0 (by omega)).mono ?_; rintro e w2 ⟨rfl, hg2'⟩; have hg2 : Kept [] w1 w2 := Kept.undrew (by exact hg2'); clear hg2'; obtain ⟨q0, q1, q2, q3, _⟩ := P1.out.grown (by exact hg2))
    all_goals go_wp2
    all_goals go_ret2
    all_goals exact ⟨rfl, GG.trans ‹_›⟩
end Go.Proofs.YtgafmklfpiipcaaGreatDoor

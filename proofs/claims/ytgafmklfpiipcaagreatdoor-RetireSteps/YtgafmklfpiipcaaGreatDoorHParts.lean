/-
  The contracts of the inner functions of package handle: bits.Len64 at the three greatest numbers, the closure that takes a part, split, and join, in any world whose table 'greatest' reads as the program's text lays it.
-/
import Derived.Test.YtgafmklfpiipcaaGreatDoorHMath
import Derived.WalkKit
import Derived.WalkLawsBesides
import Derived.WalkSpells
import Derived.Deep.RegionWith
import Derived.Deep.QuietTactic
import Derived.BigQuiet
import Derived.LoopN
namespace Go.Proofs.YtgafmklfpiipcaaGreatDoor
open Go.RowKit (Grown Hid)

set_option maxRecDepth 100000 in
theorem len_32 (w : World) : Calls Tryz.prog 100 #[.int .u64 4294967295] w fun e w' => e = .returned (.int .i64 32) ∧ w' = w := by
  go_enter Tryz.func100, Tryz.ntmps100
  go_wp2
  go_ret
  exact ⟨by kernel_rfl, rfl⟩
set_option maxRecDepth 100000 in
theorem len_30 (w : World) : Calls Tryz.prog 100 #[.int .u64 1073741823] w fun e w' => e = .returned (.int .i64 30) ∧ w' = w := by
  go_enter Tryz.func100, Tryz.ntmps100
  go_wp2
  go_ret
  exact ⟨by kernel_rfl, rfl⟩
set_option maxRecDepth 100000 in
theorem len_1 (w : World) : Calls Tryz.prog 100 #[.int .u64 1] w fun e w' => e = .returned (.int .i64 1) ∧ w' = w := by
  go_enter Tryz.func100, Tryz.ntmps100
  go_wp2
  go_ret
  exact ⟨by kernel_rfl, rfl⟩

theorem mask_32 (x : Int) (h0 : 0 ≤ x) (h1 : x < 18446744073709551616) : bits .and .u64 x 4294967295 = x % 4294967296 := by go_bits2
theorem mask_30 (x : Int) (h0 : 0 ≤ x) (h1 : x < 18446744073709551616) : bits .and .u64 x 1073741823 = x % 1073741824 := by go_bits2
theorem mask_1 (x : Int) (h0 : 0 ≤ x) (h1 : x < 18446744073709551616) : bits .and .u64 x 1 = x % 2 := by go_bits2

set_option maxRecDepth 100000 in
set_option maxHeartbeats 400000 in
theorem take_32 (x : Int) (b : Nat) (w : World) (hc : w.cell? ⟨b, 0, none⟩ = some (.int .u64 x)) (hf : w.frozen? ⟨b, 0, none⟩ = false) (h0 : 0 ≤ x) (h1 : x < 18446744073709551616) :
    Calls Tryz.prog 99 #[.int .u64 4294967295, .pointer (some ⟨b, 0, none⟩)] w fun e w' => e = .returned (.int .u64 (x % 4294967296)) ∧ w' = (w.setCell ⟨b, 0, none⟩ (.int .u64 (x / 4294967296))).drew := by
  have hm : Hid (bits .and .u64 x 4294967295 = x % 4294967296) := mask_32 x h0 h1
  clear h0 h1
  go_enter Tryz.func99, Tryz.ntmps99
  go_wp2_with fail
  go_region_with (go_at_call 100; refine (len_32 _).mono ?_; rintro e w' ⟨rfl, rfl⟩)
  all_goals (try go_wp2)
  all_goals go_ret
  all_goals exact ⟨ret_u64 hm.out, rfl⟩

set_option maxRecDepth 100000 in
set_option maxHeartbeats 400000 in
theorem take_30 (x : Int) (b : Nat) (w : World) (hc : w.cell? ⟨b, 0, none⟩ = some (.int .u64 x)) (hf : w.frozen? ⟨b, 0, none⟩ = false) (h0 : 0 ≤ x) (h1 : x < 18446744073709551616) :
    Calls Tryz.prog 99 #[.int .u64 1073741823, .pointer (some ⟨b, 0, none⟩)] w fun e w' => e = .returned (.int .u64 (x % 1073741824)) ∧ w' = (w.setCell ⟨b, 0, none⟩ (.int .u64 (x / 1073741824))).drew := by
  have hm : Hid (bits .and .u64 x 1073741823 = x % 1073741824) := mask_30 x h0 h1
  clear h0 h1
  go_enter Tryz.func99, Tryz.ntmps99
  go_wp2_with fail
  go_region_with (go_at_call 100; refine (len_30 _).mono ?_; rintro e w' ⟨rfl, rfl⟩)
  all_goals (try go_wp2)
  all_goals go_ret
  all_goals exact ⟨ret_u64 hm.out, rfl⟩

set_option maxRecDepth 100000 in
set_option maxHeartbeats 400000 in
theorem take_1 (x : Int) (b : Nat) (w : World) (hc : w.cell? ⟨b, 0, none⟩ = some (.int .u64 x)) (hf : w.frozen? ⟨b, 0, none⟩ = false) (h0 : 0 ≤ x) (h1 : x < 18446744073709551616) :
    Calls Tryz.prog 99 #[.int .u64 1, .pointer (some ⟨b, 0, none⟩)] w fun e w' => e = .returned (.int .u64 (x % 2)) ∧ w' = (w.setCell ⟨b, 0, none⟩ (.int .u64 (x / 2))).drew := by
  have hm : Hid (bits .and .u64 x 1 = x % 2) := mask_1 x h0 h1
  clear h0 h1
  go_enter Tryz.func99, Tryz.ntmps99
  go_wp2_with fail
  go_region_with (go_at_call 100; refine (len_1 _).mono ?_; rintro e w' ⟨rfl, rfl⟩)
  all_goals (try go_wp2)
  all_goals go_ret
  all_goals exact ⟨ret_u64 hm.out, rfl⟩

/-- What the program's text lays in 'greatest': four cells of the first block. -/
def Tab (w : World) : Prop := w.cell? ⟨0, 0, none⟩ = some (.int .u64 4294967295) ∧ w.cell? ⟨0, 1, none⟩ = some (.int .u64 1073741823) ∧ w.cell? ⟨0, 2, none⟩ = some (.int .u64 1) ∧ w.cell? ⟨0, 3, none⟩ = some (.int .u64 1)
set_option maxRecDepth 100000 in
set_option maxHeartbeats 400000 in
theorem split_any (x : Int) (w : World) (hT : Tab w) (h0 : 0 ≤ x) (h1 : x < 18446744073709551616) :
    Calls Tryz.prog 77 #[.int .u64 x] w fun e w' => e = .returned (.agg #[.int .u64 (x % 4294967296), .int .u64 (x / 4294967296 % 1073741824), .int .u64 (x / 4294967296 / 1073741824 % 2), .int .u64 (x / 4294967296 / 1073741824 / 2 % 2)]) ∧ Kept [] w w' := by
  obtain ⟨g0, g1, g2, g3⟩ := hT
  have hlt : 0 < w.heap.size := by
    rcases Nat.eq_zero_or_pos w.heap.size with h0 | h
    · simp [World.cell?, h0] at g0
    · exact h
  have i0 : ∀ w, (Instr.index 147 (.agg #[.int .u64 4294967295, .int .u64 1073741823, .int .u64 1, .int .u64 1]) (.int .i64 0)).run Tryz.prog w = .ok (.int .u64 4294967295) w := fun _ => by kernel_rfl
  have i1 : ∀ w, (Instr.index 147 (.agg #[.int .u64 4294967295, .int .u64 1073741823, .int .u64 1, .int .u64 1]) (.int .i64 1)).run Tryz.prog w = .ok (.int .u64 1073741823) w := fun _ => by kernel_rfl
  have i2 : ∀ w, (Instr.index 147 (.agg #[.int .u64 4294967295, .int .u64 1073741823, .int .u64 1, .int .u64 1]) (.int .i64 2)).run Tryz.prog w = .ok (.int .u64 1) w := fun _ => by kernel_rfl
  have i3 : ∀ w, (Instr.index 147 (.agg #[.int .u64 4294967295, .int .u64 1073741823, .int .u64 1, .int .u64 1]) (.int .i64 3)).run Tryz.prog w = .ok (.int .u64 1) w := fun _ => by kernel_rfl
  go_enter Tryz.func77, Tryz.ntmps77
  go_wp2_with fail
  refine wp_loop_rounds 5 ?_
  rw [rounds_succ]
  go_wp2_with fail
  refine (take_32 x _ _ ?_ ?_ h0 h1).mono ?_
  · go_simp
  · go_simp
  rintro e w' ⟨rfl, rfl⟩
  go_wp2_with fail
  rw [rounds_succ]
  go_wp2_with fail
  refine (take_30 (x / 4294967296) _ _ ?_ ?_ (by omega) (by omega)).mono ?_
  · go_simp
  · go_simp
  rintro e w' ⟨rfl, rfl⟩
  go_wp2_with fail
  rw [rounds_succ]
  go_wp2_with fail
  refine (take_1 (x / 4294967296 / 1073741824) _ _ ?_ ?_ (by omega) (by omega)).mono ?_
  · go_simp
  · go_simp
  rintro e w' ⟨rfl, rfl⟩
  go_wp2_with fail
  rw [rounds_succ]
  go_wp2_with fail
  refine (take_1 (x / 4294967296 / 1073741824 / 2) _ _ ?_ ?_ (by omega) (by omega)).mono ?_
  · go_simp
  · go_simp
  rintro e w' ⟨rfl, rfl⟩
  go_wp2_with fail
  rw [rounds_succ]
  go_wp2
  exact bodyPost_ret (v := .agg #[.int .u64 (x % 4294967296), .int .u64 (x / 4294967296 % 1073741824), .int .u64 (x / 4294967296 / 1073741824 % 2), .int .u64 (x / 4294967296 / 1073741824 / 2 % 2)]) (by simp [results, Tryz.results77, go_sem]) rfl ⟨rfl, (by repeat (first | exact Kept.refl _ _ | apply Kept.drew | apply Kept.alloc))⟩

structure JW (w w1 : World) (a b c d : Int) : Prop where
  g0 : w1.cell? ⟨0, 0, none⟩ = some (.int .u64 4294967295)
  g1 : w1.cell? ⟨0, 1, none⟩ = some (.int .u64 1073741823)
  g2 : w1.cell? ⟨0, 2, none⟩ = some (.int .u64 1)
  g3 : w1.cell? ⟨0, 3, none⟩ = some (.int .u64 1)
  p0 : w1.cell? ⟨w.heap.size, 0, none⟩ = some (.int .u64 a)
  p1 : w1.cell? ⟨w.heap.size, 1, none⟩ = some (.int .u64 b)
  p2 : w1.cell? ⟨w.heap.size, 2, none⟩ = some (.int .u64 c)
  p3 : w1.cell? ⟨w.heap.size, 3, none⟩ = some (.int .u64 d)
  gr : Kept [] w w1
theorem JW.drewN {w w1 : World} {a b c d : Int} (h : JW w w1 a b c d) (n : Nat) : JW w (w1.drewN n) a b c d :=
  ⟨h.g0, h.g1, h.g2, h.g3, h.p0, h.p1, h.p2, h.p3, h.gr.drewN n⟩
theorem JW.start {w : World} (hT : Tab w) (a b c d : Int) : JW w (w.alloc (.cells #[.int .u64 a, .int .u64 b, .int .u64 c, .int .u64 d] 147)) a b c d := by
  obtain ⟨g0, g1, g2, g3⟩ := hT
  have hlt : 0 < w.heap.size := by
    rcases Nat.eq_zero_or_pos w.heap.size with h0 | h
    · simp [World.cell?, h0] at g0
    · exact h
  exact ⟨by go_simp, by go_simp, by go_simp, by go_simp, by go_simp, by go_simp, by go_simp, by go_simp, (Kept.refl _ _).alloc _⟩
set_option maxRecDepth 100000 in
set_option maxHeartbeats 400000 in
theorem join_any (a b c d : Int) (w : World) (hT : Tab w) :
    Calls Tryz.prog 78 #[.agg #[.int .u64 a, .int .u64 b, .int .u64 c, .int .u64 d]] w fun e w' => e = .returned (.int .u64 (joinV a b c d)) ∧ Kept [] w w' := by
  have J := JW.start hT a b c d
  go_enter Tryz.func78, Tryz.ntmps78
  go_wp2_with fail
  generalize w.alloc (.cells #[.int .u64 a, .int .u64 b, .int .u64 c, .int .u64 d] 147) = w1 at J ⊢
  obtain ⟨g0, g1, g2, g3, p0, p1, p2, p3, gr⟩ := J
  refine wp_loop_rounds 5 ?_
  rw [rounds_succ]
  go_wp2_with fail
  go_quiet ((go_at_call 100; exact Calls.quiet_of_same (len_1 _)))
  go_wp2_with fail
  have J : JW w (w1.drewN nq) a b c d := JW.drewN ⟨g0, g1, g2, g3, p0, p1, p2, p3, gr⟩ _
  clear g0 g1 g2 g3 p0 p1 p2 p3 gr
  generalize w1.drewN nq = w2 at J ⊢
  obtain ⟨g0, g1, g2, g3, p0, p1, p2, p3, gr⟩ := J
  rw [rounds_succ]
  go_wp2_with fail
  go_quiet ((go_at_call 100; exact Calls.quiet_of_same (len_1 _)))
  go_wp2_with fail
  have J : JW w (w2.drewN nq) a b c d := JW.drewN ⟨g0, g1, g2, g3, p0, p1, p2, p3, gr⟩ _
  clear g0 g1 g2 g3 p0 p1 p2 p3 gr
  generalize w2.drewN nq = w3 at J ⊢
  obtain ⟨g0, g1, g2, g3, p0, p1, p2, p3, gr⟩ := J
  rw [rounds_succ]
  go_wp2_with fail
  go_quiet ((go_at_call 100; exact Calls.quiet_of_same (len_30 _)))
  go_wp2_with fail
  have J : JW w (w3.drewN nq) a b c d := JW.drewN ⟨g0, g1, g2, g3, p0, p1, p2, p3, gr⟩ _
  clear g0 g1 g2 g3 p0 p1 p2 p3 gr
  generalize w3.drewN nq = w4 at J ⊢
  obtain ⟨g0, g1, g2, g3, p0, p1, p2, p3, gr⟩ := J
  rw [rounds_succ]
  go_wp2_with fail
  go_quiet ((go_at_call 100; exact Calls.quiet_of_same (len_32 _)))
  go_wp2_with fail
  have J : JW w (w4.drewN nq) a b c d := JW.drewN ⟨g0, g1, g2, g3, p0, p1, p2, p3, gr⟩ _
  clear g0 g1 g2 g3 p0 p1 p2 p3 gr
  generalize w4.drewN nq = w5 at J ⊢
  obtain ⟨g0, g1, g2, g3, p0, p1, p2, p3, gr⟩ := J
  rw [rounds_succ]
  go_wp2
  go_ret
  exact ⟨rfl, gr⟩
end Go.Proofs.YtgafmklfpiipcaaGreatDoor

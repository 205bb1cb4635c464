/-
  The contracts of handle.Pack and of the document's own Pack, Mark and Plain, in any world.
-/
import Derived.Test.YtgafmklfpiipcaaGreatDoorHWords
namespace Go.Proofs.YtgafmklfpiipcaaGreatDoor
open Go.RowKit (Grown Hid)
theorem markV_of (x : Int) : (mkB x = true → markV x = x) ∧ (mkB x = false → markV x = x + 4611686018427387904) := by
  unfold mkB markV; simp only [beq_iff_eq, beq_eq_false_iff_ne]; omega
theorem plainV_of (x : Int) : (mkB x = true → plainV x = x - 4611686018427387904) ∧ (mkB x = false → plainV x = x) := by
  unfold mkB plainV; simp only [beq_iff_eq, beq_eq_false_iff_ne]; omega
theorem mkB_lo (x : Int) (h : mkB x = true) : 4611686018427387904 ≤ x % 9223372036854775808 := by
  unfold mkB at h; simp only [beq_iff_eq] at h; omega
theorem mkB_hi (x : Int) (_h1 : x < 18446744073709551616) (h : mkB x = false) : x + 4611686018427387904 < 18446744073709551616 := by
  unfold mkB at h; simp only [beq_eq_false_iff_ne] at h; omega
set_option maxRecDepth 100000 in
theorem rmark_any (x : Int) (w : World) (h0 : 0 ≤ x) (h1 : x < 18446744073709551616) :
    Calls Tryz.prog 54 #[.int .u64 x] w fun e w' => e = .returned (.int .u64 (markV x)) ∧ Kept [] w w' := by
  have hm := markV_of x
  have hr := rmarked_any x w h0 h1
  cases hb : mkB x
  · have hv : Hid _ := (hm.2 hb).symm
    have hhi := mkB_hi x h1 hb
    rw [hb] at hr
    clear hm hb
    go_enter Tryz.func54, Tryz.ntmps54
    go_wp2_with fail
    refine hr.mono ?_
    rintro e w1 ⟨rfl, G1⟩
    clear hr
    go_wp2
    go_ret
    exact ⟨ret_u64 hv.out, G1⟩
  · have hv : Hid _ := (hm.1 hb).symm
    rw [hb] at hr
    clear hm hb
    go_enter Tryz.func54, Tryz.ntmps54
    go_wp2_with fail
    refine hr.mono ?_
    rintro e w1 ⟨rfl, G1⟩
    clear hr
    go_wp2
    go_ret
    exact ⟨ret_u64 hv.out, G1⟩
set_option maxRecDepth 100000 in
theorem rplain_any (x : Int) (w : World) (h0 : 0 ≤ x) (h1 : x < 18446744073709551616) :
    Calls Tryz.prog 37 #[.int .u64 x] w fun e w' => e = .returned (.int .u64 (plainV x)) ∧ Kept [] w w' := by
  have hm := plainV_of x
  have hr := rmarked_any x w h0 h1
  cases hb : mkB x
  · have hv : Hid _ := (hm.2 hb).symm
    rw [hb] at hr
    clear hm hb
    go_enter Tryz.func37, Tryz.ntmps37
    go_wp2_with fail
    refine hr.mono ?_
    rintro e w1 ⟨rfl, G1⟩
    clear hr
    go_wp2
    go_ret
    exact ⟨ret_u64 hv.out, G1⟩
  · have hv : Hid _ := (hm.1 hb).symm
    have hlo := mkB_lo x hb
    have hlo' : 4611686018427387904 ≤ x := by omega
    rw [hb] at hr
    clear hm hb hlo
    go_enter Tryz.func37, Tryz.ntmps37
    go_wp2_with fail
    refine hr.mono ?_
    rintro e w1 ⟨rfl, G1⟩
    clear hr
    go_wp2
    go_ret
    exact ⟨ret_u64 hv.out, G1⟩
/-- Do the parts fit? -/
def fitB (i g : Int) : Bool := decide (0 ≤ i) && decide (i < 4294967296) && decide (0 ≤ g) && decide (g < 1073741824)
theorem fitB_true {i g : Int} (h : fitB i g = true) : 0 ≤ i ∧ i < 4294967296 ∧ 0 ≤ g ∧ g < 1073741824 := by
  unfold fitB at h; simp at h; omega
theorem fitB_false {i g : Int} (h : fitB i g = false) : i < 0 ∨ 4294967296 ≤ i ∨ g < 0 ∨ 1073741824 ≤ g := by
  unfold fitB at h; simp at h; omega
theorem pack_yes (i g : Int) (m : Bool) (w : World) (hT : Tab w) (h : fitB i g = true) :
    Calls Tryz.prog 58 #[.int .i64 i, .int .i64 g, .bool m] w fun e w' => e = .returned (.tuple #[.int .u64 (packV i g m), .bool true]) ∧ Kept [] w w' := by
  obtain ⟨i0, i1, g0, g1⟩ := fitB_true h
  cases m
  · exact (pack_in_false i g w hT i0 i1 g0 g1)
  · exact (pack_in_true i g w hT i0 i1 g0 g1)
theorem pack_no (i g : Int) (m : Bool) (w : World) (hT : Tab w) (h : fitB i g = false) (wi : -9223372036854775808 ≤ i ∧ i ≤ 9223372036854775807) (wg : -9223372036854775808 ≤ g ∧ g ≤ 9223372036854775807) :
    Calls Tryz.prog 58 #[.int .i64 i, .int .i64 g, .bool m] w fun e w' => e = .returned (.tuple #[.int .u64 0, .bool false]) ∧ Kept [] w w' := by
  cases m
  · exact (pack_out_false i g w hT (fitB_false h) wi wg)
  · exact (pack_out_true i g w hT (fitB_false h) wi wg)
theorem ret_word {a b : Int} {t : Bool} (h : a = b) : Ending.returned (.tuple #[.int .u64 a, .bool t]) = .returned (.tuple #[.int .u64 b, .bool t]) := by rw [h]
set_option maxRecDepth 100000 in
theorem rpack_yes (i g : Int) (m : Bool) (w : World) (h : fitB i g = true) :
    Calls Tryz.prog 55 #[.int .i64 i, .int .i64 g, .bool m] w fun e w' => e = .returned (.tuple #[.int .u64 (packV i g m), .bool true]) ∧ Kept [] w w' := by
  obtain ⟨i0, i1, g0, g1⟩ := fitB_true h
  clear h
  cases m
  · have hv : Hid (packV i g false = 9223372036854775808 + 4294967296 * g + i) := by unfold Hid packV; simp; omega
    go_enter Tryz.func55, Tryz.ntmps55
    go_wp2
    go_ret2
    exact ⟨ret_word hv.out.symm, Kept.refl _ _⟩
  · have hv : Hid (packV i g true = 9223372036854775808 + 4294967296 * g + i + 4611686018427387904) := by unfold Hid packV; simp; omega
    go_enter Tryz.func55, Tryz.ntmps55
    go_wp2
    go_ret2
    exact ⟨ret_word hv.out.symm, Kept.refl _ _⟩
set_option maxRecDepth 100000 in
theorem rpack_no (i g : Int) (m : Bool) (w : World) (h : fitB i g = false) :
    Calls Tryz.prog 55 #[.int .i64 i, .int .i64 g, .bool m] w fun e w' => e = .returned (.tuple #[.int .u64 0, .bool false]) ∧ Kept [] w w' := by
  have h' := fitB_false h
  clear h
  by_cases h1 : i < 0
  · clear h'; go_enter Tryz.func55, Tryz.ntmps55
    go_wp2
    go_ret2
    exact ⟨rfl, Kept.refl _ _⟩
  by_cases h2 : 4294967295 < i
  · clear h'; go_enter Tryz.func55, Tryz.ntmps55
    go_wp2
    go_ret2
    exact ⟨rfl, Kept.refl _ _⟩
  by_cases h3 : g < 0
  · clear h'; go_enter Tryz.func55, Tryz.ntmps55
    go_wp2
    go_ret2
    exact ⟨rfl, Kept.refl _ _⟩
  · have h4 : 1073741823 < g := by omega
    clear h'; go_enter Tryz.func55, Tryz.ntmps55
    go_wp2
    go_ret2
    exact ⟨rfl, Kept.refl _ _⟩

end Go.Proofs.YtgafmklfpiipcaaGreatDoor

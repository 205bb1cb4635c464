/-
  The contracts of handle.Pack and of the document's own Pack, Mark and Plain, and that the statements' own test of the examples answers true.
-/
import Derived.Test.YtlkmgocaiebahaaDoorWords
namespace Go.Proofs.YtlkmgocaiebahaaDoor
open Go.RowKit (Grown Hid)
theorem markV_of (x : Int) : (mkB x = true → markV x = x) ∧ (mkB x = false → markV x = x + 4611686018427387904) := by
  unfold mkB markV; simp only [beq_iff_eq, beq_eq_false_iff_ne]; omega
theorem plainV_of (x : Int) : (mkB x = true → plainV x = x - 4611686018427387904) ∧ (mkB x = false → plainV x = x) := by
  unfold mkB plainV; simp only [beq_iff_eq, beq_eq_false_iff_ne]; omega
theorem mkB_lo (x : Int) (h : mkB x = true) : 4611686018427387904 ≤ x % 9223372036854775808 := by
  unfold mkB at h; simp only [beq_iff_eq] at h; omega
theorem mkB_hi (x : Int) (_h1 : x < 18446744073709551616) (h : mkB x = false) : x + 4611686018427387904 < 18446744073709551616 := by
  unfold mkB at h; simp only [beq_eq_false_iff_ne] at h; omega
set_option maxRecDepth 100000 in
theorem rmark_any (x : Int) (w0 w : World) (hS : St w0 w) (h0 : 0 ≤ x) (h1 : x < 18446744073709551616) :
    Calls Tryd.prog 21 #[.int .u64 x] w fun e w' => e = .returned (.int .u64 (markV x)) ∧ St w0 w' := by
  have hm := markV_of x
  have hr := rmarked_any x w0 w hS h0 h1
  cases hb : mkB x
  · have hv : Hid _ := (hm.2 hb).symm
    have hhi := mkB_hi x h1 hb
    rw [hb] at hr
    clear hm hb
    go_enter Tryd.func21, Tryd.ntmps21
    go_wp2_with fail
    refine hr.mono ?_
    rintro e w1 ⟨rfl, G1⟩
    clear hr
    go_wp2
    go_ret
    exact ⟨ret_u64 hv.out, G1⟩
  · have hv : Hid _ := (hm.1 hb).symm
    rw [hb] at hr
    clear hm hb
    go_enter Tryd.func21, Tryd.ntmps21
    go_wp2_with fail
    refine hr.mono ?_
    rintro e w1 ⟨rfl, G1⟩
    clear hr
    go_wp2
    go_ret
    exact ⟨ret_u64 hv.out, G1⟩
set_option maxRecDepth 100000 in
theorem rplain_any (x : Int) (w0 w : World) (hS : St w0 w) (h0 : 0 ≤ x) (h1 : x < 18446744073709551616) :
    Calls Tryd.prog 23 #[.int .u64 x] w fun e w' => e = .returned (.int .u64 (plainV x)) ∧ St w0 w' := by
  have hm := plainV_of x
  have hr := rmarked_any x w0 w hS h0 h1
  cases hb : mkB x
  · have hv : Hid _ := (hm.2 hb).symm
    rw [hb] at hr
    clear hm hb
    go_enter Tryd.func23, Tryd.ntmps23
    go_wp2_with fail
    refine hr.mono ?_
    rintro e w1 ⟨rfl, G1⟩
    clear hr
    go_wp2
    go_ret
    exact ⟨ret_u64 hv.out, G1⟩
  · have hv : Hid _ := (hm.1 hb).symm
    have hlo := mkB_lo x hb
    have hlo' : 4611686018427387904 ≤ x := by omega
    rw [hb] at hr
    clear hm hb hlo
    go_enter Tryd.func23, Tryd.ntmps23
    go_wp2_with fail
    refine hr.mono ?_
    rintro e w1 ⟨rfl, G1⟩
    clear hr
    go_wp2
    go_ret
    exact ⟨ret_u64 hv.out, G1⟩
/-- Do the parts fit? -/
def fitB (i g : Int) : Bool := decide (0 ≤ i) && decide (i < 4294967296) && decide (0 ≤ g) && decide (g < 1073741824)
theorem fitB_true {i g : Int} (h : fitB i g = true) : 0 ≤ i ∧ i < 4294967296 ∧ 0 ≤ g ∧ g < 1073741824 := by
  unfold fitB at h; simp at h; omega
theorem fitB_false {i g : Int} (h : fitB i g = false) : i < 0 ∨ 4294967296 ≤ i ∨ g < 0 ∨ 1073741824 ≤ g := by
  unfold fitB at h; simp at h; omega
theorem pack_yes (i g : Int) (m : Bool) (w0 w : World) (hS : St w0 w) (h : fitB i g = true) :
    Calls Tryd.prog 9 #[.int .i64 i, .int .i64 g, .bool m] w fun e w' => e = .returned (.tuple #[.int .u64 (packV i g m), .bool true]) ∧ St w0 w' := by
  obtain ⟨i0, i1, g0, g1⟩ := fitB_true h
  cases m
  · exact (pack_in_false i g w hS.1 i0 i1 g0 g1).mono fun e w' ⟨he, hg⟩ => ⟨he, hS.step hg⟩
  · exact (pack_in_true i g w hS.1 i0 i1 g0 g1).mono fun e w' ⟨he, hg⟩ => ⟨he, hS.step hg⟩
theorem pack_no (i g : Int) (m : Bool) (w0 w : World) (hS : St w0 w) (h : fitB i g = false) (wi : -9223372036854775808 ≤ i ∧ i ≤ 9223372036854775807) (wg : -9223372036854775808 ≤ g ∧ g ≤ 9223372036854775807) :
    Calls Tryd.prog 9 #[.int .i64 i, .int .i64 g, .bool m] w fun e w' => e = .returned (.tuple #[.int .u64 0, .bool false]) ∧ St w0 w' := by
  cases m
  · exact (pack_out_false i g w hS.1 (fitB_false h) wi wg).mono fun e w' ⟨he, hg⟩ => ⟨he, hS.step hg⟩
  · exact (pack_out_true i g w hS.1 (fitB_false h) wi wg).mono fun e w' ⟨he, hg⟩ => ⟨he, hS.step hg⟩
theorem ret_word {a b : Int} {t : Bool} (h : a = b) : Ending.returned (.tuple #[.int .u64 a, .bool t]) = .returned (.tuple #[.int .u64 b, .bool t]) := by rw [h]
set_option maxRecDepth 100000 in
theorem rpack_yes (i g : Int) (m : Bool) (w0 w : World) (hS : St w0 w) (h : fitB i g = true) :
    Calls Tryd.prog 10 #[.int .i64 i, .int .i64 g, .bool m] w fun e w' => e = .returned (.tuple #[.int .u64 (packV i g m), .bool true]) ∧ St w0 w' := by
  obtain ⟨i0, i1, g0, g1⟩ := fitB_true h
  clear h
  cases m
  · have hv : Hid (packV i g false = 9223372036854775808 + 4294967296 * g + i) := by unfold Hid packV; simp; omega
    go_enter Tryd.func10, Tryd.ntmps10
    go_wp2
    go_ret2
    exact ⟨ret_word hv.out.symm, hS⟩
  · have hv : Hid (packV i g true = 9223372036854775808 + 4294967296 * g + i + 4611686018427387904) := by unfold Hid packV; simp; omega
    go_enter Tryd.func10, Tryd.ntmps10
    go_wp2
    go_ret2
    exact ⟨ret_word hv.out.symm, hS⟩
set_option maxRecDepth 100000 in
theorem rpack_no (i g : Int) (m : Bool) (w0 w : World) (hS : St w0 w) (h : fitB i g = false) :
    Calls Tryd.prog 10 #[.int .i64 i, .int .i64 g, .bool m] w fun e w' => e = .returned (.tuple #[.int .u64 0, .bool false]) ∧ St w0 w' := by
  have h' := fitB_false h
  clear h
  by_cases h1 : i < 0
  · clear h'; go_enter Tryd.func10, Tryd.ntmps10
    go_wp2
    go_ret2
    exact ⟨rfl, hS⟩
  by_cases h2 : 4294967295 < i
  · clear h'; go_enter Tryd.func10, Tryd.ntmps10
    go_wp2
    go_ret2
    exact ⟨rfl, hS⟩
  by_cases h3 : g < 0
  · clear h'; go_enter Tryd.func10, Tryd.ntmps10
    go_wp2
    go_ret2
    exact ⟨rfl, hS⟩
  · have h4 : 1073741823 < g := by omega
    clear h'; go_enter Tryd.func10, Tryd.ntmps10
    go_wp2
    go_ret2
    exact ⟨rfl, hS⟩

theorem packA : packV 5 1 false = 9223372041149743109 := by decide
theorem packB : packV 5 1 true = 13835058059577131013 := by decide
set_option maxRecDepth 100000 in
set_option maxHeartbeats 1000000 in
theorem alive_any (w0 w : World) (hS : St w0 w) : Calls Tryd.prog 11 #[] w fun e w' => e = .returned (.bool true) ∧ St w0 w' := by
  have v1 : vlB 9223372041149743109 = true := by decide
  have v2 : vlB 0 = false := by decide
  have m1 : mkB 9223372041149743109 = false := by decide
  have m2 : mkB 13835058059577131013 = true := by decide
  have i1 : ixV 9223372041149743109 = 5 := by decide
  have j1 : gnV 13835058059577131013 = 1 := by decide
  have k1 : markV 9223372041149743109 = 13835058059577131013 := by decide
  have k2 : plainV 13835058059577131013 = 9223372041149743109 := by decide
  have c1 := fun w hS => pack_yes 5 1 false w0 w hS (by decide)
  have c2 := fun w hS => pack_yes 5 1 true w0 w hS (by decide)
  have c3 := fun w hS => pack_no (-1) 1 false w0 w hS (by decide) (by omega) (by omega)
  rw [packA] at c1
  rw [packB] at c2
  have C1 : Hid _ := c1
  have C2 : Hid _ := c2
  have C3 : Hid _ := c3
  clear c1 c2 c3
  go_enter Tryd.func11, Tryd.ntmps11
  go_wp2_with fail
  refine (C1.out _ hS).mono ?_
  rintro e w1 ⟨rfl, S1⟩
  go_wp2_with fail
  refine (C2.out _ S1).mono ?_
  rintro e w2 ⟨rfl, S2⟩
  go_wp2_with fail
  refine (C3.out _ S2).mono ?_
  rintro e w3 ⟨rfl, S3⟩
  go_wp2_with fail
  refine (valid_any 9223372041149743109 w0 _ S3 (by omega) (by omega)).mono ?_
  rintro e w4 ⟨rfl, S4⟩
  go_wp2_with fail
  refine (valid_any 0 w0 _ S4 (by omega) (by omega)).mono ?_
  rintro e w5 ⟨rfl, S5⟩
  go_wp2_with fail
  refine (marked_any 9223372041149743109 w0 _ S5 (by omega) (by omega)).mono ?_
  rintro e w6 ⟨rfl, S6⟩
  go_wp2_with fail
  refine (marked_any 13835058059577131013 w0 _ S6 (by omega) (by omega)).mono ?_
  rintro e w7 ⟨rfl, S7⟩
  go_wp2_with fail
  refine (index_any 9223372041149743109 w0 _ S7 (by omega) (by omega)).mono ?_
  rintro e w8 ⟨rfl, S8⟩
  go_wp2_with fail
  refine (gen_any 13835058059577131013 w0 _ S8 (by omega) (by omega)).mono ?_
  rintro e w9 ⟨rfl, S9⟩
  go_wp2_with fail
  refine (mark_any 9223372041149743109 w0 _ S9 (by omega) (by omega)).mono ?_
  rintro e w10 ⟨rfl, S10⟩
  go_wp2_with fail
  refine (plain_any 13835058059577131013 w0 _ S10 (by omega) (by omega)).mono ?_
  rintro e w11 ⟨rfl, S11⟩
  go_wp2
  go_ret
  exact ⟨rfl, by assumption⟩
end Go.Proofs.YtlkmgocaiebahaaDoor

/-
  The small call that each law of plan ends with answers true, in any world whose table reads as the text lays it, and leaves what was there.
-/
import Derived.Test.YtgbgaphmoemokaaDoorPlan2
namespace Go.Proofs.YtgbgaphmoemokaaDoor
open Go.RowKit (Grown Hid Below)
open Go.Deep
abbrev smC : Cfg := ⟨2, 2, 3, 2, 1, 1, 9⟩
theorem reserved_is {c : Cfg} {a b v : Int} (h : rsV c a b = v) (w : World) : Calls Tryd.prog 14 #[.agg #[.int .i64 c.t, .int .i64 c.s, .int .i64 c.c, .int .i64 c.h, .int .i64 c.k, .int .i64 c.e, .int .i64 c.l], .int .i64 a, .int .i64 b] w fun e w' => e = .returned (.int .i64 v) ∧ Kept [] w w' := h ▸ reserved_any c a b w
theorem cell_is {c : Cfg} {a b v : Int} (h : clV' c a b = v) (w : World) : Calls Tryd.prog 15 #[.agg #[.int .i64 c.t, .int .i64 c.s, .int .i64 c.c, .int .i64 c.h, .int .i64 c.k, .int .i64 c.e, .int .i64 c.l], .int .i64 a, .int .i64 b] w fun e w' => e = .returned (.int .i64 v) ∧ Kept [] w w' := h ▸ cell_any c a b w
theorem len_is {c : Cfg} {v : Int} (h : lnV c = v) (w : World) : Calls Tryd.prog 12 #[.agg #[.int .i64 c.t, .int .i64 c.s, .int .i64 c.c, .int .i64 c.h, .int .i64 c.k, .int .i64 c.e, .int .i64 c.l]] w fun e w' => e = .returned (.int .i64 v) ∧ Kept [] w w' := h ▸ len_any c w
theorem fldk (a b d : Int) (w : World) : (Instr.field 29 (.agg #[.int .i64 a, .int .i64 b, .int .i64 d]) 0).run Tryd.prog w = .ok (.int .i64 a) w := by kernel_rfl
theorem Tab.kept {w w' : World} (h : Tab w) (k : Kept [] w w') : Tab w' := h.grown k
set_option maxRecDepth 100000 in
theorem small_any (w : World) : Calls Tryd.prog 21 #[] w fun e w' => e = .returned (.agg #[.int .i64 2, .int .i64 2, .int .i64 3, .int .i64 2, .int .i64 1, .int .i64 1, .int .i64 9]) ∧ Kept [] w w' := by
  go_enter Tryd.func21, Tryd.ntmps21
  go_wp2
  exact bodyPost_ret (v := .agg #[.int .i64 2, .int .i64 2, .int .i64 3, .int .i64 2, .int .i64 1, .int .i64 1, .int .i64 9]) (by simp [results, Tryd.results21, go_sem]) rfl ⟨rfl, (Kept.refl [] _).alloc _⟩
set_option maxRecDepth 100000 in
set_option maxHeartbeats 2000000 in
theorem alive_any (w : World) (hT : Tab w) : Calls Tryd.prog 9 #[] w fun e w' => e = .returned (.bool true) ∧ Kept [] w w' := by
  have HT : Hid _ := hT
  have heq := eq_place
  have hfd := fldk
  clear hT
  go_enter Tryd.func9, Tryd.ntmps9
  go_wp2_with fail
  refine (small_any _).mono ?_
  rintro e w0 ⟨rfl, K0⟩
  go_wp2_with fail
  have Z0 := CB.new w0 smC
  have T0 : Kept [] w _ := K0.alloc (.cells #[.int .i64 2, .int .i64 2, .int .i64 3, .int .i64 2, .int .i64 1, .int .i64 1, .int .i64 9] 23)
  generalize hB : w0.heap.size = B at Z0 ⊢
  clear hB K0
  generalize w0.alloc (.cells #[.int .i64 2, .int .i64 2, .int .i64 3, .int .i64 2, .int .i64 1, .int .i64 1, .int .i64 9] 23) = W0 at Z0 T0 ⊢
  have q0 : W0.cell? ⟨B, 0, none⟩ = some (.int .i64 2) := cell_of_blk Z0 (i := 0) rfl
  have q1 : W0.cell? ⟨B, 1, none⟩ = some (.int .i64 2) := cell_of_blk Z0 (i := 1) rfl
  have q2 : W0.cell? ⟨B, 2, none⟩ = some (.int .i64 3) := cell_of_blk Z0 (i := 2) rfl
  have q3 : W0.cell? ⟨B, 3, none⟩ = some (.int .i64 2) := cell_of_blk Z0 (i := 3) rfl
  have q4 : W0.cell? ⟨B, 4, none⟩ = some (.int .i64 1) := cell_of_blk Z0 (i := 4) rfl
  have q5 : W0.cell? ⟨B, 5, none⟩ = some (.int .i64 1) := cell_of_blk Z0 (i := 5) rfl
  have q6 : W0.cell? ⟨B, 6, none⟩ = some (.int .i64 9) := cell_of_blk Z0 (i := 6) rfl
  go_wp2_with fail
  refine (right_is (c := smC) (v := true) (by decide) _).mono ?_
  rintro e W1 ⟨rfl, K1⟩
  have Z1 := Z0.kept K1 (by simp)
  have T1 := T0.trans K1
  clear K1 Z0 T0 q0 q1 q2 q3 q4 q5 q6
  go_wp2_with fail
  refine (right_is (c := ⟨0, 0, 0, 0, 0, 0, 0⟩) (v := false) (by decide) _).mono ?_
  rintro e W2 ⟨rfl, K2⟩
  have Z2 := Z1.kept K2 (by simp)
  have T2 := T1.trans K2
  clear K2 Z1 T1
  have q0 : W2.cell? ⟨B, 0, none⟩ = some (.int .i64 2) := cell_of_blk Z2 (i := 0) rfl
  have q1 : W2.cell? ⟨B, 1, none⟩ = some (.int .i64 2) := cell_of_blk Z2 (i := 1) rfl
  have q2 : W2.cell? ⟨B, 2, none⟩ = some (.int .i64 3) := cell_of_blk Z2 (i := 2) rfl
  have q3 : W2.cell? ⟨B, 3, none⟩ = some (.int .i64 2) := cell_of_blk Z2 (i := 3) rfl
  have q4 : W2.cell? ⟨B, 4, none⟩ = some (.int .i64 1) := cell_of_blk Z2 (i := 4) rfl
  have q5 : W2.cell? ⟨B, 5, none⟩ = some (.int .i64 1) := cell_of_blk Z2 (i := 5) rfl
  have q6 : W2.cell? ⟨B, 6, none⟩ = some (.int .i64 9) := cell_of_blk Z2 (i := 6) rfl
  go_wp2_with fail
  refine (len_is (c := smC) (v := 37) (by decide) _).mono ?_
  rintro e W3 ⟨rfl, K3⟩
  have Z3 := Z2.kept K3 (by simp)
  have T3 := T2.trans K3
  clear K3 Z2 T2 q0 q1 q2 q3 q4 q5 q6
  have q0 : W3.cell? ⟨B, 0, none⟩ = some (.int .i64 2) := cell_of_blk Z3 (i := 0) rfl
  have q1 : W3.cell? ⟨B, 1, none⟩ = some (.int .i64 2) := cell_of_blk Z3 (i := 1) rfl
  have q2 : W3.cell? ⟨B, 2, none⟩ = some (.int .i64 3) := cell_of_blk Z3 (i := 2) rfl
  have q3 : W3.cell? ⟨B, 3, none⟩ = some (.int .i64 2) := cell_of_blk Z3 (i := 3) rfl
  have q4 : W3.cell? ⟨B, 4, none⟩ = some (.int .i64 1) := cell_of_blk Z3 (i := 4) rfl
  have q5 : W3.cell? ⟨B, 5, none⟩ = some (.int .i64 1) := cell_of_blk Z3 (i := 5) rfl
  have q6 : W3.cell? ⟨B, 6, none⟩ = some (.int .i64 9) := cell_of_blk Z3 (i := 6) rfl
  go_wp2_with fail
  refine (reserved_is (c := smC) (v := 3) (by decide) _).mono ?_
  rintro e W4 ⟨rfl, K4⟩
  have Z4 := Z3.kept K4 (by simp)
  have T4 := T3.trans K4
  clear K4 Z3 T3 q0 q1 q2 q3 q4 q5 q6
  have q0 : W4.cell? ⟨B, 0, none⟩ = some (.int .i64 2) := cell_of_blk Z4 (i := 0) rfl
  have q1 : W4.cell? ⟨B, 1, none⟩ = some (.int .i64 2) := cell_of_blk Z4 (i := 1) rfl
  have q2 : W4.cell? ⟨B, 2, none⟩ = some (.int .i64 3) := cell_of_blk Z4 (i := 2) rfl
  have q3 : W4.cell? ⟨B, 3, none⟩ = some (.int .i64 2) := cell_of_blk Z4 (i := 3) rfl
  have q4 : W4.cell? ⟨B, 4, none⟩ = some (.int .i64 1) := cell_of_blk Z4 (i := 4) rfl
  have q5 : W4.cell? ⟨B, 5, none⟩ = some (.int .i64 1) := cell_of_blk Z4 (i := 5) rfl
  have q6 : W4.cell? ⟨B, 6, none⟩ = some (.int .i64 9) := cell_of_blk Z4 (i := 6) rfl
  go_wp2_with fail
  refine (reserved_is (c := smC) (v := -1) (by decide) _).mono ?_
  rintro e W5 ⟨rfl, K5⟩
  have Z5 := Z4.kept K5 (by simp)
  have T5 := T4.trans K5
  clear K5 Z4 T4 q0 q1 q2 q3 q4 q5 q6
  have q0 : W5.cell? ⟨B, 0, none⟩ = some (.int .i64 2) := cell_of_blk Z5 (i := 0) rfl
  have q1 : W5.cell? ⟨B, 1, none⟩ = some (.int .i64 2) := cell_of_blk Z5 (i := 1) rfl
  have q2 : W5.cell? ⟨B, 2, none⟩ = some (.int .i64 3) := cell_of_blk Z5 (i := 2) rfl
  have q3 : W5.cell? ⟨B, 3, none⟩ = some (.int .i64 2) := cell_of_blk Z5 (i := 3) rfl
  have q4 : W5.cell? ⟨B, 4, none⟩ = some (.int .i64 1) := cell_of_blk Z5 (i := 4) rfl
  have q5 : W5.cell? ⟨B, 5, none⟩ = some (.int .i64 1) := cell_of_blk Z5 (i := 5) rfl
  have q6 : W5.cell? ⟨B, 6, none⟩ = some (.int .i64 9) := cell_of_blk Z5 (i := 6) rfl
  go_wp2_with fail
  refine (cell_is (c := smC) (v := 14) (by decide) _).mono ?_
  rintro e W6 ⟨rfl, K6⟩
  have Z6 := Z5.kept K6 (by simp)
  have T6 := T5.trans K6
  clear K6 Z5 T5 q0 q1 q2 q3 q4 q5 q6
  have q0 : W6.cell? ⟨B, 0, none⟩ = some (.int .i64 2) := cell_of_blk Z6 (i := 0) rfl
  have q1 : W6.cell? ⟨B, 1, none⟩ = some (.int .i64 2) := cell_of_blk Z6 (i := 1) rfl
  have q2 : W6.cell? ⟨B, 2, none⟩ = some (.int .i64 3) := cell_of_blk Z6 (i := 2) rfl
  have q3 : W6.cell? ⟨B, 3, none⟩ = some (.int .i64 2) := cell_of_blk Z6 (i := 3) rfl
  have q4 : W6.cell? ⟨B, 4, none⟩ = some (.int .i64 1) := cell_of_blk Z6 (i := 4) rfl
  have q5 : W6.cell? ⟨B, 5, none⟩ = some (.int .i64 1) := cell_of_blk Z6 (i := 5) rfl
  have q6 : W6.cell? ⟨B, 6, none⟩ = some (.int .i64 9) := cell_of_blk Z6 (i := 6) rfl
  go_wp2_with fail
  refine (cell_is (c := smC) (v := -1) (by decide) _).mono ?_
  rintro e W7 ⟨rfl, K7⟩
  have Z7 := Z6.kept K7 (by simp)
  have T7 := T6.trans K7
  clear K7 Z6 T6 q0 q1 q2 q3 q4 q5 q6
  have q0 : W7.cell? ⟨B, 0, none⟩ = some (.int .i64 2) := cell_of_blk Z7 (i := 0) rfl
  have q1 : W7.cell? ⟨B, 1, none⟩ = some (.int .i64 2) := cell_of_blk Z7 (i := 1) rfl
  have q2 : W7.cell? ⟨B, 2, none⟩ = some (.int .i64 3) := cell_of_blk Z7 (i := 2) rfl
  have q3 : W7.cell? ⟨B, 3, none⟩ = some (.int .i64 2) := cell_of_blk Z7 (i := 3) rfl
  have q4 : W7.cell? ⟨B, 4, none⟩ = some (.int .i64 1) := cell_of_blk Z7 (i := 4) rfl
  have q5 : W7.cell? ⟨B, 5, none⟩ = some (.int .i64 1) := cell_of_blk Z7 (i := 5) rfl
  have q6 : W7.cell? ⟨B, 6, none⟩ = some (.int .i64 9) := cell_of_blk Z7 (i := 6) rfl
  go_wp2_with fail
  refine (where_is (c := smC) (x := 36) (q := ⟨3, 3, 7⟩) (by decide) _).mono ?_
  rintro e W8 ⟨rfl, K8⟩
  have Z8 := Z7.kept K8 (by simp)
  have T8 := T7.trans K8
  clear K8 Z7 T7 q0 q1 q2 q3 q4 q5 q6
  have q0 : W8.cell? ⟨B, 0, none⟩ = some (.int .i64 2) := cell_of_blk Z8 (i := 0) rfl
  have q1 : W8.cell? ⟨B, 1, none⟩ = some (.int .i64 2) := cell_of_blk Z8 (i := 1) rfl
  have q2 : W8.cell? ⟨B, 2, none⟩ = some (.int .i64 3) := cell_of_blk Z8 (i := 2) rfl
  have q3 : W8.cell? ⟨B, 3, none⟩ = some (.int .i64 2) := cell_of_blk Z8 (i := 3) rfl
  have q4 : W8.cell? ⟨B, 4, none⟩ = some (.int .i64 1) := cell_of_blk Z8 (i := 4) rfl
  have q5 : W8.cell? ⟨B, 5, none⟩ = some (.int .i64 1) := cell_of_blk Z8 (i := 5) rfl
  have q6 : W8.cell? ⟨B, 6, none⟩ = some (.int .i64 9) := cell_of_blk Z8 (i := 6) rfl
  go_wp2_with fail
  refine (where_is (c := smC) (x := 0) (q := ⟨1, 0, 0⟩) (by decide) _).mono ?_
  rintro e W9 ⟨rfl, K9⟩
  have Z9 := Z8.kept K9 (by simp)
  have T9 := T8.trans K9
  clear K9 Z8 T8 q0 q1 q2 q3 q4 q5 q6
  have q0 : W9.cell? ⟨B, 0, none⟩ = some (.int .i64 2) := cell_of_blk Z9 (i := 0) rfl
  have q1 : W9.cell? ⟨B, 1, none⟩ = some (.int .i64 2) := cell_of_blk Z9 (i := 1) rfl
  have q2 : W9.cell? ⟨B, 2, none⟩ = some (.int .i64 3) := cell_of_blk Z9 (i := 2) rfl
  have q3 : W9.cell? ⟨B, 3, none⟩ = some (.int .i64 2) := cell_of_blk Z9 (i := 3) rfl
  have q4 : W9.cell? ⟨B, 4, none⟩ = some (.int .i64 1) := cell_of_blk Z9 (i := 4) rfl
  have q5 : W9.cell? ⟨B, 5, none⟩ = some (.int .i64 1) := cell_of_blk Z9 (i := 5) rfl
  have q6 : W9.cell? ⟨B, 6, none⟩ = some (.int .i64 9) := cell_of_blk Z9 (i := 6) rfl
  go_wp2_with fail
  refine (where_is (c := smC) (x := 37) (q := ⟨0, 0, 0⟩) (by decide) _).mono ?_
  rintro e W10 ⟨rfl, K10⟩
  have Z10 := Z9.kept K10 (by simp)
  have T10 := T9.trans K10
  clear K10 Z9 T9 q0 q1 q2 q3 q4 q5 q6
  go_wp2_with fail
  refine (head_any _ (Tab.kept HT.out T10)).mono ?_
  rintro e W11 ⟨rfl, K11⟩
  go_wp2
  go_ret
  exact ⟨rfl, T10.trans K11⟩
theorem alive_kw {w : World} (hT : Tab w) (p : KW w) : Calls Tryd.prog 9 #[] p.val fun e w' => e = .returned (.bool true) ∧ ∃ q : KW w, w' = q.val := Calls.kw_of (alive_any _ (hT.kept p.kept))
end Go.Proofs.YtgbgaphmoemokaaDoor

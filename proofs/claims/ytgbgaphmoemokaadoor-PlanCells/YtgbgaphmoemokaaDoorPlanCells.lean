/-
  For every configuration and two numbers: Reserved and Cell tell what the document's own answers tell, and a cell that they tell is just that place; the law PlanCells answers true, and the arguments read as they did.
  Conditions: the package variable of handle that the code reads starts as the program's text lays it (the card ties it to that text).
-/
import Derived.Test.YtgbgaphmoemokaaDoorPAlive
import Derived.Test.YtgbgaphmoemokaaDoorPWhere
import Derived.Test.YtgbgaphmoemokaaDoorHLaid
import Derived.Test.YtgbgaphmoemokaaDoorPArgs
import Derived.ProofKit
import Derived.SizedLaws
import Derived.Carry
namespace Go.Proofs.YtgbgaphmoemokaaDoor
open Go.ChangeShapes Go.WideShapes Go.ChangeAt Go.RowKit
open Go.Deep

theorem rs_two (c : Cfg) (a b : Int) : rsV c a b = -1 ∨ ∃ x, rsV c a b = x ∧ 1 ≤ x ∧ x ≤ 100 ∧ whV c x = ⟨2, a, b⟩ := by
  by_cases h : inR c a b
  · right
    obtain ⟨h1, h2, h3⟩ := res_wh h
    have := ts_bd (riB_true.1 h.1)
    exact ⟨_, if_pos h, h2, by omega, h1⟩
  · left; exact if_neg h
theorem cl_two (c : Cfg) (a b : Int) : clV' c a b = -1 ∨ ∃ x, clV' c a b = x ∧ 1 ≤ x ∧ x ≤ 900 ∧ whV c x = ⟨3, a, b⟩ := by
  by_cases h : inF c a b
  · right
    obtain ⟨h1, h2, h3⟩ := fld_wh h
    have := ts_bd (riB_true.1 h.1)
    have := ln_bd c
    exact ⟨_, if_pos h, by omega, by omega, h1⟩
  · left; exact if_neg h
set_option maxRecDepth 100000 in
set_option maxHeartbeats 4000000 in
theorem planCells_walk (w : World) (c : Cfg) (_g : c.wf) (a : Int) (_wa : (Lit.int .i64 a).wf = true) (b : Int) (_wb : (Lit.int .i64 b).wf = true) (hT : Tab w) : Calls Tryd.prog 4 #[c.val, .int .i64 a, .int .i64 b] w fun e w' => e = .returned (.bool true) ∧ Kept [] w w' := by
  simp only [Cfg.val]
  have heq := eq_place
  have Z := CB.new w c
  have K0 : Kept [] w (w.alloc (.cells #[.int .i64 c.t, .int .i64 c.s, .int .i64 c.c, .int .i64 c.h, .int .i64 c.k, .int .i64 c.e, .int .i64 c.l] 23)) := (Kept.refl _ _).alloc _
  have HT0 : Hid _ := hT.kept K0
  clear hT
  rcases rs_two c a b with HX | ⟨x, HX, x0, x1, HA⟩ <;> rcases cl_two c a b with HY | ⟨y, HY, y0, y1, HB⟩
  · have HX : Hid _ := HX
    have HY : Hid _ := HY
    go_enter Tryd.func4, Tryd.ntmps4
    go_wp2_with fail
    have HT : Hid (Tab (w.alloc (.cells #[.int .i64 c.t, .int .i64 c.s, .int .i64 c.c, .int .i64 c.h, .int .i64 c.k, .int .i64 c.e, .int .i64 c.l] 23))) := HT0.out
    clear HT0
    generalize w.alloc (.cells #[.int .i64 c.t, .int .i64 c.s, .int .i64 c.c, .int .i64 c.h, .int .i64 c.k, .int .i64 c.e, .int .i64 c.l] 23) = W at Z K0 HT ⊢
    have q0 : ∀ u : KW W, u.val.cell? ⟨w.heap.size, 0, none⟩ = some (.int .i64 c.t) := KW.cell (cell_of_blk Z (i := 0) rfl)
    have q1 : ∀ u : KW W, u.val.cell? ⟨w.heap.size, 1, none⟩ = some (.int .i64 c.s) := KW.cell (cell_of_blk Z (i := 1) rfl)
    have q2 : ∀ u : KW W, u.val.cell? ⟨w.heap.size, 2, none⟩ = some (.int .i64 c.c) := KW.cell (cell_of_blk Z (i := 2) rfl)
    have q3 : ∀ u : KW W, u.val.cell? ⟨w.heap.size, 3, none⟩ = some (.int .i64 c.h) := KW.cell (cell_of_blk Z (i := 3) rfl)
    have q4 : ∀ u : KW W, u.val.cell? ⟨w.heap.size, 4, none⟩ = some (.int .i64 c.k) := KW.cell (cell_of_blk Z (i := 4) rfl)
    have q5 : ∀ u : KW W, u.val.cell? ⟨w.heap.size, 5, none⟩ = some (.int .i64 c.e) := KW.cell (cell_of_blk Z (i := 5) rfl)
    have q6 : ∀ u : KW W, u.val.cell? ⟨w.heap.size, 6, none⟩ = some (.int .i64 c.l) := KW.cell (cell_of_blk Z (i := 6) rfl)
    refine wp_region_kept (by kernel_rfl) (by kernel_rfl) ?_
    repeat (first | go_big_quiet_step ((first | (go_at_call 14; exact Calls.kw_of (reserved_is HX.out _)) | (go_at_call 15; exact Calls.kw_of (cell_is HY.out _)))) | quiet_step ((first | (go_at_call 14; exact Calls.kw_of (reserved_is HX.out _)) | (go_at_call 15; exact Calls.kw_of (cell_is HY.out _)))))
    refine wpQuiet_nil ?_
    intro _ hw'
    obtain ⟨pq, hw''⟩ := hw'
    subst hw''
    have K1 := pq.kept
    generalize pq.val = W1 at K1 ⊢
    clear q0 q1 q2 q3 q4 q5 q6 pq
    have Z1 := Z.kept K1 (by simp)
    have T1 := K0.trans K1
    have G1 : Hid (Tab W1) := Tab.kept HT.out K1
    clear HT Z K0 K1
    have q0 := cell_of_blk Z1 (i := 0) rfl
    have q1 := cell_of_blk Z1 (i := 1) rfl
    have q2 := cell_of_blk Z1 (i := 2) rfl
    have q3 := cell_of_blk Z1 (i := 3) rfl
    have q4 := cell_of_blk Z1 (i := 4) rfl
    have q5 := cell_of_blk Z1 (i := 5) rfl
    have q6 := cell_of_blk Z1 (i := 6) rfl
    go_wp2_with fail
    refine (rreserved_is HX.out _).mono ?_
    rintro e W2 ⟨rfl, K2⟩
    have Z2 := Z1.kept K2 (by simp)
    have T2 := T1.trans K2
    have G2 : Hid (Tab W2) := Tab.kept G1.out K2
    clear Z1 T1 K2 G1 q0 q1 q2 q3 q4 q5 q6
    have q0 := cell_of_blk Z2 (i := 0) rfl
    have q1 := cell_of_blk Z2 (i := 1) rfl
    have q2 := cell_of_blk Z2 (i := 2) rfl
    have q3 := cell_of_blk Z2 (i := 3) rfl
    have q4 := cell_of_blk Z2 (i := 4) rfl
    have q5 := cell_of_blk Z2 (i := 5) rfl
    have q6 := cell_of_blk Z2 (i := 6) rfl
    go_wp2_with fail
    refine (rcell_is HY.out _).mono ?_
    rintro e W3 ⟨rfl, K3⟩
    have Z3 := Z2.kept K3 (by simp)
    have T3 := T2.trans K3
    have G3 : Hid (Tab W3) := Tab.kept G2.out K3
    clear Z2 T2 K3 G2 q0 q1 q2 q3 q4 q5 q6
    have q0 := cell_of_blk Z3 (i := 0) rfl
    have q1 := cell_of_blk Z3 (i := 1) rfl
    have q2 := cell_of_blk Z3 (i := 2) rfl
    have q3 := cell_of_blk Z3 (i := 3) rfl
    have q4 := cell_of_blk Z3 (i := 4) rfl
    have q5 := cell_of_blk Z3 (i := 5) rfl
    have q6 := cell_of_blk Z3 (i := 6) rfl
    go_wp2_with fail
    refine (alive_any _ (by exact G3.out)).mono ?_
    rintro e W4 ⟨rfl, K4⟩
    have Z4 := Z3.kept K4 (by simp)
    have T4 := T3.trans K4
    have G4 : Hid (Tab W4) := Tab.kept G3.out K4
    clear Z3 T3 K4 G3 q0 q1 q2 q3 q4 q5 q6
    go_wp2
    go_ret
    exact ⟨rfl, T4⟩
  · have HX : Hid _ := HX
    have HY : Hid _ := HY
    have HB : Hid _ := HB
    go_enter Tryd.func4, Tryd.ntmps4
    go_wp2_with fail
    have HT : Hid (Tab (w.alloc (.cells #[.int .i64 c.t, .int .i64 c.s, .int .i64 c.c, .int .i64 c.h, .int .i64 c.k, .int .i64 c.e, .int .i64 c.l] 23))) := HT0.out
    clear HT0
    generalize w.alloc (.cells #[.int .i64 c.t, .int .i64 c.s, .int .i64 c.c, .int .i64 c.h, .int .i64 c.k, .int .i64 c.e, .int .i64 c.l] 23) = W at Z K0 HT ⊢
    have q0 : ∀ u : KW W, u.val.cell? ⟨w.heap.size, 0, none⟩ = some (.int .i64 c.t) := KW.cell (cell_of_blk Z (i := 0) rfl)
    have q1 : ∀ u : KW W, u.val.cell? ⟨w.heap.size, 1, none⟩ = some (.int .i64 c.s) := KW.cell (cell_of_blk Z (i := 1) rfl)
    have q2 : ∀ u : KW W, u.val.cell? ⟨w.heap.size, 2, none⟩ = some (.int .i64 c.c) := KW.cell (cell_of_blk Z (i := 2) rfl)
    have q3 : ∀ u : KW W, u.val.cell? ⟨w.heap.size, 3, none⟩ = some (.int .i64 c.h) := KW.cell (cell_of_blk Z (i := 3) rfl)
    have q4 : ∀ u : KW W, u.val.cell? ⟨w.heap.size, 4, none⟩ = some (.int .i64 c.k) := KW.cell (cell_of_blk Z (i := 4) rfl)
    have q5 : ∀ u : KW W, u.val.cell? ⟨w.heap.size, 5, none⟩ = some (.int .i64 c.e) := KW.cell (cell_of_blk Z (i := 5) rfl)
    have q6 : ∀ u : KW W, u.val.cell? ⟨w.heap.size, 6, none⟩ = some (.int .i64 c.l) := KW.cell (cell_of_blk Z (i := 6) rfl)
    refine wp_region_kept (by kernel_rfl) (by kernel_rfl) ?_
    repeat (first | go_big_quiet_step ((first | (go_at_call 14; exact Calls.kw_of (reserved_is HX.out _)) | (go_at_call 15; exact Calls.kw_of (cell_is HY.out _)))) | quiet_step ((first | (go_at_call 14; exact Calls.kw_of (reserved_is HX.out _)) | (go_at_call 15; exact Calls.kw_of (cell_is HY.out _)))))
    refine wpQuiet_nil ?_
    intro _ hw'
    obtain ⟨pq, hw''⟩ := hw'
    subst hw''
    have K1 := pq.kept
    generalize pq.val = W1 at K1 ⊢
    clear q0 q1 q2 q3 q4 q5 q6 pq
    have Z1 := Z.kept K1 (by simp)
    have T1 := K0.trans K1
    have G1 : Hid (Tab W1) := Tab.kept HT.out K1
    clear HT Z K0 K1
    have q0 := cell_of_blk Z1 (i := 0) rfl
    have q1 := cell_of_blk Z1 (i := 1) rfl
    have q2 := cell_of_blk Z1 (i := 2) rfl
    have q3 := cell_of_blk Z1 (i := 3) rfl
    have q4 := cell_of_blk Z1 (i := 4) rfl
    have q5 := cell_of_blk Z1 (i := 5) rfl
    have q6 := cell_of_blk Z1 (i := 6) rfl
    go_wp2_with fail
    refine (rreserved_is HX.out _).mono ?_
    rintro e W2 ⟨rfl, K2⟩
    have Z2 := Z1.kept K2 (by simp)
    have T2 := T1.trans K2
    have G2 : Hid (Tab W2) := Tab.kept G1.out K2
    clear Z1 T1 K2 G1 q0 q1 q2 q3 q4 q5 q6
    have q0 := cell_of_blk Z2 (i := 0) rfl
    have q1 := cell_of_blk Z2 (i := 1) rfl
    have q2 := cell_of_blk Z2 (i := 2) rfl
    have q3 := cell_of_blk Z2 (i := 3) rfl
    have q4 := cell_of_blk Z2 (i := 4) rfl
    have q5 := cell_of_blk Z2 (i := 5) rfl
    have q6 := cell_of_blk Z2 (i := 6) rfl
    go_wp2_with fail
    refine (rcell_is HY.out _).mono ?_
    rintro e W3 ⟨rfl, K3⟩
    have Z3 := Z2.kept K3 (by simp)
    have T3 := T2.trans K3
    have G3 : Hid (Tab W3) := Tab.kept G2.out K3
    clear Z2 T2 K3 G2 q0 q1 q2 q3 q4 q5 q6
    have q0 := cell_of_blk Z3 (i := 0) rfl
    have q1 := cell_of_blk Z3 (i := 1) rfl
    have q2 := cell_of_blk Z3 (i := 2) rfl
    have q3 := cell_of_blk Z3 (i := 3) rfl
    have q4 := cell_of_blk Z3 (i := 4) rfl
    have q5 := cell_of_blk Z3 (i := 5) rfl
    have q6 := cell_of_blk Z3 (i := 6) rfl
    go_wp2_with fail
    refine (alive_any _ (by exact G3.out)).mono ?_
    rintro e W4 ⟨rfl, K4⟩
    have Z4 := Z3.kept K4 (by simp)
    have T4 := T3.trans K4
    have G4 : Hid (Tab W4) := Tab.kept G3.out K4
    clear Z3 T3 K4 G3 q0 q1 q2 q3 q4 q5 q6
    have q0 := cell_of_blk Z4 (i := 0) rfl
    have q1 := cell_of_blk Z4 (i := 1) rfl
    have q2 := cell_of_blk Z4 (i := 2) rfl
    have q3 := cell_of_blk Z4 (i := 3) rfl
    have q4 := cell_of_blk Z4 (i := 4) rfl
    have q5 := cell_of_blk Z4 (i := 5) rfl
    have q6 := cell_of_blk Z4 (i := 6) rfl
    go_wp2_with fail
    refine (where_is HB.out _).mono ?_
    rintro e W5 ⟨rfl, K5⟩
    have Z5 := Z4.kept K5 (by simp)
    have T5 := T4.trans K5
    have G5 : Hid (Tab W5) := Tab.kept G4.out K5
    clear Z4 T4 K5 G4 q0 q1 q2 q3 q4 q5 q6
    go_wp2
    go_ret
    exact ⟨rfl, T5⟩
  · have HX : Hid _ := HX
    have HY : Hid _ := HY
    have HA : Hid _ := HA
    go_enter Tryd.func4, Tryd.ntmps4
    go_wp2_with fail
    have HT : Hid (Tab (w.alloc (.cells #[.int .i64 c.t, .int .i64 c.s, .int .i64 c.c, .int .i64 c.h, .int .i64 c.k, .int .i64 c.e, .int .i64 c.l] 23))) := HT0.out
    clear HT0
    generalize w.alloc (.cells #[.int .i64 c.t, .int .i64 c.s, .int .i64 c.c, .int .i64 c.h, .int .i64 c.k, .int .i64 c.e, .int .i64 c.l] 23) = W at Z K0 HT ⊢
    have q0 : ∀ u : KW W, u.val.cell? ⟨w.heap.size, 0, none⟩ = some (.int .i64 c.t) := KW.cell (cell_of_blk Z (i := 0) rfl)
    have q1 : ∀ u : KW W, u.val.cell? ⟨w.heap.size, 1, none⟩ = some (.int .i64 c.s) := KW.cell (cell_of_blk Z (i := 1) rfl)
    have q2 : ∀ u : KW W, u.val.cell? ⟨w.heap.size, 2, none⟩ = some (.int .i64 c.c) := KW.cell (cell_of_blk Z (i := 2) rfl)
    have q3 : ∀ u : KW W, u.val.cell? ⟨w.heap.size, 3, none⟩ = some (.int .i64 c.h) := KW.cell (cell_of_blk Z (i := 3) rfl)
    have q4 : ∀ u : KW W, u.val.cell? ⟨w.heap.size, 4, none⟩ = some (.int .i64 c.k) := KW.cell (cell_of_blk Z (i := 4) rfl)
    have q5 : ∀ u : KW W, u.val.cell? ⟨w.heap.size, 5, none⟩ = some (.int .i64 c.e) := KW.cell (cell_of_blk Z (i := 5) rfl)
    have q6 : ∀ u : KW W, u.val.cell? ⟨w.heap.size, 6, none⟩ = some (.int .i64 c.l) := KW.cell (cell_of_blk Z (i := 6) rfl)
    refine wp_region_kept (by kernel_rfl) (by kernel_rfl) ?_
    repeat (first | go_big_quiet_step ((first | (go_at_call 14; exact Calls.kw_of (reserved_is HX.out _)) | (go_at_call 15; exact Calls.kw_of (cell_is HY.out _)))) | quiet_step ((first | (go_at_call 14; exact Calls.kw_of (reserved_is HX.out _)) | (go_at_call 15; exact Calls.kw_of (cell_is HY.out _)))))
    refine wpQuiet_nil ?_
    intro _ hw'
    obtain ⟨pq, hw''⟩ := hw'
    subst hw''
    have K1 := pq.kept
    generalize pq.val = W1 at K1 ⊢
    clear q0 q1 q2 q3 q4 q5 q6 pq
    have Z1 := Z.kept K1 (by simp)
    have T1 := K0.trans K1
    have G1 : Hid (Tab W1) := Tab.kept HT.out K1
    clear HT Z K0 K1
    have q0 := cell_of_blk Z1 (i := 0) rfl
    have q1 := cell_of_blk Z1 (i := 1) rfl
    have q2 := cell_of_blk Z1 (i := 2) rfl
    have q3 := cell_of_blk Z1 (i := 3) rfl
    have q4 := cell_of_blk Z1 (i := 4) rfl
    have q5 := cell_of_blk Z1 (i := 5) rfl
    have q6 := cell_of_blk Z1 (i := 6) rfl
    go_wp2_with fail
    refine (rreserved_is HX.out _).mono ?_
    rintro e W2 ⟨rfl, K2⟩
    have Z2 := Z1.kept K2 (by simp)
    have T2 := T1.trans K2
    have G2 : Hid (Tab W2) := Tab.kept G1.out K2
    clear Z1 T1 K2 G1 q0 q1 q2 q3 q4 q5 q6
    have q0 := cell_of_blk Z2 (i := 0) rfl
    have q1 := cell_of_blk Z2 (i := 1) rfl
    have q2 := cell_of_blk Z2 (i := 2) rfl
    have q3 := cell_of_blk Z2 (i := 3) rfl
    have q4 := cell_of_blk Z2 (i := 4) rfl
    have q5 := cell_of_blk Z2 (i := 5) rfl
    have q6 := cell_of_blk Z2 (i := 6) rfl
    go_wp2_with fail
    refine (rcell_is HY.out _).mono ?_
    rintro e W3 ⟨rfl, K3⟩
    have Z3 := Z2.kept K3 (by simp)
    have T3 := T2.trans K3
    have G3 : Hid (Tab W3) := Tab.kept G2.out K3
    clear Z2 T2 K3 G2 q0 q1 q2 q3 q4 q5 q6
    have q0 := cell_of_blk Z3 (i := 0) rfl
    have q1 := cell_of_blk Z3 (i := 1) rfl
    have q2 := cell_of_blk Z3 (i := 2) rfl
    have q3 := cell_of_blk Z3 (i := 3) rfl
    have q4 := cell_of_blk Z3 (i := 4) rfl
    have q5 := cell_of_blk Z3 (i := 5) rfl
    have q6 := cell_of_blk Z3 (i := 6) rfl
    go_wp2_with fail
    refine (where_is HA.out _).mono ?_
    rintro e W4 ⟨rfl, K4⟩
    have Z4 := Z3.kept K4 (by simp)
    have T4 := T3.trans K4
    have G4 : Hid (Tab W4) := Tab.kept G3.out K4
    clear Z3 T3 K4 G3 q0 q1 q2 q3 q4 q5 q6
    have q0 := cell_of_blk Z4 (i := 0) rfl
    have q1 := cell_of_blk Z4 (i := 1) rfl
    have q2 := cell_of_blk Z4 (i := 2) rfl
    have q3 := cell_of_blk Z4 (i := 3) rfl
    have q4 := cell_of_blk Z4 (i := 4) rfl
    have q5 := cell_of_blk Z4 (i := 5) rfl
    have q6 := cell_of_blk Z4 (i := 6) rfl
    go_wp2_with fail
    refine (alive_any _ (by exact G4.out)).mono ?_
    rintro e W5 ⟨rfl, K5⟩
    have Z5 := Z4.kept K5 (by simp)
    have T5 := T4.trans K5
    have G5 : Hid (Tab W5) := Tab.kept G4.out K5
    clear Z4 T4 K5 G4 q0 q1 q2 q3 q4 q5 q6
    go_wp2
    go_ret
    exact ⟨rfl, T5⟩
  · have HX : Hid _ := HX
    have HY : Hid _ := HY
    have HA : Hid _ := HA
    have HB : Hid _ := HB
    go_enter Tryd.func4, Tryd.ntmps4
    go_wp2_with fail
    have HT : Hid (Tab (w.alloc (.cells #[.int .i64 c.t, .int .i64 c.s, .int .i64 c.c, .int .i64 c.h, .int .i64 c.k, .int .i64 c.e, .int .i64 c.l] 23))) := HT0.out
    clear HT0
    generalize w.alloc (.cells #[.int .i64 c.t, .int .i64 c.s, .int .i64 c.c, .int .i64 c.h, .int .i64 c.k, .int .i64 c.e, .int .i64 c.l] 23) = W at Z K0 HT ⊢
    have q0 : ∀ u : KW W, u.val.cell? ⟨w.heap.size, 0, none⟩ = some (.int .i64 c.t) := KW.cell (cell_of_blk Z (i := 0) rfl)
    have q1 : ∀ u : KW W, u.val.cell? ⟨w.heap.size, 1, none⟩ = some (.int .i64 c.s) := KW.cell (cell_of_blk Z (i := 1) rfl)
    have q2 : ∀ u : KW W, u.val.cell? ⟨w.heap.size, 2, none⟩ = some (.int .i64 c.c) := KW.cell (cell_of_blk Z (i := 2) rfl)
    have q3 : ∀ u : KW W, u.val.cell? ⟨w.heap.size, 3, none⟩ = some (.int .i64 c.h) := KW.cell (cell_of_blk Z (i := 3) rfl)
    have q4 : ∀ u : KW W, u.val.cell? ⟨w.heap.size, 4, none⟩ = some (.int .i64 c.k) := KW.cell (cell_of_blk Z (i := 4) rfl)
    have q5 : ∀ u : KW W, u.val.cell? ⟨w.heap.size, 5, none⟩ = some (.int .i64 c.e) := KW.cell (cell_of_blk Z (i := 5) rfl)
    have q6 : ∀ u : KW W, u.val.cell? ⟨w.heap.size, 6, none⟩ = some (.int .i64 c.l) := KW.cell (cell_of_blk Z (i := 6) rfl)
    refine wp_region_kept (by kernel_rfl) (by kernel_rfl) ?_
    repeat (first | go_big_quiet_step ((first | (go_at_call 14; exact Calls.kw_of (reserved_is HX.out _)) | (go_at_call 15; exact Calls.kw_of (cell_is HY.out _)))) | quiet_step ((first | (go_at_call 14; exact Calls.kw_of (reserved_is HX.out _)) | (go_at_call 15; exact Calls.kw_of (cell_is HY.out _)))))
    refine wpQuiet_nil ?_
    intro _ hw'
    obtain ⟨pq, hw''⟩ := hw'
    subst hw''
    have K1 := pq.kept
    generalize pq.val = W1 at K1 ⊢
    clear q0 q1 q2 q3 q4 q5 q6 pq
    have Z1 := Z.kept K1 (by simp)
    have T1 := K0.trans K1
    have G1 : Hid (Tab W1) := Tab.kept HT.out K1
    clear HT Z K0 K1
    have q0 := cell_of_blk Z1 (i := 0) rfl
    have q1 := cell_of_blk Z1 (i := 1) rfl
    have q2 := cell_of_blk Z1 (i := 2) rfl
    have q3 := cell_of_blk Z1 (i := 3) rfl
    have q4 := cell_of_blk Z1 (i := 4) rfl
    have q5 := cell_of_blk Z1 (i := 5) rfl
    have q6 := cell_of_blk Z1 (i := 6) rfl
    go_wp2_with fail
    refine (rreserved_is HX.out _).mono ?_
    rintro e W2 ⟨rfl, K2⟩
    have Z2 := Z1.kept K2 (by simp)
    have T2 := T1.trans K2
    have G2 : Hid (Tab W2) := Tab.kept G1.out K2
    clear Z1 T1 K2 G1 q0 q1 q2 q3 q4 q5 q6
    have q0 := cell_of_blk Z2 (i := 0) rfl
    have q1 := cell_of_blk Z2 (i := 1) rfl
    have q2 := cell_of_blk Z2 (i := 2) rfl
    have q3 := cell_of_blk Z2 (i := 3) rfl
    have q4 := cell_of_blk Z2 (i := 4) rfl
    have q5 := cell_of_blk Z2 (i := 5) rfl
    have q6 := cell_of_blk Z2 (i := 6) rfl
    go_wp2_with fail
    refine (rcell_is HY.out _).mono ?_
    rintro e W3 ⟨rfl, K3⟩
    have Z3 := Z2.kept K3 (by simp)
    have T3 := T2.trans K3
    have G3 : Hid (Tab W3) := Tab.kept G2.out K3
    clear Z2 T2 K3 G2 q0 q1 q2 q3 q4 q5 q6
    have q0 := cell_of_blk Z3 (i := 0) rfl
    have q1 := cell_of_blk Z3 (i := 1) rfl
    have q2 := cell_of_blk Z3 (i := 2) rfl
    have q3 := cell_of_blk Z3 (i := 3) rfl
    have q4 := cell_of_blk Z3 (i := 4) rfl
    have q5 := cell_of_blk Z3 (i := 5) rfl
    have q6 := cell_of_blk Z3 (i := 6) rfl
    go_wp2_with fail
    refine (where_is HA.out _).mono ?_
    rintro e W4 ⟨rfl, K4⟩
    have Z4 := Z3.kept K4 (by simp)
    have T4 := T3.trans K4
    have G4 : Hid (Tab W4) := Tab.kept G3.out K4
    clear Z3 T3 K4 G3 q0 q1 q2 q3 q4 q5 q6
    have q0 := cell_of_blk Z4 (i := 0) rfl
    have q1 := cell_of_blk Z4 (i := 1) rfl
    have q2 := cell_of_blk Z4 (i := 2) rfl
    have q3 := cell_of_blk Z4 (i := 3) rfl
    have q4 := cell_of_blk Z4 (i := 4) rfl
    have q5 := cell_of_blk Z4 (i := 5) rfl
    have q6 := cell_of_blk Z4 (i := 6) rfl
    go_wp2_with fail
    refine (alive_any _ (by exact G4.out)).mono ?_
    rintro e W5 ⟨rfl, K5⟩
    have Z5 := Z4.kept K5 (by simp)
    have T5 := T4.trans K5
    have G5 : Hid (Tab W5) := Tab.kept G4.out K5
    clear Z4 T4 K5 G4 q0 q1 q2 q3 q4 q5 q6
    have q0 := cell_of_blk Z5 (i := 0) rfl
    have q1 := cell_of_blk Z5 (i := 1) rfl
    have q2 := cell_of_blk Z5 (i := 2) rfl
    have q3 := cell_of_blk Z5 (i := 3) rfl
    have q4 := cell_of_blk Z5 (i := 4) rfl
    have q5 := cell_of_blk Z5 (i := 5) rfl
    have q6 := cell_of_blk Z5 (i := 6) rfl
    go_wp2_with fail
    refine (where_is HB.out _).mono ?_
    rintro e W6 ⟨rfl, K6⟩
    have Z6 := Z5.kept K6 (by simp)
    have T6 := T5.trans K6
    have G6 : Hid (Tab W6) := Tab.kept G5.out K6
    clear Z5 T5 K6 G5 q0 q1 q2 q3 q4 q5 q6
    go_wp2
    go_ret
    exact ⟨rfl, T6⟩

set_option maxRecDepth 100000 in
theorem planCells_lifted (os : Os) (started : os.Started) (H : Type) (enc : TypeId × Value → H) :
    ReturnsInHanded {} Tryd.checked os 4 .any (fun w args => (Rows.planCellsSpec.pre enc Tryd.prog Tryd.f4 [] false w args ∧ laidMetH Tryd.prog laid1 w) ∧ sizedMet enc Tryd.prog Tryd.f4 (OpenSpec.ofChange Rows.planCellsSpec) false w args)
      (Rows.planCellsSpec.post enc Tryd.prog Tryd.f4 false true false false) := by
  refine returnsInHanded_of_change_and (C := Tryd.checked) (X := fun w _ => laidMetH Tryd.prog laid1 w) (fun _ _ _ hh h => h.of_heap hh) own started (by kernel_rfl) Tryd.func4
    (ChangeSpec.witness_shaped (enc := enc) (C := Tryd.checked) (os := os) (X := fun w _ => laidMetH Tryd.prog laid1 w) false (World.doorLaid Tryd.prog 400 os) #[.agg #[.int .i64 0, .int .i64 0, .int .i64 0, .int .i64 0, .int .i64 0, .int .i64 0, .int .i64 0], .int .i64 0, .int .i64 0] 8 rfl (World.shaped_of_RefB (by kernel_rfl) (by kernel_rfl)) (by kernel_rfl) (by kernel_rfl) (by kernel_rfl) (door_met os _)) ?_
  intro W base args ds gs before hval0 hW _ _ hL _
  have hval : ∀ (j : Nat) t v, Tryd.f4.params[j]? = some t → args[j]? = some v → Value.okWide Tryd.prog W .any base t v := hval0
  have hW' := hW
  obtain ⟨p, q, hA0, hV, rfl, _, _⟩ := hW
  have hA : DataW.TrodAll enc Tryd.prog W 0 (fun _ => true) true Tryd.f4.params.toList args.toList ds p := hA0
  rw [Tryd.params4] at hA hval
  clear hA0 hval0
  obtain ⟨v0, vs0, d0, ds0, p0, q0, hargs, rfl, rfl, h0, r0⟩ := trodAll_cons hA
  obtain ⟨v1, vs1, d1, ds1, p1, q1, rfl, rfl, rfl, h1, r1⟩ := trodAll_cons r0
  obtain ⟨v2, vs2, d2, ds2, p2, q2, rfl, rfl, rfl, h2, r2⟩ := trodAll_cons r1
  obtain ⟨rfl, rfl, rfl⟩ := trodAll_nil r2
  obtain rfl : args = #[v0, v1, v2] := by cases args; simp_all
  obtain ⟨rfl, rfl⟩ := trodVars_none hV
  have k0 := h0
  have k1 := h1
  have k2 := h2
  simp only [List.append_nil] at hW'
  have hlt0 : ∀ x ∈ p0, x.block < W.heap.size := fun x hx => hW'.lt x (by simp [hx])
  have hlt1 : ∀ x ∈ p1, x.block < W.heap.size := fun x hx => hW'.lt x (by simp [hx])
  have hlt2 : ∀ x ∈ p2, x.block < W.heap.size := fun x hx => hW'.lt x (by simp [hx])
  obtain ⟨c0, rfl, g0⟩ := open_cfg (hval 0 23 v0 rfl rfl) h0
  obtain ⟨a1, rfl, rfl, rfl, w1⟩ := open_int Tryd.underlying3 (hval 1 3 v1 rfl rfl) h1
  obtain ⟨a2, rfl, rfl, rfl, w2⟩ := open_int Tryd.underlying3 (hval 2 3 v2 rfl rfl) h2
  refine (planCells_walk W c0 g0 a1 w1 a2 w2 (tab_of_laid hL)).mono fun e W' ⟨he, hg⟩ => ?_
  subst he
  have hb := hg.below (by simp)
  exact ⟨_, rfl, _, _, _, [], _, [], hW', (trodAll_cons_mk (shut_bool Tryd.underlying4 _) trodAll_mk0), (trodAll_cons_mk (Below.trod laidOut (by kernel_rfl) (of_decide_eq_true (by kernel_rfl)) k0 hb hlt0) (trodAll_cons_mk (Below.trod laidOut (by kernel_rfl) (of_decide_eq_true (by kernel_rfl)) k1 hb hlt1) (trodAll_cons_mk (Below.trod laidOut (by kernel_rfl) (of_decide_eq_true (by kernel_rfl)) k2 hb hlt2) trodAll_mk0))), rfl, hb.frame _, fun h => by cases h⟩

theorem planCells_over : Rows.PlanCellsSaid :=
  OpenClaim.holds_of_wide 4 Tryd.f4 rfl rfl rfl rfl rfl rfl rfl ⟨rfl, rfl, rfl, rfl, rfl⟩ rfl rfl rfl rfl rfl (by kernel_rfl) Tryd.func4 (by kernel_rfl)
    (of_decide_eq_true (by kernel_rfl)) (by unfold Func.isWrapper; first | (rw [if_pos (by decide +kernel)]; kernel_rfl) | (rw [if_neg (by decide +kernel)]; exact ⟨rfl, rfl⟩))
    (fun os started H enc _ => planCells_lifted os started H enc)

theorem planCells_holds : Rows.PlanCellsCardSaid :=
  Claim7.holds_tied_plain_at .later [] [.data] true (true, "e3d404ef9abe130c130384d299250e9f91cc40664bec313a866518bcdb2f0e4d") false
    planCells_over (fun _ h => by cases h) (by kernel_rfl) (fun _ h => by cases h) planCells_row_tie rfl ⟨rfl, rfl⟩ (by kernel_rfl) rfl
    (fun f fn hf hfn => by
      obtain rfl : f = 4 := Option.some.inj ((show Tryd.prog.funcNamed "stepstone/stepstonelaw04.PlanCells" = some 4 by kernel_rfl).symm.trans hf) |>.symm
      obtain rfl : fn = Tryd.f4 := (Option.some.inj (Tryd.func4.symm.trans hfn)).symm
      exact ⟨by kernel_rfl, fun j t ht => by
          rw [Tryd.params4] at ht
          rcases j with _ | j
          · have : t = 23 := by simpa using ht.symm
            subst this; exact (show Tryd.prog.wantsStandIn 23 = false by kernel_rfl)
          rcases j with _ | j
          · have : t = 3 := by simpa using ht.symm
            subst this; exact (show Tryd.prog.wantsStandIn 3 = false by kernel_rfl)
          rcases j with _ | j
          · have : t = 3 := by simpa using ht.symm
            subst this; exact (show Tryd.prog.wantsStandIn 3 = false by kernel_rfl)
          simp at ht⟩)
    (by kernel_rfl)
#print axioms planCells_holds
end Go.Proofs.YtgbgaphmoemokaaDoor

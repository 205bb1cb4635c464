/-
  For every configuration and cell: Where tells what the document's own answer tells, Nothing just if there is no such cell, and the place that it tells stands there; the law PlanWhere answers true, and the arguments read as they did.
  Conditions: the package variable of handle that the code reads starts as the program's text lays it (the card ties it to that text).
-/
import Derived.Test.YtgbgaphmoemokaaDoorPAlive
import Derived.Test.YtgbgaphmoemokaaDoorPWhere
import Derived.Test.YtgbgaphmoemokaaDoorHLaid
import Derived.Test.YtgbgaphmoemokaaDoorPArgs
import Derived.ProofKit
import Derived.SizedLaws
import Derived.Carry
namespace Go.Proofs.YtgbgaphmoemokaaDoor
open Go.ChangeShapes Go.WideShapes Go.ChangeAt Go.RowKit
open Go.Deep

theorem wh_four (c : Cfg) (x n : Int) (hn : lnV c = n) : (whV c x = ⟨0, 0, 0⟩ ∧ x < 0) ∨ (whV c x = ⟨0, 0, 0⟩ ∧ 0 ≤ x ∧ n ≤ x) ∨ (whV c x = ⟨1, 0, 0⟩ ∧ x = 0 ∧ 0 < n) ∨
    (∃ a b, whV c x = ⟨2, a, b⟩ ∧ 0 ≤ x ∧ x < n ∧ rsV c a b = x) ∨ ∃ a b, whV c x = ⟨3, a, b⟩ ∧ 0 ≤ x ∧ x < n ∧ clV' c a b = x := by
  subst hn
  by_cases h : 0 ≤ x ∧ x < lnV c
  · have hk : (whV c x).k = 1 ∨ (whV c x).k = 2 ∨ (whV c x).k = 3 := by
      unfold whV; rw [if_pos h]; split
      · simp
      · split <;> simp
    rcases hk with hk | hk | hk
    · obtain ⟨e, e2⟩ := wh_clock hk
      exact Or.inr (Or.inr (Or.inl ⟨e2, e, by omega⟩))
    · obtain ⟨e, e2⟩ := wh_res hk
      refine Or.inr (Or.inr (Or.inr (Or.inl ⟨(whV c x).a, (whV c x).b, ?_, h.1, h.2, ?_⟩)))
      · cases hw : whV c x; simp [hw] at hk; simp [hk]
      · rw [rsV, if_pos e]; omega
    · obtain ⟨e, e2⟩ := wh_fld hk
      refine Or.inr (Or.inr (Or.inr (Or.inr ⟨(whV c x).a, (whV c x).b, ?_, h.1, h.2, ?_⟩)))
      · cases hw : whV c x; simp [hw] at hk; simp [hk]
      · rw [clV', if_pos e]; omega
  · have e : whV c x = ⟨0, 0, 0⟩ := by unfold whV; rw [if_neg h]
    by_cases h0 : x < 0
    · exact Or.inl ⟨e, h0⟩
    · exact Or.inr (Or.inl ⟨e, by omega, by omega⟩)
set_option maxRecDepth 100000 in
set_option maxHeartbeats 4000000 in
theorem planWhere_walk (w : World) (c : Cfg) (_g : c.wf) (x : Int) (_wx : (Lit.int .i64 x).wf = true) (hT : Tab w) : Calls Tryd.prog 5 #[c.val, .int .i64 x] w fun e w' => e = .returned (.bool true) ∧ Kept [] w w' := by
  simp only [Cfg.val]
  have heq := eq_place
  have heq2 := eq_rplace
  have Z := CB.new w c
  have KA : Kept [] w (w.alloc (.cells #[.int .i64 c.t, .int .i64 c.s, .int .i64 c.c, .int .i64 c.h, .int .i64 c.k, .int .i64 c.e, .int .i64 c.l] 23)) := (Kept.refl _ _).alloc _
  have HT0 : Hid _ := hT.kept KA
  clear hT
  obtain ⟨n, hn⟩ : ∃ n, lnV c = n := ⟨_, rfl⟩
  have HL : Hid _ := hn
  have D := wh_four c x n hn
  clear hn
  rcases D with ⟨HQ, x0⟩ | ⟨HQ, x0, x1⟩ | ⟨HQ, rfl, x1⟩ | ⟨a, b, HQ, x0, x1, HX⟩ | ⟨a, b, HQ, x0, x1, HX⟩
  · have HQ : Hid _ := HQ
    have d0 : decide (0 ≤ x) = false := decide_eq_false (by omega)
    go_enter Tryd.func5, Tryd.ntmps5
    go_wp2_with fail
    refine (where_is HQ.out _).mono ?_
    rintro e W0 ⟨rfl, K0⟩
    have ZA := Z.kept K0 (by simp)
    have TA := KA.trans K0
    have HTA : Hid (Tab W0) := Tab.kept HT0.out K0
    clear HT0 Z KA K0
    obtain ⟨B, hB⟩ : ∃ B, B = W0.heap.size := ⟨_, rfl⟩
    go_upto_region 2 with (fail)
    refine gen_world (fun W => CB W w.heap.size c ∧ W.heap[B]? = some (.cells #[.int .i64 0, .int .i64 0, .int .i64 0] 29 (0, 0)) ∧ Kept [] w W ∧ Tab W) ?_ ?_
    · rw [hB]
      exact ⟨ZA.kept ((Kept.refl [] _).alloc _) (by simp), blk_alloc_new _ _, TA.alloc _, Tab.kept HTA.out ((Kept.refl [] _).alloc _)⟩
    rw [← hB]
    clear ZA TA HTA hB
    rintro W ⟨Z, P0, K0, HT⟩
    have HT : Hid _ := HT
    have q0 : ∀ u : KW W, u.val.cell? ⟨w.heap.size, 0, none⟩ = some (.int .i64 c.t) := KW.cell (cell_of_blk Z (i := 0) rfl)
    have q1 : ∀ u : KW W, u.val.cell? ⟨w.heap.size, 1, none⟩ = some (.int .i64 c.s) := KW.cell (cell_of_blk Z (i := 1) rfl)
    have q2 : ∀ u : KW W, u.val.cell? ⟨w.heap.size, 2, none⟩ = some (.int .i64 c.c) := KW.cell (cell_of_blk Z (i := 2) rfl)
    have q3 : ∀ u : KW W, u.val.cell? ⟨w.heap.size, 3, none⟩ = some (.int .i64 c.h) := KW.cell (cell_of_blk Z (i := 3) rfl)
    have q4 : ∀ u : KW W, u.val.cell? ⟨w.heap.size, 4, none⟩ = some (.int .i64 c.k) := KW.cell (cell_of_blk Z (i := 4) rfl)
    have q5 : ∀ u : KW W, u.val.cell? ⟨w.heap.size, 5, none⟩ = some (.int .i64 c.e) := KW.cell (cell_of_blk Z (i := 5) rfl)
    have q6 : ∀ u : KW W, u.val.cell? ⟨w.heap.size, 6, none⟩ = some (.int .i64 c.l) := KW.cell (cell_of_blk Z (i := 6) rfl)
    have z0 : ∀ u : KW W, u.val.cell? ⟨B, 0, none⟩ = some (.int .i64 0) := KW.cell (cell_of_blk P0 (i := 0) rfl)
    have z1 : ∀ u : KW W, u.val.cell? ⟨B, 1, none⟩ = some (.int .i64 0) := KW.cell (cell_of_blk P0 (i := 1) rfl)
    have z2 : ∀ u : KW W, u.val.cell? ⟨B, 2, none⟩ = some (.int .i64 0) := KW.cell (cell_of_blk P0 (i := 2) rfl)
    refine wp_region_kept (by kernel_rfl) (by kernel_rfl) ?_
    repeat (first | go_big_quiet_step ((first | (go_at_call 19; exact Calls.kw_of (rwhere_is HQ.out _)) | (go_at_call 12; exact Calls.kw_of (len_is HL.out _)))) | quiet_step ((first | (go_at_call 19; exact Calls.kw_of (rwhere_is HQ.out _)) | (go_at_call 12; exact Calls.kw_of (len_is HL.out _)))))
    refine wpQuiet_nil ?_
    intro _ hw'
    obtain ⟨pq, hw''⟩ := hw'
    subst hw''
    have K1 := pq.kept
    generalize pq.val = W1 at K1 ⊢
    clear q0 q1 q2 q3 q4 q5 q6 z0 z1 z2 pq
    have Z1 := Z.kept K1 (by simp)
    have P1 := K1.blk P0 (by simp)
    have T1 := K0.trans K1
    have G1 : Hid (Tab W1) := Tab.kept HT.out K1
    clear HT Z K0 K1 P0
    have q0 := cell_of_blk Z1 (i := 0) rfl
    have q1 := cell_of_blk Z1 (i := 1) rfl
    have q2 := cell_of_blk Z1 (i := 2) rfl
    have q3 := cell_of_blk Z1 (i := 3) rfl
    have q4 := cell_of_blk Z1 (i := 4) rfl
    have q5 := cell_of_blk Z1 (i := 5) rfl
    have q6 := cell_of_blk Z1 (i := 6) rfl
    have z0 := cell_of_blk P1 (i := 0) rfl
    have z1 := cell_of_blk P1 (i := 1) rfl
    have z2 := cell_of_blk P1 (i := 2) rfl
    go_wp2_with fail
    refine (alive_any _ (by exact G1.out)).mono ?_
    rintro e W2 ⟨rfl, K2⟩
    have Z2 := Z1.kept K2 (by simp)
    have P2 := K2.blk P1 (by simp)
    have T2 := T1.trans K2
    clear Z1 T1 K2 P1 q0 q1 q2 q3 q4 q5 q6 z0 z1 z2
    have z0 := cell_of_blk P2 (i := 0) rfl
    have z1 := cell_of_blk P2 (i := 1) rfl
    have z2 := cell_of_blk P2 (i := 2) rfl
    go_wp2
    go_ret
    exact ⟨rfl, T2⟩
  · have HQ : Hid _ := HQ
    have d0 : decide (0 ≤ x) = true := decide_eq_true (by omega)
    have d1 : decide (x < n) = false := decide_eq_false (by omega)
    go_enter Tryd.func5, Tryd.ntmps5
    go_wp2_with fail
    refine (where_is HQ.out _).mono ?_
    rintro e W0 ⟨rfl, K0⟩
    have ZA := Z.kept K0 (by simp)
    have TA := KA.trans K0
    have HTA : Hid (Tab W0) := Tab.kept HT0.out K0
    clear HT0 Z KA K0
    obtain ⟨B, hB⟩ : ∃ B, B = W0.heap.size := ⟨_, rfl⟩
    go_upto_region 2 with (fail)
    refine gen_world (fun W => CB W w.heap.size c ∧ W.heap[B]? = some (.cells #[.int .i64 0, .int .i64 0, .int .i64 0] 29 (0, 0)) ∧ Kept [] w W ∧ Tab W) ?_ ?_
    · rw [hB]
      exact ⟨ZA.kept ((Kept.refl [] _).alloc _) (by simp), blk_alloc_new _ _, TA.alloc _, Tab.kept HTA.out ((Kept.refl [] _).alloc _)⟩
    rw [← hB]
    clear ZA TA HTA hB
    rintro W ⟨Z, P0, K0, HT⟩
    have HT : Hid _ := HT
    have q0 : ∀ u : KW W, u.val.cell? ⟨w.heap.size, 0, none⟩ = some (.int .i64 c.t) := KW.cell (cell_of_blk Z (i := 0) rfl)
    have q1 : ∀ u : KW W, u.val.cell? ⟨w.heap.size, 1, none⟩ = some (.int .i64 c.s) := KW.cell (cell_of_blk Z (i := 1) rfl)
    have q2 : ∀ u : KW W, u.val.cell? ⟨w.heap.size, 2, none⟩ = some (.int .i64 c.c) := KW.cell (cell_of_blk Z (i := 2) rfl)
    have q3 : ∀ u : KW W, u.val.cell? ⟨w.heap.size, 3, none⟩ = some (.int .i64 c.h) := KW.cell (cell_of_blk Z (i := 3) rfl)
    have q4 : ∀ u : KW W, u.val.cell? ⟨w.heap.size, 4, none⟩ = some (.int .i64 c.k) := KW.cell (cell_of_blk Z (i := 4) rfl)
    have q5 : ∀ u : KW W, u.val.cell? ⟨w.heap.size, 5, none⟩ = some (.int .i64 c.e) := KW.cell (cell_of_blk Z (i := 5) rfl)
    have q6 : ∀ u : KW W, u.val.cell? ⟨w.heap.size, 6, none⟩ = some (.int .i64 c.l) := KW.cell (cell_of_blk Z (i := 6) rfl)
    have z0 : ∀ u : KW W, u.val.cell? ⟨B, 0, none⟩ = some (.int .i64 0) := KW.cell (cell_of_blk P0 (i := 0) rfl)
    have z1 : ∀ u : KW W, u.val.cell? ⟨B, 1, none⟩ = some (.int .i64 0) := KW.cell (cell_of_blk P0 (i := 1) rfl)
    have z2 : ∀ u : KW W, u.val.cell? ⟨B, 2, none⟩ = some (.int .i64 0) := KW.cell (cell_of_blk P0 (i := 2) rfl)
    refine wp_region_kept (by kernel_rfl) (by kernel_rfl) ?_
    repeat (first | go_big_quiet_step ((first | (go_at_call 19; exact Calls.kw_of (rwhere_is HQ.out _)) | (go_at_call 12; exact Calls.kw_of (len_is HL.out _)))) | quiet_step ((first | (go_at_call 19; exact Calls.kw_of (rwhere_is HQ.out _)) | (go_at_call 12; exact Calls.kw_of (len_is HL.out _)))))
    refine wpQuiet_nil ?_
    intro _ hw'
    obtain ⟨pq, hw''⟩ := hw'
    subst hw''
    have K1 := pq.kept
    generalize pq.val = W1 at K1 ⊢
    clear q0 q1 q2 q3 q4 q5 q6 z0 z1 z2 pq
    have Z1 := Z.kept K1 (by simp)
    have P1 := K1.blk P0 (by simp)
    have T1 := K0.trans K1
    have G1 : Hid (Tab W1) := Tab.kept HT.out K1
    clear HT Z K0 K1 P0
    have q0 := cell_of_blk Z1 (i := 0) rfl
    have q1 := cell_of_blk Z1 (i := 1) rfl
    have q2 := cell_of_blk Z1 (i := 2) rfl
    have q3 := cell_of_blk Z1 (i := 3) rfl
    have q4 := cell_of_blk Z1 (i := 4) rfl
    have q5 := cell_of_blk Z1 (i := 5) rfl
    have q6 := cell_of_blk Z1 (i := 6) rfl
    have z0 := cell_of_blk P1 (i := 0) rfl
    have z1 := cell_of_blk P1 (i := 1) rfl
    have z2 := cell_of_blk P1 (i := 2) rfl
    go_wp2_with fail
    refine (alive_any _ (by exact G1.out)).mono ?_
    rintro e W2 ⟨rfl, K2⟩
    have Z2 := Z1.kept K2 (by simp)
    have P2 := K2.blk P1 (by simp)
    have T2 := T1.trans K2
    clear Z1 T1 K2 P1 q0 q1 q2 q3 q4 q5 q6 z0 z1 z2
    have z0 := cell_of_blk P2 (i := 0) rfl
    have z1 := cell_of_blk P2 (i := 1) rfl
    have z2 := cell_of_blk P2 (i := 2) rfl
    go_wp2
    go_ret
    exact ⟨rfl, T2⟩
  · have HQ : Hid _ := HQ
    have d1 : decide (0 < n) = true := decide_eq_true (by omega)
    go_enter Tryd.func5, Tryd.ntmps5
    go_wp2_with fail
    refine (where_is HQ.out _).mono ?_
    rintro e W0 ⟨rfl, K0⟩
    have ZA := Z.kept K0 (by simp)
    have TA := KA.trans K0
    have HTA : Hid (Tab W0) := Tab.kept HT0.out K0
    clear HT0 Z KA K0
    obtain ⟨B, hB⟩ : ∃ B, B = W0.heap.size := ⟨_, rfl⟩
    go_upto_region 2 with (fail)
    refine gen_world (fun W => CB W w.heap.size c ∧ W.heap[B]? = some (.cells #[.int .i64 1, .int .i64 0, .int .i64 0] 29 (0, 0)) ∧ Kept [] w W ∧ Tab W) ?_ ?_
    · rw [hB]
      exact ⟨ZA.kept ((Kept.refl [] _).alloc _) (by simp), blk_alloc_new _ _, TA.alloc _, Tab.kept HTA.out ((Kept.refl [] _).alloc _)⟩
    rw [← hB]
    clear ZA TA HTA hB
    rintro W ⟨Z, P0, K0, HT⟩
    have HT : Hid _ := HT
    have q0 : ∀ u : KW W, u.val.cell? ⟨w.heap.size, 0, none⟩ = some (.int .i64 c.t) := KW.cell (cell_of_blk Z (i := 0) rfl)
    have q1 : ∀ u : KW W, u.val.cell? ⟨w.heap.size, 1, none⟩ = some (.int .i64 c.s) := KW.cell (cell_of_blk Z (i := 1) rfl)
    have q2 : ∀ u : KW W, u.val.cell? ⟨w.heap.size, 2, none⟩ = some (.int .i64 c.c) := KW.cell (cell_of_blk Z (i := 2) rfl)
    have q3 : ∀ u : KW W, u.val.cell? ⟨w.heap.size, 3, none⟩ = some (.int .i64 c.h) := KW.cell (cell_of_blk Z (i := 3) rfl)
    have q4 : ∀ u : KW W, u.val.cell? ⟨w.heap.size, 4, none⟩ = some (.int .i64 c.k) := KW.cell (cell_of_blk Z (i := 4) rfl)
    have q5 : ∀ u : KW W, u.val.cell? ⟨w.heap.size, 5, none⟩ = some (.int .i64 c.e) := KW.cell (cell_of_blk Z (i := 5) rfl)
    have q6 : ∀ u : KW W, u.val.cell? ⟨w.heap.size, 6, none⟩ = some (.int .i64 c.l) := KW.cell (cell_of_blk Z (i := 6) rfl)
    have z0 : ∀ u : KW W, u.val.cell? ⟨B, 0, none⟩ = some (.int .i64 1) := KW.cell (cell_of_blk P0 (i := 0) rfl)
    have z1 : ∀ u : KW W, u.val.cell? ⟨B, 1, none⟩ = some (.int .i64 0) := KW.cell (cell_of_blk P0 (i := 1) rfl)
    have z2 : ∀ u : KW W, u.val.cell? ⟨B, 2, none⟩ = some (.int .i64 0) := KW.cell (cell_of_blk P0 (i := 2) rfl)
    refine wp_region_kept (by kernel_rfl) (by kernel_rfl) ?_
    repeat (first | go_big_quiet_step ((first | (go_at_call 19; exact Calls.kw_of (rwhere_is HQ.out _)) | (go_at_call 12; exact Calls.kw_of (len_is HL.out _)))) | quiet_step ((first | (go_at_call 19; exact Calls.kw_of (rwhere_is HQ.out _)) | (go_at_call 12; exact Calls.kw_of (len_is HL.out _)))))
    refine wpQuiet_nil ?_
    intro _ hw'
    obtain ⟨pq, hw''⟩ := hw'
    subst hw''
    have K1 := pq.kept
    generalize pq.val = W1 at K1 ⊢
    clear q0 q1 q2 q3 q4 q5 q6 z0 z1 z2 pq
    have Z1 := Z.kept K1 (by simp)
    have P1 := K1.blk P0 (by simp)
    have T1 := K0.trans K1
    have G1 : Hid (Tab W1) := Tab.kept HT.out K1
    clear HT Z K0 K1 P0
    have q0 := cell_of_blk Z1 (i := 0) rfl
    have q1 := cell_of_blk Z1 (i := 1) rfl
    have q2 := cell_of_blk Z1 (i := 2) rfl
    have q3 := cell_of_blk Z1 (i := 3) rfl
    have q4 := cell_of_blk Z1 (i := 4) rfl
    have q5 := cell_of_blk Z1 (i := 5) rfl
    have q6 := cell_of_blk Z1 (i := 6) rfl
    have z0 := cell_of_blk P1 (i := 0) rfl
    have z1 := cell_of_blk P1 (i := 1) rfl
    have z2 := cell_of_blk P1 (i := 2) rfl
    go_wp2_with fail
    refine (alive_any _ (by exact G1.out)).mono ?_
    rintro e W2 ⟨rfl, K2⟩
    have Z2 := Z1.kept K2 (by simp)
    have P2 := K2.blk P1 (by simp)
    have T2 := T1.trans K2
    clear Z1 T1 K2 P1 q0 q1 q2 q3 q4 q5 q6 z0 z1 z2
    have z0 := cell_of_blk P2 (i := 0) rfl
    have z1 := cell_of_blk P2 (i := 1) rfl
    have z2 := cell_of_blk P2 (i := 2) rfl
    go_wp2
    go_ret
    exact ⟨rfl, T2⟩
  · have HQ : Hid _ := HQ
    have HX : Hid _ := HX
    have d0 : decide (0 ≤ x) = true := decide_eq_true (by omega)
    have d1 : decide (x < n) = true := decide_eq_true (by omega)
    go_enter Tryd.func5, Tryd.ntmps5
    go_wp2_with fail
    refine (where_is HQ.out _).mono ?_
    rintro e W0 ⟨rfl, K0⟩
    have ZA := Z.kept K0 (by simp)
    have TA := KA.trans K0
    have HTA : Hid (Tab W0) := Tab.kept HT0.out K0
    clear HT0 Z KA K0
    obtain ⟨B, hB⟩ : ∃ B, B = W0.heap.size := ⟨_, rfl⟩
    go_upto_region 2 with (fail)
    refine gen_world (fun W => CB W w.heap.size c ∧ W.heap[B]? = some (.cells #[.int .i64 2, .int .i64 a, .int .i64 b] 29 (0, 0)) ∧ Kept [] w W ∧ Tab W) ?_ ?_
    · rw [hB]
      exact ⟨ZA.kept ((Kept.refl [] _).alloc _) (by simp), blk_alloc_new _ _, TA.alloc _, Tab.kept HTA.out ((Kept.refl [] _).alloc _)⟩
    rw [← hB]
    clear ZA TA HTA hB
    rintro W ⟨Z, P0, K0, HT⟩
    have HT : Hid _ := HT
    have q0 : ∀ u : KW W, u.val.cell? ⟨w.heap.size, 0, none⟩ = some (.int .i64 c.t) := KW.cell (cell_of_blk Z (i := 0) rfl)
    have q1 : ∀ u : KW W, u.val.cell? ⟨w.heap.size, 1, none⟩ = some (.int .i64 c.s) := KW.cell (cell_of_blk Z (i := 1) rfl)
    have q2 : ∀ u : KW W, u.val.cell? ⟨w.heap.size, 2, none⟩ = some (.int .i64 c.c) := KW.cell (cell_of_blk Z (i := 2) rfl)
    have q3 : ∀ u : KW W, u.val.cell? ⟨w.heap.size, 3, none⟩ = some (.int .i64 c.h) := KW.cell (cell_of_blk Z (i := 3) rfl)
    have q4 : ∀ u : KW W, u.val.cell? ⟨w.heap.size, 4, none⟩ = some (.int .i64 c.k) := KW.cell (cell_of_blk Z (i := 4) rfl)
    have q5 : ∀ u : KW W, u.val.cell? ⟨w.heap.size, 5, none⟩ = some (.int .i64 c.e) := KW.cell (cell_of_blk Z (i := 5) rfl)
    have q6 : ∀ u : KW W, u.val.cell? ⟨w.heap.size, 6, none⟩ = some (.int .i64 c.l) := KW.cell (cell_of_blk Z (i := 6) rfl)
    have z0 : ∀ u : KW W, u.val.cell? ⟨B, 0, none⟩ = some (.int .i64 2) := KW.cell (cell_of_blk P0 (i := 0) rfl)
    have z1 : ∀ u : KW W, u.val.cell? ⟨B, 1, none⟩ = some (.int .i64 a) := KW.cell (cell_of_blk P0 (i := 1) rfl)
    have z2 : ∀ u : KW W, u.val.cell? ⟨B, 2, none⟩ = some (.int .i64 b) := KW.cell (cell_of_blk P0 (i := 2) rfl)
    refine wp_region_kept (by kernel_rfl) (by kernel_rfl) ?_
    repeat (first | go_big_quiet_step ((first | (go_at_call 19; exact Calls.kw_of (rwhere_is HQ.out _)) | (go_at_call 12; exact Calls.kw_of (len_is HL.out _)))) | quiet_step ((first | (go_at_call 19; exact Calls.kw_of (rwhere_is HQ.out _)) | (go_at_call 12; exact Calls.kw_of (len_is HL.out _)))))
    refine wpQuiet_nil ?_
    intro _ hw'
    obtain ⟨pq, hw''⟩ := hw'
    subst hw''
    have K1 := pq.kept
    generalize pq.val = W1 at K1 ⊢
    clear q0 q1 q2 q3 q4 q5 q6 z0 z1 z2 pq
    have Z1 := Z.kept K1 (by simp)
    have P1 := K1.blk P0 (by simp)
    have T1 := K0.trans K1
    have G1 : Hid (Tab W1) := Tab.kept HT.out K1
    clear HT Z K0 K1 P0
    have q0 := cell_of_blk Z1 (i := 0) rfl
    have q1 := cell_of_blk Z1 (i := 1) rfl
    have q2 := cell_of_blk Z1 (i := 2) rfl
    have q3 := cell_of_blk Z1 (i := 3) rfl
    have q4 := cell_of_blk Z1 (i := 4) rfl
    have q5 := cell_of_blk Z1 (i := 5) rfl
    have q6 := cell_of_blk Z1 (i := 6) rfl
    have z0 := cell_of_blk P1 (i := 0) rfl
    have z1 := cell_of_blk P1 (i := 1) rfl
    have z2 := cell_of_blk P1 (i := 2) rfl
    go_wp2_with fail
    refine (alive_any _ (by exact G1.out)).mono ?_
    rintro e W2 ⟨rfl, K2⟩
    have Z2 := Z1.kept K2 (by simp)
    have P2 := K2.blk P1 (by simp)
    have T2 := T1.trans K2
    clear Z1 T1 K2 P1 q0 q1 q2 q3 q4 q5 q6 z0 z1 z2
    have q0 := cell_of_blk Z2 (i := 0) rfl
    have q1 := cell_of_blk Z2 (i := 1) rfl
    have q2 := cell_of_blk Z2 (i := 2) rfl
    have q3 := cell_of_blk Z2 (i := 3) rfl
    have q4 := cell_of_blk Z2 (i := 4) rfl
    have q5 := cell_of_blk Z2 (i := 5) rfl
    have q6 := cell_of_blk Z2 (i := 6) rfl
    have z0 := cell_of_blk P2 (i := 0) rfl
    have z1 := cell_of_blk P2 (i := 1) rfl
    have z2 := cell_of_blk P2 (i := 2) rfl
    go_wp2_with fail
    refine (reserved_is HX.out _).mono ?_
    rintro e W3 ⟨rfl, K3⟩
    have Z3 := Z2.kept K3 (by simp)
    have P3 := K3.blk P2 (by simp)
    have T3 := T2.trans K3
    clear Z2 T2 K3 P2 q0 q1 q2 q3 q4 q5 q6 z0 z1 z2
    have z0 := cell_of_blk P3 (i := 0) rfl
    have z1 := cell_of_blk P3 (i := 1) rfl
    have z2 := cell_of_blk P3 (i := 2) rfl
    go_wp2
    go_ret
    exact ⟨rfl, T3⟩
  · have HQ : Hid _ := HQ
    have HX : Hid _ := HX
    have d0 : decide (0 ≤ x) = true := decide_eq_true (by omega)
    have d1 : decide (x < n) = true := decide_eq_true (by omega)
    go_enter Tryd.func5, Tryd.ntmps5
    go_wp2_with fail
    refine (where_is HQ.out _).mono ?_
    rintro e W0 ⟨rfl, K0⟩
    have ZA := Z.kept K0 (by simp)
    have TA := KA.trans K0
    have HTA : Hid (Tab W0) := Tab.kept HT0.out K0
    clear HT0 Z KA K0
    obtain ⟨B, hB⟩ : ∃ B, B = W0.heap.size := ⟨_, rfl⟩
    go_upto_region 2 with (fail)
    refine gen_world (fun W => CB W w.heap.size c ∧ W.heap[B]? = some (.cells #[.int .i64 3, .int .i64 a, .int .i64 b] 29 (0, 0)) ∧ Kept [] w W ∧ Tab W) ?_ ?_
    · rw [hB]
      exact ⟨ZA.kept ((Kept.refl [] _).alloc _) (by simp), blk_alloc_new _ _, TA.alloc _, Tab.kept HTA.out ((Kept.refl [] _).alloc _)⟩
    rw [← hB]
    clear ZA TA HTA hB
    rintro W ⟨Z, P0, K0, HT⟩
    have HT : Hid _ := HT
    have q0 : ∀ u : KW W, u.val.cell? ⟨w.heap.size, 0, none⟩ = some (.int .i64 c.t) := KW.cell (cell_of_blk Z (i := 0) rfl)
    have q1 : ∀ u : KW W, u.val.cell? ⟨w.heap.size, 1, none⟩ = some (.int .i64 c.s) := KW.cell (cell_of_blk Z (i := 1) rfl)
    have q2 : ∀ u : KW W, u.val.cell? ⟨w.heap.size, 2, none⟩ = some (.int .i64 c.c) := KW.cell (cell_of_blk Z (i := 2) rfl)
    have q3 : ∀ u : KW W, u.val.cell? ⟨w.heap.size, 3, none⟩ = some (.int .i64 c.h) := KW.cell (cell_of_blk Z (i := 3) rfl)
    have q4 : ∀ u : KW W, u.val.cell? ⟨w.heap.size, 4, none⟩ = some (.int .i64 c.k) := KW.cell (cell_of_blk Z (i := 4) rfl)
    have q5 : ∀ u : KW W, u.val.cell? ⟨w.heap.size, 5, none⟩ = some (.int .i64 c.e) := KW.cell (cell_of_blk Z (i := 5) rfl)
    have q6 : ∀ u : KW W, u.val.cell? ⟨w.heap.size, 6, none⟩ = some (.int .i64 c.l) := KW.cell (cell_of_blk Z (i := 6) rfl)
    have z0 : ∀ u : KW W, u.val.cell? ⟨B, 0, none⟩ = some (.int .i64 3) := KW.cell (cell_of_blk P0 (i := 0) rfl)
    have z1 : ∀ u : KW W, u.val.cell? ⟨B, 1, none⟩ = some (.int .i64 a) := KW.cell (cell_of_blk P0 (i := 1) rfl)
    have z2 : ∀ u : KW W, u.val.cell? ⟨B, 2, none⟩ = some (.int .i64 b) := KW.cell (cell_of_blk P0 (i := 2) rfl)
    refine wp_region_kept (by kernel_rfl) (by kernel_rfl) ?_
    repeat (first | go_big_quiet_step ((first | (go_at_call 19; exact Calls.kw_of (rwhere_is HQ.out _)) | (go_at_call 12; exact Calls.kw_of (len_is HL.out _)))) | quiet_step ((first | (go_at_call 19; exact Calls.kw_of (rwhere_is HQ.out _)) | (go_at_call 12; exact Calls.kw_of (len_is HL.out _)))))
    refine wpQuiet_nil ?_
    intro _ hw'
    obtain ⟨pq, hw''⟩ := hw'
    subst hw''
    have K1 := pq.kept
    generalize pq.val = W1 at K1 ⊢
    clear q0 q1 q2 q3 q4 q5 q6 z0 z1 z2 pq
    have Z1 := Z.kept K1 (by simp)
    have P1 := K1.blk P0 (by simp)
    have T1 := K0.trans K1
    have G1 : Hid (Tab W1) := Tab.kept HT.out K1
    clear HT Z K0 K1 P0
    have q0 := cell_of_blk Z1 (i := 0) rfl
    have q1 := cell_of_blk Z1 (i := 1) rfl
    have q2 := cell_of_blk Z1 (i := 2) rfl
    have q3 := cell_of_blk Z1 (i := 3) rfl
    have q4 := cell_of_blk Z1 (i := 4) rfl
    have q5 := cell_of_blk Z1 (i := 5) rfl
    have q6 := cell_of_blk Z1 (i := 6) rfl
    have z0 := cell_of_blk P1 (i := 0) rfl
    have z1 := cell_of_blk P1 (i := 1) rfl
    have z2 := cell_of_blk P1 (i := 2) rfl
    go_wp2_with fail
    refine (alive_any _ (by exact G1.out)).mono ?_
    rintro e W2 ⟨rfl, K2⟩
    have Z2 := Z1.kept K2 (by simp)
    have P2 := K2.blk P1 (by simp)
    have T2 := T1.trans K2
    clear Z1 T1 K2 P1 q0 q1 q2 q3 q4 q5 q6 z0 z1 z2
    have q0 := cell_of_blk Z2 (i := 0) rfl
    have q1 := cell_of_blk Z2 (i := 1) rfl
    have q2 := cell_of_blk Z2 (i := 2) rfl
    have q3 := cell_of_blk Z2 (i := 3) rfl
    have q4 := cell_of_blk Z2 (i := 4) rfl
    have q5 := cell_of_blk Z2 (i := 5) rfl
    have q6 := cell_of_blk Z2 (i := 6) rfl
    have z0 := cell_of_blk P2 (i := 0) rfl
    have z1 := cell_of_blk P2 (i := 1) rfl
    have z2 := cell_of_blk P2 (i := 2) rfl
    go_wp2_with fail
    refine (cell_is HX.out _).mono ?_
    rintro e W3 ⟨rfl, K3⟩
    have Z3 := Z2.kept K3 (by simp)
    have P3 := K3.blk P2 (by simp)
    have T3 := T2.trans K3
    clear Z2 T2 K3 P2 q0 q1 q2 q3 q4 q5 q6 z0 z1 z2
    have z0 := cell_of_blk P3 (i := 0) rfl
    have z1 := cell_of_blk P3 (i := 1) rfl
    have z2 := cell_of_blk P3 (i := 2) rfl
    go_wp2
    go_ret
    exact ⟨rfl, T3⟩

set_option maxRecDepth 100000 in
theorem planWhere_lifted (os : Os) (started : os.Started) (H : Type) (enc : TypeId × Value → H) :
    ReturnsInHanded {} Tryd.checked os 5 .any (fun w args => (Rows.planWhereSpec.pre enc Tryd.prog Tryd.f5 [] false w args ∧ laidMetH Tryd.prog laid1 w) ∧ sizedMet enc Tryd.prog Tryd.f5 (OpenSpec.ofChange Rows.planWhereSpec) false w args)
      (Rows.planWhereSpec.post enc Tryd.prog Tryd.f5 false true false false) := by
  refine returnsInHanded_of_change_and (C := Tryd.checked) (X := fun w _ => laidMetH Tryd.prog laid1 w) (fun _ _ _ hh h => h.of_heap hh) own started (by kernel_rfl) Tryd.func5
    (ChangeSpec.witness_shaped (enc := enc) (C := Tryd.checked) (os := os) (X := fun w _ => laidMetH Tryd.prog laid1 w) false (World.doorLaid Tryd.prog 400 os) #[.agg #[.int .i64 0, .int .i64 0, .int .i64 0, .int .i64 0, .int .i64 0, .int .i64 0, .int .i64 0], .int .i64 0] 8 rfl (World.shaped_of_RefB (by kernel_rfl) (by kernel_rfl)) (by kernel_rfl) (by kernel_rfl) (by kernel_rfl) (door_met os _)) ?_
  intro W base args ds gs before hval0 hW _ _ hL _
  have hval : ∀ (j : Nat) t v, Tryd.f5.params[j]? = some t → args[j]? = some v → Value.okWide Tryd.prog W .any base t v := hval0
  have hW' := hW
  obtain ⟨p, q, hA0, hV, rfl, _, _⟩ := hW
  have hA : DataW.TrodAll enc Tryd.prog W 0 (fun _ => true) true Tryd.f5.params.toList args.toList ds p := hA0
  rw [Tryd.params5] at hA hval
  clear hA0 hval0
  obtain ⟨v0, vs0, d0, ds0, p0, q0, hargs, rfl, rfl, h0, r0⟩ := trodAll_cons hA
  obtain ⟨v1, vs1, d1, ds1, p1, q1, rfl, rfl, rfl, h1, r1⟩ := trodAll_cons r0
  obtain ⟨rfl, rfl, rfl⟩ := trodAll_nil r1
  obtain rfl : args = #[v0, v1] := by cases args; simp_all
  obtain ⟨rfl, rfl⟩ := trodVars_none hV
  have k0 := h0
  have k1 := h1
  simp only [List.append_nil] at hW'
  have hlt0 : ∀ x ∈ p0, x.block < W.heap.size := fun x hx => hW'.lt x (by simp [hx])
  have hlt1 : ∀ x ∈ p1, x.block < W.heap.size := fun x hx => hW'.lt x (by simp [hx])
  obtain ⟨c0, rfl, g0⟩ := open_cfg (hval 0 23 v0 rfl rfl) h0
  obtain ⟨a1, rfl, rfl, rfl, w1⟩ := open_int Tryd.underlying3 (hval 1 3 v1 rfl rfl) h1
  refine (planWhere_walk W c0 g0 a1 w1 (tab_of_laid hL)).mono fun e W' ⟨he, hg⟩ => ?_
  subst he
  have hb := hg.below (by simp)
  exact ⟨_, rfl, _, _, _, [], _, [], hW', (trodAll_cons_mk (shut_bool Tryd.underlying4 _) trodAll_mk0), (trodAll_cons_mk (Below.trod laidOut (by kernel_rfl) (of_decide_eq_true (by kernel_rfl)) k0 hb hlt0) (trodAll_cons_mk (Below.trod laidOut (by kernel_rfl) (of_decide_eq_true (by kernel_rfl)) k1 hb hlt1) trodAll_mk0)), rfl, hb.frame _, fun h => by cases h⟩

theorem planWhere_over : Rows.PlanWhereSaid :=
  OpenClaim.holds_of_wide 5 Tryd.f5 rfl rfl rfl rfl rfl rfl rfl ⟨rfl, rfl, rfl, rfl, rfl⟩ rfl rfl rfl rfl rfl (by kernel_rfl) Tryd.func5 (by kernel_rfl)
    (of_decide_eq_true (by kernel_rfl)) (by unfold Func.isWrapper; first | (rw [if_pos (by decide +kernel)]; kernel_rfl) | (rw [if_neg (by decide +kernel)]; exact ⟨rfl, rfl⟩))
    (fun os started H enc _ => planWhere_lifted os started H enc)

theorem planWhere_holds : Rows.PlanWhereCardSaid :=
  Claim7.holds_tied_plain_at .later [] [.data] true (true, "e3d404ef9abe130c130384d299250e9f91cc40664bec313a866518bcdb2f0e4d") false
    planWhere_over (fun _ h => by cases h) (by kernel_rfl) (fun _ h => by cases h) planWhere_row_tie rfl ⟨rfl, rfl⟩ (by kernel_rfl) rfl
    (fun f fn hf hfn => by
      obtain rfl : f = 5 := Option.some.inj ((show Tryd.prog.funcNamed "stepstone/stepstonelaw04.PlanWhere" = some 5 by kernel_rfl).symm.trans hf) |>.symm
      obtain rfl : fn = Tryd.f5 := (Option.some.inj (Tryd.func5.symm.trans hfn)).symm
      exact ⟨by kernel_rfl, fun j t ht => by
          rw [Tryd.params5] at ht
          rcases j with _ | j
          · have : t = 23 := by simpa using ht.symm
            subst this; exact (show Tryd.prog.wantsStandIn 23 = false by kernel_rfl)
          rcases j with _ | j
          · have : t = 3 := by simpa using ht.symm
            subst this; exact (show Tryd.prog.wantsStandIn 3 = false by kernel_rfl)
          simp at ht⟩)
    (by kernel_rfl)
#print axioms planWhere_holds
end Go.Proofs.YtgbgaphmoemokaaDoor

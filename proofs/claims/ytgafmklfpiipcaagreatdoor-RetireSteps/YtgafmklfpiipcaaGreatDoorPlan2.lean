/-
  The contracts of plan.checked, Reserved, Cell and Head, in any world (Head: whose table reads as the text lays it).
-/
import Derived.Test.YtgafmklfpiipcaaGreatDoorPlan
import Derived.Test.YtgafmklfpiipcaaGreatDoorEqPlc
namespace Go.Proofs.YtgafmklfpiipcaaGreatDoor
set_option maxRecDepth 100000
open Go.RowKit (Grown Hid Below)
open Go.Deep
theorem where_is {c : Cfg} {x : Int} {q : Plc} (h : whV c x = q) (w : World) : Calls Tryz.prog 108 #[.agg #[.int .i64 c.t, .int .i64 c.s, .int .i64 c.c, .int .i64 c.h, .int .i64 c.k, .int .i64 c.e, .int .i64 c.l], .int .i64 x] w fun e w' => e = .returned (.agg #[.int .i64 q.k, .int .i64 q.a, .int .i64 q.b]) ∧ Kept [] w w' := h ▸ where_any c x w
set_option maxRecDepth 100000 in
set_option maxHeartbeats 1000000 in
theorem checked_any (c : Cfg) (x : Int) (p : Plc) (w : World) : Calls Tryz.prog 102 #[c.val, .int .i64 x, p.val] w fun e w' => e = .returned (.int .i64 (ckV c x p)) ∧ Kept [] w w' := by
  simp only [Cfg.val, Plc.val]
  have Z0 := CB_new2 w c (.cells #[.int .i64 p.k, .int .i64 p.a, .int .i64 p.b] 164)
  have P0 := PB_new w (.cells #[.int .i64 c.t, .int .i64 c.s, .int .i64 c.c, .int .i64 c.h, .int .i64 c.k, .int .i64 c.e, .int .i64 c.l] 23) (.cells #[.int .i64 p.k, .int .i64 p.a, .int .i64 p.b] 164)
  have K0 : Kept [] w ((w.alloc (.cells #[.int .i64 c.t, .int .i64 c.s, .int .i64 c.c, .int .i64 c.h, .int .i64 c.k, .int .i64 c.e, .int .i64 c.l] 23)).alloc (.cells #[.int .i64 p.k, .int .i64 p.a, .int .i64 p.b] 164)) := ((Kept.refl _ _).alloc _).alloc _
  have heq := eq_place
  obtain ⟨q, hq⟩ : ∃ q, whV c x = q := ⟨_, rfl⟩
  have HQ : Hid _ := hq
  unfold ckV
  rw [hq]
  clear hq
  have D : q = p ∨ (q.k == p.k) = false ∨ ((q.k == p.k) = true ∧ (q.a == p.a) = false) ∨ ((q.k == p.k) = true ∧ (q.a == p.a) = true ∧ (q.b == p.b) = false) := by
    obtain ⟨a, b, d⟩ := q
    obtain ⟨a', b', d'⟩ := p
    simp only [Plc.mk.injEq, beq_eq_false_iff_ne, beq_iff_eq]
    omega
  rcases D with D | D
  · subst D
    rw [if_pos rfl]
    go_enter Tryz.func102, Tryz.ntmps102
    go_wp2_with fail
    generalize (w.alloc (.cells #[.int .i64 c.t, .int .i64 c.s, .int .i64 c.c, .int .i64 c.h, .int .i64 c.k, .int .i64 c.e, .int .i64 c.l] 23)).alloc (.cells #[.int .i64 q.k, .int .i64 q.a, .int .i64 q.b] 164) = w1 at Z0 P0 K0 ⊢
    have q0 : ∀ u : KW w1, u.val.cell? ⟨w.heap.size, 0, none⟩ = some (.int .i64 c.t) := KW.cell (cell_of_blk Z0 (i := 0) rfl)
    have q1 : ∀ u : KW w1, u.val.cell? ⟨w.heap.size, 1, none⟩ = some (.int .i64 c.s) := KW.cell (cell_of_blk Z0 (i := 1) rfl)
    have q2 : ∀ u : KW w1, u.val.cell? ⟨w.heap.size, 2, none⟩ = some (.int .i64 c.c) := KW.cell (cell_of_blk Z0 (i := 2) rfl)
    have q3 : ∀ u : KW w1, u.val.cell? ⟨w.heap.size, 3, none⟩ = some (.int .i64 c.h) := KW.cell (cell_of_blk Z0 (i := 3) rfl)
    have q4 : ∀ u : KW w1, u.val.cell? ⟨w.heap.size, 4, none⟩ = some (.int .i64 c.k) := KW.cell (cell_of_blk Z0 (i := 4) rfl)
    have q5 : ∀ u : KW w1, u.val.cell? ⟨w.heap.size, 5, none⟩ = some (.int .i64 c.e) := KW.cell (cell_of_blk Z0 (i := 5) rfl)
    have q6 : ∀ u : KW w1, u.val.cell? ⟨w.heap.size, 6, none⟩ = some (.int .i64 c.l) := KW.cell (cell_of_blk Z0 (i := 6) rfl)
    have z0 : ∀ u : KW w1, u.val.cell? ⟨w.heap.size + 1, 0, none⟩ = some (.int .i64 q.k) := KW.cell (cell_of_blk P0 (i := 0) rfl)
    have z1 : ∀ u : KW w1, u.val.cell? ⟨w.heap.size + 1, 1, none⟩ = some (.int .i64 q.a) := KW.cell (cell_of_blk P0 (i := 1) rfl)
    have z2 : ∀ u : KW w1, u.val.cell? ⟨w.heap.size + 1, 2, none⟩ = some (.int .i64 q.b) := KW.cell (cell_of_blk P0 (i := 2) rfl)
    refine wp_region_kept (by kernel_rfl) (by kernel_rfl) ?_
    repeat (first | go_big_quiet_step ((go_at_call 108; exact Calls.kw_of (where_is HQ.out _))) | quiet_step ((go_at_call 108; exact Calls.kw_of (where_is HQ.out _))))
    refine wpQuiet_nil ?_
    intro _ hw'
    obtain ⟨pq, hw''⟩ := hw'
    subst hw''
    go_wp2
    go_ret
    exact ⟨rfl, K0.trans pq.kept⟩
  have hne : ¬ q = p := by
    rintro rfl; simp at D
  rw [if_neg hne]
  clear hne
  rcases D with e1 | ⟨e1, e2⟩ | ⟨e1, e2, e3⟩
  all_goals
    go_enter Tryz.func102, Tryz.ntmps102
    go_wp2_with fail
    generalize (w.alloc (.cells #[.int .i64 c.t, .int .i64 c.s, .int .i64 c.c, .int .i64 c.h, .int .i64 c.k, .int .i64 c.e, .int .i64 c.l] 23)).alloc (.cells #[.int .i64 p.k, .int .i64 p.a, .int .i64 p.b] 164) = w1 at Z0 P0 K0 ⊢
    have q0 : ∀ u : KW w1, u.val.cell? ⟨w.heap.size, 0, none⟩ = some (.int .i64 c.t) := KW.cell (cell_of_blk Z0 (i := 0) rfl)
    have q1 : ∀ u : KW w1, u.val.cell? ⟨w.heap.size, 1, none⟩ = some (.int .i64 c.s) := KW.cell (cell_of_blk Z0 (i := 1) rfl)
    have q2 : ∀ u : KW w1, u.val.cell? ⟨w.heap.size, 2, none⟩ = some (.int .i64 c.c) := KW.cell (cell_of_blk Z0 (i := 2) rfl)
    have q3 : ∀ u : KW w1, u.val.cell? ⟨w.heap.size, 3, none⟩ = some (.int .i64 c.h) := KW.cell (cell_of_blk Z0 (i := 3) rfl)
    have q4 : ∀ u : KW w1, u.val.cell? ⟨w.heap.size, 4, none⟩ = some (.int .i64 c.k) := KW.cell (cell_of_blk Z0 (i := 4) rfl)
    have q5 : ∀ u : KW w1, u.val.cell? ⟨w.heap.size, 5, none⟩ = some (.int .i64 c.e) := KW.cell (cell_of_blk Z0 (i := 5) rfl)
    have q6 : ∀ u : KW w1, u.val.cell? ⟨w.heap.size, 6, none⟩ = some (.int .i64 c.l) := KW.cell (cell_of_blk Z0 (i := 6) rfl)
    have z0 : ∀ u : KW w1, u.val.cell? ⟨w.heap.size + 1, 0, none⟩ = some (.int .i64 p.k) := KW.cell (cell_of_blk P0 (i := 0) rfl)
    have z1 : ∀ u : KW w1, u.val.cell? ⟨w.heap.size + 1, 1, none⟩ = some (.int .i64 p.a) := KW.cell (cell_of_blk P0 (i := 1) rfl)
    have z2 : ∀ u : KW w1, u.val.cell? ⟨w.heap.size + 1, 2, none⟩ = some (.int .i64 p.b) := KW.cell (cell_of_blk P0 (i := 2) rfl)
    refine wp_region_kept (by kernel_rfl) (by kernel_rfl) ?_
    repeat (first | go_big_quiet_step ((go_at_call 108; exact Calls.kw_of (where_is HQ.out _))) | quiet_step ((go_at_call 108; exact Calls.kw_of (where_is HQ.out _))))
    refine wpQuiet_nil ?_
    intro _ hw'
    obtain ⟨pq, hw''⟩ := hw'
    subst hw''
    go_wp2
    go_ret
    exact ⟨rfl, K0.trans pq.kept⟩
theorem checked_is {c : Cfg} {x k a b v : Int} (h : ckV c x ⟨k, a, b⟩ = v) (w : World) : Calls Tryz.prog 102 #[.agg #[.int .i64 c.t, .int .i64 c.s, .int .i64 c.c, .int .i64 c.h, .int .i64 c.k, .int .i64 c.e, .int .i64 c.l], .int .i64 x, .agg #[.int .i64 k, .int .i64 a, .int .i64 b]] w fun e w' => e = .returned (.int .i64 v) ∧ Kept [] w w' := h ▸ checked_any c x ⟨k, a, b⟩ w
set_option maxRecDepth 100000 in
set_option maxHeartbeats 1000000 in
theorem reserved_any (c : Cfg) (a b : Int) (w : World) : Calls Tryz.prog 121 #[c.val, .int .i64 a, .int .i64 b] w fun e w' => e = .returned (.int .i64 (rsV c a b)) ∧ Kept [] w w' := by
  simp only [Cfg.val]
  have K0 : Kept [] w (w.alloc (.cells #[.int .i64 c.t, .int .i64 c.s, .int .i64 c.c, .int .i64 c.h, .int .i64 c.k, .int .i64 c.e, .int .i64 c.l] 23)) := (Kept.refl _ _).alloc _
  go_enter Tryz.func121, Tryz.ntmps121
  go_wp2_with fail
  refine (checked_is (ck_rs c a b) _).mono ?_
  rintro e w1 ⟨rfl, K1⟩
  go_wp2
  go_ret
  exact ⟨rfl, K0.trans K1⟩
set_option maxRecDepth 100000 in
set_option maxHeartbeats 1000000 in
theorem cell_any (c : Cfg) (a b : Int) (w : World) : Calls Tryz.prog 85 #[c.val, .int .i64 a, .int .i64 b] w fun e w' => e = .returned (.int .i64 (clV' c a b)) ∧ Kept [] w w' := by
  simp only [Cfg.val]
  have Z0 := CB.new w c
  have K0 : Kept [] w (w.alloc (.cells #[.int .i64 c.t, .int .i64 c.s, .int .i64 c.c, .int .i64 c.h, .int .i64 c.k, .int .i64 c.e, .int .i64 c.l] 23)) := (Kept.refl _ _).alloc _
  go_enter Tryz.func85, Tryz.ntmps85
  go_wp2_with fail
  generalize w.alloc (.cells #[.int .i64 c.t, .int .i64 c.s, .int .i64 c.c, .int .i64 c.h, .int .i64 c.k, .int .i64 c.e, .int .i64 c.l] 23) = w1 at Z0 K0 ⊢
  have q0 : ∀ u : KW w1, u.val.cell? ⟨w.heap.size, 0, none⟩ = some (.int .i64 c.t) := KW.cell (cell_of_blk Z0 (i := 0) rfl)
  have q1 : ∀ u : KW w1, u.val.cell? ⟨w.heap.size, 1, none⟩ = some (.int .i64 c.s) := KW.cell (cell_of_blk Z0 (i := 1) rfl)
  have q2 : ∀ u : KW w1, u.val.cell? ⟨w.heap.size, 2, none⟩ = some (.int .i64 c.c) := KW.cell (cell_of_blk Z0 (i := 2) rfl)
  have q3 : ∀ u : KW w1, u.val.cell? ⟨w.heap.size, 3, none⟩ = some (.int .i64 c.h) := KW.cell (cell_of_blk Z0 (i := 3) rfl)
  have q4 : ∀ u : KW w1, u.val.cell? ⟨w.heap.size, 4, none⟩ = some (.int .i64 c.k) := KW.cell (cell_of_blk Z0 (i := 4) rfl)
  have q5 : ∀ u : KW w1, u.val.cell? ⟨w.heap.size, 5, none⟩ = some (.int .i64 c.e) := KW.cell (cell_of_blk Z0 (i := 5) rfl)
  have q6 : ∀ u : KW w1, u.val.cell? ⟨w.heap.size, 6, none⟩ = some (.int .i64 c.l) := KW.cell (cell_of_blk Z0 (i := 6) rfl)
  refine wp_region_kept (by kernel_rfl) (by kernel_rfl) ?_
  repeat (first | go_big_quiet_step ((first | (go_at_call 73; exact Calls.kw_of (first_any c _)) | (go_at_call 74; exact Calls.kw_of (fields_any c _)) | (go_at_call 102; exact Calls.kw_of (checked_is (ck_cl c a b) _)))) | quiet_step ((first | (go_at_call 73; exact Calls.kw_of (first_any c _)) | (go_at_call 74; exact Calls.kw_of (fields_any c _)) | (go_at_call 102; exact Calls.kw_of (checked_is (ck_cl c a b) _)))))
  refine wpQuiet_nil ?_
  intro _ hw'
  obtain ⟨pq, hw''⟩ := hw'
  subst hw''
  go_wp2
  go_ret
  exact ⟨rfl, K0.trans pq.kept⟩
theorem pack_head (w : World) (hT : Tab w) : Calls Tryz.prog 58 #[.int .i64 0, .int .i64 0, .bool false] w fun e w' => e = .returned (.tuple #[.int .u64 9223372036854775808, .bool true]) ∧ Kept [] w w' :=
  pack_in_false 0 0 w hT (by omega) (by omega) (by omega) (by omega)
set_option maxRecDepth 100000 in
theorem head_any (w : World) (hT : Tab w) : Calls Tryz.prog 29 #[] w fun e w' => e = .returned (.int .u64 9223372036854775808) ∧ Kept [] w w' := by
  go_enter Tryz.func29, Tryz.ntmps29
  go_wp2_with fail
  refine (pack_head _ hT).mono ?_
  rintro e w1 ⟨rfl, K1⟩
  go_wp2
  go_ret
  exact ⟨rfl, K1⟩
end Go.Proofs.YtgafmklfpiipcaaGreatDoor

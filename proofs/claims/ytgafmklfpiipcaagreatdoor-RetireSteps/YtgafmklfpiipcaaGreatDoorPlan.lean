/-
  The contracts of package plan, in any world.
-/
import Derived.Test.YtgafmklfpiipcaaGreatDoorCfg
import Derived.Test.YtgafmklfpiipcaaGreatDoorHPack
namespace Go.Proofs.YtgafmklfpiipcaaGreatDoor
open Go.RowKit (Grown Hid Below)
open Go.Deep

set_option maxRecDepth 100000 in
theorem within_any (n a b : Int) (w : World) : Calls Tryz.prog 72 #[.int .i64 n, .int .i64 a, .int .i64 b] w fun e w' => e = .returned (.bool (wiB n a b)) ∧ w' = w := by
  unfold wiB
  by_cases h : a ≤ n
  · have h1 : decide (a ≤ n) = true := decide_eq_true h
    go_enter Tryz.func72, Tryz.ntmps72
    go_wp2
    go_ret
    exact ⟨by rw [h1]; simp, rfl⟩
  · have h1 : decide (a ≤ n) = false := decide_eq_false h
    go_enter Tryz.func72, Tryz.ntmps72
    go_wp2
    go_ret
    exact ⟨rfl, rfl⟩
set_option maxRecDepth 100000 in
theorem first_any (c : Cfg) (w : World) : Calls Tryz.prog 73 #[c.val] w fun e w' => e = .returned (.int .i64 (ffV c)) ∧ Kept [] w w' := by
  simp only [Cfg.val]
  go_enter Tryz.func73, Tryz.ntmps73
  go_wp2
  go_ret
  exact ⟨rfl, (Kept.refl _ _).alloc _⟩
set_option maxRecDepth 100000 in
theorem fields_any (c : Cfg) (w : World) : Calls Tryz.prog 74 #[c.val] w fun e w' => e = .returned (.int .i64 (fdV c)) ∧ Kept [] w w' := by
  simp only [Cfg.val]
  go_enter Tryz.func74, Tryz.ntmps74
  go_wp2
  go_ret
  exact ⟨rfl, (Kept.refl _ _).alloc _⟩
set_option maxRecDepth 100000 in
theorem split_at (k n d : Int) (w : World) (hn : 0 ≤ n) (hn1 : n ≤ 9223372036854775807) (hd : 1 ≤ d) : Calls Tryz.prog 114 #[.int .i64 k, .int .i64 n, .int .i64 d] w fun e w' => e = .returned (Plc.val ⟨k, n / d, n % d⟩) ∧ Kept [] w w' := by
  go_enter Tryz.func114, Tryz.ntmps114
  go_wp2
  go_region
  all_goals
    go_wp2
    exact bodyPost_ret (v := Plc.val ⟨k, n / d, n % d⟩) (by simp [results, Tryz.results114, go_sem, Plc.val]) rfl ⟨rfl, ((Kept.refl [] _).alloc _).drew⟩
/- made by gen-plan -/
theorem within_is {n a b : Int} {v : Bool} (h : wiB n a b = v) (w : World) : Calls Tryz.prog 72 #[.int .i64 n, .int .i64 a, .int .i64 b] w fun e w' => e = .returned (.bool v) ∧ w' = w := h ▸ within_any n a b w
theorem riB_first (c : Cfg) : (wiB c.t 1 8 = false) ∨ (wiB c.t 1 8 = true ∧ wiB c.s 1 8 = false) ∨ (wiB c.t 1 8 = true ∧ wiB c.s 1 8 = true ∧ wiB c.c 1 64 = false) ∨ (wiB c.t 1 8 = true ∧ wiB c.s 1 8 = true ∧ wiB c.c 1 64 = true ∧ wiB c.h 1 6 = false) ∨ (wiB c.t 1 8 = true ∧ wiB c.s 1 8 = true ∧ wiB c.c 1 64 = true ∧ wiB c.h 1 6 = true ∧ wiB c.k 1 64 = false) ∨ (wiB c.t 1 8 = true ∧ wiB c.s 1 8 = true ∧ wiB c.c 1 64 = true ∧ wiB c.h 1 6 = true ∧ wiB c.k 1 64 = true ∧ wiB c.e 1 64 = false) ∨ (wiB c.t 1 8 = true ∧ wiB c.s 1 8 = true ∧ wiB c.c 1 64 = true ∧ wiB c.h 1 6 = true ∧ wiB c.k 1 64 = true ∧ wiB c.e 1 64 = true ∧ wiB c.l 0 1073741823 = false) ∨ (wiB c.t 1 8 = true ∧ wiB c.s 1 8 = true ∧ wiB c.c 1 64 = true ∧ wiB c.h 1 6 = true ∧ wiB c.k 1 64 = true ∧ wiB c.e 1 64 = true ∧ wiB c.l 0 1073741823 = true) := by
  cases wiB c.t 1 8 <;> cases wiB c.s 1 8 <;> cases wiB c.c 1 64 <;> cases wiB c.h 1 6 <;> cases wiB c.k 1 64 <;> cases wiB c.e 1 64 <;> cases wiB c.l 0 1073741823 <;> simp
set_option maxRecDepth 100000 in
set_option maxHeartbeats 1000000 in
theorem right_any (c : Cfg) (w : World) : Calls Tryz.prog 42 #[c.val] w fun e w' => e = .returned (.bool (riB c)) ∧ Kept [] w w' := by
  simp only [Cfg.val]
  rcases riB_first c with h0 | ⟨h0, h1⟩ | ⟨h0, h1, h2⟩ | ⟨h0, h1, h2, h3⟩ | ⟨h0, h1, h2, h3, h4⟩ | ⟨h0, h1, h2, h3, h4, h5⟩ | ⟨h0, h1, h2, h3, h4, h5, h6⟩ | ⟨h0, h1, h2, h3, h4, h5, h6⟩
  · have hr : riB c = false := by simp [riB, h0]
    rw [hr]
    clear hr
    have H0 : Hid _ := h0
    clear h0
    go_enter Tryz.func42, Tryz.ntmps42
    go_wp2_with fail
    refine (within_is H0.out _).mono ?_
    rintro e w0 ⟨rfl, rfl⟩
    go_wp2
    go_ret
    exact ⟨rfl, (Kept.refl _ _).alloc _⟩
  · have hr : riB c = false := by simp [riB, h0, h1]
    rw [hr]
    clear hr
    have H0 : Hid _ := h0
    clear h0
    have H1 : Hid _ := h1
    clear h1
    go_enter Tryz.func42, Tryz.ntmps42
    go_wp2_with fail
    refine (within_is H0.out _).mono ?_
    rintro e w0 ⟨rfl, rfl⟩
    go_wp2_with fail
    refine (within_is H1.out _).mono ?_
    rintro e w1 ⟨rfl, rfl⟩
    go_wp2
    go_ret
    exact ⟨rfl, (Kept.refl _ _).alloc _⟩
  · have hr : riB c = false := by simp [riB, h0, h1, h2]
    rw [hr]
    clear hr
    have H0 : Hid _ := h0
    clear h0
    have H1 : Hid _ := h1
    clear h1
    have H2 : Hid _ := h2
    clear h2
    go_enter Tryz.func42, Tryz.ntmps42
    go_wp2_with fail
    refine (within_is H0.out _).mono ?_
    rintro e w0 ⟨rfl, rfl⟩
    go_wp2_with fail
    refine (within_is H1.out _).mono ?_
    rintro e w1 ⟨rfl, rfl⟩
    go_wp2_with fail
    refine (within_is H2.out _).mono ?_
    rintro e w2 ⟨rfl, rfl⟩
    go_wp2
    go_ret
    exact ⟨rfl, (Kept.refl _ _).alloc _⟩
  · have hr : riB c = false := by simp [riB, h0, h1, h2, h3]
    rw [hr]
    clear hr
    have H0 : Hid _ := h0
    clear h0
    have H1 : Hid _ := h1
    clear h1
    have H2 : Hid _ := h2
    clear h2
    have H3 : Hid _ := h3
    clear h3
    go_enter Tryz.func42, Tryz.ntmps42
    go_wp2_with fail
    refine (within_is H0.out _).mono ?_
    rintro e w0 ⟨rfl, rfl⟩
    go_wp2_with fail
    refine (within_is H1.out _).mono ?_
    rintro e w1 ⟨rfl, rfl⟩
    go_wp2_with fail
    refine (within_is H2.out _).mono ?_
    rintro e w2 ⟨rfl, rfl⟩
    go_wp2_with fail
    refine (within_is H3.out _).mono ?_
    rintro e w3 ⟨rfl, rfl⟩
    go_wp2
    go_ret
    exact ⟨rfl, (Kept.refl _ _).alloc _⟩
  · have hr : riB c = false := by simp [riB, h0, h1, h2, h3, h4]
    rw [hr]
    clear hr
    have H0 : Hid _ := h0
    clear h0
    have H1 : Hid _ := h1
    clear h1
    have H2 : Hid _ := h2
    clear h2
    have H3 : Hid _ := h3
    clear h3
    have H4 : Hid _ := h4
    clear h4
    go_enter Tryz.func42, Tryz.ntmps42
    go_wp2_with fail
    refine (within_is H0.out _).mono ?_
    rintro e w0 ⟨rfl, rfl⟩
    go_wp2_with fail
    refine (within_is H1.out _).mono ?_
    rintro e w1 ⟨rfl, rfl⟩
    go_wp2_with fail
    refine (within_is H2.out _).mono ?_
    rintro e w2 ⟨rfl, rfl⟩
    go_wp2_with fail
    refine (within_is H3.out _).mono ?_
    rintro e w3 ⟨rfl, rfl⟩
    go_wp2_with fail
    refine (within_is H4.out _).mono ?_
    rintro e w4 ⟨rfl, rfl⟩
    go_wp2
    go_ret
    exact ⟨rfl, (Kept.refl _ _).alloc _⟩
  · have hr : riB c = false := by simp [riB, h0, h1, h2, h3, h4, h5]
    rw [hr]
    clear hr
    have H0 : Hid _ := h0
    clear h0
    have H1 : Hid _ := h1
    clear h1
    have H2 : Hid _ := h2
    clear h2
    have H3 : Hid _ := h3
    clear h3
    have H4 : Hid _ := h4
    clear h4
    have H5 : Hid _ := h5
    clear h5
    go_enter Tryz.func42, Tryz.ntmps42
    go_wp2_with fail
    refine (within_is H0.out _).mono ?_
    rintro e w0 ⟨rfl, rfl⟩
    go_wp2_with fail
    refine (within_is H1.out _).mono ?_
    rintro e w1 ⟨rfl, rfl⟩
    go_wp2_with fail
    refine (within_is H2.out _).mono ?_
    rintro e w2 ⟨rfl, rfl⟩
    go_wp2_with fail
    refine (within_is H3.out _).mono ?_
    rintro e w3 ⟨rfl, rfl⟩
    go_wp2_with fail
    refine (within_is H4.out _).mono ?_
    rintro e w4 ⟨rfl, rfl⟩
    go_wp2_with fail
    refine (within_is H5.out _).mono ?_
    rintro e w5 ⟨rfl, rfl⟩
    go_wp2
    go_ret
    exact ⟨rfl, (Kept.refl _ _).alloc _⟩
  · have hr : riB c = false := by simp [riB, h0, h1, h2, h3, h4, h5, h6]
    rw [hr]
    clear hr
    have H0 : Hid _ := h0
    clear h0
    have H1 : Hid _ := h1
    clear h1
    have H2 : Hid _ := h2
    clear h2
    have H3 : Hid _ := h3
    clear h3
    have H4 : Hid _ := h4
    clear h4
    have H5 : Hid _ := h5
    clear h5
    have H6 : Hid _ := h6
    clear h6
    go_enter Tryz.func42, Tryz.ntmps42
    go_wp2_with fail
    refine (within_is H0.out _).mono ?_
    rintro e w0 ⟨rfl, rfl⟩
    go_wp2_with fail
    refine (within_is H1.out _).mono ?_
    rintro e w1 ⟨rfl, rfl⟩
    go_wp2_with fail
    refine (within_is H2.out _).mono ?_
    rintro e w2 ⟨rfl, rfl⟩
    go_wp2_with fail
    refine (within_is H3.out _).mono ?_
    rintro e w3 ⟨rfl, rfl⟩
    go_wp2_with fail
    refine (within_is H4.out _).mono ?_
    rintro e w4 ⟨rfl, rfl⟩
    go_wp2_with fail
    refine (within_is H5.out _).mono ?_
    rintro e w5 ⟨rfl, rfl⟩
    go_wp2_with fail
    refine (within_is H6.out _).mono ?_
    rintro e w6 ⟨rfl, rfl⟩
    go_wp2
    go_ret
    exact ⟨rfl, (Kept.refl _ _).alloc _⟩
  · have hr : riB c = true := by simp [riB, h0, h1, h2, h3, h4, h5, h6]
    rw [hr]
    clear hr
    have H0 : Hid _ := h0
    clear h0
    have H1 : Hid _ := h1
    clear h1
    have H2 : Hid _ := h2
    clear h2
    have H3 : Hid _ := h3
    clear h3
    have H4 : Hid _ := h4
    clear h4
    have H5 : Hid _ := h5
    clear h5
    have H6 : Hid _ := h6
    clear h6
    go_enter Tryz.func42, Tryz.ntmps42
    go_wp2_with fail
    refine (within_is H0.out _).mono ?_
    rintro e w0 ⟨rfl, rfl⟩
    go_wp2_with fail
    refine (within_is H1.out _).mono ?_
    rintro e w1 ⟨rfl, rfl⟩
    go_wp2_with fail
    refine (within_is H2.out _).mono ?_
    rintro e w2 ⟨rfl, rfl⟩
    go_wp2_with fail
    refine (within_is H3.out _).mono ?_
    rintro e w3 ⟨rfl, rfl⟩
    go_wp2_with fail
    refine (within_is H4.out _).mono ?_
    rintro e w4 ⟨rfl, rfl⟩
    go_wp2_with fail
    refine (within_is H5.out _).mono ?_
    rintro e w5 ⟨rfl, rfl⟩
    go_wp2_with fail
    refine (within_is H6.out _).mono ?_
    rintro e w6 ⟨rfl, rfl⟩
    go_wp2
    go_ret
    exact ⟨rfl, (Kept.refl _ _).alloc _⟩
/-- A configuration's own block. -/
def CB (w : World) (b : Nat) (c : Cfg) : Prop := w.heap[b]? = some (.cells #[.int .i64 c.t, .int .i64 c.s, .int .i64 c.c, .int .i64 c.h, .int .i64 c.k, .int .i64 c.e, .int .i64 c.l] 23 (0, 0))
theorem CB.new (w : World) (c : Cfg) : CB (w.alloc (.cells #[.int .i64 c.t, .int .i64 c.s, .int .i64 c.c, .int .i64 c.h, .int .i64 c.k, .int .i64 c.e, .int .i64 c.l] 23)) w.heap.size c := blk_alloc_new w _
theorem CB.kept {l : List Nat} {w w' : World} {b : Nat} {c : Cfg} (h : CB w b c) (k : Kept l w w') (hb : b ∉ l) : CB w' b c := k.blk h hb
theorem right_is {c : Cfg} {v : Bool} (h : riB c = v) (w : World) : Calls Tryz.prog 42 #[.agg #[.int .i64 c.t, .int .i64 c.s, .int .i64 c.c, .int .i64 c.h, .int .i64 c.k, .int .i64 c.e, .int .i64 c.l]] w fun e w' => e = .returned (.bool v) ∧ Kept [] w w' := h ▸ right_any c w
set_option maxRecDepth 100000 in
set_option maxHeartbeats 1000000 in
theorem len_any (c : Cfg) (w : World) : Calls Tryz.prog 43 #[c.val] w fun e w' => e = .returned (.int .i64 (lnV c)) ∧ Kept [] w w' := by
  simp only [Cfg.val]
  have Z0 := CB.new w c
  have K0 : Kept [] w (w.alloc (.cells #[.int .i64 c.t, .int .i64 c.s, .int .i64 c.c, .int .i64 c.h, .int .i64 c.k, .int .i64 c.e, .int .i64 c.l] 23)) := (Kept.refl _ _).alloc _
  cases hr : riB c
  · rw [ln_no hr]
    have HR : Hid _ := hr
    clear hr Z0
    go_enter Tryz.func43, Tryz.ntmps43
    go_wp2_with fail
    refine (right_is HR.out _).mono ?_
    rintro e w1 ⟨rfl, K1⟩
    go_wp2
    go_ret
    exact ⟨rfl, K0.trans K1⟩
  · have R := riB_true.1 hr
    have HL : Hid (lnV c = ffV c + (c.c + 1) * fdV c) := by unfold Hid; rw [ln_yes hr, ff_eq R, fd_eq R]
    obtain ⟨f0, f1⟩ : 0 ≤ ffV c ∧ ffV c ≤ 65 := by rw [ff_eq R]; have := ts_bd R; omega
    obtain ⟨g0, g1⟩ : 0 ≤ (c.c + 1) * fdV c ∧ (c.c + 1) * fdV c ≤ 780 := by rw [fd_eq R]; have := cf_bd R; omega
    obtain ⟨c0, c1⟩ : 1 ≤ c.c ∧ c.c ≤ 64 := ⟨R.c0, R.c1⟩
    have HR : Hid _ := hr
    clear hr R
    go_enter Tryz.func43, Tryz.ntmps43
    go_wp2_with fail
    refine (right_is HR.out _).mono ?_
    rintro e w1 ⟨rfl, K1⟩
    have Z1 := Z0.kept K1 (by simp)
    have T1 := K0.trans K1
    clear K0 K1 Z0
    have q0 : ∀ p : KW w1, p.val.cell? ⟨w.heap.size, 0, none⟩ = some (.int .i64 c.t) := KW.cell (cell_of_blk Z1 (i := 0) rfl)
    have q1 : ∀ p : KW w1, p.val.cell? ⟨w.heap.size, 1, none⟩ = some (.int .i64 c.s) := KW.cell (cell_of_blk Z1 (i := 1) rfl)
    have q2 : ∀ p : KW w1, p.val.cell? ⟨w.heap.size, 2, none⟩ = some (.int .i64 c.c) := KW.cell (cell_of_blk Z1 (i := 2) rfl)
    have q3 : ∀ p : KW w1, p.val.cell? ⟨w.heap.size, 3, none⟩ = some (.int .i64 c.h) := KW.cell (cell_of_blk Z1 (i := 3) rfl)
    have q4 : ∀ p : KW w1, p.val.cell? ⟨w.heap.size, 4, none⟩ = some (.int .i64 c.k) := KW.cell (cell_of_blk Z1 (i := 4) rfl)
    have q5 : ∀ p : KW w1, p.val.cell? ⟨w.heap.size, 5, none⟩ = some (.int .i64 c.e) := KW.cell (cell_of_blk Z1 (i := 5) rfl)
    have q6 : ∀ p : KW w1, p.val.cell? ⟨w.heap.size, 6, none⟩ = some (.int .i64 c.l) := KW.cell (cell_of_blk Z1 (i := 6) rfl)
    go_wp2_with fail
    refine wp_region_kept (by kernel_rfl) (by kernel_rfl) ?_
    repeat (first | go_big_quiet_step ((first | (go_at_call 73; exact Calls.kw_of (first_any c _)) | (go_at_call 74; exact Calls.kw_of (fields_any c _)))) | quiet_step ((first | (go_at_call 73; exact Calls.kw_of (first_any c _)) | (go_at_call 74; exact Calls.kw_of (fields_any c _)))))
    refine wpQuiet_nil ?_
    intro _ hw'
    obtain ⟨pq, hw''⟩ := hw'
    subst hw''
    go_wp2
    go_ret
    rw [HL.out]
    exact ⟨rfl, T1.trans pq.kept⟩
theorem PB_new (w : World) (o : Obj) (o2 : Obj) : ((w.alloc o).alloc o2).heap[w.heap.size + 1]? = some o2 := by
  have := blk_alloc_new (w.alloc o) o2
  rwa [nblk_alloc] at this
theorem CB_new2 (w : World) (c : Cfg) (o2 : Obj) : CB ((w.alloc (.cells #[.int .i64 c.t, .int .i64 c.s, .int .i64 c.c, .int .i64 c.h, .int .i64 c.k, .int .i64 c.e, .int .i64 c.l] 23)).alloc o2) w.heap.size c := (CB.new w c).kept ((Kept.refl [] _).alloc o2) (by simp)
theorem len_at (c : Cfg) (w : World) : Calls Tryz.prog 43 #[.agg #[.int .i64 c.t, .int .i64 c.s, .int .i64 c.c, .int .i64 c.h, .int .i64 c.k, .int .i64 c.e, .int .i64 c.l]] w fun e w' => e = .returned (.int .i64 (lnV c)) ∧ Kept [] w w' := len_any c w
theorem first_at {c : Cfg} {v : Int} (h : ffV c = v) (w : World) : Calls Tryz.prog 73 #[.agg #[.int .i64 c.t, .int .i64 c.s, .int .i64 c.c, .int .i64 c.h, .int .i64 c.k, .int .i64 c.e, .int .i64 c.l]] w fun e w' => e = .returned (.int .i64 v) ∧ Kept [] w w' := h ▸ first_any c w
theorem fields_at {c : Cfg} {v : Int} (h : fdV c = v) (w : World) : Calls Tryz.prog 74 #[.agg #[.int .i64 c.t, .int .i64 c.s, .int .i64 c.c, .int .i64 c.h, .int .i64 c.k, .int .i64 c.e, .int .i64 c.l]] w fun e w' => e = .returned (.int .i64 v) ∧ Kept [] w w' := h ▸ fields_any c w
theorem kept_set3 {w w' : World} {b : Nat} (h : Kept [] w w') (hb : w.heap.size ≤ b) (x y z : Value) : Kept [] w (((w'.setCell ⟨b, 0, none⟩ x).setCell ⟨b, 1, none⟩ y).setCell ⟨b, 2, none⟩ z) :=
  ((h.setCell (p := ⟨b, 0, none⟩) (Or.inr hb) x).setCell (p := ⟨b, 1, none⟩) (Or.inr hb) y).setCell (p := ⟨b, 2, none⟩) (Or.inr hb) z
theorem split_is {k n d A B : Int} (w : World) (hn : 0 ≤ n) (hn1 : n ≤ 9223372036854775807) (hd : 1 ≤ d) (hA : n / d = A) (hB : n % d = B) : Calls Tryz.prog 114 #[.int .i64 k, .int .i64 n, .int .i64 d] w fun e w' => e = .returned (Plc.val ⟨k, A, B⟩) ∧ Kept [] w w' := by
  subst hA hB; exact split_at k n d w hn hn1 hd
set_option maxRecDepth 100000 in
set_option maxHeartbeats 1000000 in
theorem where_any (c : Cfg) (x : Int) (w : World) : Calls Tryz.prog 108 #[c.val, .int .i64 x] w fun e w' => e = .returned (whV c x).val ∧ Kept [] w w' := by
  simp only [Cfg.val]
  have Z0 := CB_new2 w c (.cells #[.int .i64 0, .int .i64 0, .int .i64 0] 164)
  have P0 := PB_new w (.cells #[.int .i64 c.t, .int .i64 c.s, .int .i64 c.c, .int .i64 c.h, .int .i64 c.k, .int .i64 c.e, .int .i64 c.l] 23) (.cells #[.int .i64 0, .int .i64 0, .int .i64 0] 164)
  have K0 : Kept [] w ((w.alloc (.cells #[.int .i64 c.t, .int .i64 c.s, .int .i64 c.c, .int .i64 c.h, .int .i64 c.k, .int .i64 c.e, .int .i64 c.l] 23)).alloc (.cells #[.int .i64 0, .int .i64 0, .int .i64 0] 164)) := ((Kept.refl _ _).alloc _).alloc _
  have HB : Hid _ := ln_bd c
  obtain ⟨b0, b1⟩ := ln_bd c
  cases hw : wiB x 0 (lnV c - 1)
  · have e : whV c x = ⟨0, 0, 0⟩ := by
      unfold whV; rw [if_neg]
      rintro ⟨h0, h1⟩
      rw [wiB_true.2 ⟨h0, by omega⟩] at hw; cases hw
    rw [e]
    have HW : Hid _ := hw
    clear hw e
    go_enter Tryz.func108, Tryz.ntmps108
    go_wp2_with fail
    refine (len_at c _).mono ?_
    rintro e w1 ⟨rfl, K1⟩
    have P1 := K1.blk P0 (by simp)
    have T1 := K0.trans K1
    have c0 := cell_of_blk P1 (i := 0) rfl
    have c1 := cell_of_blk P1 (i := 1) rfl
    have c2 := cell_of_blk P1 (i := 2) rfl
    have f0 := free_of_blk P1
    have l0 := lt_of_blk P1
    clear K1 P0 K0 P1 Z0
    go_wp2_with fail
    refine (within_is HW.out _).mono ?_
    rintro e w2 ⟨rfl, rfl⟩
    go_wp2
    exact bodyPost_ret (v := Plc.val ⟨0, 0, 0⟩) (by simp [results, Tryz.results108, go_sem, Plc.val, c0, c1, c2]) rfl ⟨rfl, kept_set3 T1 (by omega) _ _ _⟩
  obtain ⟨x0, x1⟩ := wiB_true.1 hw
  have hr : riB c = true := by
    cases h : riB c
    · rw [ln_no h] at x1; omega
    · rfl
  have HR : Hid (Rt c) := riB_true.1 hr
  have HW : Hid _ := hw
  clear hw
  by_cases h0 : x = 0
  · subst h0
    have e : whV c 0 = ⟨1, 0, 0⟩ := by unfold whV; rw [if_pos ⟨by omega, by omega⟩, if_pos rfl]
    rw [e]
    clear e hr
    go_enter Tryz.func108, Tryz.ntmps108
    go_wp2_with fail
    refine (len_at c _).mono ?_
    rintro e w1 ⟨rfl, K1⟩
    have P1 := K1.blk P0 (by simp)
    have T1 := K0.trans K1
    have c0 := cell_of_blk P1 (i := 0) rfl
    have c1 := cell_of_blk P1 (i := 1) rfl
    have c2 := cell_of_blk P1 (i := 2) rfl
    have f0 := free_of_blk P1
    have l0 := lt_of_blk P1
    clear K1 P0 K0 P1 Z0
    go_wp2_with fail
    refine (within_is HW.out _).mono ?_
    rintro e w2 ⟨rfl, rfl⟩
    go_wp2
    exact bodyPost_ret (v := Plc.val ⟨1, 0, 0⟩) (by simp [results, Tryz.results108, go_sem, Plc.val, c0, c1, c2]) rfl ⟨rfl, kept_set3 T1 (by omega) _ _ _⟩
  have x2 : 1 ≤ x := by omega
  obtain ⟨tb0, tb1⟩ := ts_bd HR.out
  have s0 := HR.out.s0
  have h6 := HR.out.h0
  by_cases hf : 1 + c.t * c.s ≤ x
  · have e : whV c x = ⟨3, (x - (1 + c.t * c.s)) / (6 + c.h), (x - (1 + c.t * c.s)) % (6 + c.h)⟩ := by unfold whV; rw [if_pos ⟨by omega, by omega⟩, if_neg h0, if_pos hf]
    rw [e]
    clear e hr h0
    have FE : Hid _ := ff_eq HR.out
    have DE : Hid _ := fd_eq HR.out
    have FL : Hid (1 ≤ 6 + c.h) := by unfold Hid; omega
    have fl : 1 ≤ 1 + c.t * c.s := by omega
    generalize 1 + c.t * c.s = ff at hf FE fl ⊢
    generalize 6 + c.h = fd at DE FL ⊢
    obtain ⟨A, hA⟩ : ∃ A, (x - ff) / fd = A := ⟨_, rfl⟩
    obtain ⟨B, hB⟩ : ∃ B, (x - ff) % fd = B := ⟨_, rfl⟩
    rw [hA, hB]
    have HA : Hid _ := hA
    have HB' : Hid _ := hB
    clear hA hB
    clear h6 s0
    go_enter Tryz.func108, Tryz.ntmps108
    go_wp2_with fail
    refine (len_at c _).mono ?_
    rintro e w1 ⟨rfl, K1⟩
    have P1 := K1.blk P0 (by simp)
    have Z1 := Z0.kept K1 (by simp)
    have T1 := K0.trans K1
    clear K1 P0 K0 Z0
    have q0 := cell_of_blk Z1 (i := 0) rfl
    have q1 := cell_of_blk Z1 (i := 1) rfl
    have q2 := cell_of_blk Z1 (i := 2) rfl
    have q3 := cell_of_blk Z1 (i := 3) rfl
    have q4 := cell_of_blk Z1 (i := 4) rfl
    have q5 := cell_of_blk Z1 (i := 5) rfl
    have q6 := cell_of_blk Z1 (i := 6) rfl
    go_wp2_with fail
    refine (within_is HW.out _).mono ?_
    rintro e w2 ⟨rfl, rfl⟩
    go_wp2_with fail
    refine (first_at FE.out _).mono ?_
    rintro e w3 ⟨rfl, K3⟩
    have P3 := K3.blk P1 (by simp)
    have Z3 := Z1.kept K3 (by simp)
    have T3 := T1.trans K3
    clear K3 P1 Z1 T1 q0 q1 q2 q3 q4 q5 q6
    have q0 := cell_of_blk Z3 (i := 0) rfl
    have q1 := cell_of_blk Z3 (i := 1) rfl
    have q2 := cell_of_blk Z3 (i := 2) rfl
    have q3 := cell_of_blk Z3 (i := 3) rfl
    have q4 := cell_of_blk Z3 (i := 4) rfl
    have q5 := cell_of_blk Z3 (i := 5) rfl
    have q6 := cell_of_blk Z3 (i := 6) rfl
    go_wp2_with fail
    refine (fields_at DE.out _).mono ?_
    rintro e w4 ⟨rfl, K4⟩
    have P4 := K4.blk P3 (by simp)
    have T4 := T3.trans K4
    clear K4 P3 T3 Z3 q0 q1 q2 q3 q4 q5 q6
    go_wp2_with fail
    refine (split_is _ (by omega) (by omega) FL.out HA.out HB'.out).mono ?_
    rintro e w5 ⟨rfl, K5⟩
    have P5 := K5.blk P4 (by simp)
    have T5 := T4.trans K5
    have c0 := cell_of_blk P5 (i := 0) rfl
    have c1 := cell_of_blk P5 (i := 1) rfl
    have c2 := cell_of_blk P5 (i := 2) rfl
    have f0 := free_of_blk P5
    have l0 := lt_of_blk P5
    clear K5 P4 P5 T4
    simp only [Plc.val]
    go_wp2
    exact bodyPost_ret (v := Plc.val ⟨3, A, B⟩) (by simp [results, Tryz.results108, go_sem, Plc.val, c0, c1, c2]) rfl ⟨rfl, kept_set3 T5 (by omega) _ _ _⟩
  · have e : whV c x = ⟨2, (x - 1) / c.s, (x - 1) % c.s⟩ := by unfold whV; rw [if_pos ⟨by omega, by omega⟩, if_neg h0, if_neg hf]
    rw [e]
    clear e hr h0
    have FE : Hid _ := ff_eq HR.out
    have hf' : x < 1 + c.t * c.s := by omega
    generalize 1 + c.t * c.s = ff at hf' FE ⊢
    obtain ⟨A, hA⟩ : ∃ A, (x - 1) / c.s = A := ⟨_, rfl⟩
    obtain ⟨B, hB⟩ : ∃ B, (x - 1) % c.s = B := ⟨_, rfl⟩
    rw [hA, hB]
    have HA : Hid _ := hA
    have HB' : Hid _ := hB
    clear h6 hf hA hB
    go_enter Tryz.func108, Tryz.ntmps108
    go_wp2_with fail
    refine (len_at c _).mono ?_
    rintro e w1 ⟨rfl, K1⟩
    have P1 := K1.blk P0 (by simp)
    have Z1 := Z0.kept K1 (by simp)
    have T1 := K0.trans K1
    clear K1 P0 K0 Z0
    have q0 := cell_of_blk Z1 (i := 0) rfl
    have q1 := cell_of_blk Z1 (i := 1) rfl
    have q2 := cell_of_blk Z1 (i := 2) rfl
    have q3 := cell_of_blk Z1 (i := 3) rfl
    have q4 := cell_of_blk Z1 (i := 4) rfl
    have q5 := cell_of_blk Z1 (i := 5) rfl
    have q6 := cell_of_blk Z1 (i := 6) rfl
    go_wp2_with fail
    refine (within_is HW.out _).mono ?_
    rintro e w2 ⟨rfl, rfl⟩
    go_wp2_with fail
    refine (first_at FE.out _).mono ?_
    rintro e w3 ⟨rfl, K3⟩
    have P3 := K3.blk P1 (by simp)
    have Z3 := Z1.kept K3 (by simp)
    have T3 := T1.trans K3
    clear K3 P1 Z1 T1 q0 q1 q2 q3 q4 q5 q6
    have q1 := cell_of_blk Z3 (i := 1) rfl
    go_wp2_with fail
    refine (split_is _ (by omega) (by omega) s0 HA.out HB'.out).mono ?_
    rintro e w5 ⟨rfl, K5⟩
    have P5 := K5.blk P3 (by simp)
    have T5 := T3.trans K5
    have c0 := cell_of_blk P5 (i := 0) rfl
    have c1 := cell_of_blk P5 (i := 1) rfl
    have c2 := cell_of_blk P5 (i := 2) rfl
    have f0 := free_of_blk P5
    have l0 := lt_of_blk P5
    clear K5 P3 P5 T3
    simp only [Plc.val]
    go_wp2
    exact bodyPost_ret (v := Plc.val ⟨2, A, B⟩) (by simp [results, Tryz.results108, go_sem, Plc.val, c0, c1, c2]) rfl ⟨rfl, kept_set3 T5 (by omega) _ _ _⟩
end Go.Proofs.YtgafmklfpiipcaaGreatDoor

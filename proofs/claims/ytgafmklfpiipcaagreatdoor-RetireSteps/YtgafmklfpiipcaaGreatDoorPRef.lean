/-
  The contracts of the document's own answers for plan: Right, Len, Reserved, Cell, in any world.
-/
import Derived.Test.YtgafmklfpiipcaaGreatDoorPlan2
namespace Go.Proofs.YtgafmklfpiipcaaGreatDoor
set_option maxRecDepth 100000
open Go.RowKit (Grown Hid Below)
open Go.Deep
theorem rt_first (c : Cfg) : (c.t < 1) ∨ (1 ≤ c.t ∧ 8 < c.t) ∨ (1 ≤ c.t ∧ c.t ≤ 8 ∧ c.s < 1) ∨ (1 ≤ c.t ∧ c.t ≤ 8 ∧ 1 ≤ c.s ∧ 8 < c.s) ∨ (1 ≤ c.t ∧ c.t ≤ 8 ∧ 1 ≤ c.s ∧ c.s ≤ 8 ∧ c.c < 1) ∨ (1 ≤ c.t ∧ c.t ≤ 8 ∧ 1 ≤ c.s ∧ c.s ≤ 8 ∧ 1 ≤ c.c ∧ 64 < c.c) ∨ (1 ≤ c.t ∧ c.t ≤ 8 ∧ 1 ≤ c.s ∧ c.s ≤ 8 ∧ 1 ≤ c.c ∧ c.c ≤ 64 ∧ c.h < 1) ∨ (1 ≤ c.t ∧ c.t ≤ 8 ∧ 1 ≤ c.s ∧ c.s ≤ 8 ∧ 1 ≤ c.c ∧ c.c ≤ 64 ∧ 1 ≤ c.h ∧ 6 < c.h) ∨ (1 ≤ c.t ∧ c.t ≤ 8 ∧ 1 ≤ c.s ∧ c.s ≤ 8 ∧ 1 ≤ c.c ∧ c.c ≤ 64 ∧ 1 ≤ c.h ∧ c.h ≤ 6 ∧ c.k < 1) ∨ (1 ≤ c.t ∧ c.t ≤ 8 ∧ 1 ≤ c.s ∧ c.s ≤ 8 ∧ 1 ≤ c.c ∧ c.c ≤ 64 ∧ 1 ≤ c.h ∧ c.h ≤ 6 ∧ 1 ≤ c.k ∧ 64 < c.k) ∨ (1 ≤ c.t ∧ c.t ≤ 8 ∧ 1 ≤ c.s ∧ c.s ≤ 8 ∧ 1 ≤ c.c ∧ c.c ≤ 64 ∧ 1 ≤ c.h ∧ c.h ≤ 6 ∧ 1 ≤ c.k ∧ c.k ≤ 64 ∧ c.e < 1) ∨ (1 ≤ c.t ∧ c.t ≤ 8 ∧ 1 ≤ c.s ∧ c.s ≤ 8 ∧ 1 ≤ c.c ∧ c.c ≤ 64 ∧ 1 ≤ c.h ∧ c.h ≤ 6 ∧ 1 ≤ c.k ∧ c.k ≤ 64 ∧ 1 ≤ c.e ∧ 64 < c.e) ∨ (1 ≤ c.t ∧ c.t ≤ 8 ∧ 1 ≤ c.s ∧ c.s ≤ 8 ∧ 1 ≤ c.c ∧ c.c ≤ 64 ∧ 1 ≤ c.h ∧ c.h ≤ 6 ∧ 1 ≤ c.k ∧ c.k ≤ 64 ∧ 1 ≤ c.e ∧ c.e ≤ 64 ∧ c.l < 0) ∨ (1 ≤ c.t ∧ c.t ≤ 8 ∧ 1 ≤ c.s ∧ c.s ≤ 8 ∧ 1 ≤ c.c ∧ c.c ≤ 64 ∧ 1 ≤ c.h ∧ c.h ≤ 6 ∧ 1 ≤ c.k ∧ c.k ≤ 64 ∧ 1 ≤ c.e ∧ c.e ≤ 64 ∧ 0 ≤ c.l ∧ 1073741823 < c.l) ∨ (1 ≤ c.t ∧ c.t ≤ 8 ∧ 1 ≤ c.s ∧ c.s ≤ 8 ∧ 1 ≤ c.c ∧ c.c ≤ 64 ∧ 1 ≤ c.h ∧ c.h ≤ 6 ∧ 1 ≤ c.k ∧ c.k ≤ 64 ∧ 1 ≤ c.e ∧ c.e ≤ 64 ∧ 0 ≤ c.l ∧ c.l ≤ 1073741823) := by
  rcases Int.lt_or_le c.t 1 with h | h0
  · exact Or.inl h
  rcases Int.lt_or_le 8 c.t with h | h1
  · exact Or.inr (Or.inl ⟨h0, h⟩)
  rcases Int.lt_or_le c.s 1 with h | h2
  · exact Or.inr (Or.inr (Or.inl ⟨h0, h1, h⟩))
  rcases Int.lt_or_le 8 c.s with h | h3
  · exact Or.inr (Or.inr (Or.inr (Or.inl ⟨h0, h1, h2, h⟩)))
  rcases Int.lt_or_le c.c 1 with h | h4
  · exact Or.inr (Or.inr (Or.inr (Or.inr (Or.inl ⟨h0, h1, h2, h3, h⟩))))
  rcases Int.lt_or_le 64 c.c with h | h5
  · exact Or.inr (Or.inr (Or.inr (Or.inr (Or.inr (Or.inl ⟨h0, h1, h2, h3, h4, h⟩)))))
  rcases Int.lt_or_le c.h 1 with h | h6
  · exact Or.inr (Or.inr (Or.inr (Or.inr (Or.inr (Or.inr (Or.inl ⟨h0, h1, h2, h3, h4, h5, h⟩))))))
  rcases Int.lt_or_le 6 c.h with h | h7
  · exact Or.inr (Or.inr (Or.inr (Or.inr (Or.inr (Or.inr (Or.inr (Or.inl ⟨h0, h1, h2, h3, h4, h5, h6, h⟩)))))))
  rcases Int.lt_or_le c.k 1 with h | h8
  · exact Or.inr (Or.inr (Or.inr (Or.inr (Or.inr (Or.inr (Or.inr (Or.inr (Or.inl ⟨h0, h1, h2, h3, h4, h5, h6, h7, h⟩))))))))
  rcases Int.lt_or_le 64 c.k with h | h9
  · exact Or.inr (Or.inr (Or.inr (Or.inr (Or.inr (Or.inr (Or.inr (Or.inr (Or.inr (Or.inl ⟨h0, h1, h2, h3, h4, h5, h6, h7, h8, h⟩)))))))))
  rcases Int.lt_or_le c.e 1 with h | h10
  · exact Or.inr (Or.inr (Or.inr (Or.inr (Or.inr (Or.inr (Or.inr (Or.inr (Or.inr (Or.inr (Or.inl ⟨h0, h1, h2, h3, h4, h5, h6, h7, h8, h9, h⟩))))))))))
  rcases Int.lt_or_le 64 c.e with h | h11
  · exact Or.inr (Or.inr (Or.inr (Or.inr (Or.inr (Or.inr (Or.inr (Or.inr (Or.inr (Or.inr (Or.inr (Or.inl ⟨h0, h1, h2, h3, h4, h5, h6, h7, h8, h9, h10, h⟩)))))))))))
  rcases Int.lt_or_le c.l 0 with h | h12
  · exact Or.inr (Or.inr (Or.inr (Or.inr (Or.inr (Or.inr (Or.inr (Or.inr (Or.inr (Or.inr (Or.inr (Or.inr (Or.inl ⟨h0, h1, h2, h3, h4, h5, h6, h7, h8, h9, h10, h11, h⟩))))))))))))
  rcases Int.lt_or_le 1073741823 c.l with h | h13
  · exact Or.inr (Or.inr (Or.inr (Or.inr (Or.inr (Or.inr (Or.inr (Or.inr (Or.inr (Or.inr (Or.inr (Or.inr (Or.inr (Or.inl ⟨h0, h1, h2, h3, h4, h5, h6, h7, h8, h9, h10, h11, h12, h⟩)))))))))))))
  exact Or.inr (Or.inr (Or.inr (Or.inr (Or.inr (Or.inr (Or.inr (Or.inr (Or.inr (Or.inr (Or.inr (Or.inr (Or.inr (Or.inr ⟨h0, h1, h2, h3, h4, h5, h6, h7, h8, h9, h10, h11, h12, h13⟩)))))))))))))
set_option maxRecDepth 100000 in
set_option maxHeartbeats 2000000 in
theorem rright_any (c : Cfg) (w : World) : Calls Tryz.prog 16 #[c.val] w fun e w' => e = .returned (.bool (riB c)) ∧ Kept [] w w' := by
  simp only [Cfg.val]
  rcases rt_first c with h0 | ⟨h0, h1⟩ | ⟨h0, h1, h2⟩ | ⟨h0, h1, h2, h3⟩ | ⟨h0, h1, h2, h3, h4⟩ | ⟨h0, h1, h2, h3, h4, h5⟩ | ⟨h0, h1, h2, h3, h4, h5, h6⟩ | ⟨h0, h1, h2, h3, h4, h5, h6, h7⟩ | ⟨h0, h1, h2, h3, h4, h5, h6, h7, h8⟩ | ⟨h0, h1, h2, h3, h4, h5, h6, h7, h8, h9⟩ | ⟨h0, h1, h2, h3, h4, h5, h6, h7, h8, h9, h10⟩ | ⟨h0, h1, h2, h3, h4, h5, h6, h7, h8, h9, h10, h11⟩ | ⟨h0, h1, h2, h3, h4, h5, h6, h7, h8, h9, h10, h11, h12⟩ | ⟨h0, h1, h2, h3, h4, h5, h6, h7, h8, h9, h10, h11, h12, h13⟩ | ⟨h0, h1, h2, h3, h4, h5, h6, h7, h8, h9, h10, h11, h12, h13⟩
  · have hr : riB c = false := by
      rw [Bool.eq_false_iff]; intro h; have := (riB_true.1 h).t0; omega
    rw [hr]
    clear hr
    go_enter Tryz.func16, Tryz.ntmps16
    go_wp2
    go_ret
    exact ⟨rfl, (Kept.refl _ _).alloc _⟩
  · have hr : riB c = false := by
      rw [Bool.eq_false_iff]; intro h; have := (riB_true.1 h).t1; omega
    rw [hr]
    clear hr
    go_enter Tryz.func16, Tryz.ntmps16
    go_wp2
    go_ret
    exact ⟨rfl, (Kept.refl _ _).alloc _⟩
  · have hr : riB c = false := by
      rw [Bool.eq_false_iff]; intro h; have := (riB_true.1 h).s0; omega
    rw [hr]
    clear hr
    go_enter Tryz.func16, Tryz.ntmps16
    go_wp2
    go_ret
    exact ⟨rfl, (Kept.refl _ _).alloc _⟩
  · have hr : riB c = false := by
      rw [Bool.eq_false_iff]; intro h; have := (riB_true.1 h).s1; omega
    rw [hr]
    clear hr
    go_enter Tryz.func16, Tryz.ntmps16
    go_wp2
    go_ret
    exact ⟨rfl, (Kept.refl _ _).alloc _⟩
  · have hr : riB c = false := by
      rw [Bool.eq_false_iff]; intro h; have := (riB_true.1 h).c0; omega
    rw [hr]
    clear hr
    go_enter Tryz.func16, Tryz.ntmps16
    go_wp2
    go_ret
    exact ⟨rfl, (Kept.refl _ _).alloc _⟩
  · have hr : riB c = false := by
      rw [Bool.eq_false_iff]; intro h; have := (riB_true.1 h).c1; omega
    rw [hr]
    clear hr
    go_enter Tryz.func16, Tryz.ntmps16
    go_wp2
    go_ret
    exact ⟨rfl, (Kept.refl _ _).alloc _⟩
  · have hr : riB c = false := by
      rw [Bool.eq_false_iff]; intro h; have := (riB_true.1 h).h0; omega
    rw [hr]
    clear hr
    go_enter Tryz.func16, Tryz.ntmps16
    go_wp2
    go_ret
    exact ⟨rfl, (Kept.refl _ _).alloc _⟩
  · have hr : riB c = false := by
      rw [Bool.eq_false_iff]; intro h; have := (riB_true.1 h).h1; omega
    rw [hr]
    clear hr
    go_enter Tryz.func16, Tryz.ntmps16
    go_wp2
    go_ret
    exact ⟨rfl, (Kept.refl _ _).alloc _⟩
  · have hr : riB c = false := by
      rw [Bool.eq_false_iff]; intro h; have := (riB_true.1 h).k0; omega
    rw [hr]
    clear hr
    go_enter Tryz.func16, Tryz.ntmps16
    go_wp2
    go_ret
    exact ⟨rfl, (Kept.refl _ _).alloc _⟩
  · have hr : riB c = false := by
      rw [Bool.eq_false_iff]; intro h; have := (riB_true.1 h).k1; omega
    rw [hr]
    clear hr
    go_enter Tryz.func16, Tryz.ntmps16
    go_wp2
    go_ret
    exact ⟨rfl, (Kept.refl _ _).alloc _⟩
  · have hr : riB c = false := by
      rw [Bool.eq_false_iff]; intro h; have := (riB_true.1 h).e0; omega
    rw [hr]
    clear hr
    go_enter Tryz.func16, Tryz.ntmps16
    go_wp2
    go_ret
    exact ⟨rfl, (Kept.refl _ _).alloc _⟩
  · have hr : riB c = false := by
      rw [Bool.eq_false_iff]; intro h; have := (riB_true.1 h).e1; omega
    rw [hr]
    clear hr
    go_enter Tryz.func16, Tryz.ntmps16
    go_wp2
    go_ret
    exact ⟨rfl, (Kept.refl _ _).alloc _⟩
  · have hr : riB c = false := by
      rw [Bool.eq_false_iff]; intro h; have := (riB_true.1 h).l0; omega
    rw [hr]
    clear hr
    go_enter Tryz.func16, Tryz.ntmps16
    go_wp2
    go_ret
    exact ⟨rfl, (Kept.refl _ _).alloc _⟩
  · have hr : riB c = false := by
      rw [Bool.eq_false_iff]; intro h; have := (riB_true.1 h).l1; omega
    rw [hr]
    clear hr
    go_enter Tryz.func16, Tryz.ntmps16
    go_wp2
    go_ret
    exact ⟨ret_bool (decide_eq_false (by omega)), (Kept.refl _ _).alloc _⟩
  · have hr : riB c = true := riB_true.2 ⟨h0, h1, h2, h3, h4, h5, h6, h7, h8, h9, h10, h11, h12, h13⟩
    rw [hr]
    clear hr
    go_enter Tryz.func16, Tryz.ntmps16
    go_wp2
    go_ret
    exact ⟨rfl, (Kept.refl _ _).alloc _⟩
theorem rright_is {c : Cfg} {v : Bool} (h : riB c = v) (w : World) : Calls Tryz.prog 16 #[.agg #[.int .i64 c.t, .int .i64 c.s, .int .i64 c.c, .int .i64 c.h, .int .i64 c.k, .int .i64 c.e, .int .i64 c.l]] w fun e w' => e = .returned (.bool v) ∧ Kept [] w w' := h ▸ rright_any c w
set_option maxRecDepth 100000 in
set_option maxHeartbeats 1000000 in
theorem rlen_any (c : Cfg) (w : World) : Calls Tryz.prog 17 #[c.val] w fun e w' => e = .returned (.int .i64 (lnV c)) ∧ Kept [] w w' := by
  simp only [Cfg.val]
  have K0 : Kept [] w (w.alloc (.cells #[.int .i64 c.t, .int .i64 c.s, .int .i64 c.c, .int .i64 c.h, .int .i64 c.k, .int .i64 c.e, .int .i64 c.l] 23)) := (Kept.refl _ _).alloc _
  have Z0 := CB.new w c
  cases hr : riB c
  · rw [ln_no hr]
    have HR : Hid _ := hr
    clear hr Z0
    go_enter Tryz.func17, Tryz.ntmps17
    go_wp2_with fail
    refine (rright_is HR.out _).mono ?_
    rintro e w1 ⟨rfl, K1⟩
    go_wp2
    go_ret
    exact ⟨rfl, K0.trans K1⟩
  · rw [ln_yes hr]
    have R := riB_true.1 hr
    obtain ⟨f0, f1⟩ := ts_bd R
    obtain ⟨g0, g1⟩ := cf_bd R
    obtain ⟨c0, c1⟩ : 1 ≤ c.c ∧ c.c ≤ 64 := ⟨R.c0, R.c1⟩
    obtain ⟨h0, h1⟩ : 1 ≤ c.h ∧ c.h ≤ 6 := ⟨R.h0, R.h1⟩
    have HR : Hid _ := hr
    clear hr R
    go_enter Tryz.func17, Tryz.ntmps17
    go_wp2_with fail
    refine (rright_is HR.out _).mono ?_
    rintro e w1 ⟨rfl, K1⟩
    have Z1 := Z0.kept K1 (by simp)
    have q0 := cell_of_blk Z1 (i := 0) rfl
    have q1 := cell_of_blk Z1 (i := 1) rfl
    have q2 := cell_of_blk Z1 (i := 2) rfl
    have q3 := cell_of_blk Z1 (i := 3) rfl
    go_wp2
    go_ret
    exact ⟨rfl, K0.trans K1⟩
set_option maxRecDepth 100000 in
set_option maxHeartbeats 1000000 in
theorem rreserved_any (c : Cfg) (a b : Int) (w : World) : Calls Tryz.prog 103 #[c.val, .int .i64 a, .int .i64 b] w fun e w' => e = .returned (.int .i64 (rsV c a b)) ∧ Kept [] w w' := by
  simp only [Cfg.val]
  have K0 : Kept [] w (w.alloc (.cells #[.int .i64 c.t, .int .i64 c.s, .int .i64 c.c, .int .i64 c.h, .int .i64 c.k, .int .i64 c.e, .int .i64 c.l] 23)) := (Kept.refl _ _).alloc _
  have Z0 := CB.new w c
  unfold rsV
  cases hr : riB c
  · have hn : ¬ inR c a b := fun h => by rw [h.1] at hr; cases hr
    rw [if_neg hn]
    clear hn Z0
    have HR : Hid _ := hr
    clear hr
    go_enter Tryz.func103, Tryz.ntmps103
    go_wp2_with fail
    refine (rright_is HR.out _).mono ?_
    rintro e w1 ⟨rfl, K1⟩
    go_wp2
    go_ret
    exact ⟨rfl, K0.trans K1⟩
  have R := riB_true.1 hr
  obtain ⟨h60, h61⟩ : 1 ≤ c.h ∧ c.h ≤ 6 := ⟨R.h0, R.h1⟩
  have D : (a < 0) ∨ (0 ≤ a ∧ c.t ≤ a) ∨ (0 ≤ a ∧ a < c.t ∧ b < 0) ∨ (0 ≤ a ∧ a < c.t ∧ 0 ≤ b ∧ c.s ≤ b) ∨ (0 ≤ a ∧ a < c.t ∧ 0 ≤ b ∧ b < c.s) := by omega
  rcases D with h0 | ⟨h0, h1⟩ | ⟨h0, h1, h2⟩ | ⟨h0, h1, h2, h3⟩ | ⟨h0, h1, h2, h3⟩
  · have hn : ¬ inR c a b := by unfold inR; omega
    rw [if_neg hn]
    clear hn
    have HR : Hid _ := hr
    clear hr R
    go_enter Tryz.func103, Tryz.ntmps103
    go_wp2_with fail
    refine (rright_is HR.out _).mono ?_
    rintro e w1 ⟨rfl, K1⟩
    have Z1 := Z0.kept K1 (by simp)
    have q0 := cell_of_blk Z1 (i := 0) rfl
    have q1 := cell_of_blk Z1 (i := 1) rfl
    go_wp2
    go_ret
    exact ⟨rfl, K0.trans K1⟩
  · have hn : ¬ inR c a b := by unfold inR; omega
    rw [if_neg hn]
    clear hn
    have HR : Hid _ := hr
    clear hr R
    go_enter Tryz.func103, Tryz.ntmps103
    go_wp2_with fail
    refine (rright_is HR.out _).mono ?_
    rintro e w1 ⟨rfl, K1⟩
    have Z1 := Z0.kept K1 (by simp)
    have q0 := cell_of_blk Z1 (i := 0) rfl
    have q1 := cell_of_blk Z1 (i := 1) rfl
    go_wp2
    go_ret
    exact ⟨rfl, K0.trans K1⟩
  · have hn : ¬ inR c a b := by unfold inR; omega
    rw [if_neg hn]
    clear hn
    have HR : Hid _ := hr
    clear hr R
    go_enter Tryz.func103, Tryz.ntmps103
    go_wp2_with fail
    refine (rright_is HR.out _).mono ?_
    rintro e w1 ⟨rfl, K1⟩
    have Z1 := Z0.kept K1 (by simp)
    have q0 := cell_of_blk Z1 (i := 0) rfl
    have q1 := cell_of_blk Z1 (i := 1) rfl
    go_wp2
    go_ret
    exact ⟨rfl, K0.trans K1⟩
  · have hn : ¬ inR c a b := by unfold inR; omega
    rw [if_neg hn]
    clear hn
    have HR : Hid _ := hr
    clear hr R
    go_enter Tryz.func103, Tryz.ntmps103
    go_wp2_with fail
    refine (rright_is HR.out _).mono ?_
    rintro e w1 ⟨rfl, K1⟩
    have Z1 := Z0.kept K1 (by simp)
    have q0 := cell_of_blk Z1 (i := 0) rfl
    have q1 := cell_of_blk Z1 (i := 1) rfl
    go_wp2
    go_ret
    exact ⟨rfl, K0.trans K1⟩
  · have hy : inR c a b := ⟨hr, h0, h1, h2, h3⟩
    rw [if_pos hy]
    clear hy
    have t1 := R.t1
    have s1 := R.s1
    have := ts_bd R
    obtain ⟨m0, m1⟩ := mul_in h0 h1 (show 0 ≤ c.s by have := R.s0; omega)
    have HR : Hid _ := hr
    clear hr R
    go_enter Tryz.func103, Tryz.ntmps103
    go_wp2_with fail
    refine (rright_is HR.out _).mono ?_
    rintro e w1 ⟨rfl, K1⟩
    have Z1 := Z0.kept K1 (by simp)
    have q0 := cell_of_blk Z1 (i := 0) rfl
    have q1 := cell_of_blk Z1 (i := 1) rfl
    go_wp2
    go_ret
    exact ⟨rfl, K0.trans K1⟩
set_option maxRecDepth 100000 in
set_option maxHeartbeats 1000000 in
theorem rcell_any (c : Cfg) (a b : Int) (w : World) : Calls Tryz.prog 52 #[c.val, .int .i64 a, .int .i64 b] w fun e w' => e = .returned (.int .i64 (clV' c a b)) ∧ Kept [] w w' := by
  simp only [Cfg.val]
  have K0 : Kept [] w (w.alloc (.cells #[.int .i64 c.t, .int .i64 c.s, .int .i64 c.c, .int .i64 c.h, .int .i64 c.k, .int .i64 c.e, .int .i64 c.l] 23)) := (Kept.refl _ _).alloc _
  have Z0 := CB.new w c
  unfold clV'
  cases hr : riB c
  · have hn : ¬ inF c a b := fun h => by rw [h.1] at hr; cases hr
    rw [if_neg hn]
    clear hn Z0
    have HR : Hid _ := hr
    clear hr
    go_enter Tryz.func52, Tryz.ntmps52
    go_wp2_with fail
    refine (rright_is HR.out _).mono ?_
    rintro e w1 ⟨rfl, K1⟩
    go_wp2
    go_ret
    exact ⟨rfl, K0.trans K1⟩
  have R := riB_true.1 hr
  obtain ⟨h60, h61⟩ : 1 ≤ c.h ∧ c.h ≤ 6 := ⟨R.h0, R.h1⟩
  have D : (a < 0) ∨ (0 ≤ a ∧ c.c < a) ∨ (0 ≤ a ∧ a ≤ c.c ∧ b < 0) ∨ (0 ≤ a ∧ a ≤ c.c ∧ 0 ≤ b ∧ 6 + c.h ≤ b) ∨ (0 ≤ a ∧ a ≤ c.c ∧ 0 ≤ b ∧ b < 6 + c.h) := by omega
  rcases D with h0 | ⟨h0, h1⟩ | ⟨h0, h1, h2⟩ | ⟨h0, h1, h2, h3⟩ | ⟨h0, h1, h2, h3⟩
  · have hn : ¬ inF c a b := by unfold inF; omega
    rw [if_neg hn]
    clear hn
    have HR : Hid _ := hr
    clear hr R
    go_enter Tryz.func52, Tryz.ntmps52
    go_wp2_with fail
    refine (rright_is HR.out _).mono ?_
    rintro e w1 ⟨rfl, K1⟩
    have Z1 := Z0.kept K1 (by simp)
    have q0 := cell_of_blk Z1 (i := 0) rfl
    have q1 := cell_of_blk Z1 (i := 1) rfl
    have q2 := cell_of_blk Z1 (i := 2) rfl
    have q3 := cell_of_blk Z1 (i := 3) rfl
    go_wp2
    go_ret
    exact ⟨rfl, K0.trans K1⟩
  · have hn : ¬ inF c a b := by unfold inF; omega
    rw [if_neg hn]
    clear hn
    have HR : Hid _ := hr
    clear hr R
    go_enter Tryz.func52, Tryz.ntmps52
    go_wp2_with fail
    refine (rright_is HR.out _).mono ?_
    rintro e w1 ⟨rfl, K1⟩
    have Z1 := Z0.kept K1 (by simp)
    have q0 := cell_of_blk Z1 (i := 0) rfl
    have q1 := cell_of_blk Z1 (i := 1) rfl
    have q2 := cell_of_blk Z1 (i := 2) rfl
    have q3 := cell_of_blk Z1 (i := 3) rfl
    go_wp2
    go_ret
    exact ⟨rfl, K0.trans K1⟩
  · have hn : ¬ inF c a b := by unfold inF; omega
    rw [if_neg hn]
    clear hn
    have HR : Hid _ := hr
    clear hr R
    go_enter Tryz.func52, Tryz.ntmps52
    go_wp2_with fail
    refine (rright_is HR.out _).mono ?_
    rintro e w1 ⟨rfl, K1⟩
    have Z1 := Z0.kept K1 (by simp)
    have q0 := cell_of_blk Z1 (i := 0) rfl
    have q1 := cell_of_blk Z1 (i := 1) rfl
    have q2 := cell_of_blk Z1 (i := 2) rfl
    have q3 := cell_of_blk Z1 (i := 3) rfl
    go_wp2
    go_ret
    exact ⟨rfl, K0.trans K1⟩
  · have hn : ¬ inF c a b := by unfold inF; omega
    rw [if_neg hn]
    clear hn
    have HR : Hid _ := hr
    clear hr R
    go_enter Tryz.func52, Tryz.ntmps52
    go_wp2_with fail
    refine (rright_is HR.out _).mono ?_
    rintro e w1 ⟨rfl, K1⟩
    have Z1 := Z0.kept K1 (by simp)
    have q0 := cell_of_blk Z1 (i := 0) rfl
    have q1 := cell_of_blk Z1 (i := 1) rfl
    have q2 := cell_of_blk Z1 (i := 2) rfl
    have q3 := cell_of_blk Z1 (i := 3) rfl
    go_wp2
    go_ret
    exact ⟨rfl, K0.trans K1⟩
  · have hy : inF c a b := ⟨hr, h0, h1, h2, h3⟩
    rw [if_pos hy]
    clear hy
    have c1 := R.c1
    obtain ⟨f0, f1⟩ := ts_bd R
    obtain ⟨g0, g1⟩ := cf_bd R
    obtain ⟨m0, m1⟩ := mul_in h0 (show a < c.c + 1 by omega) (show 0 ≤ 6 + c.h by omega)
    have HR : Hid _ := hr
    clear hr R
    go_enter Tryz.func52, Tryz.ntmps52
    go_wp2_with fail
    refine (rright_is HR.out _).mono ?_
    rintro e w1 ⟨rfl, K1⟩
    have Z1 := Z0.kept K1 (by simp)
    have q0 := cell_of_blk Z1 (i := 0) rfl
    have q1 := cell_of_blk Z1 (i := 1) rfl
    have q2 := cell_of_blk Z1 (i := 2) rfl
    have q3 := cell_of_blk Z1 (i := 3) rfl
    go_wp2
    go_ret
    exact ⟨rfl, K0.trans K1⟩
theorem rlen_is {c : Cfg} {v : Int} (h : lnV c = v) (w : World) : Calls Tryz.prog 17 #[.agg #[.int .i64 c.t, .int .i64 c.s, .int .i64 c.c, .int .i64 c.h, .int .i64 c.k, .int .i64 c.e, .int .i64 c.l]] w fun e w' => e = .returned (.int .i64 v) ∧ Kept [] w w' := h ▸ rlen_any c w
theorem rreserved_is {c : Cfg} {a b v : Int} (h : rsV c a b = v) (w : World) : Calls Tryz.prog 103 #[.agg #[.int .i64 c.t, .int .i64 c.s, .int .i64 c.c, .int .i64 c.h, .int .i64 c.k, .int .i64 c.e, .int .i64 c.l], .int .i64 a, .int .i64 b] w fun e w' => e = .returned (.int .i64 v) ∧ Kept [] w w' := h ▸ rreserved_any c a b w
theorem rcell_is {c : Cfg} {a b v : Int} (h : clV' c a b = v) (w : World) : Calls Tryz.prog 52 #[.agg #[.int .i64 c.t, .int .i64 c.s, .int .i64 c.c, .int .i64 c.h, .int .i64 c.k, .int .i64 c.e, .int .i64 c.l], .int .i64 a, .int .i64 b] w fun e w' => e = .returned (.int .i64 v) ∧ Kept [] w w' := h ▸ rcell_any c a b w
end Go.Proofs.YtgafmklfpiipcaaGreatDoor

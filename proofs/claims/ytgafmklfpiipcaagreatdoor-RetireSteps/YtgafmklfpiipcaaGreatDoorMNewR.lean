/-
  The document's own words of a new world, and of one that has such words.
-/
import Derived.Test.YtgafmklfpiipcaaGreatDoorMNew
namespace Go.Proofs.YtgafmklfpiipcaaGreatDoor
open Go.RowKit (Grown Hid Below)
open Go.Deep
set_option maxRecDepth 100000
theorem taken0 (w : World) : Calls Tryz.prog 53 #[.int .i64 0] w fun e w' => e = .returned (.int .u64 1) ∧ Kept [] w w' := by
  go_enter Tryz.func53, Tryz.ntmps53
  go_wp2_with fail
  refine (S.rmeta_yes 1 0 _ (by decide)).mono ?_
  rintro e w1 ⟨rfl, K1⟩
  rw [show S.meV 1 0 = 1 from rfl]
  go_wp2
  go_ret
  exact ⟨rfl, K1⟩
theorem newN_ln (c : Cfg) : newN (lnV c) = lnN c := by
  have := ln_bd c
  unfold newN lnN; rw [if_neg (by omega), if_pos (by omega)]
set_option maxRecDepth 100000 in
set_option maxHeartbeats 2000000 in
theorem rmof_any (c : Cfg) (ao : Option Addr) (xs : List Int) (n cap : Nat) (w : World) (hx : n = xs.length) (hs : Sl w ao xs) (hc : ao = none → cap = 0) (hn : n ≤ 17592186044415) :
    Calls Tryz.prog 19 #[.agg #[.int .i64 c.t, .int .i64 c.s, .int .i64 c.c, .int .i64 c.h, .int .i64 c.k, .int .i64 c.e, .int .i64 c.l], .slice ao n cap] w fun e w' => ∃ g c', e = .returned (rmV c (some ⟨g, 0, none⟩) n c' 0 Acc.zero) ∧ w.heap.size ≤ g ∧ RowR w' g xs c' ∧ Kept [] w w' := by
  have HB : Hid (∀ W' : World, Kept [] w W' → Calls Tryz.prog 45 #[.slice ao n cap] W' fun e w' => ∃ g c', e = .returned (rbV (some ⟨g, 0, none⟩) n c' 0 Acc.zero) ∧ W'.heap.size ≤ g ∧ RowR w' g xs c' ∧ Kept [] W' w') := fun W' k => by
    have q := rof_any ao xs cap W' (hs.new k) hc (by omega)
    rw [← hx] at q; exact q
  clear hx hs hc hn
  obtain ⟨b, hb⟩ : ∃ b, b = w.heap.size := ⟨_, rfl⟩
  go_enter Tryz.func19, Tryz.ntmps19
  go_upto_region 1 with (fail)
  refine gen_world (fun W => CB W b c ∧ W.heap[b + 1]? = some (.cells #[.int .i64 0, .int .i64 0, .int .i64 0, .int .i64 0, .int .i64 0, .int .i64 0, .int .i64 0, .slice none 0 0, .int .i64 0, .int .i64 0, .int .i64 0, .int .u64 0, .int .u64 0, .int .u64 0, .bool false] 35 (0, 0)) ∧ Kept [] w W) ?_ ?_
  · rw [hb]
    exact ⟨(CB.new w c).kept ((Kept.refl [] _).alloc _) (by simp), blk2 w _ _, kept2 w _ _⟩
  rw [← hb]
  have hbw : w.heap.size ≤ b := by omega
  clear hb
  rintro W ⟨Z, Y, T⟩
  have HS : Hid (∀ W' : World, Kept [b + 1] W W' → W'.cell? ⟨b, 0, none⟩ = some (.int .i64 c.t) ∧ W'.cell? ⟨b, 1, none⟩ = some (.int .i64 c.s) ∧ W'.cell? ⟨b, 2, none⟩ = some (.int .i64 c.c) ∧ W'.cell? ⟨b, 3, none⟩ = some (.int .i64 c.h) ∧ W'.cell? ⟨b, 4, none⟩ = some (.int .i64 c.k) ∧ W'.cell? ⟨b, 5, none⟩ = some (.int .i64 c.e) ∧ W'.cell? ⟨b, 6, none⟩ = some (.int .i64 c.l)) := by
    intro W' k
    have z := k.blk Z (by simp)
    exact ⟨cell_of_blk z (i := 0) rfl, cell_of_blk z (i := 1) rfl, cell_of_blk z (i := 2) rfl, cell_of_blk z (i := 3) rfl, cell_of_blk z (i := 4) rfl, cell_of_blk z (i := 5) rfl, cell_of_blk z (i := 6) rfl⟩
  have HT : Hid _ := T
  have HY : Hid _ := Y
  clear Z Y T
  go_region_held3 (fun W' => W'.cell? ⟨b, 0, none⟩ = some (.int .i64 c.t) ∧ W'.cell? ⟨b, 1, none⟩ = some (.int .i64 c.s) ∧ W'.cell? ⟨b, 2, none⟩ = some (.int .i64 c.c) ∧ W'.cell? ⟨b, 3, none⟩ = some (.int .i64 c.h) ∧ W'.cell? ⟨b, 4, none⟩ = some (.int .i64 c.k) ∧ W'.cell? ⟨b, 5, none⟩ = some (.int .i64 c.e) ∧ W'.cell? ⟨b, 6, none⟩ = some (.int .i64 c.l))
    (exact HS.out _ (by (repeat (first | (with_reducible refine Kept.setCell ?_ ?_ _) | (with_reducible refine Kept.alloc ?_ _) | (with_reducible refine Kept.drew ?_))); (first | (with_reducible assumption) | (with_reducible exact Kept.refl _ _) | exact Kept.weaken (l := []) (by with_reducible assumption) (by simp)); all_goals (first | exact Or.inr (Nat.le_refl _) | (refine Or.inr (Kept.size (l := []) ?_); assumption) | (refine Or.inl ?_; simp; done))))
    (first
      | (go_at_call 45; refine (HB.out _ (HT.out.trans (by (repeat (first | (with_reducible refine Kept.setCell ?_ ?_ _) | (with_reducible refine Kept.alloc ?_ _) | (with_reducible refine Kept.drew ?_))); (first | (with_reducible assumption) | (with_reducible exact Kept.refl _ _) | exact Kept.weaken (l := []) (by with_reducible assumption) (by simp)); all_goals (first | exact Or.inr (Nat.le_refl _) | (refine Or.inr (Kept.size (l := []) ?_); assumption) | (refine Or.inl ?_; simp; done))))).mono ?_; rintro e w5 ⟨g, c', rfl, P5, R5, J5⟩; have K5 : Kept [] W w5 := Kept.trans (by (repeat (first | (with_reducible refine Kept.setCell ?_ ?_ _) | (with_reducible refine Kept.alloc ?_ _) | (with_reducible refine Kept.drew ?_))); (first | (with_reducible assumption) | (with_reducible exact Kept.refl _ _) | exact Kept.weaken (l := []) (by with_reducible assumption) (by simp)); all_goals (first | exact Or.inr (Nat.le_refl _) | (refine Or.inr (Kept.size (l := []) ?_); assumption) | (refine Or.inl ?_; simp; done))) J5; simp only [rbV]; have y := K5.blk HY.out (by simp); have y0 := cell_of_blk y (i := 0) rfl; have y1 := cell_of_blk y (i := 1) rfl; have y2 := cell_of_blk y (i := 2) rfl; have y3 := cell_of_blk y (i := 3) rfl; have y4 := cell_of_blk y (i := 4) rfl; have y5 := cell_of_blk y (i := 5) rfl; have y6 := cell_of_blk y (i := 6) rfl; have y7 := cell_of_blk y (i := 7) rfl; have y8 := cell_of_blk y (i := 8) rfl; have y9 := cell_of_blk y (i := 9) rfl; have y10 := cell_of_blk y (i := 10) rfl; have y11 := cell_of_blk y (i := 11) rfl; have y12 := cell_of_blk y (i := 12) rfl; have y13 := cell_of_blk y (i := 13) rfl; have y14 := cell_of_blk y (i := 14) rfl; have fy := free_of_blk y; have ly := lt_of_blk y))
  all_goals
    have gy : ¬ g = b + 1 := R5.ne y (by decide)
    have hg : w.heap.size ≤ g := Nat.le_trans HT.out.size P5
    have HF : Hid _ := hf1 R5 (HT.out.trans K5) hbw gy
    clear R5 gy P5 hbw y
    try go_wp2
    exact bodyPost_ret (v := rmV c (some ⟨g, 0, none⟩) n c' 0 Acc.zero) (by simp [results, Tryz.results19, go_sem, rmV, y0, y1, y2, y3, y4, y5, y6, y7, y8, y9, y10, y11, y12, y13, y14]) rfl ⟨g, c', rfl, hg, HF.out _ (by (repeat (first | (with_reducible refine Kept.setCell ?_ ?_ _) | (with_reducible refine Kept.alloc ?_ _) | (with_reducible refine Kept.drew ?_))); (first | (with_reducible assumption) | (with_reducible exact Kept.refl _ _) | exact Kept.weaken (l := []) (by with_reducible assumption) (by simp)); all_goals (first | exact Or.inr (Nat.le_refl _) | (refine Or.inr (Kept.size (l := []) ?_); assumption) | (refine Or.inl ?_; simp; done)))⟩
set_option maxRecDepth 100000 in
set_option maxHeartbeats 2000000 in
theorem rmnew_any (c : Cfg) (w : World) (h : riB c = true) :
    Calls Tryz.prog 50 #[.agg #[.int .i64 c.t, .int .i64 c.s, .int .i64 c.c, .int .i64 c.h, .int .i64 c.k, .int .i64 c.e, .int .i64 c.l]] w fun e w' => ∃ g, e = .returned (rmV c (some ⟨g, 0, none⟩) (lnN c) (lnN c) 0 Acc.zero) ∧ w.heap.size ≤ g ∧ Row w' g (fcV c) ∧ Kept [] w w' := by
  obtain ⟨x0, e0, l0, _⟩ := head_cell h 0 (by omega) (by omega)
  obtain ⟨x4, e4, l4, _⟩ := head_cell h 4 (by omega) (by omega)
  have hh : IntKind.u64.wrap c.h = c.h := by have r := riB_true.1 h; have := r.h0; have := r.h1; rw [IntKind.wrap_u64]; omega
  have eF : fcV c = (((List.replicate (lnN c) 0).set 0 1).set x0 1).set x4 c.h := by unfold fcV; rw [e0, e4]; rfl
  rw [eF]
  have hL : Hid (lnV c = ((lnN c : Nat) : Int)) := (lnN_eq c).symm
  have HB : Hid (∀ W' : World, Calls Tryz.prog 83 #[.int .i64 ((lnN c : Nat) : Int)] W' fun e w' => ∃ r, e = .returned (.agg #[.slice (some ⟨r, 0, none⟩) (lnN c) (lnN c), .int .i64 0, .int .i64 0, .int .i64 0, .int .u64 0, .int .u64 0, .int .u64 0, .bool false]) ∧ W'.heap.size ≤ r ∧ Row w' r (List.replicate (lnN c) 0) ∧ Kept [] W' w') := fun W' => by
    have q := rnew_any (lnV c) W'
    rw [newN_ln, ← lnN_eq] at q; exact q
  clear eF h
  generalize lnN c = n at *
  obtain ⟨b, hb⟩ : ∃ b, b = w.heap.size := ⟨_, rfl⟩
  have K0 : Kept [] w ((w.alloc (.cells #[.int .i64 c.t, .int .i64 c.s, .int .i64 c.c, .int .i64 c.h, .int .i64 c.k, .int .i64 c.e, .int .i64 c.l] 23)).alloc (.cells #[.int .i64 0, .int .i64 0, .int .i64 0, .int .i64 0, .int .i64 0, .int .i64 0, .int .i64 0, .slice none 0 0, .int .i64 0, .int .i64 0, .int .i64 0, .int .u64 0, .int .u64 0, .int .u64 0, .bool false] 35)) := kept2 w _ _
  have Z0 : CB ((w.alloc (.cells #[.int .i64 c.t, .int .i64 c.s, .int .i64 c.c, .int .i64 c.h, .int .i64 c.k, .int .i64 c.e, .int .i64 c.l] 23)).alloc (.cells #[.int .i64 0, .int .i64 0, .int .i64 0, .int .i64 0, .int .i64 0, .int .i64 0, .int .i64 0, .slice none 0 0, .int .i64 0, .int .i64 0, .int .i64 0, .int .u64 0, .int .u64 0, .int .u64 0, .bool false] 35)) w.heap.size c := (CB.new w c).kept ((Kept.refl [] _).alloc _) (by simp)
  have Y0 := blk2 w (.cells #[.int .i64 c.t, .int .i64 c.s, .int .i64 c.c, .int .i64 c.h, .int .i64 c.k, .int .i64 c.e, .int .i64 c.l] 23) (.cells #[.int .i64 0, .int .i64 0, .int .i64 0, .int .i64 0, .int .i64 0, .int .i64 0, .int .i64 0, .slice none 0 0, .int .i64 0, .int .i64 0, .int .i64 0, .int .u64 0, .int .u64 0, .int .u64 0, .bool false] 35)
  go_enter Tryz.func50, Tryz.ntmps50
  go_wp2_with fail
  refine (rlen_is hL.out _).mono ?_
  rintro e w1 ⟨rfl, K1⟩
  have Z1 := Z0.kept K1 (by simp)
  have Y1 := K1.blk Y0 (by simp)
  have T1 := K0.trans K1
  clear Z0 Y0 K0 K1
  go_wp2_with fail
  refine (HB.out _).mono ?_
  rintro e w2 ⟨r, rfl, hr, R2, K2⟩
  have Z2 := Z1.kept K2 (by simp)
  have Y2 := K2.blk Y1 (by simp)
  have T2 := T1.trans K2
  have hr1 : w.heap.size + 1 < r := by have := lt_of_blk Y1; omega
  have n0 : 0 < n := by omega
  have c2 := R2.cell (i := 0) (by simpa using n0)
  have f2 := R2.free 0
  have r2 := R2.lt
  have r2' : r < w2.heap.size + 1 := by omega
  clear Z1 Y1 T1 K2 hr
  obtain ⟨d, hd⟩ : ∃ d, d = w2.heap.size := ⟨_, rfl⟩
  go_upto_region 3 with (fail)
  refine gen_world (fun W3 => CB W3 b c ∧ W3.heap[b + 1]? = some (.cells #[.int .i64 0, .int .i64 0, .int .i64 0, .int .i64 0, .int .i64 0, .int .i64 0, .int .i64 0, .slice none 0 0, .int .i64 0, .int .i64 0, .int .i64 0, .int .u64 0, .int .u64 0, .int .u64 0, .bool false] 35 (0, 0)) ∧ W3.heap[d]? = some (.cells #[.slice (some ⟨r, 0, none⟩) n n, .int .i64 0, .int .i64 0, .int .i64 0, .int .u64 0, .int .u64 0, .int .u64 0, .bool false] 33 (0, 0)) ∧ Row W3 r ((List.replicate n 0).set 0 1) ∧ Kept [] w W3) ?_ ?_
  · rw [hb, hd]
    have ks : Kept [r] w2 ((w2.setCell ⟨r, 0, none⟩ (.int .u64 1)).alloc (.cells #[.slice (some ⟨r, 0, none⟩) n n, .int .i64 0, .int .i64 0, .int .i64 0, .int .u64 0, .int .u64 0, .int .u64 0, .bool false] 33)) := ((Kept.refl _ _).setCell (Or.inl (by simp)) _).alloc _
    refine ⟨Z2.kept ks (by simp; omega), ks.blk Y2 (by simp; omega), ?_, (R2.set 0 1).kept ((Kept.refl [] _).alloc _) (by simp), T2.then ks (by intro x hx; simp at hx; omega)⟩
    have q := blk_alloc_new (w2.setCell ⟨r, 0, none⟩ (.int .u64 1)) (.cells #[.slice (some ⟨r, 0, none⟩) n n, .int .i64 0, .int .i64 0, .int .i64 0, .int .u64 0, .int .u64 0, .int .u64 0, .bool false] 33)
    rw [nblk_setCell] at q; exact q
  rw [← hb, ← hd]
  have hbr : b + 1 < r := by omega
  have hrd : r < d := by omega
  have hbw : w.heap.size ≤ b := by omega
  clear hb hd Z2 Y2 T2 R2 c2 f2 r2 r2' hr1
  rintro W3 ⟨Z, Y, D, RW, T⟩
  have HS3 : Hid (∀ W' : World, Kept [r] W3 W' → W'.cell? ⟨b, 0, none⟩ = some (.int .i64 c.t) ∧ W'.cell? ⟨b, 1, none⟩ = some (.int .i64 c.s) ∧ W'.cell? ⟨b, 2, none⟩ = some (.int .i64 c.c) ∧ W'.cell? ⟨b, 3, none⟩ = some (.int .i64 c.h) ∧ W'.cell? ⟨b, 4, none⟩ = some (.int .i64 c.k) ∧ W'.cell? ⟨b, 5, none⟩ = some (.int .i64 c.e) ∧ W'.cell? ⟨b, 6, none⟩ = some (.int .i64 c.l) ∧ W'.cell? ⟨d, 0, none⟩ = some (.slice (some ⟨r, 0, none⟩) n n)) := by
    intro W' k
    have z := k.blk Z (by simp; omega)
    exact ⟨cell_of_blk z (i := 0) rfl, cell_of_blk z (i := 1) rfl, cell_of_blk z (i := 2) rfl, cell_of_blk z (i := 3) rfl, cell_of_blk z (i := 4) rfl, cell_of_blk z (i := 5) rfl, cell_of_blk z (i := 6) rfl, cell_of_blk (k.blk D (by simp; omega)) (i := 0) rfl⟩
  have HC3 : Hid (∀ W' : World, Calls Tryz.prog 52 #[.agg #[.int .i64 c.t, .int .i64 c.s, .int .i64 c.c, .int .i64 c.h, .int .i64 c.k, .int .i64 c.e, .int .i64 c.l], .int .i64 0, .int .i64 0] W' fun e w' => e = .returned (.int .i64 ((x0 : Nat) : Int)) ∧ Kept [] W' w') := fun W' => rcell_is e0 W'
  have HE3 : Hid _ := And.intro Z (And.intro Y (And.intro D (And.intro RW T)))
  clear Z Y D RW T
  go_region_held3 (fun W' => W'.cell? ⟨b, 0, none⟩ = some (.int .i64 c.t) ∧ W'.cell? ⟨b, 1, none⟩ = some (.int .i64 c.s) ∧ W'.cell? ⟨b, 2, none⟩ = some (.int .i64 c.c) ∧ W'.cell? ⟨b, 3, none⟩ = some (.int .i64 c.h) ∧ W'.cell? ⟨b, 4, none⟩ = some (.int .i64 c.k) ∧ W'.cell? ⟨b, 5, none⟩ = some (.int .i64 c.e) ∧ W'.cell? ⟨b, 6, none⟩ = some (.int .i64 c.l) ∧ W'.cell? ⟨d, 0, none⟩ = some (.slice (some ⟨r, 0, none⟩) n n))
    (exact HS3.out _ (by (repeat (first | (with_reducible refine Kept.setCell ?_ ?_ _) | (with_reducible refine Kept.alloc ?_ _) | (with_reducible refine Kept.drew ?_))); (first | (with_reducible assumption) | (with_reducible exact Kept.refl _ _) | exact Kept.weaken (l := []) (by with_reducible assumption) (by simp)); all_goals (first | exact Or.inr (Nat.le_refl _) | (refine Or.inr (Kept.size (l := []) ?_); assumption) | (refine Or.inl ?_; simp; done))))
    (first
        | (go_at_call 53; refine (taken0 _).mono ?_; rintro e w5 ⟨rfl, J5⟩; have K5 : Kept [] W3 w5 := Kept.trans (by (repeat (first | (with_reducible refine Kept.setCell ?_ ?_ _) | (with_reducible refine Kept.alloc ?_ _) | (with_reducible refine Kept.drew ?_))); (first | (with_reducible assumption) | (with_reducible exact Kept.refl _ _) | exact Kept.weaken (l := []) (by with_reducible assumption) (by simp)); all_goals (first | exact Or.inr (Nat.le_refl _) | (refine Or.inr (Kept.size (l := []) ?_); assumption) | (refine Or.inl ?_; simp; done))) J5; have R5 := (HE3.out.2.2.2.1).kept K5 (by simp); have c5 := R5.cell (i := x0) (by simpa using l0); have f5 := R5.free x0; have r5 := R5.lt)
        | (go_at_call 52; refine (HC3.out _).mono ?_; rintro e w6 ⟨rfl, J6⟩; have K6 : Kept [] W3 w6 := Kept.trans (by (repeat (first | (with_reducible refine Kept.setCell ?_ ?_ _) | (with_reducible refine Kept.alloc ?_ _) | (with_reducible refine Kept.drew ?_))); (first | (with_reducible assumption) | (with_reducible exact Kept.refl _ _) | exact Kept.weaken (l := []) (by with_reducible assumption) (by simp)); all_goals (first | exact Or.inr (Nat.le_refl _) | (refine Or.inr (Kept.size (l := []) ?_); assumption) | (refine Or.inl ?_; simp; done))) J6; have R6 := (HE3.out.2.2.2.1).kept K6 (by simp); have c6 := R6.cell (i := x0) (by simpa using l0); have f6 := R6.free x0; have r6 := R6.lt))
  all_goals
    obtain ⟨Z, Y, D, RW, T⟩ := HE3.out
    clear c6 f6 r6 c5 f5 r5 HS3 HC3 HE3 RW
    go_upto_region 4 with (fail)
    refine gen_world (fun W4 => CB W4 b c ∧ W4.heap[b + 1]? = some (.cells #[.int .i64 0, .int .i64 0, .int .i64 0, .int .i64 0, .int .i64 0, .int .i64 0, .int .i64 0, .slice none 0 0, .int .i64 0, .int .i64 0, .int .i64 0, .int .u64 0, .int .u64 0, .int .u64 0, .bool false] 35 (0, 0)) ∧ W4.heap[d]? = some (.cells #[.slice (some ⟨r, 0, none⟩) n n, .int .i64 0, .int .i64 0, .int .i64 0, .int .u64 0, .int .u64 0, .int .u64 0, .bool false] 33 (0, 0)) ∧ Row W4 r (((List.replicate n 0).set 0 1).set x0 1) ∧ Kept [] w W4) ?_ ?_
    · first
        | (have ks : Kept [r] w5 (w5.setCell ⟨r, x0, none⟩ (.int .u64 1)) := (Kept.refl _ _).setCell (Or.inl (by simp)) _
           have kt := (K5.weaken (m := [r]) (by simp)).trans ks
           exact ⟨Z.kept kt (by simp; omega), kt.blk Y (by simp; omega), kt.blk D (by simp; omega), R5.set x0 1, T.then kt (by simp; omega)⟩)
        | (have ks : Kept [r] w6 (w6.setCell ⟨r, x0, none⟩ (.int .u64 1)) := (Kept.refl _ _).setCell (Or.inl (by simp)) _
           have kt := (K6.weaken (m := [r]) (by simp)).trans ks
           exact ⟨Z.kept kt (by simp; omega), kt.blk Y (by simp; omega), kt.blk D (by simp; omega), R6.set x0 1, T.then kt (by simp; omega)⟩)
    clear Z Y D T R5 R6 K5 K6 J5 J6
    rintro W4 ⟨Z, Y, D, RW, T⟩
    have HS4 : Hid (∀ W' : World, Kept [r] W4 W' → W'.cell? ⟨b, 0, none⟩ = some (.int .i64 c.t) ∧ W'.cell? ⟨b, 1, none⟩ = some (.int .i64 c.s) ∧ W'.cell? ⟨b, 2, none⟩ = some (.int .i64 c.c) ∧ W'.cell? ⟨b, 3, none⟩ = some (.int .i64 c.h) ∧ W'.cell? ⟨b, 4, none⟩ = some (.int .i64 c.k) ∧ W'.cell? ⟨b, 5, none⟩ = some (.int .i64 c.e) ∧ W'.cell? ⟨b, 6, none⟩ = some (.int .i64 c.l) ∧ W'.cell? ⟨d, 0, none⟩ = some (.slice (some ⟨r, 0, none⟩) n n)) := by
      intro W' k
      have z := k.blk Z (by simp; omega)
      exact ⟨cell_of_blk z (i := 0) rfl, cell_of_blk z (i := 1) rfl, cell_of_blk z (i := 2) rfl, cell_of_blk z (i := 3) rfl, cell_of_blk z (i := 4) rfl, cell_of_blk z (i := 5) rfl, cell_of_blk z (i := 6) rfl, cell_of_blk (k.blk D (by simp; omega)) (i := 0) rfl⟩
    have HC4 : Hid (∀ W' : World, Calls Tryz.prog 52 #[.agg #[.int .i64 c.t, .int .i64 c.s, .int .i64 c.c, .int .i64 c.h, .int .i64 c.k, .int .i64 c.e, .int .i64 c.l], .int .i64 0, .int .i64 4] W' fun e w' => e = .returned (.int .i64 ((x4 : Nat) : Int)) ∧ Kept [] W' w') := fun W' => rcell_is e4 W'
    have HE4 : Hid _ := And.intro Z (And.intro Y (And.intro D (And.intro RW T)))
    clear Z Y D RW T
    go_region_held3 (fun W' => W'.cell? ⟨b, 0, none⟩ = some (.int .i64 c.t) ∧ W'.cell? ⟨b, 1, none⟩ = some (.int .i64 c.s) ∧ W'.cell? ⟨b, 2, none⟩ = some (.int .i64 c.c) ∧ W'.cell? ⟨b, 3, none⟩ = some (.int .i64 c.h) ∧ W'.cell? ⟨b, 4, none⟩ = some (.int .i64 c.k) ∧ W'.cell? ⟨b, 5, none⟩ = some (.int .i64 c.e) ∧ W'.cell? ⟨b, 6, none⟩ = some (.int .i64 c.l) ∧ W'.cell? ⟨d, 0, none⟩ = some (.slice (some ⟨r, 0, none⟩) n n))
      (exact HS4.out _ (by (repeat (first | (with_reducible refine Kept.setCell ?_ ?_ _) | (with_reducible refine Kept.alloc ?_ _) | (with_reducible refine Kept.drew ?_))); (first | (with_reducible assumption) | (with_reducible exact Kept.refl _ _) | exact Kept.weaken (l := []) (by with_reducible assumption) (by simp)); all_goals (first | exact Or.inr (Nat.le_refl _) | (refine Or.inr (Kept.size (l := []) ?_); assumption) | (refine Or.inl ?_; simp; done))))
      (first
          | (go_at_call 52; refine (HC4.out _).mono ?_; rintro e w6 ⟨rfl, J6⟩; have K6 : Kept [] W4 w6 := Kept.trans (by (repeat (first | (with_reducible refine Kept.setCell ?_ ?_ _) | (with_reducible refine Kept.alloc ?_ _) | (with_reducible refine Kept.drew ?_))); (first | (with_reducible assumption) | (with_reducible exact Kept.refl _ _) | exact Kept.weaken (l := []) (by with_reducible assumption) (by simp)); all_goals (first | exact Or.inr (Nat.le_refl _) | (refine Or.inr (Kept.size (l := []) ?_); assumption) | (refine Or.inl ?_; simp; done))) J6; have R6 := (HE4.out.2.2.2.1).kept K6 (by simp); have c6 := R6.cell (i := x4) (by simpa using l4); have f6 := R6.free x4; have r6 := R6.lt))
    all_goals
      obtain ⟨Z, Y, D, RW, T⟩ := HE4.out
      clear c6 f6 r6 HS4 HC4 HE4 RW
      go_upto_region 5 with (fail)
      refine gen_world (fun W5 => CB W5 b c ∧ W5.heap[b + 1]? = some (.cells #[.int .i64 0, .int .i64 0, .int .i64 0, .int .i64 0, .int .i64 0, .int .i64 0, .int .i64 0, .slice none 0 0, .int .i64 0, .int .i64 0, .int .i64 0, .int .u64 0, .int .u64 0, .int .u64 0, .bool false] 35 (0, 0)) ∧ W5.heap[d]? = some (.cells #[.slice (some ⟨r, 0, none⟩) n n, .int .i64 0, .int .i64 0, .int .i64 0, .int .u64 0, .int .u64 0, .int .u64 0, .bool false] 33 (0, 0)) ∧ Row W5 r ((((List.replicate n 0).set 0 1).set x0 1).set x4 c.h) ∧ Kept [] w W5) ?_ ?_
      · have ks : Kept [r] w6 (w6.setCell ⟨r, x4, none⟩ (.int .u64 c.h)) := (Kept.refl _ _).setCell (Or.inl (by simp)) _
        have kt := (K6.weaken (m := [r]) (by simp)).trans ks
        exact ⟨Z.kept kt (by simp; omega), kt.blk Y (by simp; omega), kt.blk D (by simp; omega), R6.set x4 c.h, T.then kt (by simp; omega)⟩
      clear Z Y D T R6 K6 J6
      rintro W5 ⟨Z, Y, D, RW, T⟩
      have q0 := cell_of_blk Z (i := 0) rfl
      have q1 := cell_of_blk Z (i := 1) rfl
      have q2 := cell_of_blk Z (i := 2) rfl
      have q3 := cell_of_blk Z (i := 3) rfl
      have q4 := cell_of_blk Z (i := 4) rfl
      have q5 := cell_of_blk Z (i := 5) rfl
      have q6 := cell_of_blk Z (i := 6) rfl
      have y0 := cell_of_blk Y (i := 0) rfl
      have y1 := cell_of_blk Y (i := 1) rfl
      have y2 := cell_of_blk Y (i := 2) rfl
      have y3 := cell_of_blk Y (i := 3) rfl
      have y4 := cell_of_blk Y (i := 4) rfl
      have y5 := cell_of_blk Y (i := 5) rfl
      have y6 := cell_of_blk Y (i := 6) rfl
      have y7 := cell_of_blk Y (i := 7) rfl
      have y8 := cell_of_blk Y (i := 8) rfl
      have y9 := cell_of_blk Y (i := 9) rfl
      have y10 := cell_of_blk Y (i := 10) rfl
      have y11 := cell_of_blk Y (i := 11) rfl
      have y12 := cell_of_blk Y (i := 12) rfl
      have y13 := cell_of_blk Y (i := 13) rfl
      have y14 := cell_of_blk Y (i := 14) rfl
      have d0 := cell_of_blk D (i := 0) rfl
      have d1 := cell_of_blk D (i := 1) rfl
      have d2 := cell_of_blk D (i := 2) rfl
      have d3 := cell_of_blk D (i := 3) rfl
      have d4 := cell_of_blk D (i := 4) rfl
      have d5 := cell_of_blk D (i := 5) rfl
      have d6 := cell_of_blk D (i := 6) rfl
      have d7 := cell_of_blk D (i := 7) rfl
      have fy := free_of_blk Y
      have HF : Hid _ := And.intro (hf1 RW.rowR T hbw (by omega)) RW
      clear Z Y D RW T
      go_wp2
      refine bodyPost_ret (v := rmV c (some ⟨r, 0, none⟩) n n 0 Acc.zero) (by simp [results, Tryz.results50, go_sem, rmV, Acc.zero, y0, y1, y2, y3, y4, y5, y6, y7, y8, y9, y10, y11, y12, y13, y14]) rfl ⟨r, rfl, by omega, ?_, (HF.out.1 _ (by (repeat (first | (with_reducible refine Kept.setCell ?_ ?_ _) | (with_reducible refine Kept.alloc ?_ _) | (with_reducible refine Kept.drew ?_))); (first | (with_reducible assumption) | (with_reducible exact Kept.refl _ _) | exact Kept.weaken (l := []) (by with_reducible assumption) (by simp)); all_goals (first | exact Or.inr (Nat.le_refl _) | (refine Or.inr (Kept.size (l := []) ?_); assumption) | (refine Or.inl ?_; simp; done)))).2⟩
      exact HF.out.2.kept (l := [b + 1]) (by (repeat (first | (with_reducible refine Kept.setCell ?_ ?_ _) | (with_reducible refine Kept.alloc ?_ _) | (with_reducible refine Kept.drew ?_))); (first | (with_reducible assumption) | (with_reducible exact Kept.refl _ _) | exact Kept.weaken (l := []) (by with_reducible assumption) (by simp)); all_goals (first | exact Or.inr (Nat.le_refl _) | (refine Or.inr (Kept.size (l := []) ?_); assumption) | (refine Or.inl ?_; simp; done))) (by simp; omega)
end Go.Proofs.YtgafmklfpiipcaaGreatDoor

/-
  The document's own words of a new world, and of one that has such words.
-/
import Derived.Test.YtmmpafhfanldbaaDoorMNew
namespace Go.Proofs.YtmmpafhfanldbaaDoor
open Go.RowKit (Grown Hid Below)
open Go.Deep
set_option maxRecDepth 100000
theorem taken0 (w : World) : Calls Tryd.prog 45 #[.int .i64 0] w fun e w' => e = .returned (.int .u64 1) ∧ Kept [] w w' := by
  go_enter Tryd.func45, Tryd.ntmps45
  go_wp2_with fail
  refine (S.rmeta_yes 1 0 _ (by decide)).mono ?_
  rintro e w1 ⟨rfl, K1⟩
  rw [show S.meV 1 0 = 1 from rfl]
  go_wp2
  go_ret
  exact ⟨rfl, K1⟩
theorem newN_ln (c : Cfg) : newN (lnV c) = lnN c := by
  have := ln_bd c
  unfold newN lnN; rw [if_neg (by omega), if_pos (by omega)]
set_option maxRecDepth 100000 in
set_option maxHeartbeats 2000000 in
theorem rmof_any (c : Cfg) (ao : Option Addr) (xs : List Int) (n cap : Nat) (w : World) (hx : n = xs.length) (hs : Sl w ao xs) (hc : ao = none → cap = 0) (hn : n ≤ 17592186044415) :
    Calls Tryd.prog 36 #[.agg #[.int .i64 c.t, .int .i64 c.s, .int .i64 c.c, .int .i64 c.h, .int .i64 c.k, .int .i64 c.e, .int .i64 c.l], .slice ao n cap] w fun e w' => ∃ g c', e = .returned (rmV c (some ⟨g, 0, none⟩) n c' 0 Acc.zero) ∧ w.heap.size ≤ g ∧ RowR w' g xs c' ∧ Kept [] w w' := by
  have HB : Hid (∀ W' : World, Kept [] w W' → Calls Tryd.prog 65 #[.slice ao n cap] W' fun e w' => ∃ g c', e = .returned (rbV (some ⟨g, 0, none⟩) n c' 0 Acc.zero) ∧ W'.heap.size ≤ g ∧ RowR w' g xs c' ∧ Kept [] W' w') := fun W' k => by
    have q := rof_any ao xs cap W' (hs.new k) hc (by omega)
    rw [← hx] at q; exact q
  clear hx hs hc hn
  obtain ⟨b, hb⟩ : ∃ b, b = w.heap.size := ⟨_, rfl⟩
  go_enter Tryd.func36, Tryd.ntmps36
  go_upto_region 1 with (fail)
  refine gen_world (fun W => CB W b c ∧ W.heap[b + 1]? = some (.cells #[.int .i64 0, .int .i64 0, .int .i64 0, .int .i64 0, .int .i64 0, .int .i64 0, .int .i64 0, .slice none 0 0, .int .i64 0, .int .i64 0, .int .i64 0, .int .u64 0, .int .u64 0, .int .u64 0, .bool false] 35 (0, 0)) ∧ Kept [] w W) ?_ ?_
  · rw [hb]
    exact ⟨(CB.new w c).kept ((Kept.refl [] _).alloc _) (by simp), blk2 w _ _, kept2 w _ _⟩
  rw [← hb]
  have hbw : w.heap.size ≤ b := by omega
  clear hb
  rintro W ⟨Z, Y, T⟩
  have HS : Hid (∀ W' : World, Kept [b + 1] W W' → W'.cell? ⟨b, 0, none⟩ = some (.int .i64 c.t) ∧ W'.cell? ⟨b, 1, none⟩ = some (.int .i64 c.s) ∧ W'.cell? ⟨b, 2, none⟩ = some (.int .i64 c.c) ∧ W'.cell? ⟨b, 3, none⟩ = some (.int .i64 c.h) ∧ W'.cell? ⟨b, 4, none⟩ = some (.int .i64 c.k) ∧ W'.cell? ⟨b, 5, none⟩ = some (.int .i64 c.e) ∧ W'.cell? ⟨b, 6, none⟩ = some (.int .i64 c.l)) := by
    intro W' k
    have z := k.blk Z (by simp)
    exact ⟨cell_of_blk z (i := 0) rfl, cell_of_blk z (i := 1) rfl, cell_of_blk z (i := 2) rfl, cell_of_blk z (i := 3) rfl, cell_of_blk z (i := 4) rfl, cell_of_blk z (i := 5) rfl, cell_of_blk z (i := 6) rfl⟩
  have HT : Hid _ := T
  have HY : Hid _ := Y
  clear Z Y T
  go_region_held3 (fun W' => W'.cell? ⟨b, 0, none⟩ = some (.int .i64 c.t) ∧ W'.cell? ⟨b, 1, none⟩ = some (.int .i64 c.s) ∧ W'.cell? ⟨b, 2, none⟩ = some (.int .i64 c.c) ∧ W'.cell? ⟨b, 3, none⟩ = some (.int .i64 c.h) ∧ W'.cell? ⟨b, 4, none⟩ = some (.int .i64 c.k) ∧ W'.cell? ⟨b, 5, none⟩ = some (.int .i64 c.e) ∧ W'.cell? ⟨b, 6, none⟩ = some (.int .i64 c.l))
    (exact HS.out _ (by (repeat (first | (with_reducible refine Kept.setCell ?_ ?_ _) | (with_reducible refine Kept.alloc ?_ _) | (with_reducible refine Kept.drew ?_))); (first | (with_reducible assumption) | (with_reducible exact Kept.refl _ _) | exact Kept.weaken (l := []) (by with_reducible assumption) (by simp)); all_goals (first | exact Or.inr (Nat.le_refl _) | (refine Or.inr (Kept.size (l := []) ?_); assumption) | (refine Or.inl ?_; simp; done))))
    (first
      | (go_at_call 65; refine (HB.out _ (HT.out.trans (by (repeat (first | (with_reducible refine Kept.setCell ?_ ?_ _) | (with_reducible refine Kept.alloc ?_ _) | (with_reducible refine Kept.drew ?_))); (first | (with_reducible assumption) | (with_reducible exact Kept.refl _ _) | exact Kept.weaken (l := []) (by with_reducible assumption) (by simp)); all_goals (first | exact Or.inr (Nat.le_refl _) | (refine Or.inr (Kept.size (l := []) ?_); assumption) | (refine Or.inl ?_; simp; done))))).mono ?_; rintro e w5 ⟨g, c', rfl, P5, R5, J5⟩; have K5 : Kept [] W w5 := Kept.trans (by (repeat (first | (with_reducible refine Kept.setCell ?_ ?_ _) | (with_reducible refine Kept.alloc ?_ _) | (with_reducible refine Kept.drew ?_))); (first | (with_reducible assumption) | (with_reducible exact Kept.refl _ _) | exact Kept.weaken (l := []) (by with_reducible assumption) (by simp)); all_goals (first | exact Or.inr (Nat.le_refl _) | (refine Or.inr (Kept.size (l := []) ?_); assumption) | (refine Or.inl ?_; simp; done))) J5; simp only [rbV]; have y := K5.blk HY.out (by simp); have y0 := cell_of_blk y (i := 0) rfl; have y1 := cell_of_blk y (i := 1) rfl; have y2 := cell_of_blk y (i := 2) rfl; have y3 := cell_of_blk y (i := 3) rfl; have y4 := cell_of_blk y (i := 4) rfl; have y5 := cell_of_blk y (i := 5) rfl; have y6 := cell_of_blk y (i := 6) rfl; have y7 := cell_of_blk y (i := 7) rfl; have y8 := cell_of_blk y (i := 8) rfl; have y9 := cell_of_blk y (i := 9) rfl; have y10 := cell_of_blk y (i := 10) rfl; have y11 := cell_of_blk y (i := 11) rfl; have y12 := cell_of_blk y (i := 12) rfl; have y13 := cell_of_blk y (i := 13) rfl; have y14 := cell_of_blk y (i := 14) rfl; have fy := free_of_blk y; have ly := lt_of_blk y))
  all_goals
    have gy : ¬ g = b + 1 := R5.ne y (by decide)
    have hg : w.heap.size ≤ g := Nat.le_trans HT.out.size P5
    have HF : Hid _ := hf1 R5 (HT.out.trans K5) hbw gy
    clear R5 gy P5 hbw y
    try go_wp2
    exact bodyPost_ret (v := rmV c (some ⟨g, 0, none⟩) n c' 0 Acc.zero) (by simp [results, Tryd.results36, go_sem, rmV, y0, y1, y2, y3, y4, y5, y6, y7, y8, y9, y10, y11, y12, y13, y14]) rfl ⟨g, c', rfl, hg, HF.out _ (by (repeat (first | (with_reducible refine Kept.setCell ?_ ?_ _) | (with_reducible refine Kept.alloc ?_ _) | (with_reducible refine Kept.drew ?_))); (first | (with_reducible assumption) | (with_reducible exact Kept.refl _ _) | exact Kept.weaken (l := []) (by with_reducible assumption) (by simp)); all_goals (first | exact Or.inr (Nat.le_refl _) | (refine Or.inr (Kept.size (l := []) ?_); assumption) | (refine Or.inl ?_; simp; done)))⟩
end Go.Proofs.YtmmpafhfanldbaaDoor

/-
  The document's own answers for layer 5: a world's words are a value (how great it is, and a bank); what each call makes of them.
-/
import Derived.Test.YtgafmklfpiipcaaGreatDoorMRef0
namespace Go.Proofs.YtgafmklfpiipcaaGreatDoor
open Go.RowKit (Grown Hid Below)
open Go.Deep
set_option maxRecDepth 100000
set_option maxRecDepth 100000 in
set_option maxHeartbeats 2000000 in
theorem qload_any (c : Cfg) (g : Nat) (cs : List Int) (cap : Nat) (cnt : Int) (a : Acc) (h f : Int) (w : World) (hR : RowR w g cs cap) (hl : cs.length ≤ 17592186044415) (h0 : 0 ≤ h) (h1 : h < 18446744073709551616) (c0 : 0 ≤ cnt) (c1 : cnt < 4611686018427387904) :
    Calls Tryz.prog 35 #[rmV c (some ⟨g, 0, none⟩) cs.length cap cnt a, .int .u64 h, .int .i64 f] w fun e w' =>
      ∃ g' c', e = .returned (.tuple #[rmV c (some ⟨g', 0, none⟩) cs.length c' (cnt + 1) (acV cs 1 (clV' c (ixV h) f) (plainV h) 0 0), .int .u64 (acV cs 1 (clV' c (ixV h) f) (plainV h) 0 0).o]) ∧ (g' = g ∨ w.heap.size ≤ g') ∧ RowR w' g' (clV cs 1 (clV' c (ixV h) f) 0 0) c' ∧ Kept [] w w' := by
  obtain ⟨X, hX⟩ : ∃ X, (clV' c (ixV h) f) = X := ⟨_, rfl⟩
  rw [hX]
  obtain ⟨V, hV⟩ : ∃ V, plainV h = V := ⟨_, rfl⟩
  rw [hV]
  obtain ⟨n, Hn⟩ : ∃ n, n = cs.length := ⟨_, rfl⟩
  have BL : Hid (∀ W' : World, Kept [] w W' → Calls Tryz.prog 70 #[.agg #[.slice (some ⟨g, 0, none⟩) n cap, .int .i64 cnt, .int .i64 a.k, .int .i64 a.c, .int .u64 a.v, .int .u64 a.o, .int .u64 a.n, .bool a.d], .int .i64 X, .int .u64 V] W' fun e w' => ∃ g' c', e = .returned (.tuple #[.agg #[.slice (some ⟨g', 0, none⟩) n c', .int .i64 (cnt + 1), .int .i64 (acV cs 1 X V 0 0).k, .int .i64 (acV cs 1 X V 0 0).c, .int .u64 (acV cs 1 X V 0 0).v, .int .u64 (acV cs 1 X V 0 0).o, .int .u64 (acV cs 1 X V 0 0).n, .bool (acV cs 1 X V 0 0).d], .int .u64 (acV cs 1 X V 0 0).o]) ∧ (g' = g ∨ w.heap.size ≤ g') ∧ RowR w' g' (clV cs 1 X 0 0) c' ∧ Kept [] w w' ∧ Kept [] W' w') := by
    intro W' k
    rw [Hn]
    refine (rload_any g cs cap cnt a X V W' (hR.kept k (by simp)) hl c0 c1).mono ?_
    rintro e w' ⟨g', c', h1, h2, h3, h4⟩
    exact ⟨g', c', h1, h2.imp id (fun h => Nat.le_trans k.size h), h3, k.trans h4, h4⟩
  rw [← Hn]
  have CE : Hid (∀ W' : World, Calls Tryz.prog 63 #[.agg #[.int .i64 c.t, .int .i64 c.s, .int .i64 c.c, .int .i64 c.h, .int .i64 c.k, .int .i64 c.e, .int .i64 c.l, .slice (some ⟨g, 0, none⟩) n cap, .int .i64 cnt, .int .i64 a.k, .int .i64 a.c, .int .u64 a.v, .int .u64 a.o, .int .u64 a.n, .bool a.d], .int .u64 h, .int .i64 f] W' fun e w' => e = .returned (.int .i64 X) ∧ Kept [] W' w') := fun W' => hX ▸ rmcell_any c g n cap cnt a h f W' h0 h1
  have PL : Hid (∀ W' : World, Calls Tryz.prog 37 #[.int .u64 h] W' fun e w' => e = .returned (.int .u64 V) ∧ Kept [] W' w') := fun W' => rplain_is hV W' h0 h1
  clear hV
  clear hX hl Hn hR
  generalize acV cs 1 X V 0 0 = A at *
  generalize clV cs 1 X 0 0 = C at *
  simp only [rmV]
  obtain ⟨b, hb⟩ : ∃ b, b = w.heap.size := ⟨_, rfl⟩
  go_enter Tryz.func35, Tryz.ntmps35
  go_upto_region 1 with (fail)
  refine gen_world (fun W => W.heap[b]? = some (.cells #[.int .i64 c.t, .int .i64 c.s, .int .i64 c.c, .int .i64 c.h, .int .i64 c.k, .int .i64 c.e, .int .i64 c.l, .slice (some ⟨g, 0, none⟩) n cap, .int .i64 cnt, .int .i64 a.k, .int .i64 a.c, .int .u64 a.v, .int .u64 a.o, .int .u64 a.n, .bool a.d] 35 (0, 0)) ∧ W.heap[b + 1]? = some (.cells #[.int .i64 0, .int .i64 0, .int .i64 0, .int .i64 0, .int .i64 0, .int .i64 0, .int .i64 0, .slice none 0 0, .int .i64 0, .int .i64 0, .int .i64 0, .int .u64 0, .int .u64 0, .int .u64 0, .bool false] 35 (0, 0)) ∧ Kept [] w W) ?_ ?_
  · rw [hb]
    exact ⟨Kept.blk ((Kept.refl [] _).alloc _) (blk_alloc_new w _) (by simp), blk2 w _ _, kept2 w _ _⟩
  rw [← hb]
  have hbw : w.heap.size ≤ b := by omega
  clear hb
  rintro W ⟨Z, Y, T⟩
  have hbW := lt_of_blk Y
  have HS : Hid (∀ W' : World, Kept [b + 1] W W' → W'.cell? ⟨b, 0, none⟩ = some (.int .i64 c.t) ∧ W'.cell? ⟨b, 1, none⟩ = some (.int .i64 c.s) ∧ W'.cell? ⟨b, 2, none⟩ = some (.int .i64 c.c) ∧ W'.cell? ⟨b, 3, none⟩ = some (.int .i64 c.h) ∧ W'.cell? ⟨b, 4, none⟩ = some (.int .i64 c.k) ∧ W'.cell? ⟨b, 5, none⟩ = some (.int .i64 c.e) ∧ W'.cell? ⟨b, 6, none⟩ = some (.int .i64 c.l) ∧ W'.cell? ⟨b, 7, none⟩ = some (.slice (some ⟨g, 0, none⟩) n cap) ∧ W'.cell? ⟨b, 8, none⟩ = some (.int .i64 cnt) ∧ W'.cell? ⟨b, 9, none⟩ = some (.int .i64 a.k) ∧ W'.cell? ⟨b, 10, none⟩ = some (.int .i64 a.c) ∧ W'.cell? ⟨b, 11, none⟩ = some (.int .u64 a.v) ∧ W'.cell? ⟨b, 12, none⟩ = some (.int .u64 a.o) ∧ W'.cell? ⟨b, 13, none⟩ = some (.int .u64 a.n) ∧ W'.cell? ⟨b, 14, none⟩ = some (.bool a.d)) := by
    intro W' k
    have z := k.blk Z (by simp)
    exact ⟨cell_of_blk z (i := 0) rfl, cell_of_blk z (i := 1) rfl, cell_of_blk z (i := 2) rfl, cell_of_blk z (i := 3) rfl, cell_of_blk z (i := 4) rfl, cell_of_blk z (i := 5) rfl, cell_of_blk z (i := 6) rfl, cell_of_blk z (i := 7) rfl, cell_of_blk z (i := 8) rfl, cell_of_blk z (i := 9) rfl, cell_of_blk z (i := 10) rfl, cell_of_blk z (i := 11) rfl, cell_of_blk z (i := 12) rfl, cell_of_blk z (i := 13) rfl, cell_of_blk z (i := 14) rfl⟩
  have HT : Hid _ := T
  have HY : Hid _ := Y
  have HZ : Hid _ := Z
  clear Z Y T
  go_region_held3 (fun W' => W'.cell? ⟨b, 0, none⟩ = some (.int .i64 c.t) ∧ W'.cell? ⟨b, 1, none⟩ = some (.int .i64 c.s) ∧ W'.cell? ⟨b, 2, none⟩ = some (.int .i64 c.c) ∧ W'.cell? ⟨b, 3, none⟩ = some (.int .i64 c.h) ∧ W'.cell? ⟨b, 4, none⟩ = some (.int .i64 c.k) ∧ W'.cell? ⟨b, 5, none⟩ = some (.int .i64 c.e) ∧ W'.cell? ⟨b, 6, none⟩ = some (.int .i64 c.l) ∧ W'.cell? ⟨b, 7, none⟩ = some (.slice (some ⟨g, 0, none⟩) n cap) ∧ W'.cell? ⟨b, 8, none⟩ = some (.int .i64 cnt) ∧ W'.cell? ⟨b, 9, none⟩ = some (.int .i64 a.k) ∧ W'.cell? ⟨b, 10, none⟩ = some (.int .i64 a.c) ∧ W'.cell? ⟨b, 11, none⟩ = some (.int .u64 a.v) ∧ W'.cell? ⟨b, 12, none⟩ = some (.int .u64 a.o) ∧ W'.cell? ⟨b, 13, none⟩ = some (.int .u64 a.n) ∧ W'.cell? ⟨b, 14, none⟩ = some (.bool a.d))
    (exact HS.out _ (by (repeat (first | (with_reducible refine Kept.setCell ?_ ?_ _) | (with_reducible refine Kept.alloc ?_ _) | (with_reducible refine Kept.drew ?_))); (first | (with_reducible assumption) | (with_reducible exact Kept.refl _ _) | exact Kept.weaken (l := []) (by with_reducible assumption) (by simp)); all_goals (first | exact Or.inr (Nat.le_refl _) | (refine Or.inr (Kept.size (l := []) ?_); assumption) | (refine Or.inl ?_; simp; done))))
    (first
      | (go_at_call 63; refine (CE.out _).mono ?_; rintro e w5 ⟨rfl, K5⟩; have U5 : Kept [] W w5 := Kept.trans (by (repeat (first | (with_reducible refine Kept.setCell ?_ ?_ _) | (with_reducible refine Kept.alloc ?_ _) | (with_reducible refine Kept.drew ?_))); (first | (with_reducible assumption) | (with_reducible exact Kept.refl _ _) | exact Kept.weaken (l := []) (by with_reducible assumption) (by simp)); all_goals (first | exact Or.inr (Nat.le_refl _) | (refine Or.inr (Kept.size (l := []) ?_); assumption) | (refine Or.inl ?_; simp; done))) K5; have b5 : b + 1 < w5.heap.size := Nat.lt_of_lt_of_le hbW U5.size; try (have z5 : w5.heap[W.heap.size]? = some (.cells #[.slice none 0 0, .int .i64 0, .int .i64 0, .int .i64 0, .int .u64 0, .int .u64 0, .int .u64 0, .bool false] 33 (0, 0)) := K5.blk (blk_alloc_new _ _) (by simp)))
      | (go_at_call 37; refine (PL.out _).mono ?_; rintro e w6 ⟨rfl, K6⟩; have U6 : Kept [] W w6 := Kept.trans (by (repeat (first | (with_reducible refine Kept.setCell ?_ ?_ _) | (with_reducible refine Kept.alloc ?_ _) | (with_reducible refine Kept.drew ?_))); (first | (with_reducible assumption) | (with_reducible exact Kept.refl _ _) | exact Kept.weaken (l := []) (by with_reducible assumption) (by simp)); all_goals (first | exact Or.inr (Nat.le_refl _) | (refine Or.inr (Kept.size (l := []) ?_); assumption) | (refine Or.inl ?_; simp; done))) K6; have b6 : b + 1 < w6.heap.size := Nat.lt_of_lt_of_le hbW U6.size; try (first | have z6 := K6.blk z5 (by simp) | have z6 : w6.heap[w5.heap.size]? = some (.cells #[.slice none 0 0, .int .i64 0, .int .i64 0, .int .i64 0, .int .u64 0, .int .u64 0, .int .u64 0, .bool false] 33 (0, 0)) := K6.blk (blk_alloc_new _ _) (by simp) | have z6 : w6.heap[W.heap.size]? = some (.cells #[.slice none 0 0, .int .i64 0, .int .i64 0, .int .i64 0, .int .u64 0, .int .u64 0, .int .u64 0, .bool false] 33 (0, 0)) := K6.blk (blk_alloc_new _ _) (by simp)))
      | (go_at_call 70; refine (BL.out _ (Kept.trans HT.out (by (repeat (first | (with_reducible refine Kept.setCell ?_ ?_ _) | (with_reducible refine Kept.alloc ?_ _) | (with_reducible refine Kept.drew ?_))); (first | (with_reducible assumption) | (with_reducible exact Kept.refl _ _) | exact Kept.weaken (l := []) (by with_reducible assumption) (by simp)); all_goals (first | exact Or.inr (Nat.le_refl _) | (refine Or.inr (Kept.size (l := []) ?_); assumption) | (refine Or.inl ?_; simp; done))))).mono ?_; rintro e w7 ⟨g', c', rfl, N7, R7, T7, K7⟩; have U7 : Kept [] W w7 := Kept.trans (by (repeat (first | (with_reducible refine Kept.setCell ?_ ?_ _) | (with_reducible refine Kept.alloc ?_ _) | (with_reducible refine Kept.drew ?_))); (first | (with_reducible assumption) | (with_reducible exact Kept.refl _ _) | exact Kept.weaken (l := []) (by with_reducible assumption) (by simp)); all_goals (first | exact Or.inr (Nat.le_refl _) | (refine Or.inr (Kept.size (l := []) ?_); assumption) | (refine Or.inl ?_; simp; done))) K7; have y := U7.blk HY.out (by simp); have y0 := cell_of_blk y (i := 0) rfl; have y1 := cell_of_blk y (i := 1) rfl; have y2 := cell_of_blk y (i := 2) rfl; have y3 := cell_of_blk y (i := 3) rfl; have y4 := cell_of_blk y (i := 4) rfl; have y5 := cell_of_blk y (i := 5) rfl; have y6 := cell_of_blk y (i := 6) rfl; have y7 := cell_of_blk y (i := 7) rfl; have y8 := cell_of_blk y (i := 8) rfl; have y9 := cell_of_blk y (i := 9) rfl; have y10 := cell_of_blk y (i := 10) rfl; have y11 := cell_of_blk y (i := 11) rfl; have y12 := cell_of_blk y (i := 12) rfl; have y13 := cell_of_blk y (i := 13) rfl; have y14 := cell_of_blk y (i := 14) rfl; have fy := free_of_blk y; have b7 : b + 1 < w7.heap.size := lt_of_blk y; try ((first | have z7 := K7.blk z6 (by simp) | have z7 := K7.blk z5 (by simp) | have z7 : w7.heap[w6.heap.size]? = some (.cells #[.slice none 0 0, .int .i64 0, .int .i64 0, .int .i64 0, .int .u64 0, .int .u64 0, .int .u64 0, .bool false] 33 (0, 0)) := K7.blk (blk_alloc_new _ _) (by simp) | have z7 : w7.heap[w5.heap.size]? = some (.cells #[.slice none 0 0, .int .i64 0, .int .i64 0, .int .i64 0, .int .u64 0, .int .u64 0, .int .u64 0, .bool false] 33 (0, 0)) := K7.blk (blk_alloc_new _ _) (by simp)); have z7_0 := cell_of_blk z7 (i := 0) rfl; have z7_1 := cell_of_blk z7 (i := 1) rfl; have z7_2 := cell_of_blk z7 (i := 2) rfl; have z7_3 := cell_of_blk z7 (i := 3) rfl; have z7_4 := cell_of_blk z7 (i := 4) rfl; have z7_5 := cell_of_blk z7 (i := 5) rfl; have z7_6 := cell_of_blk z7 (i := 6) rfl; have z7_7 := cell_of_blk z7 (i := 7) rfl; have fz := free_of_blk z7; have lz7 := lt_of_blk z7; have gz := R7.ne z7 (by decide))))
  all_goals
    have z := U7.blk HZ.out (by simp)
    have q0 := cell_of_blk z (i := 0) rfl
    have q1 := cell_of_blk z (i := 1) rfl
    have q2 := cell_of_blk z (i := 2) rfl
    have q3 := cell_of_blk z (i := 3) rfl
    have q4 := cell_of_blk z (i := 4) rfl
    have q5 := cell_of_blk z (i := 5) rfl
    have q6 := cell_of_blk z (i := 6) rfl
    have q7 := cell_of_blk z (i := 7) rfl
    have q8 := cell_of_blk z (i := 8) rfl
    have q9 := cell_of_blk z (i := 9) rfl
    have q10 := cell_of_blk z (i := 10) rfl
    have q11 := cell_of_blk z (i := 11) rfl
    have q12 := cell_of_blk z (i := 12) rfl
    have q13 := cell_of_blk z (i := 13) rfl
    have q14 := cell_of_blk z (i := 14) rfl
    have hy := lt_of_blk y
    have ly : b + 1 < w7.heap.size + 1 := by omega
    have lz : b < w7.heap.size + 1 := by omega
    have hz : b < w7.heap.size := by omega
    have gy : ¬ g' = b + 1 := R7.ne y (by decide)
    have N : Hid _ := N7
    first
      | have HF : Hid _ := hf2 R7 T7 hbw (by have := HT.out.size; first | omega | (have := U5.size; omega) | (have := U6.size; omega)) gy gz
      | have HF : Hid _ := hf1 R7 T7 hbw gy
    clear z y R7 T7 N7 gy hbw
    try go_wp2
    exact bodyPost_ret (v := .tuple #[rmV c (some ⟨g', 0, none⟩) n c' (cnt + 1) A, .int .u64 A.o]) (by simp [results, Tryz.results35, go_sem, rmV, y0, y1, y2, y3, y4, y5, y6, y7, y8, y9, y10, y11, y12, y13, y14, hy]) rfl ⟨g', c', rfl, N.out, HF.out _ (by (repeat (first | (with_reducible refine Kept.setCell ?_ ?_ _) | (with_reducible refine Kept.alloc ?_ _) | (with_reducible refine Kept.drew ?_))); (first | (with_reducible assumption) | (with_reducible exact Kept.refl _ _) | exact Kept.weaken (l := []) (by with_reducible assumption) (by simp)); all_goals (first | exact Or.inr (Nat.le_refl _) | (refine Or.inr (Kept.size (l := []) ?_); assumption) | (refine Or.inl ?_; simp; done)))⟩
end Go.Proofs.YtgafmklfpiipcaaGreatDoor

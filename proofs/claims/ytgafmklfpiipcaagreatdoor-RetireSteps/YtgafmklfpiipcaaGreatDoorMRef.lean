/-
  The document's own answers for layer 5: a world's words are a value (how great it is, and a bank); what each call makes of them.
-/
import Derived.Test.YtgafmklfpiipcaaGreatDoorMRef0
namespace Go.Proofs.YtgafmklfpiipcaaGreatDoor
open Go.RowKit (Grown Hid Below)
open Go.Deep
set_option maxRecDepth 100000
set_option maxRecDepth 100000 in
set_option maxHeartbeats 2000000 in
theorem qclock_any (c : Cfg) (g : Nat) (cs : List Int) (cap : Nat) (cnt : Int) (a : Acc) (w : World) (hR : RowR w g cs cap) (hl : cs.length ≤ 17592186044415) (c0 : 0 ≤ cnt) (c1 : cnt < 4611686018427387904) :
    Calls Tryz.prog 36 #[rmV c (some ⟨g, 0, none⟩) cs.length cap cnt a] w fun e w' =>
      ∃ g' c', e = .returned (.tuple #[rmV c (some ⟨g', 0, none⟩) cs.length c' (cnt + 1) (acV cs 1 0 0 0 0), .int .u64 (acV cs 1 0 0 0 0).o]) ∧ (g' = g ∨ w.heap.size ≤ g') ∧ RowR w' g' (clV cs 1 0 0 0) c' ∧ Kept [] w w' := by
  obtain ⟨n, Hn⟩ : ∃ n, n = cs.length := ⟨_, rfl⟩
  have BL : Hid (∀ W' : World, Kept [] w W' → Calls Tryz.prog 70 #[.agg #[.slice (some ⟨g, 0, none⟩) n cap, .int .i64 cnt, .int .i64 a.k, .int .i64 a.c, .int .u64 a.v, .int .u64 a.o, .int .u64 a.n, .bool a.d], .int .i64 0, .int .u64 0] W' fun e w' => ∃ g' c', e = .returned (.tuple #[.agg #[.slice (some ⟨g', 0, none⟩) n c', .int .i64 (cnt + 1), .int .i64 (acV cs 1 0 0 0 0).k, .int .i64 (acV cs 1 0 0 0 0).c, .int .u64 (acV cs 1 0 0 0 0).v, .int .u64 (acV cs 1 0 0 0 0).o, .int .u64 (acV cs 1 0 0 0 0).n, .bool (acV cs 1 0 0 0 0).d], .int .u64 (acV cs 1 0 0 0 0).o]) ∧ (g' = g ∨ w.heap.size ≤ g') ∧ RowR w' g' (clV cs 1 0 0 0) c' ∧ Kept [] w w' ∧ Kept [] W' w') := by
    intro W' k
    rw [Hn]
    refine (rload_any g cs cap cnt a 0 0 W' (hR.kept k (by simp)) hl c0 c1).mono ?_
    rintro e w' ⟨g', c', h1, h2, h3, h4⟩
    exact ⟨g', c', h1, h2.imp id (fun h => Nat.le_trans k.size h), h3, k.trans h4, h4⟩
  rw [← Hn]
  clear hl Hn hR
  generalize acV cs 1 0 0 0 0 = A at *
  generalize clV cs 1 0 0 0 = C at *
  simp only [rmV]
  obtain ⟨b, hb⟩ : ∃ b, b = w.heap.size := ⟨_, rfl⟩
  go_enter Tryz.func36, Tryz.ntmps36
  go_upto_region 1 with (fail)
  refine gen_world (fun W => W.heap[b]? = some (.cells #[.int .i64 c.t, .int .i64 c.s, .int .i64 c.c, .int .i64 c.h, .int .i64 c.k, .int .i64 c.e, .int .i64 c.l, .slice (some ⟨g, 0, none⟩) n cap, .int .i64 cnt, .int .i64 a.k, .int .i64 a.c, .int .u64 a.v, .int .u64 a.o, .int .u64 a.n, .bool a.d] 35 (0, 0)) ∧ W.heap[b + 1]? = some (.cells #[.int .i64 0, .int .i64 0, .int .i64 0, .int .i64 0, .int .i64 0, .int .i64 0, .int .i64 0, .slice none 0 0, .int .i64 0, .int .i64 0, .int .i64 0, .int .u64 0, .int .u64 0, .int .u64 0, .bool false] 35 (0, 0)) ∧ Kept [] w W) ?_ ?_
  · rw [hb]
    exact ⟨Kept.blk ((Kept.refl [] _).alloc _) (blk_alloc_new w _) (by simp), blk2 w _ _, kept2 w _ _⟩
  rw [← hb]
  have hbw : w.heap.size ≤ b := by omega
  clear hb
  rintro W ⟨Z, Y, T⟩
  have hbW := lt_of_blk Y
  have q0 := cell_of_blk Z (i := 0) rfl
  have q1 := cell_of_blk Z (i := 1) rfl
  have q2 := cell_of_blk Z (i := 2) rfl
  have q3 := cell_of_blk Z (i := 3) rfl
  have q4 := cell_of_blk Z (i := 4) rfl
  have q5 := cell_of_blk Z (i := 5) rfl
  have q6 := cell_of_blk Z (i := 6) rfl
  have q7 := cell_of_blk Z (i := 7) rfl
  have q8 := cell_of_blk Z (i := 8) rfl
  have q9 := cell_of_blk Z (i := 9) rfl
  have q10 := cell_of_blk Z (i := 10) rfl
  have q11 := cell_of_blk Z (i := 11) rfl
  have q12 := cell_of_blk Z (i := 12) rfl
  have q13 := cell_of_blk Z (i := 13) rfl
  have q14 := cell_of_blk Z (i := 14) rfl
  go_wp2_with fail
  refine (BL.out _ T).mono ?_
  rintro e w7 ⟨g', c', rfl, N7, R7, T7, K7⟩
  have z := K7.blk Z (by simp)
  have y := K7.blk Y (by simp)
  clear q0 q1 q2 q3 q4 q5 q6 q7 q8 q9 q10 q11 q12 q13 q14 Z Y T
  have q0 := cell_of_blk z (i := 0) rfl
  have q1 := cell_of_blk z (i := 1) rfl
  have q2 := cell_of_blk z (i := 2) rfl
  have q3 := cell_of_blk z (i := 3) rfl
  have q4 := cell_of_blk z (i := 4) rfl
  have q5 := cell_of_blk z (i := 5) rfl
  have q6 := cell_of_blk z (i := 6) rfl
  have q7 := cell_of_blk z (i := 7) rfl
  have q8 := cell_of_blk z (i := 8) rfl
  have q9 := cell_of_blk z (i := 9) rfl
  have q10 := cell_of_blk z (i := 10) rfl
  have q11 := cell_of_blk z (i := 11) rfl
  have q12 := cell_of_blk z (i := 12) rfl
  have q13 := cell_of_blk z (i := 13) rfl
  have q14 := cell_of_blk z (i := 14) rfl
  have y0 := cell_of_blk y (i := 0) rfl
  have y1 := cell_of_blk y (i := 1) rfl
  have y2 := cell_of_blk y (i := 2) rfl
  have y3 := cell_of_blk y (i := 3) rfl
  have y4 := cell_of_blk y (i := 4) rfl
  have y5 := cell_of_blk y (i := 5) rfl
  have y6 := cell_of_blk y (i := 6) rfl
  have y7 := cell_of_blk y (i := 7) rfl
  have y8 := cell_of_blk y (i := 8) rfl
  have y9 := cell_of_blk y (i := 9) rfl
  have y10 := cell_of_blk y (i := 10) rfl
  have y11 := cell_of_blk y (i := 11) rfl
  have y12 := cell_of_blk y (i := 12) rfl
  have y13 := cell_of_blk y (i := 13) rfl
  have y14 := cell_of_blk y (i := 14) rfl
  have fy := free_of_blk y
  have hz := lt_of_blk z
  have hy := lt_of_blk y
  have ly : b + 1 < w7.heap.size + 1 := by omega
  have lz : b < w7.heap.size + 1 := by omega
  have gy : ¬ g' = b + 1 := R7.ne y (by decide)
  have N : Hid _ := N7
  have HF : Hid _ := hf1 R7 T7 hbw gy
  clear z y K7 R7 T7 N7 gy hbw
  go_wp2
  exact bodyPost_ret (v := .tuple #[rmV c (some ⟨g', 0, none⟩) n c' (cnt + 1) A, .int .u64 A.o]) (by simp [results, Tryz.results36, go_sem, rmV, y0, y1, y2, y3, y4, y5, y6, y7, y8, y9, y10, y11, y12, y13, y14, hy]) rfl ⟨g', c', rfl, N.out, HF.out _ (by (repeat (first | (with_reducible refine Kept.setCell ?_ ?_ _) | (with_reducible refine Kept.alloc ?_ _) | (with_reducible refine Kept.drew ?_))); (first | (with_reducible assumption) | (with_reducible exact Kept.refl _ _) | exact Kept.weaken (l := []) (by with_reducible assumption) (by simp)); all_goals (first | exact Or.inr (Nat.le_refl _) | (refine Or.inr (Kept.size (l := []) ?_); assumption) | (refine Or.inl ?_; simp; done)))⟩
end Go.Proofs.YtgafmklfpiipcaaGreatDoor

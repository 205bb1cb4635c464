/-
  The law's own call of the document's words, of whatever kind.
-/
import Derived.Test.YtahdhekbancapaaDoorMModel0
namespace Go.Proofs.YtahdhekbancapaaDoor
open Go.ChangeShapes Go.WideShapes Go.ChangeAt Go.RowKit
open Go.Deep
set_option maxRecDepth 100000
set_option maxRecDepth 100000 in
set_option maxHeartbeats 2000000 in
theorem model4 (c : Cfg) (g n cap : Nat) (cnt : Int) (a A : Acc) (C : List Int) (x y h old v : Int) (w : World)
    (BL : Hid (∀ W' : World, Kept [] w W' → Calls Tryd.prog 53 #[.agg #[.int .i64 c.t, .int .i64 c.s, .int .i64 c.c, .int .i64 c.h, .int .i64 c.k, .int .i64 c.e, .int .i64 c.l, .slice (some ⟨g, 0, none⟩) n cap, .int .i64 cnt, .int .i64 a.k, .int .i64 a.c, .int .u64 a.v, .int .u64 a.o, .int .u64 a.n, .bool a.d]] W' fun e w' => ∃ g' c', e = .returned (.tuple #[rmV c (some ⟨g', 0, none⟩) n c' (cnt + 1) A, .int .u64 A.o]) ∧ (g' = g ∨ w.heap.size ≤ g') ∧ RowR w' g' C c' ∧ Kept [] W' w')) :
    Calls Tryd.prog 20 #[.agg #[.int .i64 c.t, .int .i64 c.s, .int .i64 c.c, .int .i64 c.h, .int .i64 c.k, .int .i64 c.e, .int .i64 c.l, .slice (some ⟨g, 0, none⟩) n cap, .int .i64 cnt, .int .i64 a.k, .int .i64 a.c, .int .u64 a.v, .int .u64 a.o, .int .u64 a.n, .bool a.d], .agg #[.int .i64 4, .int .i64 x, .int .i64 y, .int .u64 h, .int .u64 old, .int .u64 v]] w fun e w' =>
      ∃ g' c', e = .returned (.tuple #[rmV c (some ⟨g', 0, none⟩) n c' (cnt + 1) A, .int .u64 A.o, .bool false]) ∧ (g' = g ∨ w.heap.size ≤ g') ∧ RowR w' g' C c' ∧ Kept [] w w' := by
  obtain ⟨b, hb⟩ : ∃ b, b = w.heap.size := ⟨_, rfl⟩
  go_enter Tryd.func20, Tryd.ntmps20
  go_upto_region 1 with (fail)
  refine gen_world (fun W => W.heap[b]? = some (.cells #[.int .i64 c.t, .int .i64 c.s, .int .i64 c.c, .int .i64 c.h, .int .i64 c.k, .int .i64 c.e, .int .i64 c.l, .slice (some ⟨g, 0, none⟩) n cap, .int .i64 cnt, .int .i64 a.k, .int .i64 a.c, .int .u64 a.v, .int .u64 a.o, .int .u64 a.n, .bool a.d] 44 (0, 0)) ∧ W.heap[b + 1]? = some (.cells #[.int .i64 4, .int .i64 x, .int .i64 y, .int .u64 h, .int .u64 old, .int .u64 v] 54 (0, 0)) ∧ W.heap[b + 1 + 1]? = some (.cells #[.int .i64 0, .int .i64 0, .int .i64 0, .int .i64 0, .int .i64 0, .int .i64 0, .int .i64 0, .slice none 0 0, .int .i64 0, .int .i64 0, .int .i64 0, .int .u64 0, .int .u64 0, .int .u64 0, .bool false] 44 (0, 0)) ∧ Kept [] w W) ?_ ?_
  · rw [hb]
    exact ⟨Kept.blk (((Kept.refl [] _).alloc _).alloc _) (blk_alloc_new w _) (by simp), Kept.blk ((Kept.refl [] _).alloc _) (blk2 w _ _) (by simp), blk3 w _ _ _, kept3 w _ _ _⟩
  rw [← hb]
  have hbw : w.heap.size ≤ b := by omega
  clear hb
  rintro W ⟨Z, O, Y, T⟩
  have q0 := cell_of_blk Z (i := 0) rfl
  have q1 := cell_of_blk Z (i := 1) rfl
  have q2 := cell_of_blk Z (i := 2) rfl
  have q3 := cell_of_blk Z (i := 3) rfl
  have q4 := cell_of_blk Z (i := 4) rfl
  have q5 := cell_of_blk Z (i := 5) rfl
  have q6 := cell_of_blk Z (i := 6) rfl
  have q7 := cell_of_blk Z (i := 7) rfl
  have q8 := cell_of_blk Z (i := 8) rfl
  have q9 := cell_of_blk Z (i := 9) rfl
  have q10 := cell_of_blk Z (i := 10) rfl
  have q11 := cell_of_blk Z (i := 11) rfl
  have q12 := cell_of_blk Z (i := 12) rfl
  have q13 := cell_of_blk Z (i := 13) rfl
  have q14 := cell_of_blk Z (i := 14) rfl
  have o0 := cell_of_blk O (i := 0) rfl
  have o1 := cell_of_blk O (i := 1) rfl
  have o2 := cell_of_blk O (i := 2) rfl
  have o3 := cell_of_blk O (i := 3) rfl
  have o4 := cell_of_blk O (i := 4) rfl
  have o5 := cell_of_blk O (i := 5) rfl
  go_wp2_with fail
  refine (BL.out _ T).mono ?_
  rintro e w1 ⟨g', c', rfl, N1, R1, K1⟩
  have N : Hid _ := N1
  have T1 := T.trans K1
  have Z1 := K1.blk Z (by simp)
  have O1 := K1.blk O (by simp)
  have Y1 := K1.blk Y (by simp)
  have gz : ¬ g' = b := R1.ne Z1 (by decide)
  have ks := kept_sets b [(0, .int .i64 c.t), (1, .int .i64 c.s), (2, .int .i64 c.c), (3, .int .i64 c.h), (4, .int .i64 c.k), (5, .int .i64 c.e), (6, .int .i64 c.l), (7, .slice (some ⟨g', 0, none⟩) n c'), (8, .int .i64 (cnt + 1)), (9, .int .i64 A.k), (10, .int .i64 A.c), (11, .int .u64 A.v), (12, .int .u64 A.o), (13, .int .u64 A.n), (14, .bool A.d)] w1
  have zs := blk_sets b [(0, .int .i64 c.t), (1, .int .i64 c.s), (2, .int .i64 c.c), (3, .int .i64 c.h), (4, .int .i64 c.k), (5, .int .i64 c.e), (6, .int .i64 c.l), (7, .slice (some ⟨g', 0, none⟩) n c'), (8, .int .i64 (cnt + 1)), (9, .int .i64 A.k), (10, .int .i64 A.c), (11, .int .u64 A.v), (12, .int .u64 A.o), (13, .int .u64 A.n), (14, .bool A.d)] w1 _ Z1
  simp at zs
  have HV : Hid _ := And.intro zs (And.intro (ks.blk Y1 (by simp; omega)) (And.intro (R1.kept ks (by simpa using gz)) (T1.then ks (by simp; omega))))
  clear q0 q1 q2 q3 q4 q5 q6 q7 q8 q9 q10 q11 q12 q13 q14 o0 o1 o2 o3 o4 o5 zs ks gz R1 T1 Y1 N1 K1 Z O Y T
  have q0 := cell_of_blk Z1 (i := 0) rfl
  have q1 := cell_of_blk Z1 (i := 1) rfl
  have q2 := cell_of_blk Z1 (i := 2) rfl
  have q3 := cell_of_blk Z1 (i := 3) rfl
  have q4 := cell_of_blk Z1 (i := 4) rfl
  have q5 := cell_of_blk Z1 (i := 5) rfl
  have q6 := cell_of_blk Z1 (i := 6) rfl
  have q7 := cell_of_blk Z1 (i := 7) rfl
  have q8 := cell_of_blk Z1 (i := 8) rfl
  have q9 := cell_of_blk Z1 (i := 9) rfl
  have q10 := cell_of_blk Z1 (i := 10) rfl
  have q11 := cell_of_blk Z1 (i := 11) rfl
  have q12 := cell_of_blk Z1 (i := 12) rfl
  have q13 := cell_of_blk Z1 (i := 13) rfl
  have q14 := cell_of_blk Z1 (i := 14) rfl
  have o0 := cell_of_blk O1 (i := 0) rfl
  have o1 := cell_of_blk O1 (i := 1) rfl
  have o2 := cell_of_blk O1 (i := 2) rfl
  have o3 := cell_of_blk O1 (i := 3) rfl
  have o4 := cell_of_blk O1 (i := 4) rfl
  have o5 := cell_of_blk O1 (i := 5) rfl
  have f1 := free_of_blk Z1
  have l1 := lt_of_blk Z1
  simp only [rmV]
  go_upto_region 25 with (fail)
  refine gen_world (fun V => V.heap[b]? = some (.cells #[.int .i64 c.t, .int .i64 c.s, .int .i64 c.c, .int .i64 c.h, .int .i64 c.k, .int .i64 c.e, .int .i64 c.l, .slice (some ⟨g', 0, none⟩) n c', .int .i64 (cnt + 1), .int .i64 A.k, .int .i64 A.c, .int .u64 A.v, .int .u64 A.o, .int .u64 A.n, .bool A.d] 44 (0, 0)) ∧ V.heap[b + 1 + 1]? = some (.cells #[.int .i64 0, .int .i64 0, .int .i64 0, .int .i64 0, .int .i64 0, .int .i64 0, .int .i64 0, .slice none 0 0, .int .i64 0, .int .i64 0, .int .i64 0, .int .u64 0, .int .u64 0, .int .u64 0, .bool false] 44 (0, 0)) ∧ RowR V g' C c' ∧ Kept [] w V) ?_ ?_
  · exact HV.out
  clear HV Z1 O1 f1 l1
  clear q0 q1 q2 q3 q4 q5 q6 q7 q8 q9 q10 q11 q12 q13 q14 o0 o1 o2 o3 o4 o5
  rintro V ⟨Z, Y, R, T⟩
  have q0 := cell_of_blk Z (i := 0) rfl
  have q1 := cell_of_blk Z (i := 1) rfl
  have q2 := cell_of_blk Z (i := 2) rfl
  have q3 := cell_of_blk Z (i := 3) rfl
  have q4 := cell_of_blk Z (i := 4) rfl
  have q5 := cell_of_blk Z (i := 5) rfl
  have q6 := cell_of_blk Z (i := 6) rfl
  have q7 := cell_of_blk Z (i := 7) rfl
  have q8 := cell_of_blk Z (i := 8) rfl
  have q9 := cell_of_blk Z (i := 9) rfl
  have q10 := cell_of_blk Z (i := 10) rfl
  have q11 := cell_of_blk Z (i := 11) rfl
  have q12 := cell_of_blk Z (i := 12) rfl
  have q13 := cell_of_blk Z (i := 13) rfl
  have q14 := cell_of_blk Z (i := 14) rfl
  have y0 := cell_of_blk Y (i := 0) rfl
  have y1 := cell_of_blk Y (i := 1) rfl
  have y2 := cell_of_blk Y (i := 2) rfl
  have y3 := cell_of_blk Y (i := 3) rfl
  have y4 := cell_of_blk Y (i := 4) rfl
  have y5 := cell_of_blk Y (i := 5) rfl
  have y6 := cell_of_blk Y (i := 6) rfl
  have y7 := cell_of_blk Y (i := 7) rfl
  have y8 := cell_of_blk Y (i := 8) rfl
  have y9 := cell_of_blk Y (i := 9) rfl
  have y10 := cell_of_blk Y (i := 10) rfl
  have y11 := cell_of_blk Y (i := 11) rfl
  have y12 := cell_of_blk Y (i := 12) rfl
  have y13 := cell_of_blk Y (i := 13) rfl
  have y14 := cell_of_blk Y (i := 14) rfl
  have fy := free_of_blk Y
  have gy : ¬ g' = b + 1 + 1 := R.ne Y (by decide)
  have HF : Hid (∀ V' : World, Kept [b + 1 + 1] V V' → RowR V' g' C c' ∧ Kept [] w V') := fun V' k => ⟨R.kept k (by simpa using gy), T.then k (by simp; omega)⟩
  clear Z Y R T gy
  go_wp2
  exact bodyPost_ret (v := .tuple #[rmV c (some ⟨g', 0, none⟩) n c' (cnt + 1) A, .int .u64 A.o, .bool false]) (by simp [results, Tryd.results20, go_sem, rmV, y0, y1, y2, y3, y4, y5, y6, y7, y8, y9, y10, y11, y12, y13, y14]) rfl ⟨g', c', rfl, N.out, HF.out _ (by (repeat (first | (with_reducible refine Kept.setCell ?_ ?_ _) | (with_reducible refine Kept.alloc ?_ _) | (with_reducible refine Kept.drew ?_))); (first | (with_reducible assumption) | (with_reducible exact Kept.refl _ _) | exact Kept.weaken (l := []) (by with_reducible assumption) (by simp)); all_goals (first | exact Or.inr (Nat.le_refl _) | (refine Or.inr (Kept.size (l := []) ?_); assumption) | (refine Or.inl ?_; simp; done)))⟩
set_option maxRecDepth 100000 in
set_option maxHeartbeats 2000000 in
theorem model5 (c : Cfg) (g n cap : Nat) (cnt : Int) (a A : Acc) (C : List Int) (x y h old v : Int) (w : World)
    (BL : Hid (∀ W' : World, Kept [] w W' → Calls Tryd.prog 54 #[.agg #[.int .i64 c.t, .int .i64 c.s, .int .i64 c.c, .int .i64 c.h, .int .i64 c.k, .int .i64 c.e, .int .i64 c.l, .slice (some ⟨g, 0, none⟩) n cap, .int .i64 cnt, .int .i64 a.k, .int .i64 a.c, .int .u64 a.v, .int .u64 a.o, .int .u64 a.n, .bool a.d]] W' fun e w' => ∃ g' c', e = .returned (.tuple #[rmV c (some ⟨g', 0, none⟩) n c' (cnt + 1) A, .int .u64 A.o]) ∧ (g' = g ∨ w.heap.size ≤ g') ∧ RowR w' g' C c' ∧ Kept [] W' w')) :
    Calls Tryd.prog 20 #[.agg #[.int .i64 c.t, .int .i64 c.s, .int .i64 c.c, .int .i64 c.h, .int .i64 c.k, .int .i64 c.e, .int .i64 c.l, .slice (some ⟨g, 0, none⟩) n cap, .int .i64 cnt, .int .i64 a.k, .int .i64 a.c, .int .u64 a.v, .int .u64 a.o, .int .u64 a.n, .bool a.d], .agg #[.int .i64 5, .int .i64 x, .int .i64 y, .int .u64 h, .int .u64 old, .int .u64 v]] w fun e w' =>
      ∃ g' c', e = .returned (.tuple #[rmV c (some ⟨g', 0, none⟩) n c' (cnt + 1) A, .int .u64 A.o, .bool false]) ∧ (g' = g ∨ w.heap.size ≤ g') ∧ RowR w' g' C c' ∧ Kept [] w w' := by
  obtain ⟨b, hb⟩ : ∃ b, b = w.heap.size := ⟨_, rfl⟩
  go_enter Tryd.func20, Tryd.ntmps20
  go_upto_region 1 with (fail)
  refine gen_world (fun W => W.heap[b]? = some (.cells #[.int .i64 c.t, .int .i64 c.s, .int .i64 c.c, .int .i64 c.h, .int .i64 c.k, .int .i64 c.e, .int .i64 c.l, .slice (some ⟨g, 0, none⟩) n cap, .int .i64 cnt, .int .i64 a.k, .int .i64 a.c, .int .u64 a.v, .int .u64 a.o, .int .u64 a.n, .bool a.d] 44 (0, 0)) ∧ W.heap[b + 1]? = some (.cells #[.int .i64 5, .int .i64 x, .int .i64 y, .int .u64 h, .int .u64 old, .int .u64 v] 54 (0, 0)) ∧ W.heap[b + 1 + 1]? = some (.cells #[.int .i64 0, .int .i64 0, .int .i64 0, .int .i64 0, .int .i64 0, .int .i64 0, .int .i64 0, .slice none 0 0, .int .i64 0, .int .i64 0, .int .i64 0, .int .u64 0, .int .u64 0, .int .u64 0, .bool false] 44 (0, 0)) ∧ Kept [] w W) ?_ ?_
  · rw [hb]
    exact ⟨Kept.blk (((Kept.refl [] _).alloc _).alloc _) (blk_alloc_new w _) (by simp), Kept.blk ((Kept.refl [] _).alloc _) (blk2 w _ _) (by simp), blk3 w _ _ _, kept3 w _ _ _⟩
  rw [← hb]
  have hbw : w.heap.size ≤ b := by omega
  clear hb
  rintro W ⟨Z, O, Y, T⟩
  have q0 := cell_of_blk Z (i := 0) rfl
  have q1 := cell_of_blk Z (i := 1) rfl
  have q2 := cell_of_blk Z (i := 2) rfl
  have q3 := cell_of_blk Z (i := 3) rfl
  have q4 := cell_of_blk Z (i := 4) rfl
  have q5 := cell_of_blk Z (i := 5) rfl
  have q6 := cell_of_blk Z (i := 6) rfl
  have q7 := cell_of_blk Z (i := 7) rfl
  have q8 := cell_of_blk Z (i := 8) rfl
  have q9 := cell_of_blk Z (i := 9) rfl
  have q10 := cell_of_blk Z (i := 10) rfl
  have q11 := cell_of_blk Z (i := 11) rfl
  have q12 := cell_of_blk Z (i := 12) rfl
  have q13 := cell_of_blk Z (i := 13) rfl
  have q14 := cell_of_blk Z (i := 14) rfl
  have o0 := cell_of_blk O (i := 0) rfl
  have o1 := cell_of_blk O (i := 1) rfl
  have o2 := cell_of_blk O (i := 2) rfl
  have o3 := cell_of_blk O (i := 3) rfl
  have o4 := cell_of_blk O (i := 4) rfl
  have o5 := cell_of_blk O (i := 5) rfl
  go_wp2_with fail
  refine (BL.out _ T).mono ?_
  rintro e w1 ⟨g', c', rfl, N1, R1, K1⟩
  have N : Hid _ := N1
  have T1 := T.trans K1
  have Z1 := K1.blk Z (by simp)
  have O1 := K1.blk O (by simp)
  have Y1 := K1.blk Y (by simp)
  have gz : ¬ g' = b := R1.ne Z1 (by decide)
  have ks := kept_sets b [(0, .int .i64 c.t), (1, .int .i64 c.s), (2, .int .i64 c.c), (3, .int .i64 c.h), (4, .int .i64 c.k), (5, .int .i64 c.e), (6, .int .i64 c.l), (7, .slice (some ⟨g', 0, none⟩) n c'), (8, .int .i64 (cnt + 1)), (9, .int .i64 A.k), (10, .int .i64 A.c), (11, .int .u64 A.v), (12, .int .u64 A.o), (13, .int .u64 A.n), (14, .bool A.d)] w1
  have zs := blk_sets b [(0, .int .i64 c.t), (1, .int .i64 c.s), (2, .int .i64 c.c), (3, .int .i64 c.h), (4, .int .i64 c.k), (5, .int .i64 c.e), (6, .int .i64 c.l), (7, .slice (some ⟨g', 0, none⟩) n c'), (8, .int .i64 (cnt + 1)), (9, .int .i64 A.k), (10, .int .i64 A.c), (11, .int .u64 A.v), (12, .int .u64 A.o), (13, .int .u64 A.n), (14, .bool A.d)] w1 _ Z1
  simp at zs
  have HV : Hid _ := And.intro zs (And.intro (ks.blk Y1 (by simp; omega)) (And.intro (R1.kept ks (by simpa using gz)) (T1.then ks (by simp; omega))))
  clear q0 q1 q2 q3 q4 q5 q6 q7 q8 q9 q10 q11 q12 q13 q14 o0 o1 o2 o3 o4 o5 zs ks gz R1 T1 Y1 N1 K1 Z O Y T
  have q0 := cell_of_blk Z1 (i := 0) rfl
  have q1 := cell_of_blk Z1 (i := 1) rfl
  have q2 := cell_of_blk Z1 (i := 2) rfl
  have q3 := cell_of_blk Z1 (i := 3) rfl
  have q4 := cell_of_blk Z1 (i := 4) rfl
  have q5 := cell_of_blk Z1 (i := 5) rfl
  have q6 := cell_of_blk Z1 (i := 6) rfl
  have q7 := cell_of_blk Z1 (i := 7) rfl
  have q8 := cell_of_blk Z1 (i := 8) rfl
  have q9 := cell_of_blk Z1 (i := 9) rfl
  have q10 := cell_of_blk Z1 (i := 10) rfl
  have q11 := cell_of_blk Z1 (i := 11) rfl
  have q12 := cell_of_blk Z1 (i := 12) rfl
  have q13 := cell_of_blk Z1 (i := 13) rfl
  have q14 := cell_of_blk Z1 (i := 14) rfl
  have o0 := cell_of_blk O1 (i := 0) rfl
  have o1 := cell_of_blk O1 (i := 1) rfl
  have o2 := cell_of_blk O1 (i := 2) rfl
  have o3 := cell_of_blk O1 (i := 3) rfl
  have o4 := cell_of_blk O1 (i := 4) rfl
  have o5 := cell_of_blk O1 (i := 5) rfl
  have f1 := free_of_blk Z1
  have l1 := lt_of_blk Z1
  simp only [rmV]
  go_upto_region 25 with (fail)
  refine gen_world (fun V => V.heap[b]? = some (.cells #[.int .i64 c.t, .int .i64 c.s, .int .i64 c.c, .int .i64 c.h, .int .i64 c.k, .int .i64 c.e, .int .i64 c.l, .slice (some ⟨g', 0, none⟩) n c', .int .i64 (cnt + 1), .int .i64 A.k, .int .i64 A.c, .int .u64 A.v, .int .u64 A.o, .int .u64 A.n, .bool A.d] 44 (0, 0)) ∧ V.heap[b + 1 + 1]? = some (.cells #[.int .i64 0, .int .i64 0, .int .i64 0, .int .i64 0, .int .i64 0, .int .i64 0, .int .i64 0, .slice none 0 0, .int .i64 0, .int .i64 0, .int .i64 0, .int .u64 0, .int .u64 0, .int .u64 0, .bool false] 44 (0, 0)) ∧ RowR V g' C c' ∧ Kept [] w V) ?_ ?_
  · exact HV.out
  clear HV Z1 O1 f1 l1
  clear q0 q1 q2 q3 q4 q5 q6 q7 q8 q9 q10 q11 q12 q13 q14 o0 o1 o2 o3 o4 o5
  rintro V ⟨Z, Y, R, T⟩
  have q0 := cell_of_blk Z (i := 0) rfl
  have q1 := cell_of_blk Z (i := 1) rfl
  have q2 := cell_of_blk Z (i := 2) rfl
  have q3 := cell_of_blk Z (i := 3) rfl
  have q4 := cell_of_blk Z (i := 4) rfl
  have q5 := cell_of_blk Z (i := 5) rfl
  have q6 := cell_of_blk Z (i := 6) rfl
  have q7 := cell_of_blk Z (i := 7) rfl
  have q8 := cell_of_blk Z (i := 8) rfl
  have q9 := cell_of_blk Z (i := 9) rfl
  have q10 := cell_of_blk Z (i := 10) rfl
  have q11 := cell_of_blk Z (i := 11) rfl
  have q12 := cell_of_blk Z (i := 12) rfl
  have q13 := cell_of_blk Z (i := 13) rfl
  have q14 := cell_of_blk Z (i := 14) rfl
  have y0 := cell_of_blk Y (i := 0) rfl
  have y1 := cell_of_blk Y (i := 1) rfl
  have y2 := cell_of_blk Y (i := 2) rfl
  have y3 := cell_of_blk Y (i := 3) rfl
  have y4 := cell_of_blk Y (i := 4) rfl
  have y5 := cell_of_blk Y (i := 5) rfl
  have y6 := cell_of_blk Y (i := 6) rfl
  have y7 := cell_of_blk Y (i := 7) rfl
  have y8 := cell_of_blk Y (i := 8) rfl
  have y9 := cell_of_blk Y (i := 9) rfl
  have y10 := cell_of_blk Y (i := 10) rfl
  have y11 := cell_of_blk Y (i := 11) rfl
  have y12 := cell_of_blk Y (i := 12) rfl
  have y13 := cell_of_blk Y (i := 13) rfl
  have y14 := cell_of_blk Y (i := 14) rfl
  have fy := free_of_blk Y
  have gy : ¬ g' = b + 1 + 1 := R.ne Y (by decide)
  have HF : Hid (∀ V' : World, Kept [b + 1 + 1] V V' → RowR V' g' C c' ∧ Kept [] w V') := fun V' k => ⟨R.kept k (by simpa using gy), T.then k (by simp; omega)⟩
  clear Z Y R T gy
  go_wp2
  exact bodyPost_ret (v := .tuple #[rmV c (some ⟨g', 0, none⟩) n c' (cnt + 1) A, .int .u64 A.o, .bool false]) (by simp [results, Tryd.results20, go_sem, rmV, y0, y1, y2, y3, y4, y5, y6, y7, y8, y9, y10, y11, y12, y13, y14]) rfl ⟨g', c', rfl, N.out, HF.out _ (by (repeat (first | (with_reducible refine Kept.setCell ?_ ?_ _) | (with_reducible refine Kept.alloc ?_ _) | (with_reducible refine Kept.drew ?_))); (first | (with_reducible assumption) | (with_reducible exact Kept.refl _ _) | exact Kept.weaken (l := []) (by with_reducible assumption) (by simp)); all_goals (first | exact Or.inr (Nat.le_refl _) | (refine Or.inr (Kept.size (l := []) ?_); assumption) | (refine Or.inl ?_; simp; done)))⟩
set_option maxRecDepth 100000 in
set_option maxHeartbeats 2000000 in
theorem model6 (c : Cfg) (g n cap : Nat) (cnt : Int) (a A : Acc) (C : List Int) (x y h old v : Int) (w : World)
    (BL : Hid (∀ W' : World, Kept [] w W' → Calls Tryd.prog 55 #[.agg #[.int .i64 c.t, .int .i64 c.s, .int .i64 c.c, .int .i64 c.h, .int .i64 c.k, .int .i64 c.e, .int .i64 c.l, .slice (some ⟨g, 0, none⟩) n cap, .int .i64 cnt, .int .i64 a.k, .int .i64 a.c, .int .u64 a.v, .int .u64 a.o, .int .u64 a.n, .bool a.d], .int .i64 x, .int .i64 y, .int .u64 v] W' fun e w' => ∃ g' c', e = .returned (rmV c (some ⟨g', 0, none⟩) n c' (cnt + 1) A) ∧ (g' = g ∨ w.heap.size ≤ g') ∧ RowR w' g' C c' ∧ Kept [] W' w')) :
    Calls Tryd.prog 20 #[.agg #[.int .i64 c.t, .int .i64 c.s, .int .i64 c.c, .int .i64 c.h, .int .i64 c.k, .int .i64 c.e, .int .i64 c.l, .slice (some ⟨g, 0, none⟩) n cap, .int .i64 cnt, .int .i64 a.k, .int .i64 a.c, .int .u64 a.v, .int .u64 a.o, .int .u64 a.n, .bool a.d], .agg #[.int .i64 6, .int .i64 x, .int .i64 y, .int .u64 h, .int .u64 old, .int .u64 v]] w fun e w' =>
      ∃ g' c', e = .returned (.tuple #[rmV c (some ⟨g', 0, none⟩) n c' (cnt + 1) A, .int .u64 0, .bool false]) ∧ (g' = g ∨ w.heap.size ≤ g') ∧ RowR w' g' C c' ∧ Kept [] w w' := by
  obtain ⟨b, hb⟩ : ∃ b, b = w.heap.size := ⟨_, rfl⟩
  go_enter Tryd.func20, Tryd.ntmps20
  go_upto_region 1 with (fail)
  refine gen_world (fun W => W.heap[b]? = some (.cells #[.int .i64 c.t, .int .i64 c.s, .int .i64 c.c, .int .i64 c.h, .int .i64 c.k, .int .i64 c.e, .int .i64 c.l, .slice (some ⟨g, 0, none⟩) n cap, .int .i64 cnt, .int .i64 a.k, .int .i64 a.c, .int .u64 a.v, .int .u64 a.o, .int .u64 a.n, .bool a.d] 44 (0, 0)) ∧ W.heap[b + 1]? = some (.cells #[.int .i64 6, .int .i64 x, .int .i64 y, .int .u64 h, .int .u64 old, .int .u64 v] 54 (0, 0)) ∧ W.heap[b + 1 + 1]? = some (.cells #[.int .i64 0, .int .i64 0, .int .i64 0, .int .i64 0, .int .i64 0, .int .i64 0, .int .i64 0, .slice none 0 0, .int .i64 0, .int .i64 0, .int .i64 0, .int .u64 0, .int .u64 0, .int .u64 0, .bool false] 44 (0, 0)) ∧ Kept [] w W) ?_ ?_
  · rw [hb]
    exact ⟨Kept.blk (((Kept.refl [] _).alloc _).alloc _) (blk_alloc_new w _) (by simp), Kept.blk ((Kept.refl [] _).alloc _) (blk2 w _ _) (by simp), blk3 w _ _ _, kept3 w _ _ _⟩
  rw [← hb]
  have hbw : w.heap.size ≤ b := by omega
  clear hb
  rintro W ⟨Z, O, Y, T⟩
  have q0 := cell_of_blk Z (i := 0) rfl
  have q1 := cell_of_blk Z (i := 1) rfl
  have q2 := cell_of_blk Z (i := 2) rfl
  have q3 := cell_of_blk Z (i := 3) rfl
  have q4 := cell_of_blk Z (i := 4) rfl
  have q5 := cell_of_blk Z (i := 5) rfl
  have q6 := cell_of_blk Z (i := 6) rfl
  have q7 := cell_of_blk Z (i := 7) rfl
  have q8 := cell_of_blk Z (i := 8) rfl
  have q9 := cell_of_blk Z (i := 9) rfl
  have q10 := cell_of_blk Z (i := 10) rfl
  have q11 := cell_of_blk Z (i := 11) rfl
  have q12 := cell_of_blk Z (i := 12) rfl
  have q13 := cell_of_blk Z (i := 13) rfl
  have q14 := cell_of_blk Z (i := 14) rfl
  have o0 := cell_of_blk O (i := 0) rfl
  have o1 := cell_of_blk O (i := 1) rfl
  have o2 := cell_of_blk O (i := 2) rfl
  have o3 := cell_of_blk O (i := 3) rfl
  have o4 := cell_of_blk O (i := 4) rfl
  have o5 := cell_of_blk O (i := 5) rfl
  go_wp2_with fail
  refine (BL.out _ T).mono ?_
  rintro e w1 ⟨g', c', rfl, N1, R1, K1⟩
  have N : Hid _ := N1
  have T1 := T.trans K1
  have Z1 := K1.blk Z (by simp)
  have O1 := K1.blk O (by simp)
  have Y1 := K1.blk Y (by simp)
  have gz : ¬ g' = b := R1.ne Z1 (by decide)
  have ks := kept_sets b [(0, .int .i64 c.t), (1, .int .i64 c.s), (2, .int .i64 c.c), (3, .int .i64 c.h), (4, .int .i64 c.k), (5, .int .i64 c.e), (6, .int .i64 c.l), (7, .slice (some ⟨g', 0, none⟩) n c'), (8, .int .i64 (cnt + 1)), (9, .int .i64 A.k), (10, .int .i64 A.c), (11, .int .u64 A.v), (12, .int .u64 A.o), (13, .int .u64 A.n), (14, .bool A.d)] w1
  have zs := blk_sets b [(0, .int .i64 c.t), (1, .int .i64 c.s), (2, .int .i64 c.c), (3, .int .i64 c.h), (4, .int .i64 c.k), (5, .int .i64 c.e), (6, .int .i64 c.l), (7, .slice (some ⟨g', 0, none⟩) n c'), (8, .int .i64 (cnt + 1)), (9, .int .i64 A.k), (10, .int .i64 A.c), (11, .int .u64 A.v), (12, .int .u64 A.o), (13, .int .u64 A.n), (14, .bool A.d)] w1 _ Z1
  simp at zs
  have HV : Hid _ := And.intro zs (And.intro (ks.blk Y1 (by simp; omega)) (And.intro (R1.kept ks (by simpa using gz)) (T1.then ks (by simp; omega))))
  clear q0 q1 q2 q3 q4 q5 q6 q7 q8 q9 q10 q11 q12 q13 q14 o0 o1 o2 o3 o4 o5 zs ks gz R1 T1 Y1 N1 K1 Z O Y T
  have q0 := cell_of_blk Z1 (i := 0) rfl
  have q1 := cell_of_blk Z1 (i := 1) rfl
  have q2 := cell_of_blk Z1 (i := 2) rfl
  have q3 := cell_of_blk Z1 (i := 3) rfl
  have q4 := cell_of_blk Z1 (i := 4) rfl
  have q5 := cell_of_blk Z1 (i := 5) rfl
  have q6 := cell_of_blk Z1 (i := 6) rfl
  have q7 := cell_of_blk Z1 (i := 7) rfl
  have q8 := cell_of_blk Z1 (i := 8) rfl
  have q9 := cell_of_blk Z1 (i := 9) rfl
  have q10 := cell_of_blk Z1 (i := 10) rfl
  have q11 := cell_of_blk Z1 (i := 11) rfl
  have q12 := cell_of_blk Z1 (i := 12) rfl
  have q13 := cell_of_blk Z1 (i := 13) rfl
  have q14 := cell_of_blk Z1 (i := 14) rfl
  have o0 := cell_of_blk O1 (i := 0) rfl
  have o1 := cell_of_blk O1 (i := 1) rfl
  have o2 := cell_of_blk O1 (i := 2) rfl
  have o3 := cell_of_blk O1 (i := 3) rfl
  have o4 := cell_of_blk O1 (i := 4) rfl
  have o5 := cell_of_blk O1 (i := 5) rfl
  have f1 := free_of_blk Z1
  have l1 := lt_of_blk Z1
  simp only [rmV]
  go_upto_region 25 with (fail)
  refine gen_world (fun V => V.heap[b]? = some (.cells #[.int .i64 c.t, .int .i64 c.s, .int .i64 c.c, .int .i64 c.h, .int .i64 c.k, .int .i64 c.e, .int .i64 c.l, .slice (some ⟨g', 0, none⟩) n c', .int .i64 (cnt + 1), .int .i64 A.k, .int .i64 A.c, .int .u64 A.v, .int .u64 A.o, .int .u64 A.n, .bool A.d] 44 (0, 0)) ∧ V.heap[b + 1 + 1]? = some (.cells #[.int .i64 0, .int .i64 0, .int .i64 0, .int .i64 0, .int .i64 0, .int .i64 0, .int .i64 0, .slice none 0 0, .int .i64 0, .int .i64 0, .int .i64 0, .int .u64 0, .int .u64 0, .int .u64 0, .bool false] 44 (0, 0)) ∧ RowR V g' C c' ∧ Kept [] w V) ?_ ?_
  · exact HV.out
  clear HV Z1 O1 f1 l1
  clear q0 q1 q2 q3 q4 q5 q6 q7 q8 q9 q10 q11 q12 q13 q14 o0 o1 o2 o3 o4 o5
  rintro V ⟨Z, Y, R, T⟩
  have q0 := cell_of_blk Z (i := 0) rfl
  have q1 := cell_of_blk Z (i := 1) rfl
  have q2 := cell_of_blk Z (i := 2) rfl
  have q3 := cell_of_blk Z (i := 3) rfl
  have q4 := cell_of_blk Z (i := 4) rfl
  have q5 := cell_of_blk Z (i := 5) rfl
  have q6 := cell_of_blk Z (i := 6) rfl
  have q7 := cell_of_blk Z (i := 7) rfl
  have q8 := cell_of_blk Z (i := 8) rfl
  have q9 := cell_of_blk Z (i := 9) rfl
  have q10 := cell_of_blk Z (i := 10) rfl
  have q11 := cell_of_blk Z (i := 11) rfl
  have q12 := cell_of_blk Z (i := 12) rfl
  have q13 := cell_of_blk Z (i := 13) rfl
  have q14 := cell_of_blk Z (i := 14) rfl
  have y0 := cell_of_blk Y (i := 0) rfl
  have y1 := cell_of_blk Y (i := 1) rfl
  have y2 := cell_of_blk Y (i := 2) rfl
  have y3 := cell_of_blk Y (i := 3) rfl
  have y4 := cell_of_blk Y (i := 4) rfl
  have y5 := cell_of_blk Y (i := 5) rfl
  have y6 := cell_of_blk Y (i := 6) rfl
  have y7 := cell_of_blk Y (i := 7) rfl
  have y8 := cell_of_blk Y (i := 8) rfl
  have y9 := cell_of_blk Y (i := 9) rfl
  have y10 := cell_of_blk Y (i := 10) rfl
  have y11 := cell_of_blk Y (i := 11) rfl
  have y12 := cell_of_blk Y (i := 12) rfl
  have y13 := cell_of_blk Y (i := 13) rfl
  have y14 := cell_of_blk Y (i := 14) rfl
  have fy := free_of_blk Y
  have gy : ¬ g' = b + 1 + 1 := R.ne Y (by decide)
  have HF : Hid (∀ V' : World, Kept [b + 1 + 1] V V' → RowR V' g' C c' ∧ Kept [] w V') := fun V' k => ⟨R.kept k (by simpa using gy), T.then k (by simp; omega)⟩
  clear Z Y R T gy
  go_wp2
  exact bodyPost_ret (v := .tuple #[rmV c (some ⟨g', 0, none⟩) n c' (cnt + 1) A, .int .u64 0, .bool false]) (by simp [results, Tryd.results20, go_sem, rmV, y0, y1, y2, y3, y4, y5, y6, y7, y8, y9, y10, y11, y12, y13, y14]) rfl ⟨g', c', rfl, N.out, HF.out _ (by (repeat (first | (with_reducible refine Kept.setCell ?_ ?_ _) | (with_reducible refine Kept.alloc ?_ _) | (with_reducible refine Kept.drew ?_))); (first | (with_reducible assumption) | (with_reducible exact Kept.refl _ _) | exact Kept.weaken (l := []) (by with_reducible assumption) (by simp)); all_goals (first | exact Or.inr (Nat.le_refl _) | (refine Or.inr (Kept.size (l := []) ?_); assumption) | (refine Or.inl ?_; simp; done)))⟩
end Go.Proofs.YtahdhekbancapaaDoor

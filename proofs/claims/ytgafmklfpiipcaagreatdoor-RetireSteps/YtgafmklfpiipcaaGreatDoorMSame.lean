/-
  The law's own word that a world's words are the document's; and both of a world with such words.
-/
import Derived.Test.YtgafmklfpiipcaaGreatDoorMNewR
namespace Go.Proofs.YtgafmklfpiipcaaGreatDoor
open Go.ChangeShapes Go.WideShapes Go.ChangeAt Go.RowKit
open Go.Deep
set_option maxRecDepth 100000
set_option maxRecDepth 100000 in
set_option maxHeartbeats 2000000 in
theorem msame_any (m p r : Nat) (c0 c : Cfg) (cs : List Int) (cnt : Int) (a : Acc) (g n cap : Nat) (w : World) (hM : Mm w m p r c0 cs cnt a) (hR : RowR w g cs cap) (hn : n = cs.length) (hl : n ≤ 17592186044415) :
    Calls Tryz.prog 14 #[.pointer (some ⟨m, 0, none⟩), rmV c (some ⟨g, 0, none⟩) n cap cnt a] w fun e w' => e = .returned (.bool true) ∧ Kept [] w w' := by
  simp only [rmV]
  have K0 : Kept [] w (w.alloc (.cells #[.int .i64 c.t, .int .i64 c.s, .int .i64 c.c, .int .i64 c.h, .int .i64 c.k, .int .i64 c.e, .int .i64 c.l, .slice (some ⟨g, 0, none⟩) n cap, .int .i64 cnt, .int .i64 a.k, .int .i64 a.c, .int .u64 a.v, .int .u64 a.o, .int .u64 a.n, .bool a.d] 35)) := (Kept.refl _ _).alloc _
  have Z := blk_alloc_new w (.cells #[.int .i64 c.t, .int .i64 c.s, .int .i64 c.c, .int .i64 c.h, .int .i64 c.k, .int .i64 c.e, .int .i64 c.l, .slice (some ⟨g, 0, none⟩) n cap, .int .i64 cnt, .int .i64 a.k, .int .i64 a.c, .int .u64 a.v, .int .u64 a.o, .int .u64 a.n, .bool a.d] 35)
  have M1 := hM.new K0
  have R1 := hR.kept K0 (by simp)
  have HN : Hid _ := hn
  clear hn
  obtain ⟨b, hb⟩ : ∃ b, b = w.heap.size := ⟨_, rfl⟩
  go_enter Tryz.func14, Tryz.ntmps14
  go_wp2_with fail
  refine (bank_any m p r c0 cs cnt a _ M1).mono ?_
  rintro e w1 ⟨rfl, rfl⟩
  rw [← hb] at Z ⊢
  have hn := HN.out
  clear hb hM hR HN
  generalize w.alloc (.cells #[.int .i64 c.t, .int .i64 c.s, .int .i64 c.c, .int .i64 c.h, .int .i64 c.k, .int .i64 c.e, .int .i64 c.l, .slice (some ⟨g, 0, none⟩) n cap, .int .i64 cnt, .int .i64 a.k, .int .i64 a.c, .int .u64 a.v, .int .u64 a.o, .int .u64 a.n, .bool a.d] 35) = W at Z K0 M1 R1 ⊢
  have CN : Hid (∀ W' : World, Kept [] W W' → Calls Tryz.prog 39 #[.pointer (some ⟨p, 0, none⟩)] W' fun e w' => ∃ q, e = .returned (.slice (some ⟨q, 0, none⟩) n n) ∧ Row w' q cs ∧ Kept [] W w') := by
    intro W' k
    have h := cells_any p r cs cnt a W' (M1.bk.kept k (by simp) (by simp))
    rw [← hn] at h
    exact h.mono fun e w' ⟨h1, h2, h3⟩ => ⟨_, h1, h2, k.trans h3⟩
  have SN : Hid (∀ (W' : World) (q : Nat), Kept [] W W' → Row W' q cs → Calls Tryz.prog 38 #[.slice (some ⟨q, 0, none⟩) n n, .slice (some ⟨g, 0, none⟩) n cap] W' fun e w' => e = .returned (.bool true) ∧ Kept [] W w') := by
    intro W' q k hq
    have h := same_eq (some ⟨q, 0, none⟩) (some ⟨g, 0, none⟩) cs n cap W' hq.sl (R1.kept k (by simp)).sl (by rw [← hn]; exact hl)
    rw [← hn] at h
    exact h.mono fun e w' ⟨h1, h2⟩ => ⟨h1, k.trans h2⟩
  have NN : Hid (∀ W' : World, Kept [] W W' → Calls Tryz.prog 40 #[.pointer (some ⟨p, 0, none⟩)] W' fun e w' => e = .returned (.int .i64 cnt) ∧ w' = W') := fun W' k => count_any p r cs cnt a W' (M1.bk.kept k (by simp) (by simp))
  have LN : Hid (∀ W' : World, Kept [] W W' → Calls Tryz.prog 41 #[.pointer (some ⟨p, 0, none⟩)] W' fun e w' => e = .returned (.agg #[.int .i64 a.k, .int .i64 a.c, .int .u64 a.v, .int .u64 a.o, .int .u64 a.n, .bool a.d]) ∧ Kept [] W w') :=
    fun W' k => (last_any p r cs cnt a W' (M1.bk.kept k (by simp) (by simp))).mono fun e w' ⟨h1, h2⟩ => ⟨h1, k.trans h2⟩
  have HS : Hid (∀ W' : World, Kept [] W W' → W'.cell? ⟨b, 7, none⟩ = some (.slice (some ⟨g, 0, none⟩) n cap) ∧ W'.cell? ⟨b, 8, none⟩ = some (.int .i64 cnt) ∧ W'.cell? ⟨b, 9, none⟩ = some (.int .i64 a.k) ∧ W'.cell? ⟨b, 10, none⟩ = some (.int .i64 a.c) ∧ W'.cell? ⟨b, 11, none⟩ = some (.int .u64 a.v) ∧ W'.cell? ⟨b, 12, none⟩ = some (.int .u64 a.o) ∧ W'.cell? ⟨b, 13, none⟩ = some (.int .u64 a.n) ∧ W'.cell? ⟨b, 14, none⟩ = some (.bool a.d)) := by
    intro W' k
    have z := k.blk Z (by simp)
    exact ⟨cell_of_blk z (i := 7) rfl, cell_of_blk z (i := 8) rfl, cell_of_blk z (i := 9) rfl, cell_of_blk z (i := 10) rfl, cell_of_blk z (i := 11) rfl, cell_of_blk z (i := 12) rfl, cell_of_blk z (i := 13) rfl, cell_of_blk z (i := 14) rfl⟩
  have HK : Hid (Kept [] w W) := K0
  clear Z K0 M1 R1 hn hl
  go_wp2_with fail
  go_region_held3 (fun W' => W'.cell? ⟨b, 7, none⟩ = some (.slice (some ⟨g, 0, none⟩) n cap) ∧ W'.cell? ⟨b, 8, none⟩ = some (.int .i64 cnt) ∧ W'.cell? ⟨b, 9, none⟩ = some (.int .i64 a.k) ∧ W'.cell? ⟨b, 10, none⟩ = some (.int .i64 a.c) ∧ W'.cell? ⟨b, 11, none⟩ = some (.int .u64 a.v) ∧ W'.cell? ⟨b, 12, none⟩ = some (.int .u64 a.o) ∧ W'.cell? ⟨b, 13, none⟩ = some (.int .u64 a.n) ∧ W'.cell? ⟨b, 14, none⟩ = some (.bool a.d))
    (exact HS.out _ (by (repeat (first | (with_reducible refine Kept.setCell ?_ ?_ _) | (with_reducible refine Kept.alloc ?_ _) | (with_reducible refine Kept.drew ?_))); (first | (with_reducible assumption) | (with_reducible exact Kept.refl _ _) | exact Kept.weaken (l := []) (by with_reducible assumption) (by simp)); all_goals (first | exact Or.inr (Nat.le_refl _) | (refine Or.inr (Kept.size (l := []) ?_); assumption) | (refine Or.inl ?_; simp; done))))
    (first
      | (go_at_call 39; refine (CN.out _ (by (repeat (first | (with_reducible refine Kept.setCell ?_ ?_ _) | (with_reducible refine Kept.alloc ?_ _) | (with_reducible refine Kept.drew ?_))); (first | (with_reducible assumption) | (with_reducible exact Kept.refl _ _) | exact Kept.weaken (l := []) (by with_reducible assumption) (by simp)); all_goals (first | exact Or.inr (Nat.le_refl _) | (refine Or.inr (Kept.size (l := []) ?_); assumption) | (refine Or.inl ?_; simp; done)))).mono ?_; rintro e w5 ⟨q, rfl, Q5, K5⟩)
      | (go_at_call 38; refine (SN.out _ _ (by assumption) (by assumption)).mono ?_; rintro e w6 ⟨rfl, K6⟩)
      | (go_at_call 40; refine (NN.out _ (by assumption)).mono ?_; rintro e w7 ⟨rfl, rfl⟩)
      | (go_at_call 41; refine (LN.out _ (by assumption)).mono ?_; rintro e w8 ⟨rfl, K8⟩))
  all_goals
    go_wp2
    go_ret
    exact ⟨rfl, HK.out.trans K8⟩
set_option maxRecDepth 100000 in
set_option maxHeartbeats 2000000 in
theorem lof_wrong (c : Cfg) (ao : Option Addr) (n cap : Nat) (w : World) (h : riB c = false) :
    Calls Tryz.prog 4 #[.agg #[.int .i64 c.t, .int .i64 c.s, .int .i64 c.c, .int .i64 c.h, .int .i64 c.k, .int .i64 c.e, .int .i64 c.l], .slice ao n cap] w fun e w' => e = .returned (.tuple #[.pointer none, .agg #[.int .i64 0, .int .i64 0, .int .i64 0, .int .i64 0, .int .i64 0, .int .i64 0, .int .i64 0, .slice none 0 0, .int .i64 0, .int .i64 0, .int .i64 0, .int .u64 0, .int .u64 0, .int .u64 0, .bool false], .bool false]) ∧ Kept [] w w' := by
  have K0 : Kept [] w ((w.alloc (.cells #[.int .i64 c.t, .int .i64 c.s, .int .i64 c.c, .int .i64 c.h, .int .i64 c.k, .int .i64 c.e, .int .i64 c.l] 23)).alloc (.cells #[.int .i64 0, .int .i64 0, .int .i64 0, .int .i64 0, .int .i64 0, .int .i64 0, .int .i64 0, .slice none 0 0, .int .i64 0, .int .i64 0, .int .i64 0, .int .u64 0, .int .u64 0, .int .u64 0, .bool false] 35)) := kept2 w _ _
  have Z : CB ((w.alloc (.cells #[.int .i64 c.t, .int .i64 c.s, .int .i64 c.c, .int .i64 c.h, .int .i64 c.k, .int .i64 c.e, .int .i64 c.l] 23)).alloc (.cells #[.int .i64 0, .int .i64 0, .int .i64 0, .int .i64 0, .int .i64 0, .int .i64 0, .int .i64 0, .slice none 0 0, .int .i64 0, .int .i64 0, .int .i64 0, .int .u64 0, .int .u64 0, .int .u64 0, .bool false] 35)) w.heap.size c := (CB.new w c).kept ((Kept.refl [] _).alloc _) (by simp)
  have Y := blk2 w (.cells #[.int .i64 c.t, .int .i64 c.s, .int .i64 c.c, .int .i64 c.h, .int .i64 c.k, .int .i64 c.e, .int .i64 c.l] 23) (.cells #[.int .i64 0, .int .i64 0, .int .i64 0, .int .i64 0, .int .i64 0, .int .i64 0, .int .i64 0, .slice none 0 0, .int .i64 0, .int .i64 0, .int .i64 0, .int .u64 0, .int .u64 0, .int .u64 0, .bool false] 35)
  have HR : Hid _ := h
  clear h
  go_enter Tryz.func4, Tryz.ntmps4
  go_wp2_with fail
  refine (rright_is HR.out _).mono ?_
  rintro e w1 ⟨rfl, K1⟩
  have Y1 := K1.blk Y (by simp)
  have T := K0.trans K1
  have wl := lt_of_blk Y1
  have y0 := cell_of_blk Y1 (i := 0) rfl
  have y1 := cell_of_blk Y1 (i := 1) rfl
  have y2 := cell_of_blk Y1 (i := 2) rfl
  have y3 := cell_of_blk Y1 (i := 3) rfl
  have y4 := cell_of_blk Y1 (i := 4) rfl
  have y5 := cell_of_blk Y1 (i := 5) rfl
  have y6 := cell_of_blk Y1 (i := 6) rfl
  have y7 := cell_of_blk Y1 (i := 7) rfl
  have y8 := cell_of_blk Y1 (i := 8) rfl
  have y9 := cell_of_blk Y1 (i := 9) rfl
  have y10 := cell_of_blk Y1 (i := 10) rfl
  have y11 := cell_of_blk Y1 (i := 11) rfl
  have y12 := cell_of_blk Y1 (i := 12) rfl
  have y13 := cell_of_blk Y1 (i := 13) rfl
  have y14 := cell_of_blk Y1 (i := 14) rfl
  have fy := free_of_blk Y1
  clear Y Y1 K0 Z
  go_wp2
  exact bodyPost_ret (v := .tuple #[.pointer none, .agg #[.int .i64 0, .int .i64 0, .int .i64 0, .int .i64 0, .int .i64 0, .int .i64 0, .int .i64 0, .slice none 0 0, .int .i64 0, .int .i64 0, .int .i64 0, .int .u64 0, .int .u64 0, .int .u64 0, .bool false], .bool false]) (by simp [results, Tryz.results4, go_sem, y0, y1, y2, y3, y4, y5, y6, y7, y8, y9, y10, y11, y12, y13, y14]) rfl ⟨rfl, Kept.then T (l := []) (m := [w.heap.size + 1]) (by (repeat (first | (with_reducible refine Kept.setCell ?_ ?_ _) | (with_reducible refine Kept.alloc ?_ _) | (with_reducible refine Kept.drew ?_))); (first | (with_reducible assumption) | (with_reducible exact Kept.refl _ _) | exact Kept.weaken (l := []) (by with_reducible assumption) (by simp)); all_goals (first | exact Or.inr (Nat.le_refl _) | (refine Or.inr (Kept.size (l := []) ?_); assumption) | (refine Or.inl ?_; simp; done))) (by simp)⟩
set_option maxRecDepth 100000 in
set_option maxHeartbeats 2000000 in
theorem lof_len (c : Cfg) (ao : Option Addr) (n cap : Nat) (w : World) (h : riB c = true) (L : Int) (hL : lnV c = L) (hn : ((n : Int) == L) = false) :
    Calls Tryz.prog 4 #[.agg #[.int .i64 c.t, .int .i64 c.s, .int .i64 c.c, .int .i64 c.h, .int .i64 c.k, .int .i64 c.e, .int .i64 c.l], .slice ao n cap] w fun e w' => e = .returned (.tuple #[.pointer none, .agg #[.int .i64 0, .int .i64 0, .int .i64 0, .int .i64 0, .int .i64 0, .int .i64 0, .int .i64 0, .slice none 0 0, .int .i64 0, .int .i64 0, .int .i64 0, .int .u64 0, .int .u64 0, .int .u64 0, .bool false], .bool false]) ∧ Kept [] w w' := by
  have K0 : Kept [] w ((w.alloc (.cells #[.int .i64 c.t, .int .i64 c.s, .int .i64 c.c, .int .i64 c.h, .int .i64 c.k, .int .i64 c.e, .int .i64 c.l] 23)).alloc (.cells #[.int .i64 0, .int .i64 0, .int .i64 0, .int .i64 0, .int .i64 0, .int .i64 0, .int .i64 0, .slice none 0 0, .int .i64 0, .int .i64 0, .int .i64 0, .int .u64 0, .int .u64 0, .int .u64 0, .bool false] 35)) := kept2 w _ _
  have Z : CB ((w.alloc (.cells #[.int .i64 c.t, .int .i64 c.s, .int .i64 c.c, .int .i64 c.h, .int .i64 c.k, .int .i64 c.e, .int .i64 c.l] 23)).alloc (.cells #[.int .i64 0, .int .i64 0, .int .i64 0, .int .i64 0, .int .i64 0, .int .i64 0, .int .i64 0, .slice none 0 0, .int .i64 0, .int .i64 0, .int .i64 0, .int .u64 0, .int .u64 0, .int .u64 0, .bool false] 35)) w.heap.size c := (CB.new w c).kept ((Kept.refl [] _).alloc _) (by simp)
  have Y := blk2 w (.cells #[.int .i64 c.t, .int .i64 c.s, .int .i64 c.c, .int .i64 c.h, .int .i64 c.k, .int .i64 c.e, .int .i64 c.l] 23) (.cells #[.int .i64 0, .int .i64 0, .int .i64 0, .int .i64 0, .int .i64 0, .int .i64 0, .int .i64 0, .slice none 0 0, .int .i64 0, .int .i64 0, .int .i64 0, .int .u64 0, .int .u64 0, .int .u64 0, .bool false] 35)
  have hn2 : decide ((n : Int) = L) = false := by simpa using hn
  have hn3 : ¬ (n : Int) = L := by simpa using hn
  have HR : Hid _ := h
  have HL : Hid _ := hL
  clear h hL
  go_enter Tryz.func4, Tryz.ntmps4
  go_wp2_with fail
  refine (rright_is HR.out _).mono ?_
  rintro e w1 ⟨rfl, K1⟩
  have Z1 := Z.kept K1 (by simp)
  have Y1 := K1.blk Y (by simp)
  have T1 := K0.trans K1
  clear Z Y K0 K1
  have q0 := cell_of_blk Z1 (i := 0) rfl
  have q1 := cell_of_blk Z1 (i := 1) rfl
  have q2 := cell_of_blk Z1 (i := 2) rfl
  have q3 := cell_of_blk Z1 (i := 3) rfl
  have q4 := cell_of_blk Z1 (i := 4) rfl
  have q5 := cell_of_blk Z1 (i := 5) rfl
  have q6 := cell_of_blk Z1 (i := 6) rfl
  go_wp2_with fail
  refine (rlen_is HL.out _).mono ?_
  rintro e w2 ⟨rfl, K2⟩
  have Z2 := Z1.kept K2 (by simp)
  have Y2 := K2.blk Y1 (by simp)
  have T := T1.trans K2
  clear Z1 Y1 T1 K2 q0 q1 q2 q3 q4 q5 q6
  have wl := lt_of_blk Y2
  have y0 := cell_of_blk Y2 (i := 0) rfl
  have y1 := cell_of_blk Y2 (i := 1) rfl
  have y2 := cell_of_blk Y2 (i := 2) rfl
  have y3 := cell_of_blk Y2 (i := 3) rfl
  have y4 := cell_of_blk Y2 (i := 4) rfl
  have y5 := cell_of_blk Y2 (i := 5) rfl
  have y6 := cell_of_blk Y2 (i := 6) rfl
  have y7 := cell_of_blk Y2 (i := 7) rfl
  have y8 := cell_of_blk Y2 (i := 8) rfl
  have y9 := cell_of_blk Y2 (i := 9) rfl
  have y10 := cell_of_blk Y2 (i := 10) rfl
  have y11 := cell_of_blk Y2 (i := 11) rfl
  have y12 := cell_of_blk Y2 (i := 12) rfl
  have y13 := cell_of_blk Y2 (i := 13) rfl
  have y14 := cell_of_blk Y2 (i := 14) rfl
  have fy := free_of_blk Y2
  clear Y2 Z2
  go_wp2
  exact bodyPost_ret (v := .tuple #[.pointer none, .agg #[.int .i64 0, .int .i64 0, .int .i64 0, .int .i64 0, .int .i64 0, .int .i64 0, .int .i64 0, .slice none 0 0, .int .i64 0, .int .i64 0, .int .i64 0, .int .u64 0, .int .u64 0, .int .u64 0, .bool false], .bool false]) (by simp [results, Tryz.results4, go_sem, y0, y1, y2, y3, y4, y5, y6, y7, y8, y9, y10, y11, y12, y13, y14]) rfl ⟨rfl, Kept.then T (l := []) (m := [w.heap.size + 1]) (by (repeat (first | (with_reducible refine Kept.setCell ?_ ?_ _) | (with_reducible refine Kept.alloc ?_ _) | (with_reducible refine Kept.drew ?_))); (first | (with_reducible assumption) | (with_reducible exact Kept.refl _ _) | exact Kept.weaken (l := []) (by with_reducible assumption) (by simp)); all_goals (first | exact Or.inr (Nat.le_refl _) | (refine Or.inr (Kept.size (l := []) ?_); assumption) | (refine Or.inl ?_; simp; done))) (by simp)⟩
set_option maxRecDepth 100000 in
set_option maxHeartbeats 2000000 in
theorem lof_big (c : Cfg) (ao : Option Addr) (n cap : Nat) (w : World) (h : riB c = true) (hn : (n : Int) = lnV c) (h4 : 400 < n) :
    Calls Tryz.prog 4 #[.agg #[.int .i64 c.t, .int .i64 c.s, .int .i64 c.c, .int .i64 c.h, .int .i64 c.k, .int .i64 c.e, .int .i64 c.l], .slice ao n cap] w fun e w' => e = .returned (.tuple #[.pointer none, .agg #[.int .i64 0, .int .i64 0, .int .i64 0, .int .i64 0, .int .i64 0, .int .i64 0, .int .i64 0, .slice none 0 0, .int .i64 0, .int .i64 0, .int .i64 0, .int .u64 0, .int .u64 0, .int .u64 0, .bool false], .bool false]) ∧ Kept [] w w' := by
  have K0 : Kept [] w ((w.alloc (.cells #[.int .i64 c.t, .int .i64 c.s, .int .i64 c.c, .int .i64 c.h, .int .i64 c.k, .int .i64 c.e, .int .i64 c.l] 23)).alloc (.cells #[.int .i64 0, .int .i64 0, .int .i64 0, .int .i64 0, .int .i64 0, .int .i64 0, .int .i64 0, .slice none 0 0, .int .i64 0, .int .i64 0, .int .i64 0, .int .u64 0, .int .u64 0, .int .u64 0, .bool false] 35)) := kept2 w _ _
  have Z : CB ((w.alloc (.cells #[.int .i64 c.t, .int .i64 c.s, .int .i64 c.c, .int .i64 c.h, .int .i64 c.k, .int .i64 c.e, .int .i64 c.l] 23)).alloc (.cells #[.int .i64 0, .int .i64 0, .int .i64 0, .int .i64 0, .int .i64 0, .int .i64 0, .int .i64 0, .slice none 0 0, .int .i64 0, .int .i64 0, .int .i64 0, .int .u64 0, .int .u64 0, .int .u64 0, .bool false] 35)) w.heap.size c := (CB.new w c).kept ((Kept.refl [] _).alloc _) (by simp)
  have Y := blk2 w (.cells #[.int .i64 c.t, .int .i64 c.s, .int .i64 c.c, .int .i64 c.h, .int .i64 c.k, .int .i64 c.e, .int .i64 c.l] 23) (.cells #[.int .i64 0, .int .i64 0, .int .i64 0, .int .i64 0, .int .i64 0, .int .i64 0, .int .i64 0, .slice none 0 0, .int .i64 0, .int .i64 0, .int .i64 0, .int .u64 0, .int .u64 0, .int .u64 0, .bool false] 35)
  have hd : decide ((400 : Int) < (n : Int)) = true := by rw [decide_eq_true_iff]; omega
  have HR : Hid _ := h
  have HL : Hid _ := hn.symm
  clear h hn
  go_enter Tryz.func4, Tryz.ntmps4
  go_wp2_with fail
  refine (rright_is HR.out _).mono ?_
  rintro e w1 ⟨rfl, K1⟩
  have Z1 := Z.kept K1 (by simp)
  have Y1 := K1.blk Y (by simp)
  have T1 := K0.trans K1
  clear Z Y K0 K1
  have q0 := cell_of_blk Z1 (i := 0) rfl
  have q1 := cell_of_blk Z1 (i := 1) rfl
  have q2 := cell_of_blk Z1 (i := 2) rfl
  have q3 := cell_of_blk Z1 (i := 3) rfl
  have q4 := cell_of_blk Z1 (i := 4) rfl
  have q5 := cell_of_blk Z1 (i := 5) rfl
  have q6 := cell_of_blk Z1 (i := 6) rfl
  go_wp2_with fail
  refine (rlen_is HL.out _).mono ?_
  rintro e w2 ⟨rfl, K2⟩
  have Z2 := Z1.kept K2 (by simp)
  have Y2 := K2.blk Y1 (by simp)
  have T := T1.trans K2
  clear Z1 Y1 T1 K2 q0 q1 q2 q3 q4 q5 q6
  have wl := lt_of_blk Y2
  have y0 := cell_of_blk Y2 (i := 0) rfl
  have y1 := cell_of_blk Y2 (i := 1) rfl
  have y2 := cell_of_blk Y2 (i := 2) rfl
  have y3 := cell_of_blk Y2 (i := 3) rfl
  have y4 := cell_of_blk Y2 (i := 4) rfl
  have y5 := cell_of_blk Y2 (i := 5) rfl
  have y6 := cell_of_blk Y2 (i := 6) rfl
  have y7 := cell_of_blk Y2 (i := 7) rfl
  have y8 := cell_of_blk Y2 (i := 8) rfl
  have y9 := cell_of_blk Y2 (i := 9) rfl
  have y10 := cell_of_blk Y2 (i := 10) rfl
  have y11 := cell_of_blk Y2 (i := 11) rfl
  have y12 := cell_of_blk Y2 (i := 12) rfl
  have y13 := cell_of_blk Y2 (i := 13) rfl
  have y14 := cell_of_blk Y2 (i := 14) rfl
  have fy := free_of_blk Y2
  clear Y2 Z2
  go_wp2
  exact bodyPost_ret (v := .tuple #[.pointer none, .agg #[.int .i64 0, .int .i64 0, .int .i64 0, .int .i64 0, .int .i64 0, .int .i64 0, .int .i64 0, .slice none 0 0, .int .i64 0, .int .i64 0, .int .i64 0, .int .u64 0, .int .u64 0, .int .u64 0, .bool false], .bool false]) (by simp [results, Tryz.results4, go_sem, y0, y1, y2, y3, y4, y5, y6, y7, y8, y9, y10, y11, y12, y13, y14]) rfl ⟨rfl, Kept.then T (l := []) (m := [w.heap.size + 1]) (by (repeat (first | (with_reducible refine Kept.setCell ?_ ?_ _) | (with_reducible refine Kept.alloc ?_ _) | (with_reducible refine Kept.drew ?_))); (first | (with_reducible assumption) | (with_reducible exact Kept.refl _ _) | exact Kept.weaken (l := []) (by with_reducible assumption) (by simp)); all_goals (first | exact Or.inr (Nat.le_refl _) | (refine Or.inr (Kept.size (l := []) ?_); assumption) | (refine Or.inl ?_; simp; done))) (by simp)⟩
set_option maxRecDepth 100000 in
set_option maxHeartbeats 2000000 in
theorem lof_yes (c : Cfg) (ao : Option Addr) (xs : List Int) (n cap : Nat) (w : World) (h : riB c = true) (hn : (n : Int) = lnV c) (h4 : n ≤ 400) (hx : n = xs.length) (hs : Sl w ao xs) (hc : ao = none → cap = 0) :
    Calls Tryz.prog 4 #[.agg #[.int .i64 c.t, .int .i64 c.s, .int .i64 c.c, .int .i64 c.h, .int .i64 c.k, .int .i64 c.e, .int .i64 c.l], .slice ao n cap] w fun e w' => ∃ m p r g c', e = .returned (.tuple #[.pointer (some ⟨m, 0, none⟩), rmV c (some ⟨g, 0, none⟩) n c' 0 Acc.zero, .bool true]) ∧ (w.heap.size ≤ m ∧ w.heap.size ≤ p ∧ w.heap.size ≤ r ∧ w.heap.size ≤ g ∧ ¬ g = r) ∧ Mm w' m p r c xs 0 Acc.zero ∧ RowR w' g xs c' ∧ Kept [] w w' := by
  have K0 : Kept [] w ((w.alloc (.cells #[.int .i64 c.t, .int .i64 c.s, .int .i64 c.c, .int .i64 c.h, .int .i64 c.k, .int .i64 c.e, .int .i64 c.l] 23)).alloc (.cells #[.int .i64 0, .int .i64 0, .int .i64 0, .int .i64 0, .int .i64 0, .int .i64 0, .int .i64 0, .slice none 0 0, .int .i64 0, .int .i64 0, .int .i64 0, .int .u64 0, .int .u64 0, .int .u64 0, .bool false] 35)) := kept2 w _ _
  have Z : CB ((w.alloc (.cells #[.int .i64 c.t, .int .i64 c.s, .int .i64 c.c, .int .i64 c.h, .int .i64 c.k, .int .i64 c.e, .int .i64 c.l] 23)).alloc (.cells #[.int .i64 0, .int .i64 0, .int .i64 0, .int .i64 0, .int .i64 0, .int .i64 0, .int .i64 0, .slice none 0 0, .int .i64 0, .int .i64 0, .int .i64 0, .int .u64 0, .int .u64 0, .int .u64 0, .bool false] 35)) w.heap.size c := (CB.new w c).kept ((Kept.refl [] _).alloc _) (by simp)
  have Y := blk2 w (.cells #[.int .i64 c.t, .int .i64 c.s, .int .i64 c.c, .int .i64 c.h, .int .i64 c.k, .int .i64 c.e, .int .i64 c.l] 23) (.cells #[.int .i64 0, .int .i64 0, .int .i64 0, .int .i64 0, .int .i64 0, .int .i64 0, .int .i64 0, .slice none 0 0, .int .i64 0, .int .i64 0, .int .i64 0, .int .u64 0, .int .u64 0, .int .u64 0, .bool false] 35)
  have hd : decide ((400 : Int) < (n : Int)) = false := by rw [decide_eq_false_iff_not]; omega
  have HR : Hid _ := h
  have HL : Hid _ := hn.symm
  have MO : Hid (∀ W' : World, Kept [] w W' → Calls Tryz.prog 18 #[.agg #[.int .i64 c.t, .int .i64 c.s, .int .i64 c.c, .int .i64 c.h, .int .i64 c.k, .int .i64 c.e, .int .i64 c.l], .slice ao n cap] W' fun e w' => ∃ m p r, e = .returned (.tuple #[.pointer (some ⟨m, 0, none⟩), .int .i64 0]) ∧ (W'.heap.size ≤ m ∧ W'.heap.size ≤ p ∧ W'.heap.size ≤ r) ∧ Mm w' m p r c xs 0 Acc.zero ∧ Kept [] W' w') := fun W' k => mof_yes c ao xs n cap W' h hn hx (hs.new k)
  have RO : Hid (∀ W' : World, Kept [] w W' → Calls Tryz.prog 19 #[.agg #[.int .i64 c.t, .int .i64 c.s, .int .i64 c.c, .int .i64 c.h, .int .i64 c.k, .int .i64 c.e, .int .i64 c.l], .slice ao n cap] W' fun e w' => ∃ g c', e = .returned (rmV c (some ⟨g, 0, none⟩) n c' 0 Acc.zero) ∧ W'.heap.size ≤ g ∧ RowR w' g xs c' ∧ Kept [] W' w') := fun W' k => rmof_any c ao xs n cap W' hx (hs.new k) hc (by omega)
  clear h hn h4 hx hs hc
  go_enter Tryz.func4, Tryz.ntmps4
  go_wp2_with fail
  refine (rright_is HR.out _).mono ?_
  rintro e w1 ⟨rfl, K1⟩
  have Z1 := Z.kept K1 (by simp)
  have Y1 := K1.blk Y (by simp)
  have T1 := K0.trans K1
  clear Z Y K0 K1
  have q0 := cell_of_blk Z1 (i := 0) rfl
  have q1 := cell_of_blk Z1 (i := 1) rfl
  have q2 := cell_of_blk Z1 (i := 2) rfl
  have q3 := cell_of_blk Z1 (i := 3) rfl
  have q4 := cell_of_blk Z1 (i := 4) rfl
  have q5 := cell_of_blk Z1 (i := 5) rfl
  have q6 := cell_of_blk Z1 (i := 6) rfl
  go_wp2_with fail
  refine (rlen_is HL.out _).mono ?_
  rintro e w2 ⟨rfl, K2⟩
  have Z2 := Z1.kept K2 (by simp)
  have Y2 := K2.blk Y1 (by simp)
  have T := T1.trans K2
  clear Z1 Y1 T1 K2 q0 q1 q2 q3 q4 q5 q6
  have q0 := cell_of_blk Z2 (i := 0) rfl
  have q1 := cell_of_blk Z2 (i := 1) rfl
  have q2 := cell_of_blk Z2 (i := 2) rfl
  have q3 := cell_of_blk Z2 (i := 3) rfl
  have q4 := cell_of_blk Z2 (i := 4) rfl
  have q5 := cell_of_blk Z2 (i := 5) rfl
  have q6 := cell_of_blk Z2 (i := 6) rfl
  go_wp2_with fail
  refine (MO.out _ T).mono ?_
  rintro e w3 ⟨m, p, r, rfl, hm, M3, K3⟩
  have Z3 := Z2.kept K3 (by simp)
  have Y3 := K3.blk Y2 (by simp)
  have T3 := T.trans K3
  have hm' : w.heap.size ≤ m ∧ w.heap.size ≤ p ∧ w.heap.size ≤ r := by have := T.size; omega
  have ylt := lt_of_blk Y2
  clear q0 q1 q2 q3 q4 q5 q6 Z2 Y2 T
  have q0 := cell_of_blk Z3 (i := 0) rfl
  have q1 := cell_of_blk Z3 (i := 1) rfl
  have q2 := cell_of_blk Z3 (i := 2) rfl
  have q3 := cell_of_blk Z3 (i := 3) rfl
  have q4 := cell_of_blk Z3 (i := 4) rfl
  have q5 := cell_of_blk Z3 (i := 5) rfl
  have q6 := cell_of_blk Z3 (i := 6) rfl
  go_wp2_with fail
  refine (RO.out _ T3).mono ?_
  rintro e w4 ⟨g, c', rfl, hg, R4, K4⟩
  have Y4 := K4.blk Y3 (by simp)
  have M4 := M3.new K4
  have T4 := T3.trans K4
  have hg' : w.heap.size ≤ g ∧ ¬ g = r := by have := T3.size; have := M3.bk.row.lt; omega
  have hny : ¬ m = w.heap.size + 1 ∧ ¬ p = w.heap.size + 1 ∧ ¬ r = w.heap.size + 1 := by omega
  have gy : ¬ g = w.heap.size + 1 := R4.ne Y4 (by decide)
  clear q0 q1 q2 q3 q4 q5 q6 Z3 Y3 T3 M3 K4 K3 hm hg
  simp only [rmV]
  go_wp2_with fail
  refine (bank_any m p r c xs 0 Acc.zero _ M4).mono ?_
  rintro e w5 ⟨rfl, rfl⟩
  have wl := lt_of_blk Y4
  have y0 := cell_of_blk Y4 (i := 0) rfl
  have y1 := cell_of_blk Y4 (i := 1) rfl
  have y2 := cell_of_blk Y4 (i := 2) rfl
  have y3 := cell_of_blk Y4 (i := 3) rfl
  have y4 := cell_of_blk Y4 (i := 4) rfl
  have y5 := cell_of_blk Y4 (i := 5) rfl
  have y6 := cell_of_blk Y4 (i := 6) rfl
  have y7 := cell_of_blk Y4 (i := 7) rfl
  have y8 := cell_of_blk Y4 (i := 8) rfl
  have y9 := cell_of_blk Y4 (i := 9) rfl
  have y10 := cell_of_blk Y4 (i := 10) rfl
  have y11 := cell_of_blk Y4 (i := 11) rfl
  have y12 := cell_of_blk Y4 (i := 12) rfl
  have y13 := cell_of_blk Y4 (i := 13) rfl
  have y14 := cell_of_blk Y4 (i := 14) rfl
  have fy := free_of_blk Y4
  have HF : Hid (∀ V : World, Kept [w.heap.size + 1] w5 V → Mm V m p r c xs 0 Acc.zero ∧ RowR V g xs c' ∧ Kept [] w V) := fun V k => ⟨M4.kept k (by simp [hny.1]) (by simp [hny.2.1]) (by simp [hny.2.2]), R4.kept k (by simp [gy]), T4.then k (by simp)⟩
  clear Y4 M4 R4 T4
  go_wp2
  exact bodyPost_ret (v := .tuple #[.pointer (some ⟨m, 0, none⟩), rmV c (some ⟨g, 0, none⟩) n c' 0 Acc.zero, .bool true]) (by simp [results, Tryz.results4, go_sem, rmV, y0, y1, y2, y3, y4, y5, y6, y7, y8, y9, y10, y11, y12, y13, y14]) rfl ⟨m, p, r, g, c', rfl, ⟨hm'.1, hm'.2.1, hm'.2.2, hg'.1, hg'.2⟩, HF.out _ (by (repeat (first | (with_reducible refine Kept.setCell ?_ ?_ _) | (with_reducible refine Kept.alloc ?_ _) | (with_reducible refine Kept.drew ?_))); (first | (with_reducible assumption) | (with_reducible exact Kept.refl _ _) | exact Kept.weaken (l := []) (by with_reducible assumption) (by simp)); all_goals (first | exact Or.inr (Nat.le_refl _) | (refine Or.inr (Kept.size (l := []) ?_); assumption) | (refine Or.inl ?_; simp; done)))⟩
end Go.Proofs.YtgafmklfpiipcaaGreatDoor

/-
  The words of a new world, and of one that has such words: the program's.
-/
import Derived.Test.YtgafmklfpiipcaaGreatDoorMRef0
import Derived.Deep.Cut
namespace Go.Proofs.YtgafmklfpiipcaaGreatDoor
open Go.RowKit (Grown Hid Below)
open Go.Deep
set_option maxRecDepth 100000
/-- The cells of a new world. -/
def lnN (c : Cfg) : Nat := (lnV c).toNat
def fcV (c : Cfg) : List Int := (((List.replicate (lnN c) 0).set 0 1).set (clV' c 0 0).toNat 1).set (clV' c 0 4).toNat c.h
theorem lnN_eq (c : Cfg) : ((lnN c : Nat) : Int) = lnV c := by have := ln_bd c; unfold lnN; omega
theorem lnN_le (c : Cfg) : lnN c ≤ 900 := by have := ln_bd c; unfold lnN; omega
theorem fcV_len (c : Cfg) : (fcV c).length = lnN c := by simp [fcV]
/-- The cell of a field of the head. -/
theorem head_cell {c : Cfg} (h : riB c = true) (f : Int) (h0 : 0 ≤ f) (h1 : f ≤ 5) : ∃ x : Nat, clV' c 0 f = (x : Int) ∧ x < lnN c ∧ 0 < x := by
  have r := riB_true.1 h
  have i : inF c 0 f := ⟨h, by omega, by have := r.c0; omega, h0, by have := r.h0; omega⟩
  obtain ⟨_, h2, h3⟩ := fld_wh i
  have := ts_bd r
  have e : clV' c 0 f = 1 + c.t * c.s + 0 * (6 + c.h) + f := if_pos i
  have hl := lnN_eq c
  exact ⟨(1 + c.t * c.s + 0 * (6 + c.h) + f).toNat, by rw [e]; omega, by omega, by omega⟩
theorem Row.made' {w : World} {r n : Nat} (h : r = w.heap.size) : Row (w.alloc (.cells (madeCells #[.int .u64 0] n) 25)) r (List.replicate n 0) := by
  subst h; unfold Row; rw [blk_alloc_new, made_zero]
theorem LB.made {w : World} {l : Nat} {c : Cfg} (h : l = w.heap.size) : LB (w.alloc (.cells #[.int .i64 c.t, .int .i64 c.s, .int .i64 c.c, .int .i64 c.h, .int .i64 c.k, .int .i64 c.e, .int .i64 c.l] 106)) l c := by
  subst h; exact LB.new w c
theorem LB.up {w : World} {l : Nat} {c : Cfg} {o : Obj} (h : LB w l c) : LB (w.alloc o) l c := Kept.blk ((Kept.refl [] _).alloc _) h (by simp)
theorem Row.up {w : World} {r : Nat} {xs : List Int} {o : Obj} (h : Row w r xs) : Row (w.alloc o) r xs := Kept.blk ((Kept.refl [] _).alloc _) h (by simp)
theorem LB.kept {m : List Nat} {w w' : World} {l : Nat} {c : Cfg} (h : LB w l c) (k : Kept m w w') (hl : l ∉ m) : LB w' l c := k.blk h hl
theorem LB.of_sets {w : World} {l : Nat} {c : Cfg} (z : w.heap[l]? = some (.cells #[.int .i64 0, .int .i64 0, .int .i64 0, .int .i64 0, .int .i64 0, .int .i64 0, .int .i64 0] 106 (0, 0))) :
    LB (sets l w [(0, .int .i64 c.t), (1, .int .i64 c.s), (2, .int .i64 c.c), (3, .int .i64 c.h), (4, .int .i64 c.k), (5, .int .i64 c.e), (6, .int .i64 c.l)]) l c := by
  have := blk_sets l [(0, .int .i64 c.t), (1, .int .i64 c.s), (2, .int .i64 c.c), (3, .int .i64 c.h), (4, .int .i64 c.k), (5, .int .i64 c.e), (6, .int .i64 c.l)] w _ z
  simpa [LB] using this
set_option maxRecDepth 100000 in
set_option maxHeartbeats 2000000 in
theorem mof_wrong (c : Cfg) (ao : Option Addr) (n cap : Nat) (w : World) (h : riB c = false) :
    Calls Tryz.prog 18 #[.agg #[.int .i64 c.t, .int .i64 c.s, .int .i64 c.c, .int .i64 c.h, .int .i64 c.k, .int .i64 c.e, .int .i64 c.l], .slice ao n cap] w fun e w' => e = .returned (.tuple #[.pointer none, .int .i64 1]) ∧ Kept [] w w' := by
  have K0 : Kept [] w (w.alloc (.cells #[.int .i64 c.t, .int .i64 c.s, .int .i64 c.c, .int .i64 c.h, .int .i64 c.k, .int .i64 c.e, .int .i64 c.l] 23)) := (Kept.refl _ _).alloc _
  go_enter Tryz.func18, Tryz.ntmps18
  go_wp2_with fail
  refine (right_is h _).mono ?_
  rintro e w1 ⟨rfl, K1⟩
  go_wp2
  go_ret2
  exact ⟨rfl, K0.trans K1⟩
set_option maxRecDepth 100000 in
set_option maxHeartbeats 2000000 in
theorem mof_len (c : Cfg) (ao : Option Addr) (n cap : Nat) (w : World) (h : riB c = true) (hn : ¬ (n : Int) = lnV c) :
    Calls Tryz.prog 18 #[.agg #[.int .i64 c.t, .int .i64 c.s, .int .i64 c.c, .int .i64 c.h, .int .i64 c.k, .int .i64 c.e, .int .i64 c.l], .slice ao n cap] w fun e w' => e = .returned (.tuple #[.pointer none, .int .i64 1]) ∧ Kept [] w w' := by
  have K0 : Kept [] w (w.alloc (.cells #[.int .i64 c.t, .int .i64 c.s, .int .i64 c.c, .int .i64 c.h, .int .i64 c.k, .int .i64 c.e, .int .i64 c.l] 23)) := (Kept.refl _ _).alloc _
  have Z := CB.new w c
  have HN : Hid _ := hn
  have HR : Hid _ := h
  clear hn h
  go_enter Tryz.func18, Tryz.ntmps18
  go_wp2_with fail
  refine (right_is HR.out _).mono ?_
  rintro e w1 ⟨rfl, K1⟩
  have Z1 := Z.kept K1 (by simp)
  have q0 := cell_of_blk Z1 (i := 0) rfl
  have q1 := cell_of_blk Z1 (i := 1) rfl
  have q2 := cell_of_blk Z1 (i := 2) rfl
  have q3 := cell_of_blk Z1 (i := 3) rfl
  have q4 := cell_of_blk Z1 (i := 4) rfl
  have q5 := cell_of_blk Z1 (i := 5) rfl
  have q6 := cell_of_blk Z1 (i := 6) rfl
  go_wp2_with fail
  refine (len_is (c := c) rfl _).mono ?_
  rintro e w2 ⟨rfl, K2⟩
  have hn := HN.out
  generalize lnV c = L at hn ⊢
  have hb1 : (((n : Nat) : Int) == L) = false := by simpa using hn
  have hb2 : decide (((n : Nat) : Int) = L) = false := by simpa using hn
  clear hn
  go_wp2
  go_ret2
  exact ⟨rfl, (K0.trans K1).trans K2⟩
set_option maxRecDepth 100000 in
set_option maxHeartbeats 2000000 in
theorem mof_yes (c : Cfg) (ao : Option Addr) (xs : List Int) (n cap : Nat) (w : World) (h : riB c = true) (hn : (n : Int) = lnV c) (hx : n = xs.length) (hs : Sl w ao xs) :
    Calls Tryz.prog 18 #[.agg #[.int .i64 c.t, .int .i64 c.s, .int .i64 c.c, .int .i64 c.h, .int .i64 c.k, .int .i64 c.e, .int .i64 c.l], .slice ao n cap] w fun e w' => ∃ m p r, e = .returned (.tuple #[.pointer (some ⟨m, 0, none⟩), .int .i64 0]) ∧ (w.heap.size ≤ m ∧ w.heap.size ≤ p ∧ w.heap.size ≤ r) ∧ Mm w' m p r c xs 0 Acc.zero ∧ Kept [] w w' := by
  have K0 : Kept [] w (w.alloc (.cells #[.int .i64 c.t, .int .i64 c.s, .int .i64 c.c, .int .i64 c.h, .int .i64 c.k, .int .i64 c.e, .int .i64 c.l] 23)) := (Kept.refl _ _).alloc _
  have Z := CB.new w c
  have hL := ln_bd c
  have HN : Hid _ := hn.symm
  have HR : Hid _ := h
  have HB : Hid (∀ W' : World, Kept [] w W' → Calls Tryz.prog 44 #[.slice ao n cap] W' fun e w' => ∃ p, e = .returned (.pointer (some ⟨p, 0, none⟩)) ∧ W'.heap.size ≤ p ∧ Bk w' p W'.heap.size xs 0 Acc.zero ∧ Kept [] W' w') := fun W' k => by
    have q := of_any ao xs cap W' (hs.new k) (by omega)
    rw [← hx] at q; exact q
  clear hn h hx hs hL
  obtain ⟨b, hb⟩ : ∃ b, b = w.heap.size := ⟨_, rfl⟩
  go_enter Tryz.func18, Tryz.ntmps18
  go_wp2_with fail
  refine (right_is HR.out _).mono ?_
  rintro e w1 ⟨rfl, K1⟩
  have Z1 := Z.kept K1 (by simp)
  have q0 := cell_of_blk Z1 (i := 0) rfl
  have q1 := cell_of_blk Z1 (i := 1) rfl
  have q2 := cell_of_blk Z1 (i := 2) rfl
  have q3 := cell_of_blk Z1 (i := 3) rfl
  have q4 := cell_of_blk Z1 (i := 4) rfl
  have q5 := cell_of_blk Z1 (i := 5) rfl
  have q6 := cell_of_blk Z1 (i := 6) rfl
  go_wp2_with fail
  refine (len_is HN.out _).mono ?_
  rintro e w2 ⟨rfl, K2⟩
  have Z2 := Z1.kept K2 (by simp)
  have T2 := (K0.trans K1).trans K2
  clear q0 q1 q2 q3 q4 q5 q6 Z1 Z K0 K1 K2
  rw [← hb] at Z2 ⊢
  clear hb
  go_wp2_with fail
  have HS : Hid (∀ W' : World, Kept [] w2 W' → W'.cell? ⟨b, 0, none⟩ = some (.int .i64 c.t) ∧ W'.cell? ⟨b, 1, none⟩ = some (.int .i64 c.s) ∧ W'.cell? ⟨b, 2, none⟩ = some (.int .i64 c.c) ∧ W'.cell? ⟨b, 3, none⟩ = some (.int .i64 c.h) ∧ W'.cell? ⟨b, 4, none⟩ = some (.int .i64 c.k) ∧ W'.cell? ⟨b, 5, none⟩ = some (.int .i64 c.e) ∧ W'.cell? ⟨b, 6, none⟩ = some (.int .i64 c.l)) := by
    intro W' k
    have z := k.blk Z2 (by simp)
    exact ⟨cell_of_blk z (i := 0) rfl, cell_of_blk z (i := 1) rfl, cell_of_blk z (i := 2) rfl, cell_of_blk z (i := 3) rfl, cell_of_blk z (i := 4) rfl, cell_of_blk z (i := 5) rfl, cell_of_blk z (i := 6) rfl⟩
  have hb2 := lt_of_blk Z2
  have HT : Hid _ := T2
  clear Z2 T2
  go_region_held3 (fun W' => W'.cell? ⟨b, 0, none⟩ = some (.int .i64 c.t) ∧ W'.cell? ⟨b, 1, none⟩ = some (.int .i64 c.s) ∧ W'.cell? ⟨b, 2, none⟩ = some (.int .i64 c.c) ∧ W'.cell? ⟨b, 3, none⟩ = some (.int .i64 c.h) ∧ W'.cell? ⟨b, 4, none⟩ = some (.int .i64 c.k) ∧ W'.cell? ⟨b, 5, none⟩ = some (.int .i64 c.e) ∧ W'.cell? ⟨b, 6, none⟩ = some (.int .i64 c.l))
    (exact HS.out _ (by (repeat (first | (with_reducible refine Kept.setCell ?_ ?_ _) | (with_reducible refine Kept.alloc ?_ _) | (with_reducible refine Kept.drew ?_))); (first | (with_reducible assumption) | (with_reducible exact Kept.refl _ _) | exact Kept.weaken (l := []) (by with_reducible assumption) (by simp)); all_goals (first | exact Or.inr (Nat.le_refl _) | (refine Or.inr (Kept.size (l := []) ?_); assumption) | (refine Or.inl ?_; simp; done))))
    (first
      | (go_at_call 44; refine (HB.out _ (HT.out.trans (by (repeat (first | (with_reducible refine Kept.setCell ?_ ?_ _) | (with_reducible refine Kept.alloc ?_ _) | (with_reducible refine Kept.drew ?_))); (first | (with_reducible assumption) | (with_reducible exact Kept.refl _ _) | exact Kept.weaken (l := []) (by with_reducible assumption) (by simp)); all_goals (first | exact Or.inr (Nat.le_refl _) | (refine Or.inr (Kept.size (l := []) ?_); assumption) | (refine Or.inl ?_; simp; done))))).mono ?_; rintro e w5 ⟨p, rfl, P5, B5, J5⟩; have K5 : Kept [] w2 w5 := Kept.trans (by (repeat (first | (with_reducible refine Kept.setCell ?_ ?_ _) | (with_reducible refine Kept.alloc ?_ _) | (with_reducible refine Kept.drew ?_))); (first | (with_reducible assumption) | (with_reducible exact Kept.refl _ _) | exact Kept.weaken (l := []) (by with_reducible assumption) (by simp)); all_goals (first | exact Or.inr (Nat.le_refl _) | (refine Or.inr (Kept.size (l := []) ?_); assumption) | (refine Or.inl ?_; simp; done))) J5))
  all_goals
    go_wp2
    go_ret2
    have := HT.out.size
    refine ⟨_, p, _, rfl, ⟨by have := K5.size; omega, Nat.le_trans this P5, this⟩, ⟨blk_alloc_new _ _, B5.kept ((Kept.refl [] _).alloc _) (by simp) (by simp), ?_⟩, HT.out.trans (K5.alloc _)⟩
    have q : w2.heap.size ≤ p := P5
    show 0 < p ∧ 0 < w2.heap.size
    omega
end Go.Proofs.YtgafmklfpiipcaaGreatDoor

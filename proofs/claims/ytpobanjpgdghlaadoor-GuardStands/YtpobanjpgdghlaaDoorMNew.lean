/-
  The words of a new world, and of one that has such words: the program's.
-/
import Derived.Test.YtpobanjpgdghlaaDoorMRef0
import Derived.Deep.Cut
namespace Go.Proofs.YtpobanjpgdghlaaDoor
open Go.RowKit (Grown Hid Below)
open Go.Deep
set_option maxRecDepth 100000
/-- The cells of a new world. -/
def lnN (c : Cfg) : Nat := (lnV c).toNat
def fcV (c : Cfg) : List Int := (((List.replicate (lnN c) 0).set 0 1).set (clV' c 0 0).toNat 1).set (clV' c 0 4).toNat c.h
theorem lnN_eq (c : Cfg) : ((lnN c : Nat) : Int) = lnV c := by have := ln_bd c; unfold lnN; omega
theorem lnN_le (c : Cfg) : lnN c ≤ 900 := by have := ln_bd c; unfold lnN; omega
theorem fcV_len (c : Cfg) : (fcV c).length = lnN c := by simp [fcV]
/-- The cell of a field of the head. -/
theorem head_cell {c : Cfg} (h : riB c = true) (f : Int) (h0 : 0 ≤ f) (h1 : f ≤ 5) : ∃ x : Nat, clV' c 0 f = (x : Int) ∧ x < lnN c ∧ 0 < x := by
  have r := riB_true.1 h
  have i : inF c 0 f := ⟨h, by omega, by have := r.c0; omega, h0, by have := r.h0; omega⟩
  obtain ⟨_, h2, h3⟩ := fld_wh i
  have := ts_bd r
  have e : clV' c 0 f = 1 + c.t * c.s + 0 * (6 + c.h) + f := if_pos i
  have hl := lnN_eq c
  exact ⟨(1 + c.t * c.s + 0 * (6 + c.h) + f).toNat, by rw [e]; omega, by omega, by omega⟩
theorem Row.made' {w : World} {r n : Nat} (h : r = w.heap.size) : Row (w.alloc (.cells (madeCells #[.int .u64 0] n) 29)) r (List.replicate n 0) := by
  subst h; unfold Row; rw [blk_alloc_new, made_zero]
theorem LB.made {w : World} {l : Nat} {c : Cfg} (h : l = w.heap.size) : LB (w.alloc (.cells #[.int .i64 c.t, .int .i64 c.s, .int .i64 c.c, .int .i64 c.h, .int .i64 c.k, .int .i64 c.e, .int .i64 c.l] 87)) l c := by
  subst h; exact LB.new w c
theorem LB.up {w : World} {l : Nat} {c : Cfg} {o : Obj} (h : LB w l c) : LB (w.alloc o) l c := Kept.blk ((Kept.refl [] _).alloc _) h (by simp)
theorem Row.up {w : World} {r : Nat} {xs : List Int} {o : Obj} (h : Row w r xs) : Row (w.alloc o) r xs := Kept.blk ((Kept.refl [] _).alloc _) h (by simp)
theorem LB.kept {m : List Nat} {w w' : World} {l : Nat} {c : Cfg} (h : LB w l c) (k : Kept m w w') (hl : l ∉ m) : LB w' l c := k.blk h hl
theorem LB.of_sets {w : World} {l : Nat} {c : Cfg} (z : w.heap[l]? = some (.cells #[.int .i64 0, .int .i64 0, .int .i64 0, .int .i64 0, .int .i64 0, .int .i64 0, .int .i64 0] 87 (0, 0))) :
    LB (sets l w [(0, .int .i64 c.t), (1, .int .i64 c.s), (2, .int .i64 c.c), (3, .int .i64 c.h), (4, .int .i64 c.k), (5, .int .i64 c.e), (6, .int .i64 c.l)]) l c := by
  have := blk_sets l [(0, .int .i64 c.t), (1, .int .i64 c.s), (2, .int .i64 c.c), (3, .int .i64 c.h), (4, .int .i64 c.k), (5, .int .i64 c.e), (6, .int .i64 c.l)] w _ z
  simpa [LB] using this
set_option maxRecDepth 100000 in
set_option maxHeartbeats 2000000 in
theorem firstCells_any (c : Cfg) (w : World) (hT : Tab w) (h : riB c = true) :
    Calls Tryd.prog 48 #[.agg #[.int .i64 c.t, .int .i64 c.s, .int .i64 c.c, .int .i64 c.h, .int .i64 c.k, .int .i64 c.e, .int .i64 c.l]] w fun e w' => ∃ r, e = .returned (.slice (some ⟨r, 0, none⟩) (lnN c) (lnN c)) ∧ w.heap.size ≤ r ∧ Row w' r (fcV c) ∧ Kept [] w w' := by
  obtain ⟨x0, e0, l0, _⟩ := head_cell h 0 (by omega) (by omega)
  obtain ⟨x4, e4, l4, _⟩ := head_cell h 4 (by omega) (by omega)
  have hh : IntKind.u64.wrap c.h = c.h := by have r := riB_true.1 h; have := r.h0; have := r.h1; rw [IntKind.wrap_u64]; omega
  have eF : fcV c = (((List.replicate (lnN c) 0).set 0 1).set x0 1).set x4 c.h := by unfold fcV; rw [e0, e4]; rfl
  rw [eF]
  have hL : Hid (lnV c = ((lnN c : Nat) : Int)) := (lnN_eq c).symm
  have hle := lnN_le c
  clear eF
  generalize lnN c = n at *
  have hmk := run_make_row' (P := Tryd.prog) 24 29 (.int .u64 0) 8 Tryd.underlying24 info_u64 rfl .i64 .i64 n (by omega) (by omega)
  obtain ⟨b, hb⟩ : ∃ b, b = w.heap.size := ⟨_, rfl⟩
  have pT := hT.pos
  go_enter Tryd.func48, Tryd.ntmps48
  go_upto_region 1 with (fail)
  refine gen_world (fun W => CB W b c ∧ Tab W ∧ Kept [] w W) ?_ ?_
  · rw [hb]
    exact ⟨CB.new w c, hT.kept ((Kept.refl _ _).alloc _), (Kept.refl _ _).alloc _⟩
  rw [← hb]
  have hbw : w.heap.size ≤ b := by omega
  clear hb hT
  rintro W ⟨Z, TW0, T⟩
  have HS : Hid (∀ W' : World, Kept [] W W' → W'.cell? ⟨b, 0, none⟩ = some (.int .i64 c.t) ∧ W'.cell? ⟨b, 1, none⟩ = some (.int .i64 c.s) ∧ W'.cell? ⟨b, 2, none⟩ = some (.int .i64 c.c) ∧ W'.cell? ⟨b, 3, none⟩ = some (.int .i64 c.h) ∧ W'.cell? ⟨b, 4, none⟩ = some (.int .i64 c.k) ∧ W'.cell? ⟨b, 5, none⟩ = some (.int .i64 c.e) ∧ W'.cell? ⟨b, 6, none⟩ = some (.int .i64 c.l)) := by
    intro W' k
    have z := k.blk Z (by simp)
    exact ⟨cell_of_blk z (i := 0) rfl, cell_of_blk z (i := 1) rfl, cell_of_blk z (i := 2) rfl, cell_of_blk z (i := 3) rfl, cell_of_blk z (i := 4) rfl, cell_of_blk z (i := 5) rfl, cell_of_blk z (i := 6) rfl⟩
  have LN : Hid (∀ W' : World, Kept [] W W' → Calls Tryd.prog 57 #[.agg #[.int .i64 c.t, .int .i64 c.s, .int .i64 c.c, .int .i64 c.h, .int .i64 c.k, .int .i64 c.e, .int .i64 c.l]] W' fun e w' => e = .returned (.int .i64 ((n : Nat) : Int)) ∧ Kept [] W w' ∧ Kept [] W' w') := fun W' k => (len_is hL.out W').mono fun _ _ hh => ⟨hh.1, k.trans hh.2, hh.2⟩
  have HZ : Hid _ := And.intro Z (And.intro TW0 T)
  have hbW := lt_of_blk Z
  clear Z TW0 T
  go_cut [3, 4] from 7 (fun s3 s4 V => ∃ r l, s3 = .slice (some ⟨r, 0, none⟩) n n ∧ s4 = .pointer (some ⟨l, 0, none⟩) ∧ W.heap.size ≤ r ∧ W.heap.size ≤ l ∧ ¬ l = r ∧ Row V r (List.replicate n 0) ∧ LB V l c ∧ Kept [] W V)
  case first =>
    go_region_held3 (fun W' => W'.cell? ⟨b, 0, none⟩ = some (.int .i64 c.t) ∧ W'.cell? ⟨b, 1, none⟩ = some (.int .i64 c.s) ∧ W'.cell? ⟨b, 2, none⟩ = some (.int .i64 c.c) ∧ W'.cell? ⟨b, 3, none⟩ = some (.int .i64 c.h) ∧ W'.cell? ⟨b, 4, none⟩ = some (.int .i64 c.k) ∧ W'.cell? ⟨b, 5, none⟩ = some (.int .i64 c.e) ∧ W'.cell? ⟨b, 6, none⟩ = some (.int .i64 c.l))
      (exact HS.out _ (by (repeat (first | (with_reducible refine Kept.setCell ?_ ?_ _) | (with_reducible refine Kept.alloc ?_ _) | (with_reducible refine Kept.drew ?_))); (first | (with_reducible assumption) | (with_reducible exact Kept.refl _ _) | exact Kept.weaken (l := []) (by with_reducible assumption) (by simp)); all_goals (first | exact Or.inr (Nat.le_refl _) | (refine Or.inr (Kept.size (l := []) ?_); assumption) | (refine Or.inl ?_; simp; done))))
      (first
        | (go_at_call 57; refine (LN.out _ (by (repeat (first | (with_reducible refine Kept.setCell ?_ ?_ _) | (with_reducible refine Kept.alloc ?_ _) | (with_reducible refine Kept.drew ?_))); (first | (with_reducible assumption) | (with_reducible exact Kept.refl _ _) | exact Kept.weaken (l := []) (by with_reducible assumption) (by simp)); all_goals (first | exact Or.inr (Nat.le_refl _) | (refine Or.inr (Kept.size (l := []) ?_); assumption) | (refine Or.inl ?_; simp; done)))).mono ?_; rintro e w5 ⟨rfl, K5, J5⟩; try ((first | have z5 : w5.heap[W.heap.size]? = some (.cells #[.int .i64 0, .int .i64 0, .int .i64 0, .int .i64 0, .int .i64 0, .int .i64 0, .int .i64 0] 87 (0, 0)) := J5.blk (blk_alloc_new _ _) (by simp) | have z5 : LB w5 W.heap.size c := J5.blk (blk_alloc_new _ _) (by simp)); have f5 := free_of_blk z5; have lz := lt_of_blk z5; have p0 := cell_of_blk z5 (i := 0) rfl; have p1 := cell_of_blk z5 (i := 1) rfl; have p2 := cell_of_blk z5 (i := 2) rfl; have p3 := cell_of_blk z5 (i := 3) rfl; have p4 := cell_of_blk z5 (i := 4) rfl; have p5 := cell_of_blk z5 (i := 5) rfl; have p6 := cell_of_blk z5 (i := 6) rfl)))
    all_goals
      go_wp2
      go_meet
      case rel =>
        have h5 := K5.size
        refine ⟨_, _, rfl, rfl, by first | omega | (simp; omega), by first | omega | (simp; omega), by first | omega | (simp; omega), ?_, ?_, by (repeat (first | (with_reducible refine Kept.setCell ?_ ?_ _) | (with_reducible refine Kept.alloc ?_ _) | (with_reducible refine Kept.drew ?_))); (first | (with_reducible assumption) | (with_reducible exact Kept.refl _ _) | exact Kept.weaken (l := []) (by with_reducible assumption) (by simp)); all_goals (first | exact Or.inr (Nat.le_refl _) | (refine Or.inr (Kept.size (l := []) ?_); assumption) | (refine Or.inl ?_; simp; done))⟩
        · first
            | (with_reducible refine Row.made' ?_; first | rfl | (simp only [nblk_setCell]; done) | (simp only [nblk_alloc]; done))
            | (with_reducible refine Row.up (Row.made' ?_); rfl)
            | exact (Row.made' rfl).kept (l := [W.heap.size]) (by (repeat (first | (with_reducible refine Kept.setCell ?_ ?_ _) | (with_reducible refine Kept.alloc ?_ _) | (with_reducible refine Kept.drew ?_))); (first | (with_reducible assumption) | (with_reducible exact Kept.refl _ _) | exact Kept.weaken (l := []) (by with_reducible assumption) (by simp)); all_goals (first | exact Or.inr (Nat.le_refl _) | (refine Or.inr (Kept.size (l := []) ?_); assumption) | (refine Or.inl ?_; simp; done))) (by simp; omega)
        · first
            | (with_reducible refine LB.made ?_; first | rfl | (simp only [nblk_alloc]; done))
            | ((with_reducible refine LB.up ?_); first | (with_reducible refine LB.made ?_; rfl) | exact LB.of_sets z5)
            | exact LB.of_sets (Kept.blk ((Kept.refl [] _).alloc _) z5 (by simp))
  case rest =>
    obtain ⟨r, l, rfl, rfl, hr, hl, hne, RW, ZL, TV⟩ := hcut
    obtain ⟨Z, TW0, T⟩ := HZ.out
    have ZC := Z.kept TV (by simp)
    have TB := TW0.kept TV
    have TW := T.trans TV
    have hwr : w.heap.size ≤ r := by have := T.size; omega
    have hbr : ¬ b = r := by omega
    clear HS LN HZ Z TW0 T TV
    go_wp2_with fail
    refine (S.meta_yes 1 0 _ (by decide)).mono ?_
    rintro e w2 ⟨rfl, K2⟩
    replace ZC := ZC.kept K2 (by simp)
    replace ZL := ZL.kept K2 (by simp)
    replace RW := RW.kept K2 (by simp)
    replace TB := TB.kept K2
    replace TW := TW.trans K2
    clear K2
    rw [show S.meV 1 0 = 1 from rfl]
    have q0 := cell_of_blk ZL (i := 0) rfl
    have q1 := cell_of_blk ZL (i := 1) rfl
    have q2 := cell_of_blk ZL (i := 2) rfl
    have q3 := cell_of_blk ZL (i := 3) rfl
    have q4 := cell_of_blk ZL (i := 4) rfl
    have q5 := cell_of_blk ZL (i := 5) rfl
    have q6 := cell_of_blk ZL (i := 6) rfl
    go_wp2_with fail
    refine (clock_any c _).mono ?_
    rintro e w3 ⟨rfl, K3⟩
    replace ZC := ZC.kept K3 (by simp)
    replace ZL := ZL.kept K3 (by simp)
    replace RW := RW.kept K3 (by simp)
    replace TB := TB.kept K3
    replace TW := TW.trans K3
    have n0 : 0 < n := by omega
    have c3 := RW.cell (i := 0) (by simpa using n0)
    have f3 := RW.free 0
    have r3 := RW.lt
    clear K3 q0 q1 q2 q3 q4 q5 q6
    go_upto_region 4 with (fail)
    refine gen_world (fun W4 => CB W4 b c ∧ LB W4 l c ∧ Row W4 r ((List.replicate n 0).set 0 1) ∧ Tab W4 ∧ Kept [] w W4) ?_ ?_
    · have ks : Kept [r] w3 (w3.setCell ⟨r, 0, none⟩ (.int .u64 1)) := (Kept.refl _ _).setCell (Or.inl (by simp)) _
      exact ⟨ZC.kept ks (by simp; omega), ZL.kept ks (by simp; omega), RW.set 0 1, TB.keptL ks (by simp; omega), TW.then ks (by simp; omega)⟩
    clear ZC ZL RW TB TW c3 f3 r3
    rintro W4 ⟨ZC, ZL, RW, TB, TW⟩
    have HS4 : Hid (∀ W' : World, Kept [r] W4 W' → W'.cell? ⟨l, 0, none⟩ = some (.int .i64 c.t) ∧ W'.cell? ⟨l, 1, none⟩ = some (.int .i64 c.s) ∧ W'.cell? ⟨l, 2, none⟩ = some (.int .i64 c.c) ∧ W'.cell? ⟨l, 3, none⟩ = some (.int .i64 c.h) ∧ W'.cell? ⟨l, 4, none⟩ = some (.int .i64 c.k) ∧ W'.cell? ⟨l, 5, none⟩ = some (.int .i64 c.e) ∧ W'.cell? ⟨l, 6, none⟩ = some (.int .i64 c.l)) := by
      intro W' k
      have z := k.blk ZL (by simp; omega)
      exact ⟨cell_of_blk z (i := 0) rfl, cell_of_blk z (i := 1) rfl, cell_of_blk z (i := 2) rfl, cell_of_blk z (i := 3) rfl, cell_of_blk z (i := 4) rfl, cell_of_blk z (i := 5) rfl, cell_of_blk z (i := 6) rfl⟩
    have HH4 : Hid (∀ W' : World, Kept [] W4 W' → Calls Tryd.prog 67 #[] W' fun e w' => e = .returned (.int .u64 9223372036854775808) ∧ Kept [] W4 w') := fun W' k => (head_any W' (TB.kept k)).mono fun _ _ hh => ⟨hh.1, k.trans hh.2⟩
    have HN4 : Hid (∀ W' : World, Kept [] W4 W' → Calls Tryd.prog 66 #[.agg #[.int .i64 c.t, .int .i64 c.s, .int .i64 c.c, .int .i64 c.h, .int .i64 c.k, .int .i64 c.e, .int .i64 c.l], .int .u64 9223372036854775808, .int .i64 0] W' fun e w' => e = .returned (.int .i64 ((x0 : Nat) : Int)) ∧ Kept [] W4 w') := by
      intro W' k
      rw [← e0]
      exact (named_any c 9223372036854775808 0 W' (TB.kept k) (by omega) (by omega)).mono fun _ _ hh => ⟨hh.1, k.trans hh.2⟩
    have HE4 : Hid _ := And.intro RW (And.intro ZL (And.intro ZC (And.intro TB TW)))
    clear RW ZL ZC TB TW
    go_region_held3 (fun W' => W'.cell? ⟨l, 0, none⟩ = some (.int .i64 c.t) ∧ W'.cell? ⟨l, 1, none⟩ = some (.int .i64 c.s) ∧ W'.cell? ⟨l, 2, none⟩ = some (.int .i64 c.c) ∧ W'.cell? ⟨l, 3, none⟩ = some (.int .i64 c.h) ∧ W'.cell? ⟨l, 4, none⟩ = some (.int .i64 c.k) ∧ W'.cell? ⟨l, 5, none⟩ = some (.int .i64 c.e) ∧ W'.cell? ⟨l, 6, none⟩ = some (.int .i64 c.l))
      (exact HS4.out _ (by (repeat (first | (with_reducible refine Kept.setCell ?_ ?_ _) | (with_reducible refine Kept.alloc ?_ _) | (with_reducible refine Kept.drew ?_))); (first | (with_reducible assumption) | (with_reducible exact Kept.refl _ _) | exact Kept.weaken (l := []) (by with_reducible assumption) (by simp)); all_goals (first | exact Or.inr (Nat.le_refl _) | (refine Or.inr (Kept.size (l := []) ?_); assumption) | (refine Or.inl ?_; simp; done))))
      (first
        | (go_at_call 67; refine (HH4.out _ (by (repeat (first | (with_reducible refine Kept.setCell ?_ ?_ _) | (with_reducible refine Kept.alloc ?_ _) | (with_reducible refine Kept.drew ?_))); (first | (with_reducible assumption) | (with_reducible exact Kept.refl _ _) | exact Kept.weaken (l := []) (by with_reducible assumption) (by simp)); all_goals (first | exact Or.inr (Nat.le_refl _) | (refine Or.inr (Kept.size (l := []) ?_); assumption) | (refine Or.inl ?_; simp; done)))).mono ?_; rintro e w5 ⟨rfl, K5⟩)
        | (go_at_call 66; refine (HN4.out _ (by (repeat (first | (with_reducible refine Kept.setCell ?_ ?_ _) | (with_reducible refine Kept.alloc ?_ _) | (with_reducible refine Kept.drew ?_))); (first | (with_reducible assumption) | (with_reducible exact Kept.refl _ _) | exact Kept.weaken (l := []) (by with_reducible assumption) (by simp)); all_goals (first | exact Or.inr (Nat.le_refl _) | (refine Or.inr (Kept.size (l := []) ?_); assumption) | (refine Or.inl ?_; simp; done)))).mono ?_; rintro e w6 ⟨rfl, K6⟩; have R6 := HE4.out.1.kept K6 (by simp); have c6 := R6.cell (i := x0) (by simpa using l0); have f6 := R6.free x0; have r6 := R6.lt))
    all_goals
      obtain ⟨RW, ZL, ZC, TB, TW⟩ := HE4.out
      clear c6 f6 r6 HS4 HH4 HN4 HE4
      go_upto_region 5 with (fail)
      refine gen_world (fun W5 => CB W5 b c ∧ LB W5 l c ∧ Row W5 r (((List.replicate n 0).set 0 1).set x0 1) ∧ Tab W5 ∧ Kept [] w W5) ?_ ?_
      · have ks : Kept [r] w6 (w6.setCell ⟨r, x0, none⟩ (.int .u64 1)) := (Kept.refl _ _).setCell (Or.inl (by simp)) _
        exact ⟨(ZC.kept K6 (by simp)).kept ks (by simp; omega), (ZL.kept K6 (by simp)).kept ks (by simp; omega), R6.set x0 1, (TB.kept K6).keptL ks (by simp; omega), (TW.trans K6).then ks (by simp; omega)⟩
      clear ZC ZL RW TB TW R6 K6
      rintro W5 ⟨ZC, ZL, RW, TB, TW⟩
      have HS5 : Hid (∀ W' : World, Kept [r] W5 W' → W'.cell? ⟨l, 0, none⟩ = some (.int .i64 c.t) ∧ W'.cell? ⟨l, 1, none⟩ = some (.int .i64 c.s) ∧ W'.cell? ⟨l, 2, none⟩ = some (.int .i64 c.c) ∧ W'.cell? ⟨l, 3, none⟩ = some (.int .i64 c.h) ∧ W'.cell? ⟨l, 4, none⟩ = some (.int .i64 c.k) ∧ W'.cell? ⟨l, 5, none⟩ = some (.int .i64 c.e) ∧ W'.cell? ⟨l, 6, none⟩ = some (.int .i64 c.l) ∧ W'.cell? ⟨b, 3, none⟩ = some (.int .i64 c.h)) := by
        intro W' k
        have z := k.blk ZL (by simp; omega)
        exact ⟨cell_of_blk z (i := 0) rfl, cell_of_blk z (i := 1) rfl, cell_of_blk z (i := 2) rfl, cell_of_blk z (i := 3) rfl, cell_of_blk z (i := 4) rfl, cell_of_blk z (i := 5) rfl, cell_of_blk z (i := 6) rfl, cell_of_blk (k.blk ZC (by simp; omega)) (i := 3) rfl⟩
      have HH5 : Hid (∀ W' : World, Kept [] W5 W' → Calls Tryd.prog 67 #[] W' fun e w' => e = .returned (.int .u64 9223372036854775808) ∧ Kept [] W5 w') := fun W' k => (head_any W' (TB.kept k)).mono fun _ _ hh => ⟨hh.1, k.trans hh.2⟩
      have HN5 : Hid (∀ W' : World, Kept [] W5 W' → Calls Tryd.prog 66 #[.agg #[.int .i64 c.t, .int .i64 c.s, .int .i64 c.c, .int .i64 c.h, .int .i64 c.k, .int .i64 c.e, .int .i64 c.l], .int .u64 9223372036854775808, .int .i64 4] W' fun e w' => e = .returned (.int .i64 ((x4 : Nat) : Int)) ∧ Kept [] W5 w') := by
        intro W' k
        rw [← e4]
        exact (named_any c 9223372036854775808 4 W' (TB.kept k) (by omega) (by omega)).mono fun _ _ hh => ⟨hh.1, k.trans hh.2⟩
      have HE5 : Hid _ := And.intro RW (And.intro ZL (And.intro ZC (And.intro TB TW)))
      clear RW ZL ZC TB TW
      go_region_held3 (fun W' => W'.cell? ⟨l, 0, none⟩ = some (.int .i64 c.t) ∧ W'.cell? ⟨l, 1, none⟩ = some (.int .i64 c.s) ∧ W'.cell? ⟨l, 2, none⟩ = some (.int .i64 c.c) ∧ W'.cell? ⟨l, 3, none⟩ = some (.int .i64 c.h) ∧ W'.cell? ⟨l, 4, none⟩ = some (.int .i64 c.k) ∧ W'.cell? ⟨l, 5, none⟩ = some (.int .i64 c.e) ∧ W'.cell? ⟨l, 6, none⟩ = some (.int .i64 c.l) ∧ W'.cell? ⟨b, 3, none⟩ = some (.int .i64 c.h))
        (exact HS5.out _ (by (repeat (first | (with_reducible refine Kept.setCell ?_ ?_ _) | (with_reducible refine Kept.alloc ?_ _) | (with_reducible refine Kept.drew ?_))); (first | (with_reducible assumption) | (with_reducible exact Kept.refl _ _) | exact Kept.weaken (l := []) (by with_reducible assumption) (by simp)); all_goals (first | exact Or.inr (Nat.le_refl _) | (refine Or.inr (Kept.size (l := []) ?_); assumption) | (refine Or.inl ?_; simp; done))))
        (first
          | (go_at_call 67; refine (HH5.out _ (by (repeat (first | (with_reducible refine Kept.setCell ?_ ?_ _) | (with_reducible refine Kept.alloc ?_ _) | (with_reducible refine Kept.drew ?_))); (first | (with_reducible assumption) | (with_reducible exact Kept.refl _ _) | exact Kept.weaken (l := []) (by with_reducible assumption) (by simp)); all_goals (first | exact Or.inr (Nat.le_refl _) | (refine Or.inr (Kept.size (l := []) ?_); assumption) | (refine Or.inl ?_; simp; done)))).mono ?_; rintro e w5 ⟨rfl, K5⟩)
          | (go_at_call 66; refine (HN5.out _ (by (repeat (first | (with_reducible refine Kept.setCell ?_ ?_ _) | (with_reducible refine Kept.alloc ?_ _) | (with_reducible refine Kept.drew ?_))); (first | (with_reducible assumption) | (with_reducible exact Kept.refl _ _) | exact Kept.weaken (l := []) (by with_reducible assumption) (by simp)); all_goals (first | exact Or.inr (Nat.le_refl _) | (refine Or.inr (Kept.size (l := []) ?_); assumption) | (refine Or.inl ?_; simp; done)))).mono ?_; rintro e w6 ⟨rfl, K6⟩; have R6 := HE5.out.1.kept K6 (by simp); have c6 := R6.cell (i := x4) (by simpa using l4); have f6 := R6.free x4; have r6 := R6.lt))
      all_goals
        have TW := HE5.out.2.2.2.2
        clear c6 f6 r6 HS5 HH5 HN5 HE5
        go_wp2
        go_ret
        have ks : Kept [r] w6 (w6.setCell ⟨r, x4, none⟩ (.int .u64 c.h)) := (Kept.refl _ _).setCell (Or.inl (by simp)) _
        exact ⟨r, rfl, hwr, R6.set x4 c.h, (TW.trans K6).then ks (by simp; omega)⟩
set_option maxRecDepth 100000 in
set_option maxHeartbeats 2000000 in
theorem mof_wrong (c : Cfg) (ao : Option Addr) (n cap : Nat) (w : World) (h : riB c = false) :
    Calls Tryd.prog 31 #[.agg #[.int .i64 c.t, .int .i64 c.s, .int .i64 c.c, .int .i64 c.h, .int .i64 c.k, .int .i64 c.e, .int .i64 c.l], .slice ao n cap] w fun e w' => e = .returned (.tuple #[.pointer none, .int .i64 1]) ∧ Kept [] w w' := by
  have K0 : Kept [] w (w.alloc (.cells #[.int .i64 c.t, .int .i64 c.s, .int .i64 c.c, .int .i64 c.h, .int .i64 c.k, .int .i64 c.e, .int .i64 c.l] 23)) := (Kept.refl _ _).alloc _
  go_enter Tryd.func31, Tryd.ntmps31
  go_wp2_with fail
  refine (right_is h _).mono ?_
  rintro e w1 ⟨rfl, K1⟩
  go_wp2
  go_ret2
  exact ⟨rfl, K0.trans K1⟩
set_option maxRecDepth 100000 in
set_option maxHeartbeats 2000000 in
theorem mof_len (c : Cfg) (ao : Option Addr) (n cap : Nat) (w : World) (h : riB c = true) (hn : ¬ (n : Int) = lnV c) :
    Calls Tryd.prog 31 #[.agg #[.int .i64 c.t, .int .i64 c.s, .int .i64 c.c, .int .i64 c.h, .int .i64 c.k, .int .i64 c.e, .int .i64 c.l], .slice ao n cap] w fun e w' => e = .returned (.tuple #[.pointer none, .int .i64 1]) ∧ Kept [] w w' := by
  have K0 : Kept [] w (w.alloc (.cells #[.int .i64 c.t, .int .i64 c.s, .int .i64 c.c, .int .i64 c.h, .int .i64 c.k, .int .i64 c.e, .int .i64 c.l] 23)) := (Kept.refl _ _).alloc _
  have Z := CB.new w c
  have HN : Hid _ := hn
  have HR : Hid _ := h
  clear hn h
  go_enter Tryd.func31, Tryd.ntmps31
  go_wp2_with fail
  refine (right_is HR.out _).mono ?_
  rintro e w1 ⟨rfl, K1⟩
  have Z1 := Z.kept K1 (by simp)
  have q0 := cell_of_blk Z1 (i := 0) rfl
  have q1 := cell_of_blk Z1 (i := 1) rfl
  have q2 := cell_of_blk Z1 (i := 2) rfl
  have q3 := cell_of_blk Z1 (i := 3) rfl
  have q4 := cell_of_blk Z1 (i := 4) rfl
  have q5 := cell_of_blk Z1 (i := 5) rfl
  have q6 := cell_of_blk Z1 (i := 6) rfl
  go_wp2_with fail
  refine (len_is (c := c) rfl _).mono ?_
  rintro e w2 ⟨rfl, K2⟩
  have hn := HN.out
  generalize lnV c = L at hn ⊢
  have hb1 : (((n : Nat) : Int) == L) = false := by simpa using hn
  have hb2 : decide (((n : Nat) : Int) = L) = false := by simpa using hn
  clear hn
  go_wp2
  go_ret2
  exact ⟨rfl, (K0.trans K1).trans K2⟩
set_option maxRecDepth 100000 in
set_option maxHeartbeats 2000000 in
theorem mof_yes (c : Cfg) (ao : Option Addr) (xs : List Int) (n cap : Nat) (w : World) (h : riB c = true) (hn : (n : Int) = lnV c) (hx : n = xs.length) (hs : Sl w ao xs) :
    Calls Tryd.prog 31 #[.agg #[.int .i64 c.t, .int .i64 c.s, .int .i64 c.c, .int .i64 c.h, .int .i64 c.k, .int .i64 c.e, .int .i64 c.l], .slice ao n cap] w fun e w' => ∃ m p r, e = .returned (.tuple #[.pointer (some ⟨m, 0, none⟩), .int .i64 0]) ∧ (w.heap.size ≤ m ∧ w.heap.size ≤ p ∧ w.heap.size ≤ r) ∧ Mm w' m p r c xs 0 Acc.zero ∧ Kept [] w w' := by
  have K0 : Kept [] w (w.alloc (.cells #[.int .i64 c.t, .int .i64 c.s, .int .i64 c.c, .int .i64 c.h, .int .i64 c.k, .int .i64 c.e, .int .i64 c.l] 23)) := (Kept.refl _ _).alloc _
  have Z := CB.new w c
  have hL := ln_bd c
  have HN : Hid _ := hn.symm
  have HR : Hid _ := h
  have HB : Hid (∀ W' : World, Kept [] w W' → Calls Tryd.prog 58 #[.slice ao n cap] W' fun e w' => ∃ p, e = .returned (.pointer (some ⟨p, 0, none⟩)) ∧ W'.heap.size ≤ p ∧ Bk w' p W'.heap.size xs 0 Acc.zero ∧ Kept [] W' w') := fun W' k => by
    have q := of_any ao xs cap W' (hs.new k) (by omega)
    rw [← hx] at q; exact q
  clear hn h hx hs hL
  obtain ⟨b, hb⟩ : ∃ b, b = w.heap.size := ⟨_, rfl⟩
  go_enter Tryd.func31, Tryd.ntmps31
  go_wp2_with fail
  refine (right_is HR.out _).mono ?_
  rintro e w1 ⟨rfl, K1⟩
  have Z1 := Z.kept K1 (by simp)
  have q0 := cell_of_blk Z1 (i := 0) rfl
  have q1 := cell_of_blk Z1 (i := 1) rfl
  have q2 := cell_of_blk Z1 (i := 2) rfl
  have q3 := cell_of_blk Z1 (i := 3) rfl
  have q4 := cell_of_blk Z1 (i := 4) rfl
  have q5 := cell_of_blk Z1 (i := 5) rfl
  have q6 := cell_of_blk Z1 (i := 6) rfl
  go_wp2_with fail
  refine (len_is HN.out _).mono ?_
  rintro e w2 ⟨rfl, K2⟩
  have Z2 := Z1.kept K2 (by simp)
  have T2 := (K0.trans K1).trans K2
  clear q0 q1 q2 q3 q4 q5 q6 Z1 Z K0 K1 K2
  rw [← hb] at Z2 ⊢
  clear hb
  go_wp2_with fail
  have HS : Hid (∀ W' : World, Kept [] w2 W' → W'.cell? ⟨b, 0, none⟩ = some (.int .i64 c.t) ∧ W'.cell? ⟨b, 1, none⟩ = some (.int .i64 c.s) ∧ W'.cell? ⟨b, 2, none⟩ = some (.int .i64 c.c) ∧ W'.cell? ⟨b, 3, none⟩ = some (.int .i64 c.h) ∧ W'.cell? ⟨b, 4, none⟩ = some (.int .i64 c.k) ∧ W'.cell? ⟨b, 5, none⟩ = some (.int .i64 c.e) ∧ W'.cell? ⟨b, 6, none⟩ = some (.int .i64 c.l)) := by
    intro W' k
    have z := k.blk Z2 (by simp)
    exact ⟨cell_of_blk z (i := 0) rfl, cell_of_blk z (i := 1) rfl, cell_of_blk z (i := 2) rfl, cell_of_blk z (i := 3) rfl, cell_of_blk z (i := 4) rfl, cell_of_blk z (i := 5) rfl, cell_of_blk z (i := 6) rfl⟩
  have hb2 := lt_of_blk Z2
  have HT : Hid _ := T2
  clear Z2 T2
  go_region_held3 (fun W' => W'.cell? ⟨b, 0, none⟩ = some (.int .i64 c.t) ∧ W'.cell? ⟨b, 1, none⟩ = some (.int .i64 c.s) ∧ W'.cell? ⟨b, 2, none⟩ = some (.int .i64 c.c) ∧ W'.cell? ⟨b, 3, none⟩ = some (.int .i64 c.h) ∧ W'.cell? ⟨b, 4, none⟩ = some (.int .i64 c.k) ∧ W'.cell? ⟨b, 5, none⟩ = some (.int .i64 c.e) ∧ W'.cell? ⟨b, 6, none⟩ = some (.int .i64 c.l))
    (exact HS.out _ (by (repeat (first | (with_reducible refine Kept.setCell ?_ ?_ _) | (with_reducible refine Kept.alloc ?_ _) | (with_reducible refine Kept.drew ?_))); (first | (with_reducible assumption) | (with_reducible exact Kept.refl _ _) | exact Kept.weaken (l := []) (by with_reducible assumption) (by simp)); all_goals (first | exact Or.inr (Nat.le_refl _) | (refine Or.inr (Kept.size (l := []) ?_); assumption) | (refine Or.inl ?_; simp; done))))
    (first
      | (go_at_call 58; refine (HB.out _ (HT.out.trans (by (repeat (first | (with_reducible refine Kept.setCell ?_ ?_ _) | (with_reducible refine Kept.alloc ?_ _) | (with_reducible refine Kept.drew ?_))); (first | (with_reducible assumption) | (with_reducible exact Kept.refl _ _) | exact Kept.weaken (l := []) (by with_reducible assumption) (by simp)); all_goals (first | exact Or.inr (Nat.le_refl _) | (refine Or.inr (Kept.size (l := []) ?_); assumption) | (refine Or.inl ?_; simp; done))))).mono ?_; rintro e w5 ⟨p, rfl, P5, B5, J5⟩; have K5 : Kept [] w2 w5 := Kept.trans (by (repeat (first | (with_reducible refine Kept.setCell ?_ ?_ _) | (with_reducible refine Kept.alloc ?_ _) | (with_reducible refine Kept.drew ?_))); (first | (with_reducible assumption) | (with_reducible exact Kept.refl _ _) | exact Kept.weaken (l := []) (by with_reducible assumption) (by simp)); all_goals (first | exact Or.inr (Nat.le_refl _) | (refine Or.inr (Kept.size (l := []) ?_); assumption) | (refine Or.inl ?_; simp; done))) J5))
  all_goals
    go_wp2
    go_ret2
    have := HT.out.size
    refine ⟨_, p, _, rfl, ⟨by have := K5.size; omega, Nat.le_trans this P5, this⟩, ⟨blk_alloc_new _ _, B5.kept ((Kept.refl [] _).alloc _) (by simp) (by simp), ?_⟩, HT.out.trans (K5.alloc _)⟩
    have q : w2.heap.size ≤ p := P5
    show 0 < p ∧ 0 < w2.heap.size
    omega
set_option maxRecDepth 100000 in
set_option maxHeartbeats 2000000 in
theorem mnew_wrong (c : Cfg) (w : World) (h : riB c = false) :
    Calls Tryd.prog 23 #[.agg #[.int .i64 c.t, .int .i64 c.s, .int .i64 c.c, .int .i64 c.h, .int .i64 c.k, .int .i64 c.e, .int .i64 c.l]] w fun e w' => e = .returned (.tuple #[.pointer none, .int .i64 1]) ∧ Kept [] w w' := by
  have K0 : Kept [] w (w.alloc (.cells #[.int .i64 c.t, .int .i64 c.s, .int .i64 c.c, .int .i64 c.h, .int .i64 c.k, .int .i64 c.e, .int .i64 c.l] 23)) := (Kept.refl _ _).alloc _
  go_enter Tryd.func23, Tryd.ntmps23
  go_wp2_with fail
  refine (right_is h _).mono ?_
  rintro e w1 ⟨rfl, K1⟩
  go_wp2
  go_ret2
  exact ⟨rfl, K0.trans K1⟩
set_option maxRecDepth 100000 in
set_option maxHeartbeats 2000000 in
theorem mnew_yes (c : Cfg) (w : World) (hT : Tab w) (h : riB c = true) :
    Calls Tryd.prog 23 #[.agg #[.int .i64 c.t, .int .i64 c.s, .int .i64 c.c, .int .i64 c.h, .int .i64 c.k, .int .i64 c.e, .int .i64 c.l]] w fun e w' => ∃ m p r, e = .returned (.tuple #[.pointer (some ⟨m, 0, none⟩), .int .i64 0]) ∧ (w.heap.size ≤ m ∧ w.heap.size ≤ p ∧ w.heap.size ≤ r) ∧ Mm w' m p r c (fcV c) 0 Acc.zero ∧ Kept [] w w' := by
  have K0 : Kept [] w (w.alloc (.cells #[.int .i64 c.t, .int .i64 c.s, .int .i64 c.c, .int .i64 c.h, .int .i64 c.k, .int .i64 c.e, .int .i64 c.l] 23)) := (Kept.refl _ _).alloc _
  have Z := CB.new w c
  have HR : Hid _ := h
  have HF : Hid (∀ W' : World, Kept [] w W' → Calls Tryd.prog 48 #[.agg #[.int .i64 c.t, .int .i64 c.s, .int .i64 c.c, .int .i64 c.h, .int .i64 c.k, .int .i64 c.e, .int .i64 c.l]] W' fun e w' => ∃ r, e = .returned (.slice (some ⟨r, 0, none⟩) (lnN c) (lnN c)) ∧ W'.heap.size ≤ r ∧ Row w' r (fcV c) ∧ Kept [] W' w') := fun W' k => firstCells_any c W' (hT.kept k) h
  have HB : Hid (∀ (W' : World) (q : Nat), Row W' q (fcV c) → Calls Tryd.prog 31 #[.agg #[.int .i64 c.t, .int .i64 c.s, .int .i64 c.c, .int .i64 c.h, .int .i64 c.k, .int .i64 c.e, .int .i64 c.l], .slice (some ⟨q, 0, none⟩) (lnN c) (lnN c)] W' fun e w' => ∃ m p r, e = .returned (.tuple #[.pointer (some ⟨m, 0, none⟩), .int .i64 0]) ∧ (W'.heap.size ≤ m ∧ W'.heap.size ≤ p ∧ W'.heap.size ≤ r) ∧ Mm w' m p r c (fcV c) 0 Acc.zero ∧ Kept [] W' w') :=
    fun W' q k => mof_yes c _ (fcV c) (lnN c) (lnN c) W' h (lnN_eq c) (fcV_len c).symm k.sl
  generalize lnN c = n at *
  generalize fcV c = xs at *
  obtain ⟨b, hb⟩ : ∃ b, b = w.heap.size := ⟨_, rfl⟩
  clear h hT
  go_enter Tryd.func23, Tryd.ntmps23
  go_wp2_with fail
  refine (right_is HR.out _).mono ?_
  rintro e w1 ⟨rfl, K1⟩
  have Z1 := Z.kept K1 (by simp)
  have T1 := K0.trans K1
  clear Z K0 K1
  rw [← hb] at Z1 ⊢
  clear hb
  go_wp2_with fail
  have HS : Hid (∀ W' : World, Kept [] w1 W' → W'.cell? ⟨b, 0, none⟩ = some (.int .i64 c.t) ∧ W'.cell? ⟨b, 1, none⟩ = some (.int .i64 c.s) ∧ W'.cell? ⟨b, 2, none⟩ = some (.int .i64 c.c) ∧ W'.cell? ⟨b, 3, none⟩ = some (.int .i64 c.h) ∧ W'.cell? ⟨b, 4, none⟩ = some (.int .i64 c.k) ∧ W'.cell? ⟨b, 5, none⟩ = some (.int .i64 c.e) ∧ W'.cell? ⟨b, 6, none⟩ = some (.int .i64 c.l)) := by
    intro W' k
    have z := k.blk Z1 (by simp)
    exact ⟨cell_of_blk z (i := 0) rfl, cell_of_blk z (i := 1) rfl, cell_of_blk z (i := 2) rfl, cell_of_blk z (i := 3) rfl, cell_of_blk z (i := 4) rfl, cell_of_blk z (i := 5) rfl, cell_of_blk z (i := 6) rfl⟩
  have HT : Hid _ := T1
  clear Z1 T1
  go_region_held3 (fun W' => W'.cell? ⟨b, 0, none⟩ = some (.int .i64 c.t) ∧ W'.cell? ⟨b, 1, none⟩ = some (.int .i64 c.s) ∧ W'.cell? ⟨b, 2, none⟩ = some (.int .i64 c.c) ∧ W'.cell? ⟨b, 3, none⟩ = some (.int .i64 c.h) ∧ W'.cell? ⟨b, 4, none⟩ = some (.int .i64 c.k) ∧ W'.cell? ⟨b, 5, none⟩ = some (.int .i64 c.e) ∧ W'.cell? ⟨b, 6, none⟩ = some (.int .i64 c.l))
    (exact HS.out _ (by (repeat (first | (with_reducible refine Kept.setCell ?_ ?_ _) | (with_reducible refine Kept.alloc ?_ _) | (with_reducible refine Kept.drew ?_))); (first | (with_reducible assumption) | (with_reducible exact Kept.refl _ _) | exact Kept.weaken (l := []) (by with_reducible assumption) (by simp)); all_goals (first | exact Or.inr (Nat.le_refl _) | (refine Or.inr (Kept.size (l := []) ?_); assumption) | (refine Or.inl ?_; simp; done))))
    (first
      | (go_at_call 48; refine (HF.out _ (HT.out.trans (by (repeat (first | (with_reducible refine Kept.setCell ?_ ?_ _) | (with_reducible refine Kept.alloc ?_ _) | (with_reducible refine Kept.drew ?_))); (first | (with_reducible assumption) | (with_reducible exact Kept.refl _ _) | exact Kept.weaken (l := []) (by with_reducible assumption) (by simp)); all_goals (first | exact Or.inr (Nat.le_refl _) | (refine Or.inr (Kept.size (l := []) ?_); assumption) | (refine Or.inl ?_; simp; done))))).mono ?_; rintro e w5 ⟨q, rfl, Q5, R5, J5⟩; have K5 : Kept [] w1 w5 := Kept.trans (by (repeat (first | (with_reducible refine Kept.setCell ?_ ?_ _) | (with_reducible refine Kept.alloc ?_ _) | (with_reducible refine Kept.drew ?_))); (first | (with_reducible assumption) | (with_reducible exact Kept.refl _ _) | exact Kept.weaken (l := []) (by with_reducible assumption) (by simp)); all_goals (first | exact Or.inr (Nat.le_refl _) | (refine Or.inr (Kept.size (l := []) ?_); assumption) | (refine Or.inl ?_; simp; done))) J5)
      | (go_at_call 31; refine (HB.out _ _ R5).mono ?_; rintro e w6 ⟨m, p, r, rfl, P6, M6, J6⟩; have K6 : Kept [] w1 w6 := K5.trans J6))
  all_goals
    go_wp2
    go_ret2
    have h1 := HT.out.size
    have h2 := K5.size
    exact ⟨m, p, r, rfl, ⟨by omega, by omega, by omega⟩, M6, HT.out.trans K6⟩
end Go.Proofs.YtpobanjpgdghlaaDoor

/-
  For every configuration and two numbers: a world with more nodes has each thing where it was; one with more levels has more fields in each slot, and the same reservations; the law PlanMore answers true, and the arguments read as they did.
  Conditions: the package variable of handle that the code reads starts as the program's text lays it (the card ties it to that text).
-/
import Derived.Test.YtgbgaphmoemokaaDoorPAlive
import Derived.Test.YtgbgaphmoemokaaDoorPWhere
import Derived.Test.YtgbgaphmoemokaaDoorHLaid
import Derived.Test.YtgbgaphmoemokaaDoorPArgs
import Derived.ProofKit
import Derived.SizedLaws
import Derived.Carry
namespace Go.Proofs.YtgbgaphmoemokaaDoor
open Go.ChangeShapes Go.WideShapes Go.ChangeAt Go.RowKit
open Go.Deep

theorem cell_is7 {t s cc h k e l a b v : Int} (hh : Hid (clV' ⟨t, s, cc, h, k, e, l⟩ a b = v)) (w : World) : Calls Tryd.prog 15 #[.agg #[.int .i64 t, .int .i64 s, .int .i64 cc, .int .i64 h, .int .i64 k, .int .i64 e, .int .i64 l], .int .i64 a, .int .i64 b] w fun e' w' => e' = .returned (.int .i64 v) ∧ Kept [] w w' := hh.out ▸ cell_any ⟨t, s, cc, h, k, e, l⟩ a b w
theorem reserved_is7 {t s cc h k e l a b v : Int} (hh : Hid (rsV ⟨t, s, cc, h, k, e, l⟩ a b = v)) (w : World) : Calls Tryd.prog 14 #[.agg #[.int .i64 t, .int .i64 s, .int .i64 cc, .int .i64 h, .int .i64 k, .int .i64 e, .int .i64 l], .int .i64 a, .int .i64 b] w fun e' w' => e' = .returned (.int .i64 v) ∧ Kept [] w w' := hh.out ▸ reserved_any ⟨t, s, cc, h, k, e, l⟩ a b w
theorem len_is7 {t s cc h k e l v : Int} (hh : Hid (lnV ⟨t, s, cc, h, k, e, l⟩ = v)) (w : World) : Calls Tryd.prog 12 #[.agg #[.int .i64 t, .int .i64 s, .int .i64 cc, .int .i64 h, .int .i64 k, .int .i64 e, .int .i64 l]] w fun e' w' => e' = .returned (.int .i64 v) ∧ Kept [] w w' := hh.out ▸ len_any ⟨t, s, cc, h, k, e, l⟩ w
theorem right_is7 {t s cc h k e l : Int} {v : Bool} (hh : Hid (riB ⟨t, s, cc, h, k, e, l⟩ = v)) (w : World) : Calls Tryd.prog 10 #[.agg #[.int .i64 t, .int .i64 s, .int .i64 cc, .int .i64 h, .int .i64 k, .int .i64 e, .int .i64 l]] w fun e' w' => e' = .returned (.bool v) ∧ Kept [] w w' := hh.out ▸ right_any ⟨t, s, cc, h, k, e, l⟩ w
/-- More nodes, more levels. -/
theorem more (t s cc h k e l a b : Int) (hr : riB ⟨t, s, cc, h, k, e, l⟩ = true) (h0 : cc < 64) (h1 : h < 6) :
    rsV ⟨t, s, cc + 1, h, k, e, l⟩ a b = rsV ⟨t, s, cc, h, k, e, l⟩ a b ∧ rsV ⟨t, s, cc, h + 1, k, e, l⟩ a b = rsV ⟨t, s, cc, h, k, e, l⟩ a b ∧
    lnV ⟨t, s, cc, h, k, e, l⟩ < lnV ⟨t, s, cc + 1, h, k, e, l⟩ ∧ lnV ⟨t, s, cc, h + 1, k, e, l⟩ = lnV ⟨t, s, cc, h, k, e, l⟩ + cc + 1 ∧
    (clV' ⟨t, s, cc, h, k, e, l⟩ a b = -1 ∨ ∃ x, clV' ⟨t, s, cc, h, k, e, l⟩ a b = x ∧ 1 ≤ x ∧ x ≤ 900 ∧ 0 ≤ a ∧ a ≤ 64 ∧ clV' ⟨t, s, cc + 1, h, k, e, l⟩ a b = x ∧ clV' ⟨t, s, cc, h + 1, k, e, l⟩ a b = x + a) := by
  have R := riB_true.1 hr
  obtain ⟨a1, a2, a3, a4, a5, a6, a7, a8, a9, a10, a11, a12, a13, a14⟩ := R
  simp only at a1 a2 a3 a4 a5 a6 a7 a8 a9 a10 a11 a12 a13 a14
  have rd : riB ⟨t, s, cc + 1, h, k, e, l⟩ = true := riB_true.2 ⟨a1, a2, a3, a4, by simp only; omega, by simp only; omega, a7, a8, a9, a10, a11, a12, a13, a14⟩
  have re : riB ⟨t, s, cc, h + 1, k, e, l⟩ = true := riB_true.2 ⟨a1, a2, a3, a4, a5, a6, by simp only; omega, by simp only; omega, a9, a10, a11, a12, a13, a14⟩
  refine ⟨?_, ?_, ?_, ?_, ?_⟩
  · unfold rsV; by_cases hi : inR ⟨t, s, cc, h, k, e, l⟩ a b
    · rw [if_pos hi, if_pos (show inR ⟨t, s, cc + 1, h, k, e, l⟩ a b from ⟨rd, hi.2⟩)]
    · rw [if_neg hi, if_neg (fun q => hi ⟨hr, q.2⟩)]
  · unfold rsV; by_cases hi : inR ⟨t, s, cc, h, k, e, l⟩ a b
    · rw [if_pos hi, if_pos (show inR ⟨t, s, cc, h + 1, k, e, l⟩ a b from ⟨re, hi.2⟩)]
    · rw [if_neg hi, if_neg (fun q => hi ⟨hr, q.2⟩)]
  · rw [ln_yes hr, ln_yes rd]
    simp only
    rw [Int.add_mul (cc + 1) 1]; omega
  · rw [ln_yes hr, ln_yes re]
    simp only
    rw [show 6 + (h + 1) = (6 + h) + 1 by omega, Int.mul_add (cc + 1) (6 + h) 1]; omega
  · by_cases hi : inF ⟨t, s, cc, h, k, e, l⟩ a b
    · right
      obtain ⟨_, f1, f2⟩ := fld_wh hi
      have hts := ts_bd (riB_true.1 hr)
      have hln := ln_bd ⟨t, s, cc, h, k, e, l⟩
      obtain ⟨_, i0, i1, i2, i3⟩ := id hi
      simp only at f1 f2 i1 i3 hts
      refine ⟨_, if_pos hi, by simp only; omega, by simp only; omega, i0, by omega, if_pos ⟨rd, i0, by simp only; omega, i2, i3⟩, ?_⟩
      rw [clV', if_pos (show inF ⟨t, s, cc, h + 1, k, e, l⟩ a b from ⟨re, i0, i1, i2, by simp only; omega⟩)]
      simp only
      rw [show 6 + (h + 1) = (6 + h) + 1 by omega, Int.mul_add a (6 + h) 1]; omega
    · left; exact if_neg hi
theorem Tab.keptBut {l : List Nat} {w w' : World} (h : Tab w) (k : Kept l w w') (h0 : 0 ∉ l) : Tab w' := by
  have e := k.block 0 h.pos h0
  obtain ⟨a, b, c, d⟩ := h
  exact ⟨(World.cell?_of_block (a := ⟨0, 0, none⟩) e).trans a, (World.cell?_of_block (a := ⟨0, 1, none⟩) e).trans b, (World.cell?_of_block (a := ⟨0, 2, none⟩) e).trans c, (World.cell?_of_block (a := ⟨0, 3, none⟩) e).trans d⟩
theorem CB.set2 {w : World} {b : Nat} {t s cc h k e l : Int} (z : CB w b ⟨t, s, cc, h, k, e, l⟩) (x : Int) : CB (w.setCell ⟨b, 2, none⟩ (.int .i64 x)) b ⟨t, s, x, h, k, e, l⟩ := by
  have := blk_set z 2 (.int .i64 x); simpa [CB] using this
theorem CB.set3 {w : World} {b : Nat} {t s cc h k e l : Int} (z : CB w b ⟨t, s, cc, h, k, e, l⟩) (x : Int) : CB (w.setCell ⟨b, 3, none⟩ (.int .i64 x)) b ⟨t, s, cc, x, k, e, l⟩ := by
  have := blk_set z 3 (.int .i64 x); simpa [CB] using this
set_option maxRecDepth 100000 in
set_option maxHeartbeats 4000000 in
theorem planMore_walk (w : World) (c : Cfg) (_g : c.wf) (a : Int) (_wa : (Lit.int .i64 a).wf = true) (b : Int) (_wb : (Lit.int .i64 b).wf = true) (hT : Tab w) : Calls Tryd.prog 8 #[c.val, .int .i64 a, .int .i64 b] w fun e w' => e = .returned (.bool true) ∧ Kept [] w w' := by
  obtain ⟨t, s, cc, h, k, e, l⟩ := c
  simp only [Cfg.val]
  have KX : Kept [] w (((w.alloc (.cells #[.int .i64 t, .int .i64 s, .int .i64 cc, .int .i64 h, .int .i64 k, .int .i64 e, .int .i64 l] 23)).alloc (.cells #[.int .i64 t, .int .i64 s, .int .i64 cc, .int .i64 h, .int .i64 k, .int .i64 e, .int .i64 l] 23)).alloc (.cells #[.int .i64 t, .int .i64 s, .int .i64 cc, .int .i64 h, .int .i64 k, .int .i64 e, .int .i64 l] 23)).drew := ((((Kept.refl _ _).alloc _).alloc _).alloc _).drew
  have TX := hT.kept KX
  have Z0 : CB (((w.alloc (.cells #[.int .i64 t, .int .i64 s, .int .i64 cc, .int .i64 h, .int .i64 k, .int .i64 e, .int .i64 l] 23)).alloc (.cells #[.int .i64 t, .int .i64 s, .int .i64 cc, .int .i64 h, .int .i64 k, .int .i64 e, .int .i64 l] 23)).alloc (.cells #[.int .i64 t, .int .i64 s, .int .i64 cc, .int .i64 h, .int .i64 k, .int .i64 e, .int .i64 l] 23)).drew w.heap.size ⟨t, s, cc, h, k, e, l⟩ := (CB.new w ⟨t, s, cc, h, k, e, l⟩).kept (((Kept.refl [] _).alloc _).alloc _).drew (by simp)
  have Z1 : CB (((w.alloc (.cells #[.int .i64 t, .int .i64 s, .int .i64 cc, .int .i64 h, .int .i64 k, .int .i64 e, .int .i64 l] 23)).alloc (.cells #[.int .i64 t, .int .i64 s, .int .i64 cc, .int .i64 h, .int .i64 k, .int .i64 e, .int .i64 l] 23)).alloc (.cells #[.int .i64 t, .int .i64 s, .int .i64 cc, .int .i64 h, .int .i64 k, .int .i64 e, .int .i64 l] 23)).drew (w.heap.size + 1) ⟨t, s, cc, h, k, e, l⟩ := by
    have := (CB.new (w.alloc (.cells #[.int .i64 t, .int .i64 s, .int .i64 cc, .int .i64 h, .int .i64 k, .int .i64 e, .int .i64 l] 23)) ⟨t, s, cc, h, k, e, l⟩).kept ((Kept.refl [] _).alloc (.cells #[.int .i64 t, .int .i64 s, .int .i64 cc, .int .i64 h, .int .i64 k, .int .i64 e, .int .i64 l] 23)).drew (by simp)
    rwa [nblk_alloc] at this
  have Z2 : CB (((w.alloc (.cells #[.int .i64 t, .int .i64 s, .int .i64 cc, .int .i64 h, .int .i64 k, .int .i64 e, .int .i64 l] 23)).alloc (.cells #[.int .i64 t, .int .i64 s, .int .i64 cc, .int .i64 h, .int .i64 k, .int .i64 e, .int .i64 l] 23)).alloc (.cells #[.int .i64 t, .int .i64 s, .int .i64 cc, .int .i64 h, .int .i64 k, .int .i64 e, .int .i64 l] 23)).drew (w.heap.size + 1 + 1) ⟨t, s, cc, h, k, e, l⟩ := by
    have := (CB.new ((w.alloc (.cells #[.int .i64 t, .int .i64 s, .int .i64 cc, .int .i64 h, .int .i64 k, .int .i64 e, .int .i64 l] 23)).alloc (.cells #[.int .i64 t, .int .i64 s, .int .i64 cc, .int .i64 h, .int .i64 k, .int .i64 e, .int .i64 l] 23)) ⟨t, s, cc, h, k, e, l⟩).kept (Kept.refl [] _).drew (by simp)
    rwa [nblk_alloc, nblk_alloc] at this
  have hw0 : 0 < w.heap.size := hT.pos
  clear hT
  go_enter Tryd.func8, Tryd.ntmps8
  go_upto_region 1 with (fail)
  go_region
  · generalize (((w.alloc (.cells #[.int .i64 t, .int .i64 s, .int .i64 cc, .int .i64 h, .int .i64 k, .int .i64 e, .int .i64 l] 23)).alloc (.cells #[.int .i64 t, .int .i64 s, .int .i64 cc, .int .i64 h, .int .i64 k, .int .i64 e, .int .i64 l] 23)).alloc (.cells #[.int .i64 t, .int .i64 s, .int .i64 cc, .int .i64 h, .int .i64 k, .int .i64 e, .int .i64 l] 23)).drew = X at KX TX Z0 Z1 Z2 ⊢
    obtain ⟨E, hE⟩ : ∃ E, E = w.heap.size + 1 + 1 := ⟨_, rfl⟩
    rw [← hE] at Z2 ⊢
    obtain ⟨D, hD⟩ : ∃ D, D = w.heap.size + 1 := ⟨_, rfl⟩
    rw [← hD] at Z1 ⊢
    obtain ⟨B, hB⟩ : ∃ B, B = w.heap.size := ⟨_, rfl⟩
    rw [← hB] at Z0 ⊢
    obtain ⟨u0, u1, u2, u3, u4, u5⟩ : w.heap.size ≤ D ∧ w.heap.size ≤ E ∧ ¬ B = D ∧ ¬ B = E ∧ ¬ D = E ∧ ¬ E = D := by omega
    obtain ⟨u6, u7⟩ : ¬ D = 0 ∧ ¬ E = 0 := by omega
    clear hE hD hB
    rename CB X B _ => ZB
    rename CB X D _ => ZD
    rename CB X E _ => ZE
    have TX : Hid _ := TX
    have q0 := cell_of_blk ZB (i := 0) rfl
    have q1 := cell_of_blk ZB (i := 1) rfl
    have q2 := cell_of_blk ZB (i := 2) rfl
    have q3 := cell_of_blk ZB (i := 3) rfl
    have q4 := cell_of_blk ZB (i := 4) rfl
    have q5 := cell_of_blk ZB (i := 5) rfl
    have q6 := cell_of_blk ZB (i := 6) rfl
    by_cases hc : 64 ≤ cc
    · go_wp2_with fail
      refine (alive_any _ (by exact TX.out)).mono ?_
      rintro e W1 ⟨rfl, K1⟩
      go_wp2
      go_ret
      exact ⟨rfl, KX.trans K1⟩
    by_cases hh : 6 ≤ h
    · go_wp2_with fail
      refine (alive_any _ (by exact TX.out)).mono ?_
      rintro e W1 ⟨rfl, K1⟩
      go_wp2
      go_ret
      exact ⟨rfl, KX.trans K1⟩
    cases hr : riB ⟨t, s, cc, h, k, e, l⟩
    · have HR : Hid (riB ⟨t, s, cc, h, k, e, l⟩ = false) := hr
      clear hr
      go_wp2_with fail
      refine (right_is7 HR _).mono ?_
      rintro e W1 ⟨rfl, K1⟩
      go_wp2_with fail
      refine (alive_any _ (Tab.kept TX.out K1)).mono ?_
      rintro e W2 ⟨rfl, K2⟩
      go_wp2
      go_ret
      exact ⟨rfl, (KX.trans K1).trans K2⟩
    have HM : Hid _ := more t s cc h k e l a b hr (by omega) (by omega)
    have HR : Hid (riB ⟨t, s, cc, h, k, e, l⟩ = true) := hr
    obtain ⟨nb0, nb1⟩ := ln_bd ⟨t, s, cc, h, k, e, l⟩
    obtain ⟨cc0, hh0⟩ : 1 ≤ cc ∧ 1 ≤ h := ⟨(riB_true.1 hr).c0, (riB_true.1 hr).h0⟩
    clear hr
    go_wp2_with fail
    refine (right_is7 HR _).mono ?_
    rintro e W1 ⟨rfl, K1⟩
    clear q0 q1 q2 q3 q4 q5 q6
    have Y0 := ZB.kept K1 (by simp)
    have Y1 := ZD.kept K1 (by simp)
    have Y2 := ZE.kept K1 (by simp)
    have T1 := KX.trans K1
    have G1 : Hid (Tab W1) := Tab.kept TX.out K1
    clear ZB ZD ZE KX TX K1 HR
    have HF : Hid (CB ((W1.setCell ⟨D, 2, none⟩ (.int .i64 (cc + 1))).setCell ⟨E, 3, none⟩ (.int .i64 (h + 1))) B ⟨t, s, cc, h, k, e, l⟩ ∧ CB ((W1.setCell ⟨D, 2, none⟩ (.int .i64 (cc + 1))).setCell ⟨E, 3, none⟩ (.int .i64 (h + 1))) D ⟨t, s, cc + 1, h, k, e, l⟩ ∧ CB ((W1.setCell ⟨D, 2, none⟩ (.int .i64 (cc + 1))).setCell ⟨E, 3, none⟩ (.int .i64 (h + 1))) E ⟨t, s, cc, h + 1, k, e, l⟩ ∧ Kept [] w ((W1.setCell ⟨D, 2, none⟩ (.int .i64 (cc + 1))).setCell ⟨E, 3, none⟩ (.int .i64 (h + 1))) ∧ Tab ((W1.setCell ⟨D, 2, none⟩ (.int .i64 (cc + 1))).setCell ⟨E, 3, none⟩ (.int .i64 (h + 1)))) := by
      have k1 : Kept [D] W1 (W1.setCell ⟨D, 2, none⟩ (.int .i64 (cc + 1))) := (Kept.refl _ _).setCell (Or.inl (by simp)) _
      have k2 : Kept [E] (W1.setCell ⟨D, 2, none⟩ (.int .i64 (cc + 1))) ((W1.setCell ⟨D, 2, none⟩ (.int .i64 (cc + 1))).setCell ⟨E, 3, none⟩ (.int .i64 (h + 1))) := (Kept.refl _ _).setCell (Or.inl (by simp)) _
      exact ⟨(Y0.kept k1 (by simp; omega)).kept k2 (by simp; omega), (Y1.set2 _).kept k2 (by simp; omega), (Y2.kept k1 (by simp; omega)).set3 _, (T1.then k1 (by simp; omega)).then k2 (by simp; omega), (Tab.keptBut G1.out k1 (by simp; omega)).keptBut k2 (by simp; omega)⟩
    have q2 := cell_of_blk Y1 (i := 2) rfl
    have q3 := cell_of_blk Y2 (i := 3) rfl
    have f2 := free_of_blk Y1
    have f3 := free_of_blk Y2
    have l1 := lt_of_blk Y1
    have l2 := lt_of_blk Y2
    clear Y0 Y1 Y2 T1 G1
    go_wp2_with fail
    refine gen_world (fun W => CB W B ⟨t, s, cc, h, k, e, l⟩ ∧ CB W D ⟨t, s, cc + 1, h, k, e, l⟩ ∧ CB W E ⟨t, s, cc, h + 1, k, e, l⟩ ∧ Kept [] w W ∧ Tab W) HF.out ?_
    clear HF q2 q3 f2 f3 l1 l2
    rintro W ⟨ZB, ZD, ZE, KW0, TW0⟩
    obtain ⟨m1, m2, m3, m4, m5⟩ := HM.out
    clear HM
    obtain ⟨y, hy⟩ : ∃ y, rsV ⟨t, s, cc, h, k, e, l⟩ a b = y := ⟨_, rfl⟩
    rw [hy] at m1 m2
    obtain ⟨n, hn⟩ : ∃ n, lnV ⟨t, s, cc, h, k, e, l⟩ = n := ⟨_, rfl⟩
    obtain ⟨m, hm⟩ : ∃ m, lnV ⟨t, s, cc + 1, h, k, e, l⟩ = m := ⟨_, rfl⟩
    rw [hn] at m3 m4 nb0 nb1
    rw [hm] at m3
    have d1 : decide (n < m) = true := decide_eq_true m3
    have R0 : Hid (rsV ⟨t, s, cc, h, k, e, l⟩ a b = y) := hy
    have R1 : Hid (rsV ⟨t, s, cc + 1, h, k, e, l⟩ a b = y) := m1
    have R2 : Hid (rsV ⟨t, s, cc, h + 1, k, e, l⟩ a b = y) := m2
    have L0 : Hid (lnV ⟨t, s, cc, h, k, e, l⟩ = n) := hn
    have L1 : Hid (lnV ⟨t, s, cc + 1, h, k, e, l⟩ = m) := hm
    have L2 : Hid (lnV ⟨t, s, cc, h + 1, k, e, l⟩ = n + cc + 1) := m4
    clear m1 m2 m3 m4 hy hn hm
    have HT : Hid _ := TW0
    clear TW0
    have q0 : ∀ u : KW W, u.val.cell? ⟨B, 0, none⟩ = some (.int .i64 (t)) := KW.cell (cell_of_blk ZB (i := 0) rfl)
    have q1 : ∀ u : KW W, u.val.cell? ⟨B, 1, none⟩ = some (.int .i64 (s)) := KW.cell (cell_of_blk ZB (i := 1) rfl)
    have q2 : ∀ u : KW W, u.val.cell? ⟨B, 2, none⟩ = some (.int .i64 (cc)) := KW.cell (cell_of_blk ZB (i := 2) rfl)
    have q3 : ∀ u : KW W, u.val.cell? ⟨B, 3, none⟩ = some (.int .i64 (h)) := KW.cell (cell_of_blk ZB (i := 3) rfl)
    have q4 : ∀ u : KW W, u.val.cell? ⟨B, 4, none⟩ = some (.int .i64 (k)) := KW.cell (cell_of_blk ZB (i := 4) rfl)
    have q5 : ∀ u : KW W, u.val.cell? ⟨B, 5, none⟩ = some (.int .i64 (e)) := KW.cell (cell_of_blk ZB (i := 5) rfl)
    have q6 : ∀ u : KW W, u.val.cell? ⟨B, 6, none⟩ = some (.int .i64 (l)) := KW.cell (cell_of_blk ZB (i := 6) rfl)
    rcases m5 with m5 | ⟨x, m5, x0, x1, a0, a1, m6, m7⟩
    · have C0 : Hid (clV' ⟨t, s, cc, h, k, e, l⟩ a b = -1) := m5
      clear m5
      refine wp_region_kept (by kernel_rfl) (by kernel_rfl) ?_
      repeat (first | go_big_quiet_step ((first | (go_at_call 15; exact Calls.kw_of (cell_is7 (by assumption) _)) | (go_at_call 14; exact Calls.kw_of (reserved_is7 (by assumption) _)))) | quiet_step ((first | (go_at_call 15; exact Calls.kw_of (cell_is7 (by assumption) _)) | (go_at_call 14; exact Calls.kw_of (reserved_is7 (by assumption) _)))))
      refine wpQuiet_nil ?_
      intro _ hw'
      obtain ⟨pq, hw''⟩ := hw'
      subst hw''
      have K1 := pq.kept
      generalize pq.val = W2 at K1 ⊢
      clear q0 q1 q2 q3 q4 q5 q6 pq
      have YB := ZB.kept K1 (by simp)
      have YD := ZD.kept K1 (by simp)
      have YE := ZE.kept K1 (by simp)
      have T1 := KW0.trans K1
      have HT : Hid _ := Tab.kept HT.out K1
      clear K1 ZB ZD ZE KW0
      go_wp2_with fail
      have q0 : ∀ u : KW W2, u.val.cell? ⟨B, 0, none⟩ = some (.int .i64 (t)) := KW.cell (cell_of_blk YB (i := 0) rfl)
      have q1 : ∀ u : KW W2, u.val.cell? ⟨B, 1, none⟩ = some (.int .i64 (s)) := KW.cell (cell_of_blk YB (i := 1) rfl)
      have q2 : ∀ u : KW W2, u.val.cell? ⟨B, 2, none⟩ = some (.int .i64 (cc)) := KW.cell (cell_of_blk YB (i := 2) rfl)
      have q3 : ∀ u : KW W2, u.val.cell? ⟨B, 3, none⟩ = some (.int .i64 (h)) := KW.cell (cell_of_blk YB (i := 3) rfl)
      have q4 : ∀ u : KW W2, u.val.cell? ⟨B, 4, none⟩ = some (.int .i64 (k)) := KW.cell (cell_of_blk YB (i := 4) rfl)
      have q5 : ∀ u : KW W2, u.val.cell? ⟨B, 5, none⟩ = some (.int .i64 (e)) := KW.cell (cell_of_blk YB (i := 5) rfl)
      have q6 : ∀ u : KW W2, u.val.cell? ⟨B, 6, none⟩ = some (.int .i64 (l)) := KW.cell (cell_of_blk YB (i := 6) rfl)
      have r0 : ∀ u : KW W2, u.val.cell? ⟨D, 0, none⟩ = some (.int .i64 (t)) := KW.cell (cell_of_blk YD (i := 0) rfl)
      have r1 : ∀ u : KW W2, u.val.cell? ⟨D, 1, none⟩ = some (.int .i64 (s)) := KW.cell (cell_of_blk YD (i := 1) rfl)
      have r2 : ∀ u : KW W2, u.val.cell? ⟨D, 2, none⟩ = some (.int .i64 (cc + 1)) := KW.cell (cell_of_blk YD (i := 2) rfl)
      have r3 : ∀ u : KW W2, u.val.cell? ⟨D, 3, none⟩ = some (.int .i64 (h)) := KW.cell (cell_of_blk YD (i := 3) rfl)
      have r4 : ∀ u : KW W2, u.val.cell? ⟨D, 4, none⟩ = some (.int .i64 (k)) := KW.cell (cell_of_blk YD (i := 4) rfl)
      have r5 : ∀ u : KW W2, u.val.cell? ⟨D, 5, none⟩ = some (.int .i64 (e)) := KW.cell (cell_of_blk YD (i := 5) rfl)
      have r6 : ∀ u : KW W2, u.val.cell? ⟨D, 6, none⟩ = some (.int .i64 (l)) := KW.cell (cell_of_blk YD (i := 6) rfl)
      have z0 : ∀ u : KW W2, u.val.cell? ⟨E, 0, none⟩ = some (.int .i64 (t)) := KW.cell (cell_of_blk YE (i := 0) rfl)
      have z1 : ∀ u : KW W2, u.val.cell? ⟨E, 1, none⟩ = some (.int .i64 (s)) := KW.cell (cell_of_blk YE (i := 1) rfl)
      have z2 : ∀ u : KW W2, u.val.cell? ⟨E, 2, none⟩ = some (.int .i64 (cc)) := KW.cell (cell_of_blk YE (i := 2) rfl)
      have z3 : ∀ u : KW W2, u.val.cell? ⟨E, 3, none⟩ = some (.int .i64 (h + 1)) := KW.cell (cell_of_blk YE (i := 3) rfl)
      have z4 : ∀ u : KW W2, u.val.cell? ⟨E, 4, none⟩ = some (.int .i64 (k)) := KW.cell (cell_of_blk YE (i := 4) rfl)
      have z5 : ∀ u : KW W2, u.val.cell? ⟨E, 5, none⟩ = some (.int .i64 (e)) := KW.cell (cell_of_blk YE (i := 5) rfl)
      have z6 : ∀ u : KW W2, u.val.cell? ⟨E, 6, none⟩ = some (.int .i64 (l)) := KW.cell (cell_of_blk YE (i := 6) rfl)
      refine wp_region_kept (by kernel_rfl) (by kernel_rfl) ?_
      repeat (first | go_big_quiet_step ((first | (go_at_call 9; exact alive_kw HT.out _) | (go_at_call 15; exact Calls.kw_of (cell_is7 (by assumption) _)) | (go_at_call 14; exact Calls.kw_of (reserved_is7 (by assumption) _)) | (go_at_call 12; exact Calls.kw_of (len_is7 (by assumption) _)))) | quiet_step ((first | (go_at_call 9; exact alive_kw HT.out _) | (go_at_call 15; exact Calls.kw_of (cell_is7 (by assumption) _)) | (go_at_call 14; exact Calls.kw_of (reserved_is7 (by assumption) _)) | (go_at_call 12; exact Calls.kw_of (len_is7 (by assumption) _)))))
      refine wpQuiet_nil ?_
      intro _ hw'
      obtain ⟨pq, hw''⟩ := hw'
      subst hw''
      go_wp2
      go_ret
      exact ⟨rfl, T1.trans pq.kept⟩
    · have C0 : Hid (clV' ⟨t, s, cc, h, k, e, l⟩ a b = x) := m5
      have C1 : Hid (clV' ⟨t, s, cc + 1, h, k, e, l⟩ a b = x) := m6
      have C2 : Hid (clV' ⟨t, s, cc, h + 1, k, e, l⟩ a b = x + a) := m7
      clear m5 m6 m7
      have d2 : decide (x < 0) = false := decide_eq_false (by omega)
      refine wp_region_kept (by kernel_rfl) (by kernel_rfl) ?_
      repeat (first | go_big_quiet_step ((first | (go_at_call 15; exact Calls.kw_of (cell_is7 (by assumption) _)) | (go_at_call 14; exact Calls.kw_of (reserved_is7 (by assumption) _)))) | quiet_step ((first | (go_at_call 15; exact Calls.kw_of (cell_is7 (by assumption) _)) | (go_at_call 14; exact Calls.kw_of (reserved_is7 (by assumption) _)))))
      refine wpQuiet_nil ?_
      intro _ hw'
      obtain ⟨pq, hw''⟩ := hw'
      subst hw''
      have K1 := pq.kept
      generalize pq.val = W2 at K1 ⊢
      clear q0 q1 q2 q3 q4 q5 q6 pq
      have YB := ZB.kept K1 (by simp)
      have YD := ZD.kept K1 (by simp)
      have YE := ZE.kept K1 (by simp)
      have T1 := KW0.trans K1
      have HT : Hid _ := Tab.kept HT.out K1
      clear K1 ZB ZD ZE KW0
      go_wp2_with fail
      have q0 : ∀ u : KW W2, u.val.cell? ⟨B, 0, none⟩ = some (.int .i64 (t)) := KW.cell (cell_of_blk YB (i := 0) rfl)
      have q1 : ∀ u : KW W2, u.val.cell? ⟨B, 1, none⟩ = some (.int .i64 (s)) := KW.cell (cell_of_blk YB (i := 1) rfl)
      have q2 : ∀ u : KW W2, u.val.cell? ⟨B, 2, none⟩ = some (.int .i64 (cc)) := KW.cell (cell_of_blk YB (i := 2) rfl)
      have q3 : ∀ u : KW W2, u.val.cell? ⟨B, 3, none⟩ = some (.int .i64 (h)) := KW.cell (cell_of_blk YB (i := 3) rfl)
      have q4 : ∀ u : KW W2, u.val.cell? ⟨B, 4, none⟩ = some (.int .i64 (k)) := KW.cell (cell_of_blk YB (i := 4) rfl)
      have q5 : ∀ u : KW W2, u.val.cell? ⟨B, 5, none⟩ = some (.int .i64 (e)) := KW.cell (cell_of_blk YB (i := 5) rfl)
      have q6 : ∀ u : KW W2, u.val.cell? ⟨B, 6, none⟩ = some (.int .i64 (l)) := KW.cell (cell_of_blk YB (i := 6) rfl)
      have r0 : ∀ u : KW W2, u.val.cell? ⟨D, 0, none⟩ = some (.int .i64 (t)) := KW.cell (cell_of_blk YD (i := 0) rfl)
      have r1 : ∀ u : KW W2, u.val.cell? ⟨D, 1, none⟩ = some (.int .i64 (s)) := KW.cell (cell_of_blk YD (i := 1) rfl)
      have r2 : ∀ u : KW W2, u.val.cell? ⟨D, 2, none⟩ = some (.int .i64 (cc + 1)) := KW.cell (cell_of_blk YD (i := 2) rfl)
      have r3 : ∀ u : KW W2, u.val.cell? ⟨D, 3, none⟩ = some (.int .i64 (h)) := KW.cell (cell_of_blk YD (i := 3) rfl)
      have r4 : ∀ u : KW W2, u.val.cell? ⟨D, 4, none⟩ = some (.int .i64 (k)) := KW.cell (cell_of_blk YD (i := 4) rfl)
      have r5 : ∀ u : KW W2, u.val.cell? ⟨D, 5, none⟩ = some (.int .i64 (e)) := KW.cell (cell_of_blk YD (i := 5) rfl)
      have r6 : ∀ u : KW W2, u.val.cell? ⟨D, 6, none⟩ = some (.int .i64 (l)) := KW.cell (cell_of_blk YD (i := 6) rfl)
      have z0 : ∀ u : KW W2, u.val.cell? ⟨E, 0, none⟩ = some (.int .i64 (t)) := KW.cell (cell_of_blk YE (i := 0) rfl)
      have z1 : ∀ u : KW W2, u.val.cell? ⟨E, 1, none⟩ = some (.int .i64 (s)) := KW.cell (cell_of_blk YE (i := 1) rfl)
      have z2 : ∀ u : KW W2, u.val.cell? ⟨E, 2, none⟩ = some (.int .i64 (cc)) := KW.cell (cell_of_blk YE (i := 2) rfl)
      have z3 : ∀ u : KW W2, u.val.cell? ⟨E, 3, none⟩ = some (.int .i64 (h + 1)) := KW.cell (cell_of_blk YE (i := 3) rfl)
      have z4 : ∀ u : KW W2, u.val.cell? ⟨E, 4, none⟩ = some (.int .i64 (k)) := KW.cell (cell_of_blk YE (i := 4) rfl)
      have z5 : ∀ u : KW W2, u.val.cell? ⟨E, 5, none⟩ = some (.int .i64 (e)) := KW.cell (cell_of_blk YE (i := 5) rfl)
      have z6 : ∀ u : KW W2, u.val.cell? ⟨E, 6, none⟩ = some (.int .i64 (l)) := KW.cell (cell_of_blk YE (i := 6) rfl)
      refine wp_region_kept (by kernel_rfl) (by kernel_rfl) ?_
      repeat (first | go_big_quiet_step ((first | (go_at_call 9; exact alive_kw HT.out _) | (go_at_call 15; exact Calls.kw_of (cell_is7 (by assumption) _)) | (go_at_call 14; exact Calls.kw_of (reserved_is7 (by assumption) _)) | (go_at_call 12; exact Calls.kw_of (len_is7 (by assumption) _)))) | quiet_step ((first | (go_at_call 9; exact alive_kw HT.out _) | (go_at_call 15; exact Calls.kw_of (cell_is7 (by assumption) _)) | (go_at_call 14; exact Calls.kw_of (reserved_is7 (by assumption) _)) | (go_at_call 12; exact Calls.kw_of (len_is7 (by assumption) _)))))
      refine wpQuiet_nil ?_
      intro _ hw'
      obtain ⟨pq, hw''⟩ := hw'
      subst hw''
      go_wp2
      go_ret
      exact ⟨rfl, T1.trans pq.kept⟩
  · generalize (((w.alloc (.cells #[.int .i64 t, .int .i64 s, .int .i64 cc, .int .i64 h, .int .i64 k, .int .i64 e, .int .i64 l] 23)).alloc (.cells #[.int .i64 t, .int .i64 s, .int .i64 cc, .int .i64 h, .int .i64 k, .int .i64 e, .int .i64 l] 23)).alloc (.cells #[.int .i64 t, .int .i64 s, .int .i64 cc, .int .i64 h, .int .i64 k, .int .i64 e, .int .i64 l] 23)).drew = X at KX TX Z0 Z1 Z2 ⊢
    obtain ⟨D, hD⟩ : ∃ D, D = w.heap.size + 1 + 1 := ⟨_, rfl⟩
    rw [← hD] at Z2 ⊢
    obtain ⟨E, hE⟩ : ∃ E, E = w.heap.size + 1 := ⟨_, rfl⟩
    rw [← hE] at Z1 ⊢
    obtain ⟨B, hB⟩ : ∃ B, B = w.heap.size := ⟨_, rfl⟩
    rw [← hB] at Z0 ⊢
    obtain ⟨u0, u1, u2, u3, u4, u5⟩ : w.heap.size ≤ D ∧ w.heap.size ≤ E ∧ ¬ B = D ∧ ¬ B = E ∧ ¬ D = E ∧ ¬ E = D := by omega
    obtain ⟨u6, u7⟩ : ¬ D = 0 ∧ ¬ E = 0 := by omega
    clear hE hD hB
    rename CB X B _ => ZB
    rename CB X D _ => ZD
    rename CB X E _ => ZE
    have TX : Hid _ := TX
    have q0 := cell_of_blk ZB (i := 0) rfl
    have q1 := cell_of_blk ZB (i := 1) rfl
    have q2 := cell_of_blk ZB (i := 2) rfl
    have q3 := cell_of_blk ZB (i := 3) rfl
    have q4 := cell_of_blk ZB (i := 4) rfl
    have q5 := cell_of_blk ZB (i := 5) rfl
    have q6 := cell_of_blk ZB (i := 6) rfl
    by_cases hc : 64 ≤ cc
    · go_wp2_with fail
      refine (alive_any _ (by exact TX.out)).mono ?_
      rintro e W1 ⟨rfl, K1⟩
      go_wp2
      go_ret
      exact ⟨rfl, KX.trans K1⟩
    by_cases hh : 6 ≤ h
    · go_wp2_with fail
      refine (alive_any _ (by exact TX.out)).mono ?_
      rintro e W1 ⟨rfl, K1⟩
      go_wp2
      go_ret
      exact ⟨rfl, KX.trans K1⟩
    cases hr : riB ⟨t, s, cc, h, k, e, l⟩
    · have HR : Hid (riB ⟨t, s, cc, h, k, e, l⟩ = false) := hr
      clear hr
      go_wp2_with fail
      refine (right_is7 HR _).mono ?_
      rintro e W1 ⟨rfl, K1⟩
      go_wp2_with fail
      refine (alive_any _ (Tab.kept TX.out K1)).mono ?_
      rintro e W2 ⟨rfl, K2⟩
      go_wp2
      go_ret
      exact ⟨rfl, (KX.trans K1).trans K2⟩
    have HM : Hid _ := more t s cc h k e l a b hr (by omega) (by omega)
    have HR : Hid (riB ⟨t, s, cc, h, k, e, l⟩ = true) := hr
    obtain ⟨nb0, nb1⟩ := ln_bd ⟨t, s, cc, h, k, e, l⟩
    obtain ⟨cc0, hh0⟩ : 1 ≤ cc ∧ 1 ≤ h := ⟨(riB_true.1 hr).c0, (riB_true.1 hr).h0⟩
    clear hr
    go_wp2_with fail
    refine (right_is7 HR _).mono ?_
    rintro e W1 ⟨rfl, K1⟩
    clear q0 q1 q2 q3 q4 q5 q6
    have Y0 := ZB.kept K1 (by simp)
    have Y1 := ZD.kept K1 (by simp)
    have Y2 := ZE.kept K1 (by simp)
    have T1 := KX.trans K1
    have G1 : Hid (Tab W1) := Tab.kept TX.out K1
    clear ZB ZD ZE KX TX K1 HR
    have HF : Hid (CB ((W1.setCell ⟨D, 2, none⟩ (.int .i64 (cc + 1))).setCell ⟨E, 3, none⟩ (.int .i64 (h + 1))) B ⟨t, s, cc, h, k, e, l⟩ ∧ CB ((W1.setCell ⟨D, 2, none⟩ (.int .i64 (cc + 1))).setCell ⟨E, 3, none⟩ (.int .i64 (h + 1))) D ⟨t, s, cc + 1, h, k, e, l⟩ ∧ CB ((W1.setCell ⟨D, 2, none⟩ (.int .i64 (cc + 1))).setCell ⟨E, 3, none⟩ (.int .i64 (h + 1))) E ⟨t, s, cc, h + 1, k, e, l⟩ ∧ Kept [] w ((W1.setCell ⟨D, 2, none⟩ (.int .i64 (cc + 1))).setCell ⟨E, 3, none⟩ (.int .i64 (h + 1))) ∧ Tab ((W1.setCell ⟨D, 2, none⟩ (.int .i64 (cc + 1))).setCell ⟨E, 3, none⟩ (.int .i64 (h + 1)))) := by
      have k1 : Kept [D] W1 (W1.setCell ⟨D, 2, none⟩ (.int .i64 (cc + 1))) := (Kept.refl _ _).setCell (Or.inl (by simp)) _
      have k2 : Kept [E] (W1.setCell ⟨D, 2, none⟩ (.int .i64 (cc + 1))) ((W1.setCell ⟨D, 2, none⟩ (.int .i64 (cc + 1))).setCell ⟨E, 3, none⟩ (.int .i64 (h + 1))) := (Kept.refl _ _).setCell (Or.inl (by simp)) _
      exact ⟨(Y0.kept k1 (by simp; omega)).kept k2 (by simp; omega), (Y1.set2 _).kept k2 (by simp; omega), (Y2.kept k1 (by simp; omega)).set3 _, (T1.then k1 (by simp; omega)).then k2 (by simp; omega), (Tab.keptBut G1.out k1 (by simp; omega)).keptBut k2 (by simp; omega)⟩
    have q2 := cell_of_blk Y1 (i := 2) rfl
    have q3 := cell_of_blk Y2 (i := 3) rfl
    have f2 := free_of_blk Y1
    have f3 := free_of_blk Y2
    have l1 := lt_of_blk Y1
    have l2 := lt_of_blk Y2
    clear Y0 Y1 Y2 T1 G1
    go_wp2_with fail
    refine gen_world (fun W => CB W B ⟨t, s, cc, h, k, e, l⟩ ∧ CB W D ⟨t, s, cc + 1, h, k, e, l⟩ ∧ CB W E ⟨t, s, cc, h + 1, k, e, l⟩ ∧ Kept [] w W ∧ Tab W) HF.out ?_
    clear HF q2 q3 f2 f3 l1 l2
    rintro W ⟨ZB, ZD, ZE, KW0, TW0⟩
    obtain ⟨m1, m2, m3, m4, m5⟩ := HM.out
    clear HM
    obtain ⟨y, hy⟩ : ∃ y, rsV ⟨t, s, cc, h, k, e, l⟩ a b = y := ⟨_, rfl⟩
    rw [hy] at m1 m2
    obtain ⟨n, hn⟩ : ∃ n, lnV ⟨t, s, cc, h, k, e, l⟩ = n := ⟨_, rfl⟩
    obtain ⟨m, hm⟩ : ∃ m, lnV ⟨t, s, cc + 1, h, k, e, l⟩ = m := ⟨_, rfl⟩
    rw [hn] at m3 m4 nb0 nb1
    rw [hm] at m3
    have d1 : decide (n < m) = true := decide_eq_true m3
    have R0 : Hid (rsV ⟨t, s, cc, h, k, e, l⟩ a b = y) := hy
    have R1 : Hid (rsV ⟨t, s, cc + 1, h, k, e, l⟩ a b = y) := m1
    have R2 : Hid (rsV ⟨t, s, cc, h + 1, k, e, l⟩ a b = y) := m2
    have L0 : Hid (lnV ⟨t, s, cc, h, k, e, l⟩ = n) := hn
    have L1 : Hid (lnV ⟨t, s, cc + 1, h, k, e, l⟩ = m) := hm
    have L2 : Hid (lnV ⟨t, s, cc, h + 1, k, e, l⟩ = n + cc + 1) := m4
    clear m1 m2 m3 m4 hy hn hm
    have HT : Hid _ := TW0
    clear TW0
    have q0 : ∀ u : KW W, u.val.cell? ⟨B, 0, none⟩ = some (.int .i64 (t)) := KW.cell (cell_of_blk ZB (i := 0) rfl)
    have q1 : ∀ u : KW W, u.val.cell? ⟨B, 1, none⟩ = some (.int .i64 (s)) := KW.cell (cell_of_blk ZB (i := 1) rfl)
    have q2 : ∀ u : KW W, u.val.cell? ⟨B, 2, none⟩ = some (.int .i64 (cc)) := KW.cell (cell_of_blk ZB (i := 2) rfl)
    have q3 : ∀ u : KW W, u.val.cell? ⟨B, 3, none⟩ = some (.int .i64 (h)) := KW.cell (cell_of_blk ZB (i := 3) rfl)
    have q4 : ∀ u : KW W, u.val.cell? ⟨B, 4, none⟩ = some (.int .i64 (k)) := KW.cell (cell_of_blk ZB (i := 4) rfl)
    have q5 : ∀ u : KW W, u.val.cell? ⟨B, 5, none⟩ = some (.int .i64 (e)) := KW.cell (cell_of_blk ZB (i := 5) rfl)
    have q6 : ∀ u : KW W, u.val.cell? ⟨B, 6, none⟩ = some (.int .i64 (l)) := KW.cell (cell_of_blk ZB (i := 6) rfl)
    rcases m5 with m5 | ⟨x, m5, x0, x1, a0, a1, m6, m7⟩
    · have C0 : Hid (clV' ⟨t, s, cc, h, k, e, l⟩ a b = -1) := m5
      clear m5
      refine wp_region_kept (by kernel_rfl) (by kernel_rfl) ?_
      repeat (first | go_big_quiet_step ((first | (go_at_call 15; exact Calls.kw_of (cell_is7 (by assumption) _)) | (go_at_call 14; exact Calls.kw_of (reserved_is7 (by assumption) _)))) | quiet_step ((first | (go_at_call 15; exact Calls.kw_of (cell_is7 (by assumption) _)) | (go_at_call 14; exact Calls.kw_of (reserved_is7 (by assumption) _)))))
      refine wpQuiet_nil ?_
      intro _ hw'
      obtain ⟨pq, hw''⟩ := hw'
      subst hw''
      have K1 := pq.kept
      generalize pq.val = W2 at K1 ⊢
      clear q0 q1 q2 q3 q4 q5 q6 pq
      have YB := ZB.kept K1 (by simp)
      have YD := ZD.kept K1 (by simp)
      have YE := ZE.kept K1 (by simp)
      have T1 := KW0.trans K1
      have HT : Hid _ := Tab.kept HT.out K1
      clear K1 ZB ZD ZE KW0
      go_wp2_with fail
      have q0 : ∀ u : KW W2, u.val.cell? ⟨B, 0, none⟩ = some (.int .i64 (t)) := KW.cell (cell_of_blk YB (i := 0) rfl)
      have q1 : ∀ u : KW W2, u.val.cell? ⟨B, 1, none⟩ = some (.int .i64 (s)) := KW.cell (cell_of_blk YB (i := 1) rfl)
      have q2 : ∀ u : KW W2, u.val.cell? ⟨B, 2, none⟩ = some (.int .i64 (cc)) := KW.cell (cell_of_blk YB (i := 2) rfl)
      have q3 : ∀ u : KW W2, u.val.cell? ⟨B, 3, none⟩ = some (.int .i64 (h)) := KW.cell (cell_of_blk YB (i := 3) rfl)
      have q4 : ∀ u : KW W2, u.val.cell? ⟨B, 4, none⟩ = some (.int .i64 (k)) := KW.cell (cell_of_blk YB (i := 4) rfl)
      have q5 : ∀ u : KW W2, u.val.cell? ⟨B, 5, none⟩ = some (.int .i64 (e)) := KW.cell (cell_of_blk YB (i := 5) rfl)
      have q6 : ∀ u : KW W2, u.val.cell? ⟨B, 6, none⟩ = some (.int .i64 (l)) := KW.cell (cell_of_blk YB (i := 6) rfl)
      have r0 : ∀ u : KW W2, u.val.cell? ⟨D, 0, none⟩ = some (.int .i64 (t)) := KW.cell (cell_of_blk YD (i := 0) rfl)
      have r1 : ∀ u : KW W2, u.val.cell? ⟨D, 1, none⟩ = some (.int .i64 (s)) := KW.cell (cell_of_blk YD (i := 1) rfl)
      have r2 : ∀ u : KW W2, u.val.cell? ⟨D, 2, none⟩ = some (.int .i64 (cc + 1)) := KW.cell (cell_of_blk YD (i := 2) rfl)
      have r3 : ∀ u : KW W2, u.val.cell? ⟨D, 3, none⟩ = some (.int .i64 (h)) := KW.cell (cell_of_blk YD (i := 3) rfl)
      have r4 : ∀ u : KW W2, u.val.cell? ⟨D, 4, none⟩ = some (.int .i64 (k)) := KW.cell (cell_of_blk YD (i := 4) rfl)
      have r5 : ∀ u : KW W2, u.val.cell? ⟨D, 5, none⟩ = some (.int .i64 (e)) := KW.cell (cell_of_blk YD (i := 5) rfl)
      have r6 : ∀ u : KW W2, u.val.cell? ⟨D, 6, none⟩ = some (.int .i64 (l)) := KW.cell (cell_of_blk YD (i := 6) rfl)
      have z0 : ∀ u : KW W2, u.val.cell? ⟨E, 0, none⟩ = some (.int .i64 (t)) := KW.cell (cell_of_blk YE (i := 0) rfl)
      have z1 : ∀ u : KW W2, u.val.cell? ⟨E, 1, none⟩ = some (.int .i64 (s)) := KW.cell (cell_of_blk YE (i := 1) rfl)
      have z2 : ∀ u : KW W2, u.val.cell? ⟨E, 2, none⟩ = some (.int .i64 (cc)) := KW.cell (cell_of_blk YE (i := 2) rfl)
      have z3 : ∀ u : KW W2, u.val.cell? ⟨E, 3, none⟩ = some (.int .i64 (h + 1)) := KW.cell (cell_of_blk YE (i := 3) rfl)
      have z4 : ∀ u : KW W2, u.val.cell? ⟨E, 4, none⟩ = some (.int .i64 (k)) := KW.cell (cell_of_blk YE (i := 4) rfl)
      have z5 : ∀ u : KW W2, u.val.cell? ⟨E, 5, none⟩ = some (.int .i64 (e)) := KW.cell (cell_of_blk YE (i := 5) rfl)
      have z6 : ∀ u : KW W2, u.val.cell? ⟨E, 6, none⟩ = some (.int .i64 (l)) := KW.cell (cell_of_blk YE (i := 6) rfl)
      refine wp_region_kept (by kernel_rfl) (by kernel_rfl) ?_
      repeat (first | go_big_quiet_step ((first | (go_at_call 9; exact alive_kw HT.out _) | (go_at_call 15; exact Calls.kw_of (cell_is7 (by assumption) _)) | (go_at_call 14; exact Calls.kw_of (reserved_is7 (by assumption) _)) | (go_at_call 12; exact Calls.kw_of (len_is7 (by assumption) _)))) | quiet_step ((first | (go_at_call 9; exact alive_kw HT.out _) | (go_at_call 15; exact Calls.kw_of (cell_is7 (by assumption) _)) | (go_at_call 14; exact Calls.kw_of (reserved_is7 (by assumption) _)) | (go_at_call 12; exact Calls.kw_of (len_is7 (by assumption) _)))))
      refine wpQuiet_nil ?_
      intro _ hw'
      obtain ⟨pq, hw''⟩ := hw'
      subst hw''
      go_wp2
      go_ret
      exact ⟨rfl, T1.trans pq.kept⟩
    · have C0 : Hid (clV' ⟨t, s, cc, h, k, e, l⟩ a b = x) := m5
      have C1 : Hid (clV' ⟨t, s, cc + 1, h, k, e, l⟩ a b = x) := m6
      have C2 : Hid (clV' ⟨t, s, cc, h + 1, k, e, l⟩ a b = x + a) := m7
      clear m5 m6 m7
      have d2 : decide (x < 0) = false := decide_eq_false (by omega)
      refine wp_region_kept (by kernel_rfl) (by kernel_rfl) ?_
      repeat (first | go_big_quiet_step ((first | (go_at_call 15; exact Calls.kw_of (cell_is7 (by assumption) _)) | (go_at_call 14; exact Calls.kw_of (reserved_is7 (by assumption) _)))) | quiet_step ((first | (go_at_call 15; exact Calls.kw_of (cell_is7 (by assumption) _)) | (go_at_call 14; exact Calls.kw_of (reserved_is7 (by assumption) _)))))
      refine wpQuiet_nil ?_
      intro _ hw'
      obtain ⟨pq, hw''⟩ := hw'
      subst hw''
      have K1 := pq.kept
      generalize pq.val = W2 at K1 ⊢
      clear q0 q1 q2 q3 q4 q5 q6 pq
      have YB := ZB.kept K1 (by simp)
      have YD := ZD.kept K1 (by simp)
      have YE := ZE.kept K1 (by simp)
      have T1 := KW0.trans K1
      have HT : Hid _ := Tab.kept HT.out K1
      clear K1 ZB ZD ZE KW0
      go_wp2_with fail
      have q0 : ∀ u : KW W2, u.val.cell? ⟨B, 0, none⟩ = some (.int .i64 (t)) := KW.cell (cell_of_blk YB (i := 0) rfl)
      have q1 : ∀ u : KW W2, u.val.cell? ⟨B, 1, none⟩ = some (.int .i64 (s)) := KW.cell (cell_of_blk YB (i := 1) rfl)
      have q2 : ∀ u : KW W2, u.val.cell? ⟨B, 2, none⟩ = some (.int .i64 (cc)) := KW.cell (cell_of_blk YB (i := 2) rfl)
      have q3 : ∀ u : KW W2, u.val.cell? ⟨B, 3, none⟩ = some (.int .i64 (h)) := KW.cell (cell_of_blk YB (i := 3) rfl)
      have q4 : ∀ u : KW W2, u.val.cell? ⟨B, 4, none⟩ = some (.int .i64 (k)) := KW.cell (cell_of_blk YB (i := 4) rfl)
      have q5 : ∀ u : KW W2, u.val.cell? ⟨B, 5, none⟩ = some (.int .i64 (e)) := KW.cell (cell_of_blk YB (i := 5) rfl)
      have q6 : ∀ u : KW W2, u.val.cell? ⟨B, 6, none⟩ = some (.int .i64 (l)) := KW.cell (cell_of_blk YB (i := 6) rfl)
      have r0 : ∀ u : KW W2, u.val.cell? ⟨D, 0, none⟩ = some (.int .i64 (t)) := KW.cell (cell_of_blk YD (i := 0) rfl)
      have r1 : ∀ u : KW W2, u.val.cell? ⟨D, 1, none⟩ = some (.int .i64 (s)) := KW.cell (cell_of_blk YD (i := 1) rfl)
      have r2 : ∀ u : KW W2, u.val.cell? ⟨D, 2, none⟩ = some (.int .i64 (cc + 1)) := KW.cell (cell_of_blk YD (i := 2) rfl)
      have r3 : ∀ u : KW W2, u.val.cell? ⟨D, 3, none⟩ = some (.int .i64 (h)) := KW.cell (cell_of_blk YD (i := 3) rfl)
      have r4 : ∀ u : KW W2, u.val.cell? ⟨D, 4, none⟩ = some (.int .i64 (k)) := KW.cell (cell_of_blk YD (i := 4) rfl)
      have r5 : ∀ u : KW W2, u.val.cell? ⟨D, 5, none⟩ = some (.int .i64 (e)) := KW.cell (cell_of_blk YD (i := 5) rfl)
      have r6 : ∀ u : KW W2, u.val.cell? ⟨D, 6, none⟩ = some (.int .i64 (l)) := KW.cell (cell_of_blk YD (i := 6) rfl)
      have z0 : ∀ u : KW W2, u.val.cell? ⟨E, 0, none⟩ = some (.int .i64 (t)) := KW.cell (cell_of_blk YE (i := 0) rfl)
      have z1 : ∀ u : KW W2, u.val.cell? ⟨E, 1, none⟩ = some (.int .i64 (s)) := KW.cell (cell_of_blk YE (i := 1) rfl)
      have z2 : ∀ u : KW W2, u.val.cell? ⟨E, 2, none⟩ = some (.int .i64 (cc)) := KW.cell (cell_of_blk YE (i := 2) rfl)
      have z3 : ∀ u : KW W2, u.val.cell? ⟨E, 3, none⟩ = some (.int .i64 (h + 1)) := KW.cell (cell_of_blk YE (i := 3) rfl)
      have z4 : ∀ u : KW W2, u.val.cell? ⟨E, 4, none⟩ = some (.int .i64 (k)) := KW.cell (cell_of_blk YE (i := 4) rfl)
      have z5 : ∀ u : KW W2, u.val.cell? ⟨E, 5, none⟩ = some (.int .i64 (e)) := KW.cell (cell_of_blk YE (i := 5) rfl)
      have z6 : ∀ u : KW W2, u.val.cell? ⟨E, 6, none⟩ = some (.int .i64 (l)) := KW.cell (cell_of_blk YE (i := 6) rfl)
      refine wp_region_kept (by kernel_rfl) (by kernel_rfl) ?_
      repeat (first | go_big_quiet_step ((first | (go_at_call 9; exact alive_kw HT.out _) | (go_at_call 15; exact Calls.kw_of (cell_is7 (by assumption) _)) | (go_at_call 14; exact Calls.kw_of (reserved_is7 (by assumption) _)) | (go_at_call 12; exact Calls.kw_of (len_is7 (by assumption) _)))) | quiet_step ((first | (go_at_call 9; exact alive_kw HT.out _) | (go_at_call 15; exact Calls.kw_of (cell_is7 (by assumption) _)) | (go_at_call 14; exact Calls.kw_of (reserved_is7 (by assumption) _)) | (go_at_call 12; exact Calls.kw_of (len_is7 (by assumption) _)))))
      refine wpQuiet_nil ?_
      intro _ hw'
      obtain ⟨pq, hw''⟩ := hw'
      subst hw''
      go_wp2
      go_ret
      exact ⟨rfl, T1.trans pq.kept⟩

set_option maxRecDepth 100000 in
theorem planMore_lifted (os : Os) (started : os.Started) (H : Type) (enc : TypeId × Value → H) :
    ReturnsInHanded {} Tryd.checked os 8 .any (fun w args => (Rows.planMoreSpec.pre enc Tryd.prog Tryd.f8 [] false w args ∧ laidMetH Tryd.prog laid1 w) ∧ sizedMet enc Tryd.prog Tryd.f8 (OpenSpec.ofChange Rows.planMoreSpec) false w args)
      (Rows.planMoreSpec.post enc Tryd.prog Tryd.f8 false true false false) := by
  refine returnsInHanded_of_change_and (C := Tryd.checked) (X := fun w _ => laidMetH Tryd.prog laid1 w) (fun _ _ _ hh h => h.of_heap hh) own started (by kernel_rfl) Tryd.func8
    (ChangeSpec.witness_shaped (enc := enc) (C := Tryd.checked) (os := os) (X := fun w _ => laidMetH Tryd.prog laid1 w) false (World.doorLaid Tryd.prog 400 os) #[.agg #[.int .i64 0, .int .i64 0, .int .i64 0, .int .i64 0, .int .i64 0, .int .i64 0, .int .i64 0], .int .i64 0, .int .i64 0] 8 rfl (World.shaped_of_RefB (by kernel_rfl) (by kernel_rfl)) (by kernel_rfl) (by kernel_rfl) (by kernel_rfl) (door_met os _)) ?_
  intro W base args ds gs before hval0 hW _ _ hL _
  have hval : ∀ (j : Nat) t v, Tryd.f8.params[j]? = some t → args[j]? = some v → Value.okWide Tryd.prog W .any base t v := hval0
  have hW' := hW
  obtain ⟨p, q, hA0, hV, rfl, _, _⟩ := hW
  have hA : DataW.TrodAll enc Tryd.prog W 0 (fun _ => true) true Tryd.f8.params.toList args.toList ds p := hA0
  rw [Tryd.params8] at hA hval
  clear hA0 hval0
  obtain ⟨v0, vs0, d0, ds0, p0, q0, hargs, rfl, rfl, h0, r0⟩ := trodAll_cons hA
  obtain ⟨v1, vs1, d1, ds1, p1, q1, rfl, rfl, rfl, h1, r1⟩ := trodAll_cons r0
  obtain ⟨v2, vs2, d2, ds2, p2, q2, rfl, rfl, rfl, h2, r2⟩ := trodAll_cons r1
  obtain ⟨rfl, rfl, rfl⟩ := trodAll_nil r2
  obtain rfl : args = #[v0, v1, v2] := by cases args; simp_all
  obtain ⟨rfl, rfl⟩ := trodVars_none hV
  have k0 := h0
  have k1 := h1
  have k2 := h2
  simp only [List.append_nil] at hW'
  have hlt0 : ∀ x ∈ p0, x.block < W.heap.size := fun x hx => hW'.lt x (by simp [hx])
  have hlt1 : ∀ x ∈ p1, x.block < W.heap.size := fun x hx => hW'.lt x (by simp [hx])
  have hlt2 : ∀ x ∈ p2, x.block < W.heap.size := fun x hx => hW'.lt x (by simp [hx])
  obtain ⟨c0, rfl, g0⟩ := open_cfg (hval 0 23 v0 rfl rfl) h0
  obtain ⟨a1, rfl, rfl, rfl, w1⟩ := open_int Tryd.underlying3 (hval 1 3 v1 rfl rfl) h1
  obtain ⟨a2, rfl, rfl, rfl, w2⟩ := open_int Tryd.underlying3 (hval 2 3 v2 rfl rfl) h2
  refine (planMore_walk W c0 g0 a1 w1 a2 w2 (tab_of_laid hL)).mono fun e W' ⟨he, hg⟩ => ?_
  subst he
  have hb := hg.below (by simp)
  exact ⟨_, rfl, _, _, _, [], _, [], hW', (trodAll_cons_mk (shut_bool Tryd.underlying4 _) trodAll_mk0), (trodAll_cons_mk (Below.trod laidOut (by kernel_rfl) (of_decide_eq_true (by kernel_rfl)) k0 hb hlt0) (trodAll_cons_mk (Below.trod laidOut (by kernel_rfl) (of_decide_eq_true (by kernel_rfl)) k1 hb hlt1) (trodAll_cons_mk (Below.trod laidOut (by kernel_rfl) (of_decide_eq_true (by kernel_rfl)) k2 hb hlt2) trodAll_mk0))), rfl, hb.frame _, fun h => by cases h⟩

theorem planMore_over : Rows.PlanMoreSaid :=
  OpenClaim.holds_of_wide 8 Tryd.f8 rfl rfl rfl rfl rfl rfl rfl ⟨rfl, rfl, rfl, rfl, rfl⟩ rfl rfl rfl rfl rfl (by kernel_rfl) Tryd.func8 (by kernel_rfl)
    (of_decide_eq_true (by kernel_rfl)) (by unfold Func.isWrapper; first | (rw [if_pos (by decide +kernel)]; kernel_rfl) | (rw [if_neg (by decide +kernel)]; exact ⟨rfl, rfl⟩))
    (fun os started H enc _ => planMore_lifted os started H enc)

theorem planMore_holds : Rows.PlanMoreCardSaid :=
  Claim7.holds_tied_plain_at .later [] [.data] true (true, "e3d404ef9abe130c130384d299250e9f91cc40664bec313a866518bcdb2f0e4d") false
    planMore_over (fun _ h => by cases h) (by kernel_rfl) (fun _ h => by cases h) planMore_row_tie rfl ⟨rfl, rfl⟩ (by kernel_rfl) rfl
    (fun f fn hf hfn => by
      obtain rfl : f = 8 := Option.some.inj ((show Tryd.prog.funcNamed "stepstone/stepstonelaw04.PlanMore" = some 8 by kernel_rfl).symm.trans hf) |>.symm
      obtain rfl : fn = Tryd.f8 := (Option.some.inj (Tryd.func8.symm.trans hfn)).symm
      exact ⟨by kernel_rfl, fun j t ht => by
          rw [Tryd.params8] at ht
          rcases j with _ | j
          · have : t = 23 := by simpa using ht.symm
            subst this; exact (show Tryd.prog.wantsStandIn 23 = false by kernel_rfl)
          rcases j with _ | j
          · have : t = 3 := by simpa using ht.symm
            subst this; exact (show Tryd.prog.wantsStandIn 3 = false by kernel_rfl)
          rcases j with _ | j
          · have : t = 3 := by simpa using ht.symm
            subst this; exact (show Tryd.prog.wantsStandIn 3 = false by kernel_rfl)
          simp at ht⟩)
    (by kernel_rfl)
#print axioms planMore_holds
end Go.Proofs.YtgbgaphmoemokaaDoor

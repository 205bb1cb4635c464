/-
  The contract of the document's own Where.
-/
import Derived.Test.YtgbgaphmoemokaaDoorPPlaces
namespace Go.Proofs.YtgbgaphmoemokaaDoor
open Go.ChangeShapes Go.WideShapes Go.ChangeAt Go.RowKit
open Go.Deep
set_option maxRecDepth 100000 in
set_option maxHeartbeats 1000000 in
theorem rwhere_any (c : Cfg) (x : Int) (w : World) : Calls Tryd.prog 19 #[c.val, .int .i64 x] w fun e w' => e = .returned (whV c x).val ∧ Kept [] w w' := by
  simp only [Cfg.val]
  have P0 := PB_new w (.cells #[.int .i64 c.t, .int .i64 c.s, .int .i64 c.c, .int .i64 c.h, .int .i64 c.k, .int .i64 c.e, .int .i64 c.l] 23) (.cells #[.int .i64 0, .int .i64 0, .int .i64 0] 32)
  have K0 : Kept [] w ((w.alloc (.cells #[.int .i64 c.t, .int .i64 c.s, .int .i64 c.c, .int .i64 c.h, .int .i64 c.k, .int .i64 c.e, .int .i64 c.l] 23)).alloc (.cells #[.int .i64 0, .int .i64 0, .int .i64 0] 32)) := ((Kept.refl _ _).alloc _).alloc _
  cases hr : riB c
  · have e : whV c x = ⟨0, 0, 0⟩ := by
      unfold whV; rw [ln_no hr, if_neg (by omega)]
    rw [e]
    have HR : Hid _ := hr
    clear hr e
    by_cases hx : x < 0
    · go_enter Tryd.func19, Tryd.ntmps19
      go_wp2_with fail
      refine (places_no c _ HR.out).mono ?_
      rintro e w1 ⟨rfl, K1⟩
      have P1 := K1.blk P0 (by simp)
      have T1 := K0.trans K1
      have c0 := cell_of_blk P1 (i := 0) rfl
      have c1 := cell_of_blk P1 (i := 1) rfl
      have c2 := cell_of_blk P1 (i := 2) rfl
      have f0 := free_of_blk P1
      have l0 := lt_of_blk P1
      clear K1 P0 K0 P1
      go_wp2
      exact bodyPost_ret (v := Plc.val ⟨0, 0, 0⟩) (by simp [results, Tryd.results19, go_sem, Plc.val, c0, c1, c2]) rfl ⟨rfl, kept_set3 T1 (by omega) _ _ _⟩
    · go_enter Tryd.func19, Tryd.ntmps19
      go_wp2_with fail
      refine (places_no c _ HR.out).mono ?_
      rintro e w1 ⟨rfl, K1⟩
      have P1 := K1.blk P0 (by simp)
      have T1 := K0.trans K1
      have c0 := cell_of_blk P1 (i := 0) rfl
      have c1 := cell_of_blk P1 (i := 1) rfl
      have c2 := cell_of_blk P1 (i := 2) rfl
      have f0 := free_of_blk P1
      have l0 := lt_of_blk P1
      clear K1 P0 K0 P1
      go_wp2
      exact bodyPost_ret (v := Plc.val ⟨0, 0, 0⟩) (by simp [results, Tryd.results19, go_sem, Plc.val, c0, c1, c2]) rfl ⟨rfl, kept_set3 T1 (by omega) _ _ _⟩
  obtain ⟨T, S, C, H, L, hN⟩ := nums c hr
  have HR : Hid _ := hr
  have HN : Hid _ := hN
  have hL := hN.le
  by_cases hx : x < 0
  · have e : whV c x = ⟨0, 0, 0⟩ := by unfold whV; rw [if_neg (by omega)]
    rw [e]
    clear e hr hN
    go_enter Tryd.func19, Tryd.ntmps19
    go_wp2_with fail
    refine (places_yes c _ HR.out HN.out).mono ?_
    rintro e w1 ⟨g, cap, rfl, R1, K1⟩
    have P1 := K1.blk P0 (by simp)
    have T1 := K0.trans K1
    have c0 := cell_of_blk P1 (i := 0) rfl
    have c1 := cell_of_blk P1 (i := 1) rfl
    have c2 := cell_of_blk P1 (i := 2) rfl
    have f0 := free_of_blk P1
    have l0 := lt_of_blk P1
    clear R1
    clear K1 P0 K0 P1
    go_wp2
    exact bodyPost_ret (v := Plc.val ⟨0, 0, 0⟩) (by simp [results, Tryd.results19, go_sem, Plc.val, c0, c1, c2]) rfl ⟨rfl, kept_set3 T1 (by omega) _ _ _⟩
  obtain ⟨X, rfl⟩ : ∃ X : Nat, x = X := ⟨x.toNat, by omega⟩
  clear hx
  by_cases hl : X < L
  · have Z : Hid (∀ j < 3, (pls c L)[X * 3 + j]? = (whV c (X : Int)).cells[j]?) := fun j hj => pls_get c L X j hl hj
    clear hr hN
    obtain ⟨p, hp⟩ : ∃ p, whV c (X : Int) = p := ⟨_, rfl⟩
    rw [hp] at Z ⊢
    clear hp
    go_enter Tryd.func19, Tryd.ntmps19
    go_wp2_with fail
    refine (places_yes c _ HR.out HN.out).mono ?_
    rintro e w1 ⟨g, cap, rfl, R1, K1⟩
    have P1 := K1.blk P0 (by simp)
    have T1 := K0.trans K1
    have c0 := cell_of_blk P1 (i := 0) rfl
    have c1 := cell_of_blk P1 (i := 1) rfl
    have c2 := cell_of_blk P1 (i := 2) rfl
    have f0 := free_of_blk P1
    have l0 := lt_of_blk P1
    have r0 : w1.cell? ⟨g, X * 3, none⟩ = some (.int .i64 p.k) := R1.cell ((Z.out 0 (by omega)).trans rfl)
    have r1 : w1.cell? ⟨g, X * 3 + 1, none⟩ = some (.int .i64 p.a) := R1.cell ((Z.out 1 (by omega)).trans rfl)
    have r2 : w1.cell? ⟨g, X * 3 + 2, none⟩ = some (.int .i64 p.b) := R1.cell ((Z.out 2 (by omega)).trans rfl)
    clear R1
    clear K1 P0 K0 P1
    go_wp2
    exact bodyPost_ret (v := Plc.val p) (by simp [results, Tryd.results19, go_sem, Plc.val, c0, c1, c2]) rfl ⟨rfl, kept_set3 T1 (by omega) _ _ _⟩
  · have e : whV c (X : Int) = ⟨0, 0, 0⟩ := by unfold whV; rw [hN.len, if_neg (by omega)]
    rw [e]
    clear e hr hN
    go_enter Tryd.func19, Tryd.ntmps19
    go_wp2_with fail
    refine (places_yes c _ HR.out HN.out).mono ?_
    rintro e w1 ⟨g, cap, rfl, R1, K1⟩
    have P1 := K1.blk P0 (by simp)
    have T1 := K0.trans K1
    have c0 := cell_of_blk P1 (i := 0) rfl
    have c1 := cell_of_blk P1 (i := 1) rfl
    have c2 := cell_of_blk P1 (i := 2) rfl
    have f0 := free_of_blk P1
    have l0 := lt_of_blk P1
    clear R1
    clear K1 P0 K0 P1
    go_wp2
    exact bodyPost_ret (v := Plc.val ⟨0, 0, 0⟩) (by simp [results, Tryd.results19, go_sem, Plc.val, c0, c1, c2]) rfl ⟨rfl, kept_set3 T1 (by omega) _ _ _⟩
theorem rwhere_is {c : Cfg} {x : Int} {q : Plc} (h : whV c x = q) (w : World) : Calls Tryd.prog 19 #[.agg #[.int .i64 c.t, .int .i64 c.s, .int .i64 c.c, .int .i64 c.h, .int .i64 c.k, .int .i64 c.e, .int .i64 c.l], .int .i64 x] w fun e w' => e = .returned (.agg #[.int .i64 q.k, .int .i64 q.a, .int .i64 q.b]) ∧ Kept [] w w' := h ▸ rwhere_any c x w
end Go.Proofs.YtgbgaphmoemokaaDoor

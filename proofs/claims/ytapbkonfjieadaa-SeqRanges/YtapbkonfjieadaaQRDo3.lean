/-
  The document's own op of a map: Delete.
-/
import Derived.Test.YtapbkonfjieadaaQRDo
import Derived.BigRegion
import Derived.Deep.RegionLaw
namespace Go.Proofs.Ytapbkonfjieadaa.Q
set_option maxRecDepth 100000
open Go.RowKit
open Go.Deep
set_option maxHeartbeats 4000000 in
theorem rdo_del (ao : Option Addr) (ps : List Pr) (n cap : Nat) (op : OpQ) (w : World) (h : MpV w ao n cap ps) (hst : Str ps) (hl : n ≤ 1000) (hd : op.d = 3) :
    Calls Try.prog 18 #[.slice ao n cap, .agg #[.int .i64 op.d, .int .u64 op.k, .int .u64 op.v, .int .i64 op.n, .int .i64 op.t]] w fun o w' => RDoP w ps op o w' := by
  obtain ⟨A, hA⟩ : ∃ A, gtH ps op.k = A := ⟨_, rfl⟩
  obtain ⟨B, hB⟩ : ∃ B, gtV ps op.k = B := ⟨_, rfl⟩
  obtain ⟨C, hC⟩ : ∃ C, wo ps op.k = C := ⟨_, rfl⟩
  have e1 : doM ps op = C := by unfold doM; rw [if_neg (by omega), if_pos hd]; exact hC
  have e2 : doH ps op = A := by unfold doH; rw [if_pos (by omega)]; exact hA
  have e3 : doG ps op = B := by unfold doG; rw [if_pos (by omega)]; exact hB
  have e4 : doK ps op = [] := by unfold doK; rw [if_neg (by omega)]
  have EE : Hid _ := And.intro e1 (And.intro e2 (And.intro e3 e4))
  clear e1 e2 e3 e4
  obtain ⟨d, k, v, nn, t⟩ := op
  simp only at hd
  subst hd
  have D0 := Rb.new w ⟨3, k, v, nn, t⟩
  go_enter Try.func18, Try.ntmps18
  go_wp2_with fail
  refine gen_world (fun W => Rb w W w.heap.size ⟨3, k, v, nn, t⟩) D0 ?_
  clear D0
  intro W D
  obtain ⟨H, hH⟩ : ∃ H, H = w.heap.size := ⟨_, rfl⟩
  rw [← hH] at D ⊢
  clear hH
  have HS : Hid (∀ W' : World, Kept [H + 1] W W' → W'.cell? ⟨H, 1, none⟩ = some (.int .u64 k) ∧ W'.cell? ⟨H, 2, none⟩ = some (.int .u64 v)) := fun W' k' =>
    ⟨cell_of_blk (k'.blk D.z1 (by simp)) (i := 1) rfl, cell_of_blk (k'.blk D.z1 (by simp)) (i := 2) rfl⟩
  have G : Hid (∀ W' : World, Kept [] W W' → Calls Try.prog 34 #[.slice ao n cap, .int .u64 k] W' fun o w' => o = .returned (.agg #[.bool false, .bool A, .int .u64 B, .slice none 0 0]) ∧ Kept [] W w' ∧ Kept [] W' w') := fun W' k' => by rw [← hA, ← hB]; exact (rget_any ao ps n cap k W' (h.new (D.kept.trans k')) hl).mono fun _ _ hh => ⟨hh.1, k'.trans hh.2, hh.2⟩
  have M : Hid (∀ W' : World, Kept [] W W' → Calls Try.prog 35 #[.slice ao n cap, .int .u64 k] W' fun o w' => ∃ bo m cb, o = .returned (.slice bo m cb) ∧ Hid (MpV w' bo m cb C) ∧ Kept [] W w') := fun W' k' => by rw [← hC]; exact (rwithout_any ao ps n cap k W' (h.new (D.kept.trans k')) hst hl).mono fun _ _ hh => by obtain ⟨a, b, c, q1, q2, q3⟩ := hh; exact ⟨a, b, c, q1, q2, k'.trans q3⟩
  clear h hA hB hC
  go_region_held3 (fun W' => W'.cell? ⟨H, 1, none⟩ = some (.int .u64 k) ∧ W'.cell? ⟨H, 2, none⟩ = some (.int .u64 v))
    (exact HS.out _ (by (repeat (first | (with_reducible refine Kept.setCell ?_ ?_ _) | (with_reducible refine Kept.drew ?_))); (first | exact Kept.weaken (l := []) (by with_reducible assumption) (by simp) | (with_reducible exact Kept.refl _ _)); all_goals (refine Or.inl ?_; simp; done)))
    (first
      | (go_at_call 34; refine (G.out _ (by first | assumption | exact (Kept.refl _ _).drew)).mono ?_; rintro e w5 ⟨rfl, K5, J5⟩; have s1 := cell_of_blk (K5.blk D.z3 (by simp)) (i := 0) rfl; have s2 := cell_of_blk (K5.blk D.z3 (by simp)) (i := 1) rfl; have s3 := cell_of_blk (K5.blk D.z3 (by simp)) (i := 2) rfl; have s4 := cell_of_blk (K5.blk D.z3 (by simp)) (i := 3) rfl; have f1 := free_of_blk (K5.blk D.z3 (by simp)))
      | (go_at_call 35; refine (M.out _ (by first | assumption | exact (Kept.refl _ _).drew)).mono ?_; rintro e w6 ⟨bo, m, cb, rfl, Q6, K6⟩; have r1 := cell_of_blk (K6.blk D.z3 (by simp)) (i := 0) rfl; have r2 := cell_of_blk (K6.blk D.z3 (by simp)) (i := 1) rfl; have r3 := cell_of_blk (K6.blk D.z3 (by simp)) (i := 2) rfl; have r4 := cell_of_blk (K6.blk D.z3 (by simp)) (i := 3) rfl; have g1 := free_of_blk (K6.blk D.z3 (by simp))))
  all_goals
    go_wp2
    first
      | (have F := (D.kept' K5).fin (bo := bo) (m := m) (cb := cb) (h := A) (g := B) (ko := none) (kn := 0) (kc := 0) (MpV.new Q6.out J5) (ks := []) (fun h => absurd h (by simp)) (by simp)
         unfold rEnd at F
         obtain ⟨F1, F2, F3, F5⟩ := F
         have y0 := cell_of_blk F5 (i := 0) rfl
         have y1 := cell_of_blk F5 (i := 1) rfl
         have y2 := cell_of_blk F5 (i := 2) rfl
         have y3 := cell_of_blk F5 (i := 3) rfl
         refine bodyPost_ret (v := .tuple #[.slice bo m cb, .agg #[.bool false, .bool A, .int .u64 B, .slice none 0 0]]) (by simp [results, Try.results18, go_sem, y0, y1, y2, y3]; done) rfl ?_
         exact ⟨bo, m, cb, none, 0, 0, by rw [EE.out.2.1, EE.out.2.2.1], by rw [EE.out.1]; exact F1, by rw [EE.out.2.2.2]; exact rfl, by rw [EE.out.2.2.2]; exact F2, F3⟩)
      | (have F := (D.kept' K6).fin (bo := bo) (m := m) (cb := cb) (h := A) (g := B) (ko := none) (kn := 0) (kc := 0) Q6.out (ks := []) (fun h => absurd h (by simp)) (by simp)
         unfold rEnd at F
         obtain ⟨F1, F2, F3, F5⟩ := F
         have y0 := cell_of_blk F5 (i := 0) rfl
         have y1 := cell_of_blk F5 (i := 1) rfl
         have y2 := cell_of_blk F5 (i := 2) rfl
         have y3 := cell_of_blk F5 (i := 3) rfl
         refine bodyPost_ret (v := .tuple #[.slice bo m cb, .agg #[.bool false, .bool A, .int .u64 B, .slice none 0 0]]) (by simp [results, Try.results18, go_sem, y0, y1, y2, y3]; done) rfl ?_
         exact ⟨bo, m, cb, none, 0, 0, by rw [EE.out.2.1, EE.out.2.2.1], by rw [EE.out.1]; exact F1, by rw [EE.out.2.2.2]; exact rfl, by rw [EE.out.2.2.2]; exact F2, F3⟩)
end Go.Proofs.Ytapbkonfjieadaa.Q

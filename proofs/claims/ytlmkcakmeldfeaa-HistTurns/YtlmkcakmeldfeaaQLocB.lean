/-
  The contract of an op of a map, with where lies what it leaves.
-/
import Derived.Test.YtlmkcakmeldfeaaQLocA
namespace Go.Proofs.Ytlmkcakmeldfeaa.Q
set_option maxRecDepth 100000
open Go.RowKit
open Go.Deep
/-- What an op leaves, and tells, and where that lies. -/
def DoX (w : World) (A : Option Addr → Prop) (ps : List Pr) (op : OpQ) (o : Ending) (w' : World) : Prop := ∃ bo m cb ko kn kc, o = .returned (.tuple #[.agg #[.slice bo m cb], .agg #[.bool false, .bool (doH ps op), .int .u64 (doG ps op), .slice ko kn kc]]) ∧ MpV w' bo m cb (doM ps op) ∧ kn = (doK ps op).length ∧ Sl w' ko (doK ps op) ∧ A bo ∧ (∀ ad, ko = some ad → 0 < (doK ps op).length → w.heap.size ≤ ad.block) ∧ Kept [] w w'
def DoL (w : World) (ao : Option Addr) (ps : List Pr) (op : OpQ) (o : Ending) (w' : World) : Prop := DoX w (fun bo => bo = ao ∨ ∀ ad, bo = some ad → w.heap.size ≤ ad.block) ps op o w'
theorem DoX.mono {w : World} {A B : Option Addr → Prop} {ps : List Pr} {op : OpQ} {o : Ending} {w' : World} (h : DoX w A ps op o w') (f : ∀ x, A x → B x) : DoX w B ps op o w' := by
  obtain ⟨bo, m, cb, ko, kn, kc, h1, h2, h3, h4, h5, h6, h7⟩ := h
  exact ⟨bo, m, cb, ko, kn, kc, h1, h2, h3, h4, f _ h5, h6, h7⟩
set_option maxHeartbeats 4000000 in
theorem do_get_l (ao : Option Addr) (ps : List Pr) (n cap : Nat) (op : OpQ) (w : World) (h : MpV w ao n cap ps) (hst : Str ps) (_hw : Wd ps) (hl : n ≤ 1000) (hd : op.d = 1) :
    Calls Try.prog 23 #[.agg #[.slice ao n cap], .agg #[.int .i64 op.d, .int .u64 op.k, .int .u64 op.v, .int .i64 op.n, .int .i64 op.t]] w fun o w' => DoL w ao ps op o w' := by
  obtain ⟨A, hA⟩ : ∃ A, gtH ps op.k = A := ⟨_, rfl⟩
  obtain ⟨B, hB⟩ : ∃ B, gtV ps op.k = B := ⟨_, rfl⟩
  have e1 : doM ps op = ps := by unfold doM; rw [if_neg (by omega), if_neg (by omega)]
  have e2 : doH ps op = A := by unfold doH; rw [if_pos (Or.inl hd)]; exact hA
  have e3 : doG ps op = B := by unfold doG; rw [if_pos (Or.inl hd)]; exact hB
  have e4 : doK ps op = [] := by unfold doK; rw [if_neg (by omega)]
  have EE : Hid _ := And.intro e1 (And.intro e2 (And.intro e3 e4))
  clear e1 e2 e3 e4
  obtain ⟨d, k, v, nn, t⟩ := op
  simp only at hd
  subst hd
  have D0 := Db.new w ao n cap ⟨1, k, v, nn, t⟩
  go_enter Try.func23, Try.ntmps23
  go_wp2_with fail
  refine gen_world (fun W => Db w W w.heap.size ao n cap ⟨1, k, v, nn, t⟩) D0 ?_
  clear D0
  intro W D
  obtain ⟨H, hH⟩ : ∃ H, H = w.heap.size := ⟨_, rfl⟩
  rw [← hH] at D ⊢
  clear hH
  have HS : Hid (∀ W' : World, Kept [H + 1 + 1, H + 1 + 1 + 1] W W' → W'.cell? ⟨H, 0, none⟩ = some (.slice ao n cap) ∧ W'.cell? ⟨H + 1, 1, none⟩ = some (.int .u64 k) ∧ W'.cell? ⟨H + 1, 2, none⟩ = some (.int .u64 v) ∧ W'.cell? ⟨H + 1, 3, none⟩ = some (.int .i64 nn)) := fun W' k' =>
    ⟨cell_of_blk (k'.blk D.z0 (by simp; omega)) (i := 0) rfl, cell_of_blk (k'.blk D.z1 (by simp)) (i := 1) rfl, cell_of_blk (k'.blk D.z1 (by simp)) (i := 2) rfl, cell_of_blk (k'.blk D.z1 (by simp)) (i := 3) rfl⟩
  have G : Hid (∀ W' : World, Kept [] W W' → Calls Try.prog 41 #[.agg #[.slice ao n cap], .int .u64 k] W' fun o w' => o = .returned (.agg #[.bool false, .bool A, .int .u64 B, .slice none 0 0]) ∧ Kept [] W w' ∧ Kept [] W' w') := fun W' k' => by rw [← hA, ← hB]; exact (get_any ao ps n cap k W' (h.new (D.kept.trans k')) hst hl).mono fun _ _ hh => ⟨hh.1, k'.trans hh.2, hh.2⟩
  have HM : Hid (MpV w ao n cap ps) := h
  clear h hA hB
  go_region_held3 (fun W' => W'.cell? ⟨H, 0, none⟩ = some (.slice ao n cap) ∧ W'.cell? ⟨H + 1, 1, none⟩ = some (.int .u64 k) ∧ W'.cell? ⟨H + 1, 2, none⟩ = some (.int .u64 v) ∧ W'.cell? ⟨H + 1, 3, none⟩ = some (.int .i64 nn))
    (exact HS.out _ (by (repeat (first | (with_reducible refine Kept.setCell ?_ ?_ _) | (with_reducible refine Kept.drew ?_))); (first | exact Kept.weaken (l := []) (by with_reducible assumption) (by simp) | (with_reducible exact Kept.refl _ _)); all_goals (refine Or.inl ?_; simp; done)))
    (first | (go_at_call 41; refine (G.out _ (by first | assumption | exact (Kept.refl _ _).drew)).mono ?_; rintro e w5 ⟨rfl, K5, J5⟩; have s0 := cell_of_blk (K5.blk D.z2 (by simp)) (i := 0) rfl; have f0 := free_of_blk (K5.blk D.z2 (by simp)); have s1 := cell_of_blk (K5.blk D.z3 (by simp)) (i := 0) rfl; have s2 := cell_of_blk (K5.blk D.z3 (by simp)) (i := 1) rfl; have s3 := cell_of_blk (K5.blk D.z3 (by simp)) (i := 2) rfl; have s4 := cell_of_blk (K5.blk D.z3 (by simp)) (i := 3) rfl; have f1 := free_of_blk (K5.blk D.z3 (by simp))))
  all_goals
    go_wp2
    have F := (D.kept' K5).fin (bo := ao) (m := n) (cb := cap) (h := A) (g := B) (ko := none) (kn := 0) (kc := 0) (MpV.new HM.out (D.kept.trans K5)) (ks := []) (fun h => absurd h (by simp)) (by simp)
    unfold dEnd at F
    obtain ⟨F1, F2, F3, F4, F5⟩ := F
    have y := cell_of_blk F4 (i := 0) rfl
    have y0 := cell_of_blk F5 (i := 0) rfl
    have y1 := cell_of_blk F5 (i := 1) rfl
    have y2 := cell_of_blk F5 (i := 2) rfl
    have y3 := cell_of_blk F5 (i := 3) rfl
    refine bodyPost_ret (v := .tuple #[.agg #[.slice ao n cap], .agg #[.bool false, .bool A, .int .u64 B, .slice none 0 0]]) (by simp [results, Try.results23, go_sem, y, y0, y1, y2, y3]) rfl ?_
    exact ⟨ao, n, cap, none, 0, 0, by rw [EE.out.2.1, EE.out.2.2.1], by rw [EE.out.1]; exact F1, by rw [EE.out.2.2.2]; exact rfl, by rw [EE.out.2.2.2]; exact F2, Or.inl rfl, (fun ad e => by cases e), F3⟩
set_option maxHeartbeats 4000000 in
theorem do_ceil_l (ao : Option Addr) (ps : List Pr) (n cap : Nat) (op : OpQ) (w : World) (h : MpV w ao n cap ps) (hst : Str ps) (hw : Wd ps) (hl : n ≤ 1000) (hd : op.d = 4) :
    Calls Try.prog 23 #[.agg #[.slice ao n cap], .agg #[.int .i64 op.d, .int .u64 op.k, .int .u64 op.v, .int .i64 op.n, .int .i64 op.t]] w fun o w' => DoL w ao ps op o w' := by
  obtain ⟨A, hA⟩ : ∃ A, clH ps op.k = A := ⟨_, rfl⟩
  obtain ⟨B, hB⟩ : ∃ B, clV ps op.k = B := ⟨_, rfl⟩
  have e1 : doM ps op = ps := by unfold doM; rw [if_neg (by omega), if_neg (by omega)]
  have e2 : doH ps op = A := by unfold doH; rw [if_neg (by omega), if_pos hd]; exact hA
  have e3 : doG ps op = B := by unfold doG; rw [if_neg (by omega), if_pos hd]; exact hB
  have e4 : doK ps op = [] := by unfold doK; rw [if_neg (by omega)]
  have EE : Hid _ := And.intro e1 (And.intro e2 (And.intro e3 e4))
  clear e1 e2 e3 e4
  obtain ⟨d, k, v, nn, t⟩ := op
  simp only at hd
  subst hd
  have D0 := Db.new w ao n cap ⟨4, k, v, nn, t⟩
  go_enter Try.func23, Try.ntmps23
  go_wp2_with fail
  refine gen_world (fun W => Db w W w.heap.size ao n cap ⟨4, k, v, nn, t⟩) D0 ?_
  clear D0
  intro W D
  obtain ⟨H, hH⟩ : ∃ H, H = w.heap.size := ⟨_, rfl⟩
  rw [← hH] at D ⊢
  clear hH
  have HS : Hid (∀ W' : World, Kept [H + 1 + 1, H + 1 + 1 + 1] W W' → W'.cell? ⟨H, 0, none⟩ = some (.slice ao n cap) ∧ W'.cell? ⟨H + 1, 1, none⟩ = some (.int .u64 k) ∧ W'.cell? ⟨H + 1, 2, none⟩ = some (.int .u64 v) ∧ W'.cell? ⟨H + 1, 3, none⟩ = some (.int .i64 nn)) := fun W' k' =>
    ⟨cell_of_blk (k'.blk D.z0 (by simp; omega)) (i := 0) rfl, cell_of_blk (k'.blk D.z1 (by simp)) (i := 1) rfl, cell_of_blk (k'.blk D.z1 (by simp)) (i := 2) rfl, cell_of_blk (k'.blk D.z1 (by simp)) (i := 3) rfl⟩
  have G : Hid (∀ W' : World, Kept [] W W' → Calls Try.prog 44 #[.agg #[.slice ao n cap], .int .u64 k] W' fun o w' => o = .returned (.agg #[.bool false, .bool A, .int .u64 B, .slice none 0 0]) ∧ Kept [] W w' ∧ Kept [] W' w') := fun W' k' => by rw [← hA, ← hB]; exact (ceiling_any ao ps n cap k W' (h.new (D.kept.trans k')) hst hw hl).mono fun _ _ hh => ⟨hh.1, k'.trans hh.2, hh.2⟩
  have HM : Hid (MpV w ao n cap ps) := h
  clear h hA hB
  go_region_held3 (fun W' => W'.cell? ⟨H, 0, none⟩ = some (.slice ao n cap) ∧ W'.cell? ⟨H + 1, 1, none⟩ = some (.int .u64 k) ∧ W'.cell? ⟨H + 1, 2, none⟩ = some (.int .u64 v) ∧ W'.cell? ⟨H + 1, 3, none⟩ = some (.int .i64 nn))
    (exact HS.out _ (by (repeat (first | (with_reducible refine Kept.setCell ?_ ?_ _) | (with_reducible refine Kept.drew ?_))); (first | exact Kept.weaken (l := []) (by with_reducible assumption) (by simp) | (with_reducible exact Kept.refl _ _)); all_goals (refine Or.inl ?_; simp; done)))
    (first | (go_at_call 44; refine (G.out _ (by first | assumption | exact (Kept.refl _ _).drew)).mono ?_; rintro e w5 ⟨rfl, K5, J5⟩; have s0 := cell_of_blk (K5.blk D.z2 (by simp)) (i := 0) rfl; have f0 := free_of_blk (K5.blk D.z2 (by simp)); have s1 := cell_of_blk (K5.blk D.z3 (by simp)) (i := 0) rfl; have s2 := cell_of_blk (K5.blk D.z3 (by simp)) (i := 1) rfl; have s3 := cell_of_blk (K5.blk D.z3 (by simp)) (i := 2) rfl; have s4 := cell_of_blk (K5.blk D.z3 (by simp)) (i := 3) rfl; have f1 := free_of_blk (K5.blk D.z3 (by simp))))
  all_goals
    go_wp2
    have F := (D.kept' K5).fin (bo := ao) (m := n) (cb := cap) (h := A) (g := B) (ko := none) (kn := 0) (kc := 0) (MpV.new HM.out (D.kept.trans K5)) (ks := []) (fun h => absurd h (by simp)) (by simp)
    unfold dEnd at F
    obtain ⟨F1, F2, F3, F4, F5⟩ := F
    have y := cell_of_blk F4 (i := 0) rfl
    have y0 := cell_of_blk F5 (i := 0) rfl
    have y1 := cell_of_blk F5 (i := 1) rfl
    have y2 := cell_of_blk F5 (i := 2) rfl
    have y3 := cell_of_blk F5 (i := 3) rfl
    refine bodyPost_ret (v := .tuple #[.agg #[.slice ao n cap], .agg #[.bool false, .bool A, .int .u64 B, .slice none 0 0]]) (by simp [results, Try.results23, go_sem, y, y0, y1, y2, y3]) rfl ?_
    exact ⟨ao, n, cap, none, 0, 0, by rw [EE.out.2.1, EE.out.2.2.1], by rw [EE.out.1]; exact F1, by rw [EE.out.2.2.2]; exact rfl, by rw [EE.out.2.2.2]; exact F2, Or.inl rfl, (fun ad e => by cases e), F3⟩
set_option maxHeartbeats 4000000 in
theorem do_none_l (ao : Option Addr) (ps : List Pr) (n cap : Nat) (op : OpQ) (w : World) (h : MpV w ao n cap ps) (_hst : Str ps) (_hw : Wd ps) (_hl : n ≤ 1000) (hd : ¬ (op.d = 1 ∨ op.d = 2 ∨ op.d = 3 ∨ op.d = 4 ∨ op.d = 5)) :
    Calls Try.prog 23 #[.agg #[.slice ao n cap], .agg #[.int .i64 op.d, .int .u64 op.k, .int .u64 op.v, .int .i64 op.n, .int .i64 op.t]] w fun o w' => DoL w ao ps op o w' := by
  have e1 : doM ps op = ps := by unfold doM; rw [if_neg (by omega), if_neg (by omega)]
  have e2 : doH ps op = false := by unfold doH; rw [if_neg (by omega), if_neg (by omega)]
  have e3 : doG ps op = 0 := by unfold doG; rw [if_neg (by omega), if_neg (by omega)]
  have e4 : doK ps op = [] := by unfold doK; rw [if_neg (by omega)]
  have EE : Hid _ := And.intro e1 (And.intro e2 (And.intro e3 e4))
  clear e1 e2 e3 e4
  obtain ⟨d, k, v, nn, t⟩ := op
  simp only at hd
  have n1 : ¬ d = 1 := by omega
  have n2 : ¬ d = 2 := by omega
  have n3 : ¬ d = 3 := by omega
  have n4 : ¬ d = 4 := by omega
  have n5 : ¬ d = 5 := by omega
  have HM : Hid (MpV w ao n cap ps) := h
  clear h hd
  go_enter Try.func23, Try.ntmps23
  go_wp2
  have KF : Kept [] w ((((w.alloc (.cells #[.slice ao n cap] 35)).alloc (.cells #[.int .i64 d, .int .u64 k, .int .u64 v, .int .i64 nn, .int .i64 t] 43)).alloc (.cells #[.slice ao n cap] 35)).alloc (.cells #[.bool false, .bool false, .int .u64 0, .slice none 0 0] 46)) := ((((Kept.refl _ _).alloc _).alloc _).alloc _).alloc _
  refine bodyPost_ret (v := .tuple #[.agg #[.slice ao n cap], .agg #[.bool false, .bool false, .int .u64 0, .slice none 0 0]]) (by simp [results, Try.results23, go_sem]) rfl ?_
  exact ⟨ao, n, cap, none, 0, 0, by rw [EE.out.2.1, EE.out.2.2.1], by rw [EE.out.1]; exact MpV.new HM.out KF, by rw [EE.out.2.2.2]; rfl, by rw [EE.out.2.2.2]; exact fun h => absurd h (by simp), Or.inl rfl, (fun ad e => by cases e), KF⟩
set_option maxHeartbeats 4000000 in
theorem do_range_l (ao : Option Addr) (ps : List Pr) (n cap : Nat) (op : OpQ) (w : World) (h : MpV w ao n cap ps) (hst : Str ps) (_hw : Wd ps) (hl : n ≤ 1000) (hd : op.d = 5) :
    Calls Try.prog 23 #[.agg #[.slice ao n cap], .agg #[.int .i64 op.d, .int .u64 op.k, .int .u64 op.v, .int .i64 op.n, .int .i64 op.t]] w fun o w' => DoL w ao ps op o w' := by
  obtain ⟨C, hC⟩ : ∃ C, rgK ps op.k op.v op.n = C := ⟨_, rfl⟩
  have e1 : doM ps op = ps := by unfold doM; rw [if_neg (by omega), if_neg (by omega)]
  have e2 : doH ps op = false := by unfold doH; rw [if_neg (by omega), if_neg (by omega)]
  have e3 : doG ps op = 0 := by unfold doG; rw [if_neg (by omega), if_neg (by omega)]
  have e4 : doK ps op = C := by unfold doK; rw [if_pos hd]; exact hC
  have EE : Hid _ := And.intro e1 (And.intro e2 (And.intro e3 e4))
  clear e1 e2 e3 e4
  obtain ⟨d, k, v, nn, t⟩ := op
  simp only at hd
  subst hd
  have D0 := Db.new w ao n cap ⟨5, k, v, nn, t⟩
  go_enter Try.func23, Try.ntmps23
  go_wp2_with fail
  refine gen_world (fun W => Db w W w.heap.size ao n cap ⟨5, k, v, nn, t⟩) D0 ?_
  clear D0
  intro W D
  obtain ⟨H, hH⟩ : ∃ H, H = w.heap.size := ⟨_, rfl⟩
  rw [← hH] at D ⊢
  clear hH
  have HS : Hid (∀ W' : World, Kept [H + 1 + 1, H + 1 + 1 + 1] W W' → W'.cell? ⟨H, 0, none⟩ = some (.slice ao n cap) ∧ W'.cell? ⟨H + 1, 1, none⟩ = some (.int .u64 k) ∧ W'.cell? ⟨H + 1, 2, none⟩ = some (.int .u64 v) ∧ W'.cell? ⟨H + 1, 3, none⟩ = some (.int .i64 nn)) := fun W' k' =>
    ⟨cell_of_blk (k'.blk D.z0 (by simp; omega)) (i := 0) rfl, cell_of_blk (k'.blk D.z1 (by simp)) (i := 1) rfl, cell_of_blk (k'.blk D.z1 (by simp)) (i := 2) rfl, cell_of_blk (k'.blk D.z1 (by simp)) (i := 3) rfl⟩
  have M : Hid (∀ W' : World, Kept [] W W' → Calls Try.prog 45 #[.agg #[.slice ao n cap], .int .u64 k, .int .u64 v, .int .i64 nn] W' fun o w' => ∃ ko kn kc, o = .returned (.slice ko kn kc) ∧ Hid (kn = C.length ∧ Sl w' ko C ∧ ∀ ad, ko = some ad → H + 1 + 1 + 1 + 1 ≤ ad.block) ∧ Kept [] W w') := fun W' k' => by rw [← hC]; exact (keys_any ao ps n cap k v nn W' (h.new (D.kept.trans k')) hst hl).mono fun _ _ hh => by obtain ⟨a, b, c, q1, q2, q3, q4, q5⟩ := hh; exact ⟨a, b, c, q1, ⟨q2, q3, fun ad e => by have := q4 ad e; have := lt_of_blk (k'.blk D.z3 (by simp)); omega⟩, k'.trans q5⟩
  have HM : Hid (MpV w ao n cap ps) := h
  clear h hC
  go_region_held3 (fun W' => W'.cell? ⟨H, 0, none⟩ = some (.slice ao n cap) ∧ W'.cell? ⟨H + 1, 1, none⟩ = some (.int .u64 k) ∧ W'.cell? ⟨H + 1, 2, none⟩ = some (.int .u64 v) ∧ W'.cell? ⟨H + 1, 3, none⟩ = some (.int .i64 nn))
    (exact HS.out _ (by (repeat (first | (with_reducible refine Kept.setCell ?_ ?_ _) | (with_reducible refine Kept.drew ?_))); (first | exact Kept.weaken (l := []) (by with_reducible assumption) (by simp) | (with_reducible exact Kept.refl _ _)); all_goals (refine Or.inl ?_; simp; done)))
    (first | (go_at_call 45; refine (M.out _ (by first | assumption | exact (Kept.refl _ _).drew)).mono ?_; rintro e w5 ⟨ko, kn, kc, rfl, Q5, K5⟩; have s0 := cell_of_blk (K5.blk D.z2 (by simp)) (i := 0) rfl; have f0 := free_of_blk (K5.blk D.z2 (by simp)); have s1 := cell_of_blk (K5.blk D.z3 (by simp)) (i := 0) rfl; have s2 := cell_of_blk (K5.blk D.z3 (by simp)) (i := 1) rfl; have s3 := cell_of_blk (K5.blk D.z3 (by simp)) (i := 2) rfl; have s4 := cell_of_blk (K5.blk D.z3 (by simp)) (i := 3) rfl; have f1 := free_of_blk (K5.blk D.z3 (by simp))))
  all_goals
    go_wp2
    have F := (D.kept' K5).fin (bo := ao) (m := n) (cb := cap) (h := false) (g := 0) (ko := ko) (kn := kn) (kc := kc) (MpV.new HM.out (D.kept.trans K5)) Q5.out.2.1 Q5.out.2.2
    unfold dEnd at F
    obtain ⟨F1, F2, F3, F4, F5⟩ := F
    have y := cell_of_blk F4 (i := 0) rfl
    have y0 := cell_of_blk F5 (i := 0) rfl
    have y1 := cell_of_blk F5 (i := 1) rfl
    have y2 := cell_of_blk F5 (i := 2) rfl
    have y3 := cell_of_blk F5 (i := 3) rfl
    refine bodyPost_ret (v := .tuple #[.agg #[.slice ao n cap], .agg #[.bool false, .bool false, .int .u64 0, .slice ko kn kc]]) (by simp [results, Try.results23, go_sem, y, y0, y1, y2, y3]) rfl ?_
    exact ⟨ao, n, cap, ko, kn, kc, by rw [EE.out.2.1, EE.out.2.2.1], by rw [EE.out.1]; exact F1, by rw [EE.out.2.2.2]; exact Q5.out.1, by rw [EE.out.2.2.2]; exact F2, Or.inl rfl, (fun ad e _ => by have := Q5.out.2.2 ad e; have := D.le; omega), F3⟩
set_option maxHeartbeats 4000000 in
theorem do_put_l (ao : Option Addr) (ps : List Pr) (n cap : Nat) (op : OpQ) (w : World) (h : MpV w ao n cap ps) (hst : Str ps) (_hw : Wd ps) (hl : n ≤ 1000) (hd : op.d = 2) :
    Calls Try.prog 23 #[.agg #[.slice ao n cap], .agg #[.int .i64 op.d, .int .u64 op.k, .int .u64 op.v, .int .i64 op.n, .int .i64 op.t]] w fun o w' => DoX w (fun bo => ∀ ad, bo = some ad → w.heap.size ≤ ad.block) ps op o w' := by
  obtain ⟨A, hA⟩ : ∃ A, gtH ps op.k = A := ⟨_, rfl⟩
  obtain ⟨B, hB⟩ : ∃ B, gtV ps op.k = B := ⟨_, rfl⟩
  obtain ⟨C, hC⟩ : ∃ C, wi ps ⟨op.k, op.v⟩ = C := ⟨_, rfl⟩
  have e1 : doM ps op = C := by unfold doM; rw [if_pos hd]; exact hC
  have e2 : doH ps op = A := by unfold doH; rw [if_pos (by omega)]; exact hA
  have e3 : doG ps op = B := by unfold doG; rw [if_pos (by omega)]; exact hB
  have e4 : doK ps op = [] := by unfold doK; rw [if_neg (by omega)]
  have EE : Hid _ := And.intro e1 (And.intro e2 (And.intro e3 e4))
  clear e1 e2 e3 e4
  obtain ⟨d, k, v, nn, t⟩ := op
  simp only at hd
  subst hd
  have D0 := Db.new w ao n cap ⟨2, k, v, nn, t⟩
  go_enter Try.func23, Try.ntmps23
  go_wp2_with fail
  refine gen_world (fun W => Db w W w.heap.size ao n cap ⟨2, k, v, nn, t⟩) D0 ?_
  clear D0
  intro W D
  obtain ⟨H, hH⟩ : ∃ H, H = w.heap.size := ⟨_, rfl⟩
  rw [← hH] at D ⊢
  clear hH
  have HS : Hid (∀ W' : World, Kept [H + 1 + 1, H + 1 + 1 + 1] W W' → W'.cell? ⟨H, 0, none⟩ = some (.slice ao n cap) ∧ W'.cell? ⟨H + 1, 1, none⟩ = some (.int .u64 k) ∧ W'.cell? ⟨H + 1, 2, none⟩ = some (.int .u64 v) ∧ W'.cell? ⟨H + 1, 3, none⟩ = some (.int .i64 nn)) := fun W' k' =>
    ⟨cell_of_blk (k'.blk D.z0 (by simp; omega)) (i := 0) rfl, cell_of_blk (k'.blk D.z1 (by simp)) (i := 1) rfl, cell_of_blk (k'.blk D.z1 (by simp)) (i := 2) rfl, cell_of_blk (k'.blk D.z1 (by simp)) (i := 3) rfl⟩
  have G : Hid (∀ W' : World, Kept [] W W' → Calls Try.prog 41 #[.agg #[.slice ao n cap], .int .u64 k] W' fun o w' => o = .returned (.agg #[.bool false, .bool A, .int .u64 B, .slice none 0 0]) ∧ Kept [] W w' ∧ Kept [] W' w') := fun W' k' => by rw [← hA, ← hB]; exact (get_any ao ps n cap k W' (h.new (D.kept.trans k')) hst hl).mono fun _ _ hh => ⟨hh.1, k'.trans hh.2, hh.2⟩
  have M : Hid (∀ W' : World, Kept [] W W' → Calls Try.prog 42 #[.agg #[.slice ao n cap], .agg #[.int .u64 k, .int .u64 v]] W' fun o w' => ∃ bo m cb, o = .returned (.agg #[.slice bo m cb]) ∧ Hid (MpV w' bo m cb C ∧ ∀ ad, bo = some ad → w.heap.size ≤ ad.block) ∧ Kept [] W w') := fun W' k' => by rw [← hC]; exact (with_l ao ps n cap ⟨k, v⟩ W' (h.new (D.kept.trans k')) hst hl).mono fun _ _ hh => by obtain ⟨a, b, c, q1, q2, q4, q3⟩ := hh; exact ⟨a, b, c, q1, ⟨q2, fun ad e => by have := q4 ad e; have := D.kept.size; have := k'.size; omega⟩, k'.trans q3⟩
  have HM : Hid (MpV w ao n cap ps) := h
  clear h hA hB hC
  go_region_held3 (fun W' => W'.cell? ⟨H, 0, none⟩ = some (.slice ao n cap) ∧ W'.cell? ⟨H + 1, 1, none⟩ = some (.int .u64 k) ∧ W'.cell? ⟨H + 1, 2, none⟩ = some (.int .u64 v) ∧ W'.cell? ⟨H + 1, 3, none⟩ = some (.int .i64 nn))
    (exact HS.out _ (by (repeat (first | (with_reducible refine Kept.setCell ?_ ?_ _) | (with_reducible refine Kept.drew ?_))); (first | exact Kept.weaken (l := []) (by with_reducible assumption) (by simp) | (with_reducible exact Kept.refl _ _)); all_goals (refine Or.inl ?_; simp; done)))
    (first
      | (go_at_call 41; refine (G.out _ (by first | assumption | exact (Kept.refl _ _).drew)).mono ?_; rintro e w5 ⟨rfl, K5, J5⟩; have s0 := cell_of_blk (K5.blk D.z2 (by simp)) (i := 0) rfl; have f0 := free_of_blk (K5.blk D.z2 (by simp)); have s1 := cell_of_blk (K5.blk D.z3 (by simp)) (i := 0) rfl; have s2 := cell_of_blk (K5.blk D.z3 (by simp)) (i := 1) rfl; have s3 := cell_of_blk (K5.blk D.z3 (by simp)) (i := 2) rfl; have s4 := cell_of_blk (K5.blk D.z3 (by simp)) (i := 3) rfl; have f1 := free_of_blk (K5.blk D.z3 (by simp)))
      | (go_at_call 42; refine (M.out _ (by first | assumption | exact (Kept.refl _ _).drew)).mono ?_; rintro e w6 ⟨bo, m, cb, rfl, Q6, K6⟩; have r0 := cell_of_blk (K6.blk D.z2 (by simp)) (i := 0) rfl; have h0 := free_of_blk (K6.blk D.z2 (by simp)); have r1 := cell_of_blk (K6.blk D.z3 (by simp)) (i := 0) rfl; have r2 := cell_of_blk (K6.blk D.z3 (by simp)) (i := 1) rfl; have r3 := cell_of_blk (K6.blk D.z3 (by simp)) (i := 2) rfl; have r4 := cell_of_blk (K6.blk D.z3 (by simp)) (i := 3) rfl; have h1 := free_of_blk (K6.blk D.z3 (by simp))))
  all_goals
    go_wp2
    first
      | (have F := (D.kept' K5).fin (bo := bo) (m := m) (cb := cb) (h := A) (g := B) (ko := none) (kn := 0) (kc := 0) (MpV.new Q6.out.1 J5) (ks := []) (fun h => absurd h (by simp)) (by simp)
         unfold dEnd at F
         obtain ⟨F1, F2, F3, F4, F5⟩ := F
         have y := cell_of_blk F4 (i := 0) rfl
         have y0 := cell_of_blk F5 (i := 0) rfl
         have y1 := cell_of_blk F5 (i := 1) rfl
         have y2 := cell_of_blk F5 (i := 2) rfl
         have y3 := cell_of_blk F5 (i := 3) rfl
         refine bodyPost_ret (v := .tuple #[.agg #[.slice bo m cb], .agg #[.bool false, .bool A, .int .u64 B, .slice none 0 0]]) (by simp [results, Try.results23, go_sem, y, y0, y1, y2, y3]; done) rfl ?_
         exact ⟨bo, m, cb, none, 0, 0, by rw [EE.out.2.1, EE.out.2.2.1], by rw [EE.out.1]; exact F1, by rw [EE.out.2.2.2]; rfl, by rw [EE.out.2.2.2]; exact F2, Q6.out.2, (fun ad e => by cases e), F3⟩)
      | (have F := (D.kept' K6).fin (bo := bo) (m := m) (cb := cb) (h := A) (g := B) (ko := none) (kn := 0) (kc := 0) Q6.out.1 (ks := []) (fun h => absurd h (by simp)) (by simp)
         unfold dEnd at F
         obtain ⟨F1, F2, F3, F4, F5⟩ := F
         have y := cell_of_blk F4 (i := 0) rfl
         have y0 := cell_of_blk F5 (i := 0) rfl
         have y1 := cell_of_blk F5 (i := 1) rfl
         have y2 := cell_of_blk F5 (i := 2) rfl
         have y3 := cell_of_blk F5 (i := 3) rfl
         refine bodyPost_ret (v := .tuple #[.agg #[.slice bo m cb], .agg #[.bool false, .bool A, .int .u64 B, .slice none 0 0]]) (by simp [results, Try.results23, go_sem, y, y0, y1, y2, y3]; done) rfl ?_
         exact ⟨bo, m, cb, none, 0, 0, by rw [EE.out.2.1, EE.out.2.2.1], by rw [EE.out.1]; exact F1, by rw [EE.out.2.2.2]; rfl, by rw [EE.out.2.2.2]; exact F2, Q6.out.2, (fun ad e => by cases e), F3⟩)
set_option maxHeartbeats 4000000 in
theorem do_del_l (ao : Option Addr) (ps : List Pr) (n cap : Nat) (op : OpQ) (w : World) (h : MpV w ao n cap ps) (hst : Str ps) (_hw : Wd ps) (hl : n ≤ 1000) (hd : op.d = 3) :
    Calls Try.prog 23 #[.agg #[.slice ao n cap], .agg #[.int .i64 op.d, .int .u64 op.k, .int .u64 op.v, .int .i64 op.n, .int .i64 op.t]] w fun o w' => DoL w ao ps op o w' := by
  obtain ⟨A, hA⟩ : ∃ A, gtH ps op.k = A := ⟨_, rfl⟩
  obtain ⟨B, hB⟩ : ∃ B, gtV ps op.k = B := ⟨_, rfl⟩
  obtain ⟨C, hC⟩ : ∃ C, wo ps op.k = C := ⟨_, rfl⟩
  have e1 : doM ps op = C := by unfold doM; rw [if_neg (by omega), if_pos hd]; exact hC
  have e2 : doH ps op = A := by unfold doH; rw [if_pos (by omega)]; exact hA
  have e3 : doG ps op = B := by unfold doG; rw [if_pos (by omega)]; exact hB
  have e4 : doK ps op = [] := by unfold doK; rw [if_neg (by omega)]
  have EE : Hid _ := And.intro e1 (And.intro e2 (And.intro e3 e4))
  clear e1 e2 e3 e4
  obtain ⟨d, k, v, nn, t⟩ := op
  simp only at hd
  subst hd
  have D0 := Db.new w ao n cap ⟨3, k, v, nn, t⟩
  go_enter Try.func23, Try.ntmps23
  go_wp2_with fail
  refine gen_world (fun W => Db w W w.heap.size ao n cap ⟨3, k, v, nn, t⟩) D0 ?_
  clear D0
  intro W D
  obtain ⟨H, hH⟩ : ∃ H, H = w.heap.size := ⟨_, rfl⟩
  rw [← hH] at D ⊢
  clear hH
  have HS : Hid (∀ W' : World, Kept [H + 1 + 1, H + 1 + 1 + 1] W W' → W'.cell? ⟨H, 0, none⟩ = some (.slice ao n cap) ∧ W'.cell? ⟨H + 1, 1, none⟩ = some (.int .u64 k) ∧ W'.cell? ⟨H + 1, 2, none⟩ = some (.int .u64 v) ∧ W'.cell? ⟨H + 1, 3, none⟩ = some (.int .i64 nn)) := fun W' k' =>
    ⟨cell_of_blk (k'.blk D.z0 (by simp; omega)) (i := 0) rfl, cell_of_blk (k'.blk D.z1 (by simp)) (i := 1) rfl, cell_of_blk (k'.blk D.z1 (by simp)) (i := 2) rfl, cell_of_blk (k'.blk D.z1 (by simp)) (i := 3) rfl⟩
  have G : Hid (∀ W' : World, Kept [] W W' → Calls Try.prog 41 #[.agg #[.slice ao n cap], .int .u64 k] W' fun o w' => o = .returned (.agg #[.bool false, .bool A, .int .u64 B, .slice none 0 0]) ∧ Kept [] W w' ∧ Kept [] W' w') := fun W' k' => by rw [← hA, ← hB]; exact (get_any ao ps n cap k W' (h.new (D.kept.trans k')) hst hl).mono fun _ _ hh => ⟨hh.1, k'.trans hh.2, hh.2⟩
  have M : Hid (∀ W' : World, Kept [] W W' → Calls Try.prog 43 #[.agg #[.slice ao n cap], .int .u64 k] W' fun o w' => ∃ bo m cb, o = .returned (.agg #[.slice bo m cb]) ∧ Hid (MpV w' bo m cb C ∧ (bo = ao ∨ ∀ ad, bo = some ad → w.heap.size ≤ ad.block)) ∧ Kept [] W w') := fun W' k' => by rw [← hC]; exact (without_l ao ps n cap k W' (h.new (D.kept.trans k')) hst hl).mono fun _ _ hh => by obtain ⟨a, b, c, q1, q2, q4, q3⟩ := hh; exact ⟨a, b, c, q1, ⟨q2, q4.imp id (fun q ad e => by have := q ad e; have := D.kept.size; have := k'.size; omega)⟩, k'.trans q3⟩
  have HM : Hid (MpV w ao n cap ps) := h
  clear h hA hB hC
  go_region_held3 (fun W' => W'.cell? ⟨H, 0, none⟩ = some (.slice ao n cap) ∧ W'.cell? ⟨H + 1, 1, none⟩ = some (.int .u64 k) ∧ W'.cell? ⟨H + 1, 2, none⟩ = some (.int .u64 v) ∧ W'.cell? ⟨H + 1, 3, none⟩ = some (.int .i64 nn))
    (exact HS.out _ (by (repeat (first | (with_reducible refine Kept.setCell ?_ ?_ _) | (with_reducible refine Kept.drew ?_))); (first | exact Kept.weaken (l := []) (by with_reducible assumption) (by simp) | (with_reducible exact Kept.refl _ _)); all_goals (refine Or.inl ?_; simp; done)))
    (first
      | (go_at_call 41; refine (G.out _ (by first | assumption | exact (Kept.refl _ _).drew)).mono ?_; rintro e w5 ⟨rfl, K5, J5⟩; have s0 := cell_of_blk (K5.blk D.z2 (by simp)) (i := 0) rfl; have f0 := free_of_blk (K5.blk D.z2 (by simp)); have s1 := cell_of_blk (K5.blk D.z3 (by simp)) (i := 0) rfl; have s2 := cell_of_blk (K5.blk D.z3 (by simp)) (i := 1) rfl; have s3 := cell_of_blk (K5.blk D.z3 (by simp)) (i := 2) rfl; have s4 := cell_of_blk (K5.blk D.z3 (by simp)) (i := 3) rfl; have f1 := free_of_blk (K5.blk D.z3 (by simp)))
      | (go_at_call 43; refine (M.out _ (by first | assumption | exact (Kept.refl _ _).drew)).mono ?_; rintro e w6 ⟨bo, m, cb, rfl, Q6, K6⟩; have r0 := cell_of_blk (K6.blk D.z2 (by simp)) (i := 0) rfl; have h0 := free_of_blk (K6.blk D.z2 (by simp)); have r1 := cell_of_blk (K6.blk D.z3 (by simp)) (i := 0) rfl; have r2 := cell_of_blk (K6.blk D.z3 (by simp)) (i := 1) rfl; have r3 := cell_of_blk (K6.blk D.z3 (by simp)) (i := 2) rfl; have r4 := cell_of_blk (K6.blk D.z3 (by simp)) (i := 3) rfl; have h1 := free_of_blk (K6.blk D.z3 (by simp))))
  all_goals
    go_wp2
    first
      | (have F := (D.kept' K5).fin (bo := bo) (m := m) (cb := cb) (h := A) (g := B) (ko := none) (kn := 0) (kc := 0) (MpV.new Q6.out.1 J5) (ks := []) (fun h => absurd h (by simp)) (by simp)
         unfold dEnd at F
         obtain ⟨F1, F2, F3, F4, F5⟩ := F
         have y := cell_of_blk F4 (i := 0) rfl
         have y0 := cell_of_blk F5 (i := 0) rfl
         have y1 := cell_of_blk F5 (i := 1) rfl
         have y2 := cell_of_blk F5 (i := 2) rfl
         have y3 := cell_of_blk F5 (i := 3) rfl
         refine bodyPost_ret (v := .tuple #[.agg #[.slice bo m cb], .agg #[.bool false, .bool A, .int .u64 B, .slice none 0 0]]) (by simp [results, Try.results23, go_sem, y, y0, y1, y2, y3]; done) rfl ?_
         exact ⟨bo, m, cb, none, 0, 0, by rw [EE.out.2.1, EE.out.2.2.1], by rw [EE.out.1]; exact F1, by rw [EE.out.2.2.2]; rfl, by rw [EE.out.2.2.2]; exact F2, Q6.out.2, (fun ad e => by cases e), F3⟩)
      | (have F := (D.kept' K6).fin (bo := bo) (m := m) (cb := cb) (h := A) (g := B) (ko := none) (kn := 0) (kc := 0) Q6.out.1 (ks := []) (fun h => absurd h (by simp)) (by simp)
         unfold dEnd at F
         obtain ⟨F1, F2, F3, F4, F5⟩ := F
         have y := cell_of_blk F4 (i := 0) rfl
         have y0 := cell_of_blk F5 (i := 0) rfl
         have y1 := cell_of_blk F5 (i := 1) rfl
         have y2 := cell_of_blk F5 (i := 2) rfl
         have y3 := cell_of_blk F5 (i := 3) rfl
         refine bodyPost_ret (v := .tuple #[.agg #[.slice bo m cb], .agg #[.bool false, .bool A, .int .u64 B, .slice none 0 0]]) (by simp [results, Try.results23, go_sem, y, y0, y1, y2, y3]; done) rfl ?_
         exact ⟨bo, m, cb, none, 0, 0, by rw [EE.out.2.1, EE.out.2.2.1], by rw [EE.out.1]; exact F1, by rw [EE.out.2.2.2]; rfl, by rw [EE.out.2.2.2]; exact F2, Q6.out.2, (fun ad e => by cases e), F3⟩)
theorem do_l (ao : Option Addr) (ps : List Pr) (n cap : Nat) (op : OpQ) (w : World) (h : MpV w ao n cap ps) (hst : Str ps) (hw : Wd ps) (hl : n ≤ 1000) :
    Calls Try.prog 23 #[.agg #[.slice ao n cap], .agg #[.int .i64 op.d, .int .u64 op.k, .int .u64 op.v, .int .i64 op.n, .int .i64 op.t]] w fun o w' => DoX w (fun bo => (bo = ao ∧ op.d ≠ 2) ∨ ∀ ad, bo = some ad → w.heap.size ≤ ad.block) ps op o w' := by
  by_cases h2 : op.d = 2
  · exact (do_put_l ao ps n cap op w h hst hw hl h2).mono (fun o w' q => q.mono (fun _ => Or.inr))
  · have up : ∀ o w', DoL w ao ps op o w' → DoX w (fun bo => (bo = ao ∧ op.d ≠ 2) ∨ ∀ ad, bo = some ad → w.heap.size ≤ ad.block) ps op o w' := fun o w' q => DoX.mono q (fun _ r => r.imp (fun e => ⟨e, h2⟩) id)
    by_cases h1 : op.d = 1
    · exact (do_get_l ao ps n cap op w h hst hw hl h1).mono up
    · by_cases h3 : op.d = 3
      · exact (do_del_l ao ps n cap op w h hst hw hl h3).mono up
      · by_cases h4 : op.d = 4
        · exact (do_ceil_l ao ps n cap op w h hst hw hl h4).mono up
        · by_cases h5 : op.d = 5
          · exact (do_range_l ao ps n cap op w h hst hw hl h5).mono up
          · exact (do_none_l ao ps n cap op w h hst hw hl (by omega)).mono up
end Go.Proofs.Ytlmkcakmeldfeaa.Q

/-
  The document's giving back; and words that somebody else writes.
-/
import Derived.Test.YtmmpafhfanldbaaDoorKRAll
import Derived.Test.YtmmpafhfanldbaaDoorKBack
namespace Go.Proofs.YtmmpafhfanldbaaDoor
open Go.RowKit (Grown Hid Below)
open Go.Deep
namespace K
set_option maxRecDepth 100000
theorem two_new (T1 T2 : TypeId) (w : World) (A B : Array Value) {b : Nat} (hb : b = w.heap.size) : RW T1 ((w.alloc (.cells A T1)).alloc (.cells B T2)) b A ∧ RW T2 ((w.alloc (.cells A T1)).alloc (.cells B T2)) (b + 1) B ∧ Kept [] w ((w.alloc (.cells A T1)).alloc (.cells B T2)) := by
  subst hb
  refine ⟨(RW.new _ _ _).up _, ?_, ((Kept.refl [] w).alloc _).alloc _⟩
  have z := RW.new T2 (w.alloc (.cells A T1)) B; rw [nblk_alloc] at z; exact z
set_option maxHeartbeats 2000000 in
theorem rback_any (c : Cfg) (g : Nat) (cs : List Int) (cap : Nat) (cnt : Int) (a : Acc) (h : Int) (w : World) (hR : RowR w g cs cap) (hl : cs.length ≤ 17592186044415) (c0 : 0 ≤ cnt) (c1 : cnt < 4611686018427387904) (h0 : 0 ≤ h) (h1 : h < 18446744073709551616) :
    Calls Tryd.prog 21 #[rmV c (some ⟨g, 0, none⟩) cs.length cap cnt a, .int .u64 h] w fun e w' =>
      ∃ g' c', e = .returned (rmV c (some ⟨g', 0, none⟩) cs.length c' (cnt + 1) (acV cs 2 (clV' c (ixV h) 0) 0 0 (bkV c h))) ∧ (g' = g ∨ w.heap.size ≤ g') ∧ RowR w' g' (clV cs 2 (clV' c (ixV h) 0) 0 (bkV c h)) c' ∧ Kept [] w w' := by
  have hgl := hR.lt
  show Calls Tryd.prog 21 #[.agg (rmA c (some ⟨g, 0, none⟩) cs.length cap cnt a), .int .u64 h] w fun e w' =>
      ∃ g' c', e = .returned (.agg (rmA c (some ⟨g', 0, none⟩) cs.length c' (cnt + 1) (acV cs 2 (clV' c (ixV h) 0) 0 0 (bkV c h)))) ∧ (g' = g ∨ w.heap.size ≤ g') ∧ RowR w' g' (clV cs 2 (clV' c (ixV h) 0) 0 (bkV c h)) c' ∧ Kept [] w w'
  have HI := hidOf (fun W => rindex_any h W h0 h1)
  have HG := hidOf (fun W => rgen_any h W h0 h1)
  have HF := hidOf (fun W => S.rafter_any (gnV h) c.l W)
  have HL := hidOf (fun W (k : Kept [] w W) => qrelease_any c g cs cap cnt a (ixV h) (bkV c h) W (hR.kept k (by simp)) hl c0 c1)
  have e : S.afV (gnV h) c.l = bkV c h := rfl
  rw [e] at HF
  clear e hR hl
  generalize acV cs 2 (clV' c (ixV h) 0) 0 0 (bkV c h) = AC at *
  generalize clV cs 2 (clV' c (ixV h) 0) 0 (bkV c h) = CC at *
  generalize bkV c h = V0 at *
  generalize ixV h = I at *
  generalize gnV h = G at *
  generalize cs.length = n at *
  obtain ⟨A, hAe⟩ : ∃ A, A = rmA c (some ⟨g, 0, none⟩) n cap cnt a := ⟨_, rfl⟩
  have hA : A.size = 15 := by rw [hAe]; rfl
  have hA6 : A[6]? = some (.int .i64 c.l) := by rw [hAe]; rfl
  have HLr : Hid (∀ W, Kept [] w W → Calls Tryd.prog 53 #[.agg A, .int .i64 I, .int .u64 V0] W fun e w' => ∃ g' c', e = .returned (.agg (rmA c (some ⟨g', 0, none⟩) n c' (cnt + 1) AC)) ∧ (g' = g ∨ W.heap.size ≤ g') ∧ RowR w' g' CC c' ∧ Kept [] W w') := by rw [hAe]; exact HL.out
  rw [← hAe]
  clear HL hAe
  obtain ⟨b, hb⟩ : ∃ b, b = w.heap.size := ⟨_, rfl⟩
  have ST := hidOf (two_new 35 35 w A rmZ hb)
  go_enter Tryd.func21, Tryd.ntmps21
  go_upto_region 1 with (fail)
  rw [← hb]
  refine gen_world (fun W => RW 35 W b A ∧ RW 35 W (b + 1) rmZ ∧ Kept [] w W) ST.out ?_
  have hbw : w.heap.size ≤ b := by omega
  clear ST hb
  rintro W ⟨B0, C0, hk⟩
  refine wp_region_held_drew (S := fun w' => RW 35 w' b A ∧ ∃ O, RW 35 w' (b + 1) O) (by kernel_rfl) ⟨B0, _, C0⟩ (fun hS => ?_)
  have hk' : Kept [] w W.drew := hk.drew
  have B0' : RW 35 W.drew b A := B0
  have C0' : RW 35 W.drew (b + 1) rmZ := C0
  clear hk B0 C0
  generalize W.drew = W at hk' B0' C0' hS ⊢
  have hk := hk'
  have B0 := B0'
  have C0 := C0'
  clear hk' B0' C0'
  refine wpAnyH_take (i := 0) (oi := { dst := some 5, op := Op.load 35 (Operand.tmp 2), type := 35, pos := "ref.go:73", after := #[], guard := none }) (v := Value.agg A) rfl (by kernel_rfl) (by kernel_rfl) (by kernel_rfl) (fun _ _ _ h => h) (yieldsIf_load_rw rfl 35 isT_rm (.tmp 2) rfl b rfl A hA (fun _ h => h.1)) hS ?_
  try simp only [Act.put, List.setIfInBounds_toArray, List.set_cons_zero, List.set_cons_succ]
  refine wpAnyH_take (i := 1) (oi := { dst := some 6, op := Op.move (Operand.tmp 1), type := 29, pos := "ref.go:73", after := #[], guard := none }) (v := Value.int .u64 h) rfl (by kernel_rfl) (by kernel_rfl) (by kernel_rfl) (fun _ _ _ h => h) (Or.inl ⟨rfl, fun _ _ => by kernel_rfl⟩) hS ?_
  try simp only [Act.put, List.setIfInBounds_toArray, List.set_cons_zero, List.set_cons_succ]
  refine wpAnyH_take (i := 3) (oi := { dst := some 8, op := Op.move (Operand.tmp 1), type := 29, pos := "ref.go:73", after := #[], guard := none }) (v := Value.int .u64 h) rfl (by kernel_rfl) (by kernel_rfl) (by kernel_rfl) (fun _ _ _ h => h) (Or.inl ⟨rfl, fun _ _ => by kernel_rfl⟩) hS ?_
  try simp only [Act.put, List.setIfInBounds_toArray, List.set_cons_zero, List.set_cons_succ]
  refine wpAnyH_take (i := 5) (oi := { dst := some 10, op := Op.fieldAddr 35 (Operand.tmp 2) 0, type := 0, pos := "ref.go:73", after := #[], guard := none }) (v := Value.pointer (some ⟨b, 0, none⟩)) rfl (by kernel_rfl) (by kernel_rfl) (by kernel_rfl) (fun _ _ _ h => h) (Or.inl ⟨rfl, fun _ _ => by kernel_rfl⟩) hS ?_
  try simp only [Act.put, List.setIfInBounds_toArray, List.set_cons_zero, List.set_cons_succ]
  refine wpAnyH_take (i := 6) (oi := { dst := some 11, op := Op.fieldAddr 23 (Operand.tmp 10) 6, type := 0, pos := "ref.go:73", after := #[{ on := 5, ground := Ground.data }], guard := none }) (v := Value.pointer (some ⟨b, 6, none⟩)) rfl (by kernel_rfl) (by kernel_rfl) (by kernel_rfl) (fun _ _ _ h => h) (Or.inl ⟨rfl, fun _ _ => by kernel_rfl⟩) hS ?_
  try simp only [Act.put, List.setIfInBounds_toArray, List.set_cons_zero, List.set_cons_succ]
  refine wpAnyH_take (i := 7) (oi := { dst := some 12, op := Op.load 3 (Operand.tmp 11), type := 3, pos := "ref.go:73", after := #[{ on := 6, ground := Ground.data }], guard := none }) (v := Value.int .i64 c.l) rfl (by kernel_rfl) (by kernel_rfl) (by kernel_rfl) (fun _ _ _ h => h) (Or.inl ⟨rfl, fun w hSw => by have z := cell_of_blk hSw.1 (i := 6) (v := .int .i64 c.l) hA6; go_simp⟩) hS ?_
  try simp only [Act.put, List.setIfInBounds_toArray, List.set_cons_zero, List.set_cons_succ]
  refine wpAnyH_ready (rs := [2]) (by kernel_rfl) (by simp) ?_
  refine AllReadyH.cons (o := { dst := some 7, op := Op.call { callee := Callee.value (Operand.func 49), args := #[Operand.tmp 6], argTypes := #[29] }, type := 3, pos := "ref.go:73", after := #[{ on := 1, ground := Ground.data }], guard := none }) rfl (fun K hK => ?_) AllReadyH.nil
  rw [if_pos (by rfl)]
  refine wp_calls 49 #[.int .u64 h] (by kernel_rfl) (fun v V => v = .int .i64 I ∧ Kept [] W V) ((HI.out _).mono fun e w' hh => ⟨_, hh.1, rfl, hh.2⟩) ?_
  rintro _ w2 ⟨rfl, K2⟩
  have k2 := (Kept.refl [] W).trans K2
  have B2 := B0.kept K2 (by simp)
  have C2 := C0.kept K2 (by simp)
  try simp only [Act.put, List.setIfInBounds_toArray, List.set_cons_zero, List.set_cons_succ]
  refine hK.out _ _ (⟨B2, _, C2⟩) (fun hS => ?_)
  clear hK K
  refine wpAnyH_ready (rs := [4]) (by kernel_rfl) (by simp) ?_
  refine AllReadyH.cons (o := { dst := some 9, op := Op.call { callee := Callee.value (Operand.func 55), args := #[Operand.tmp 8], argTypes := #[29] }, type := 3, pos := "ref.go:73", after := #[{ on := 3, ground := Ground.data }, { on := 2, ground := Ground.chain }], guard := none }) rfl (fun K hK => ?_) AllReadyH.nil
  rw [if_pos (by rfl)]
  refine wp_calls 55 #[.int .u64 h] (by kernel_rfl) (fun v V => v = .int .i64 G ∧ Kept [] w2 V) ((HG.out _).mono fun e w' hh => ⟨_, hh.1, rfl, hh.2⟩) ?_
  rintro _ w4 ⟨rfl, K4⟩
  have k4 := k2.trans K4
  have B4 := B2.kept K4 (by simp)
  have C4 := C2.kept K4 (by simp)
  try simp only [Act.put, List.setIfInBounds_toArray, List.set_cons_zero, List.set_cons_succ]
  refine hK.out _ _ (⟨B4, _, C4⟩) (fun hS => ?_)
  clear hK K
  refine wpAnyH_ready (rs := [8]) (by kernel_rfl) (by simp) ?_
  refine AllReadyH.cons (o := { dst := some 13, op := Op.call { callee := Callee.value (Operand.func 54), args := #[Operand.tmp 9, Operand.tmp 12], argTypes := #[3, 3] }, type := 29, pos := "ref.go:73", after := #[{ on := 4, ground := Ground.data }, { on := 7, ground := Ground.data }, { on := 4, ground := Ground.chain }], guard := none }) rfl (fun K hK => ?_) AllReadyH.nil
  rw [if_pos (by rfl)]
  refine wp_calls 54 #[.int .i64 G, .int .i64 c.l] (by kernel_rfl) (fun v V => v = .int .u64 V0 ∧ Kept [] w4 V) ((HF.out _).mono fun e w' hh => ⟨_, hh.1, rfl, hh.2⟩) ?_
  rintro _ w8 ⟨rfl, K8⟩
  have k8 := k4.trans K8
  have B8 := B4.kept K8 (by simp)
  have C8 := C4.kept K8 (by simp)
  try simp only [Act.put, List.setIfInBounds_toArray, List.set_cons_zero, List.set_cons_succ]
  refine hK.out _ _ (⟨B8, _, C8⟩) (fun hS => ?_)
  clear hK K
  refine wpAnyH_ready (rs := [9]) (by kernel_rfl) (by simp) ?_
  refine AllReadyH.cons (o := { dst := some 14, op := Op.call { callee := Callee.value (Operand.func 53), args := #[Operand.tmp 5, Operand.tmp 7, Operand.tmp 13], argTypes := #[35, 3, 29] }, type := 35, pos := "ref.go:73", after := #[{ on := 0, ground := Ground.data }, { on := 2, ground := Ground.data }, { on := 8, ground := Ground.data }, { on := 8, ground := Ground.chain }], guard := none }) rfl (fun K hK => ?_) AllReadyH.nil
  rw [if_pos (by rfl)]
  refine wp_calls 53 #[.agg A, .int .i64 I, .int .u64 V0] (by kernel_rfl) (fun v V => (∃ g' c', v = .agg (rmA c (some ⟨g', 0, none⟩) n c' (cnt + 1) AC) ∧ (g' = g ∨ w8.heap.size ≤ g') ∧ RowR V g' CC c') ∧ Kept [] w8 V) ((HLr.out _ (hk.trans k8)).mono fun e w' ⟨g', c', h1, h2, h3, h4⟩ => ⟨_, h1, ⟨g', c', rfl, h2, h3⟩, h4⟩) ?_
  rintro _ w9 ⟨⟨g', c', rfl, h2, h3⟩, K9⟩
  have k9 := k8.trans K9
  have B9 := B8.kept K9 (by simp)
  have C9 := C8.kept K9 (by simp)
  try simp only [Act.put, List.setIfInBounds_toArray, List.set_cons_zero, List.set_cons_succ]
  refine hK.out _ _ (⟨B9, _, C9⟩) (fun hS => ?_)
  clear hK K
  refine wpAnyH_ready (rs := [10]) (by kernel_rfl) (by simp) ?_
  refine AllReadyH.cons (o := { dst := none, op := Op.store 35 (Operand.tmp 4) (Operand.tmp 14), type := 0, pos := "ref.go:73", after := #[{ on := 9, ground := Ground.data }, { on := 9, ground := Ground.chain }, { on := 0, ground := Ground.phase }, { on := 1, ground := Ground.phase }, { on := 2, ground := Ground.phase }, { on := 3, ground := Ground.phase }, { on := 4, ground := Ground.phase }, { on := 5, ground := Ground.phase }, { on := 6, ground := Ground.phase }, { on := 7, ground := Ground.phase }, { on := 8, ground := Ground.phase }, { on := 9, ground := Ground.phase }], guard := none }) rfl (fun K hK => ?_) AllReadyH.nil
  rw [if_pos (by rfl)]
  have o1 := C8.lt
  refine wp_store_row 35 (.tmp 4) (.tmp 14) rfl (b + 1) (rmA c (some ⟨g', 0, none⟩) n c' (cnt + 1) AC) rfl rfl 35 rmZ C9 (by rw [isT_rm.1]; rfl) rfl (rm_one _ _ _ _ _ _) ?_
  have D := C9.row (rmA c (some ⟨g', 0, none⟩) n c' (cnt + 1) AC)
  simp only [Act.put]
  refine hK.out _ _ (⟨B9.rowOther _ (by omega), ⟨_, D⟩⟩) (fun hS => ?_)
  clear hK K
  refine wpAnyH_done (by kernel_rfl) ?_ _
  go_wp2
  refine bodyPost_ret (v := .agg (rmA c (some ⟨g', 0, none⟩) n c' (cnt + 1) AC)) ?_ rfl ⟨g', c', rfl, ?_, ?_, ?_⟩
  · obtain ⟨fs, hu⟩ := isT_rm.2
    exact results_cell_row Tryd.results21 _ _ (b + 1) 35 _ (0, 0) _ rfl D hu rfl (by rw [isT_rm.1]; rfl)
  · have := k8.size; have := hk.size; exact h2.imp id (fun h => by omega)
  · refine rowR_far (l := [b + 1]) (w := w) (W := w8) h3 ((Kept.refl [b + 1] w9).setRow (Or.inl (by simp)) _) (by simp; omega) hgl h2
  · exact (hk.trans k9).setRow (Or.inr (by omega)) _
end K
end Go.Proofs.YtmmpafhfanldbaaDoor

/-
  Words that somebody else writes: the program's, and the document's.
-/
import Derived.Test.YtmmpafhfanldbaaDoorKRBack
namespace Go.Proofs.YtmmpafhfanldbaaDoor
open Go.RowKit (Grown Hid Below)
open Go.Deep
namespace K
set_option maxRecDepth 100000
/-- What is written: ahead of which step, where, and what. -/
structure Pk where
  s : Int
  c : Int
  v : Int
def pkA (p : Pk) : Array Value := #[.int .i64 p.s, .int .i64 p.c, .int .u64 p.v]
theorem isT_pk : IsT 75 3 := ⟨by kernel_rfl, _, Tryd.underlying75⟩
theorem three_new (T1 T2 T3 : TypeId) (w : World) (A B C : Array Value) {b : Nat} (hb : b = w.heap.size) : RW T1 (((w.alloc (.cells A T1)).alloc (.cells B T2)).alloc (.cells C T3)) b A ∧ RW T2 (((w.alloc (.cells A T1)).alloc (.cells B T2)).alloc (.cells C T3)) (b + 1) B ∧ RW T3 (((w.alloc (.cells A T1)).alloc (.cells B T2)).alloc (.cells C T3)) (b + 1 + 1) C ∧ Kept [] w (((w.alloc (.cells A T1)).alloc (.cells B T2)).alloc (.cells C T3)) := by
  subst hb
  refine ⟨((RW.new _ _ _).up _).up _, ?_, ?_, (((Kept.refl [] w).alloc _).alloc _).alloc _⟩
  · have z := (RW.new T2 (w.alloc (.cells A T1)) B).up (.cells C T3); rw [nblk_alloc] at z; exact z
  · have z := RW.new T3 ((w.alloc (.cells A T1)).alloc (.cells B T2)) C; rw [nblk_alloc, nblk_alloc] at z; exact z
theorem range_rm0 {w : World} {b n cap g : Nat} {c : Cfg} {cnt : Int} {a : Acc} (h : RW 35 w b (rmA c (some ⟨g, 0, none⟩) n cap cnt a)) : w.rangeAt b 0 [.int .i64 c.t, .int .i64 c.s, .int .i64 c.c, .int .i64 c.h, .int .i64 c.k, .int .i64 c.e, .int .i64 c.l] := fun j v hv => by
  refine cell_of_blk h ?_
  rw [Nat.zero_add]
  rcases j with _ | _ | _ | _ | _ | _ | _ | j
  all_goals first | exact hv | simp at hv
theorem range_rm7 {w : World} {b n cap g : Nat} {c : Cfg} {cnt : Int} {a : Acc} (h : RW 35 w b (rmA c (some ⟨g, 0, none⟩) n cap cnt a)) : w.rangeAt b 7 [.slice (some ⟨g, 0, none⟩) n cap, .int .i64 cnt, .int .i64 a.k, .int .i64 a.c, .int .u64 a.v, .int .u64 a.o, .int .u64 a.n, .bool a.d] := fun j v hv => by
  refine cell_of_blk h ?_
  rw [Nat.add_comm]
  rcases j with _ | _ | _ | _ | _ | _ | _ | _ | j
  all_goals first | exact hv | simp at hv
set_option maxHeartbeats 2000000 in
theorem pokedRef_any (st ce v : Int) (c : Cfg) (g : Nat) (cs : List Int) (cap : Nat) (cnt : Int) (a : Acc) (w : World) (hR : RowR w g cs cap) (hl : cs.length ≤ 17592186044415) (c0 : 0 ≤ cnt) (c1 : cnt < 4611686018427387904) :
    Calls Tryd.prog 39 #[.agg (rmA c (some ⟨g, 0, none⟩) cs.length cap cnt a), .agg (pkA ⟨st, ce, v⟩)] w fun e w' =>
      ∃ g' c', e = .returned (.agg (rmA c (some ⟨g', 0, none⟩) cs.length c' (cnt + 1) (acV cs 2 ce 0 0 v))) ∧ (g' = g ∨ w.heap.size ≤ g') ∧ RowR w' g' (clV cs 2 ce 0 v) c' ∧ Kept [] w w' := by
  have hgl := hR.lt
  have HL := hidOf (fun W (k : Kept [] w W) => rstore_any g cs cap cnt a ce 0 v W (hR.kept k (by simp)) hl c0 c1)
  clear hR hl
  generalize acV cs 2 ce 0 0 v = AC at *
  generalize clV cs 2 ce 0 v = CC at *
  generalize cs.length = n at *
  obtain ⟨b, hb⟩ : ∃ b, b = w.heap.size := ⟨_, rfl⟩
  have ST := hidOf (three_new 35 75 35 w (rmA c (some ⟨g, 0, none⟩) n cap cnt a) (pkA ⟨st, ce, v⟩) rmZ hb)
  go_enter Tryd.func39, Tryd.ntmps39
  go_upto_region 1 with (fail)
  rw [← hb]
  refine gen_world (fun W => RW 35 W b (rmA c (some ⟨g, 0, none⟩) n cap cnt a) ∧ RW 75 W (b + 1) (pkA ⟨st, ce, v⟩) ∧ RW 35 W (b + 1 + 1) rmZ ∧ Kept [] w W) ST.out ?_
  have hbw : w.heap.size ≤ b := by omega
  clear ST hb
  rintro W ⟨B0, P0, C0, hk⟩
  refine wp_region_held_drew (S := fun w' => RW 35 w' b (rmA c (some ⟨g, 0, none⟩) n cap cnt a) ∧ RW 75 w' (b + 1) (pkA ⟨st, ce, v⟩) ∧ ∃ O, RW 35 w' (b + 1 + 1) O) (by kernel_rfl) ⟨B0, P0, _, C0⟩ (fun hS => ?_)
  have hk' : Kept [] w W.drew := hk.drew
  have B0' : RW 35 W.drew b (rmA c (some ⟨g, 0, none⟩) n cap cnt a) := B0
  have C0' : RW 35 W.drew (b + 1 + 1) rmZ := C0
  have P0' : RW 75 W.drew (b + 1) (pkA ⟨st, ce, v⟩) := P0
  clear hk B0 C0 P0
  generalize W.drew = W at hk' B0' C0' P0' hS ⊢
  have hk := hk'
  have B0 := B0'
  have C0 := C0'
  have P0 := P0'
  clear hk' B0' C0' P0'
  refine wpAnyH_take (i := 0) (oi := { dst := some 5, op := Op.fieldAddr 35 (Operand.tmp 2) 0, type := 0, pos := "law.go:46", after := #[], guard := none }) (v := Value.pointer (some ⟨b, 0, none⟩)) rfl (by kernel_rfl) (by kernel_rfl) (by kernel_rfl) (fun _ _ _ h => h) (Or.inl ⟨rfl, fun _ _ => by kernel_rfl⟩) hS ?_
  try simp only [Act.put, List.setIfInBounds_toArray, List.set_cons_zero, List.set_cons_succ]
  refine wpAnyH_take (i := 1) (oi := { dst := some 6, op := Op.load 23 (Operand.tmp 5), type := 23, pos := "law.go:46", after := #[{ on := 0, ground := Ground.data }], guard := none }) (v := Value.agg #[.int .i64 c.t, .int .i64 c.s, .int .i64 c.c, .int .i64 c.h, .int .i64 c.k, .int .i64 c.e, .int .i64 c.l]) rfl (by kernel_rfl) (by kernel_rfl) (by kernel_rfl) (fun _ _ _ h => h) (yieldsIf_load_mid (P := Tryd.prog) rfl 23 (.tmp 5) rfl b 0 rfl [.int .i64 c.t, .int .i64 c.s, .int .i64 c.c, .int .i64 c.h, .int .i64 c.k, .int .i64 c.e, .int .i64 c.l] _ (fun _ h => range_rm0 h.1) Tryd.underlying23 rfl (by kernel_rfl)) hS ?_
  try simp only [Act.put, List.setIfInBounds_toArray, List.set_cons_zero, List.set_cons_succ]
  refine wpAnyH_take (i := 2) (oi := { dst := some 7, op := Op.fieldAddr 35 (Operand.tmp 2) 1, type := 0, pos := "law.go:46", after := #[], guard := none }) (v := Value.pointer (some ⟨b, 7, none⟩)) rfl (by kernel_rfl) (by kernel_rfl) (by kernel_rfl) (fun _ _ _ h => h) (Or.inl ⟨rfl, fun _ _ => by kernel_rfl⟩) hS ?_
  try simp only [Act.put, List.setIfInBounds_toArray, List.set_cons_zero, List.set_cons_succ]
  refine wpAnyH_take (i := 3) (oi := { dst := some 8, op := Op.load 33 (Operand.tmp 7), type := 33, pos := "law.go:46", after := #[{ on := 2, ground := Ground.data }], guard := none }) (v := Value.agg #[.slice (some ⟨g, 0, none⟩) n cap, .int .i64 cnt, .int .i64 a.k, .int .i64 a.c, .int .u64 a.v, .int .u64 a.o, .int .u64 a.n, .bool a.d]) rfl (by kernel_rfl) (by kernel_rfl) (by kernel_rfl) (fun _ _ _ h => h) (yieldsIf_load_mid (P := Tryd.prog) rfl 33 (.tmp 7) rfl b 7 rfl [.slice (some ⟨g, 0, none⟩) n cap, .int .i64 cnt, .int .i64 a.k, .int .i64 a.c, .int .u64 a.v, .int .u64 a.o, .int .u64 a.n, .bool a.d] _ (fun _ h => range_rm7 h.1) Tryd.underlying33 rfl (by kernel_rfl)) hS ?_
  try simp only [Act.put, List.setIfInBounds_toArray, List.set_cons_zero, List.set_cons_succ]
  refine wpAnyH_take (i := 4) (oi := { dst := some 9, op := Op.fieldAddr 75 (Operand.tmp 3) 1, type := 0, pos := "law.go:46", after := #[], guard := none }) (v := Value.pointer (some ⟨b + 1, 1, none⟩)) rfl (by kernel_rfl) (by kernel_rfl) (by kernel_rfl) (fun _ _ _ h => h) (Or.inl ⟨rfl, fun _ _ => by kernel_rfl⟩) hS ?_
  try simp only [Act.put, List.setIfInBounds_toArray, List.set_cons_zero, List.set_cons_succ]
  refine wpAnyH_take (i := 5) (oi := { dst := some 10, op := Op.load 3 (Operand.tmp 9), type := 3, pos := "law.go:46", after := #[{ on := 4, ground := Ground.data }], guard := none }) (v := Value.int .i64 ce) rfl (by kernel_rfl) (by kernel_rfl) (by kernel_rfl) (fun _ _ _ h => h) (Or.inl ⟨rfl, fun w hSw => by have z := cell_of_blk hSw.2.1 (i := 1) (v := .int .i64 ce) rfl; go_simp⟩) hS ?_
  try simp only [Act.put, List.setIfInBounds_toArray, List.set_cons_zero, List.set_cons_succ]
  refine wpAnyH_take (i := 6) (oi := { dst := some 11, op := Op.fieldAddr 75 (Operand.tmp 3) 2, type := 0, pos := "law.go:46", after := #[], guard := none }) (v := Value.pointer (some ⟨b + 1, 2, none⟩)) rfl (by kernel_rfl) (by kernel_rfl) (by kernel_rfl) (fun _ _ _ h => h) (Or.inl ⟨rfl, fun _ _ => by kernel_rfl⟩) hS ?_
  try simp only [Act.put, List.setIfInBounds_toArray, List.set_cons_zero, List.set_cons_succ]
  refine wpAnyH_take (i := 7) (oi := { dst := some 12, op := Op.load 29 (Operand.tmp 11), type := 29, pos := "law.go:46", after := #[{ on := 6, ground := Ground.data }], guard := none }) (v := Value.int .u64 v) rfl (by kernel_rfl) (by kernel_rfl) (by kernel_rfl) (fun _ _ _ h => h) (Or.inl ⟨rfl, fun w hSw => by have z := cell_of_blk hSw.2.1 (i := 2) (v := .int .u64 v) rfl; go_simp⟩) hS ?_
  try simp only [Act.put, List.setIfInBounds_toArray, List.set_cons_zero, List.set_cons_succ]
  refine wpAnyH_ready (rs := [8]) (by kernel_rfl) (by simp) ?_
  refine AllReadyH.cons (o := { dst := some 13, op := Op.call { callee := Callee.value (Operand.func 68), args := #[Operand.tmp 8, Operand.tmp 10, Operand.const (Value.int IntKind.u64 0), Operand.tmp 12], argTypes := #[33, 3, 29, 29] }, type := 33, pos := "law.go:46", after := #[{ on := 3, ground := Ground.data }, { on := 5, ground := Ground.data }, { on := 7, ground := Ground.data }], guard := none }) rfl (fun K hK => ?_) AllReadyH.nil
  rw [if_pos (by rfl)]
  refine wp_calls 68 #[.agg #[.slice (some ⟨g, 0, none⟩) n cap, .int .i64 cnt, .int .i64 a.k, .int .i64 a.c, .int .u64 a.v, .int .u64 a.o, .int .u64 a.n, .bool a.d], .int .i64 ce, .int .u64 0, .int .u64 v] (by kernel_rfl) (fun v V => (∃ g' c', v = .agg #[.slice (some ⟨g', 0, none⟩) n c', .int .i64 (cnt + 1), .int .i64 AC.k, .int .i64 AC.c, .int .u64 AC.v, .int .u64 AC.o, .int .u64 AC.n, .bool AC.d] ∧ (g' = g ∨ W.heap.size ≤ g') ∧ RowR V g' CC c') ∧ Kept [] W V) ((HL.out _ hk).mono fun e w' ⟨g', c', h1, h2, h3, h4⟩ => ⟨_, h1, ⟨g', c', rfl, h2, h3⟩, h4⟩) ?_
  rintro _ w8 ⟨⟨g', c', rfl, h2, h3⟩, K8⟩
  have B8 := B0.kept K8 (by simp)
  have P8 := P0.kept K8 (by simp)
  have C8 := C0.kept K8 (by simp)
  try simp only [Act.put, List.setIfInBounds_toArray, List.set_cons_zero, List.set_cons_succ]
  refine hK.out _ _ (⟨B8, P8, _, C8⟩) (fun hS => ?_)
  clear hK K
  refine wpAnyH_take (i := 9) (oi := { dst := some 14, op := Op.build 35 #[(0, Operand.tmp 6), (1, Operand.tmp 13)], type := 35, pos := "law.go:46", after := #[{ on := 1, ground := Ground.data }, { on := 8, ground := Ground.data }], guard := none }) (v := Value.agg (rmA c (some ⟨g', 0, none⟩) n c' (cnt + 1) AC)) rfl (by kernel_rfl) (by kernel_rfl) (by kernel_rfl) (fun _ _ _ h => h) (Or.inl ⟨rfl, fun _ _ => by kernel_rfl⟩) hS ?_
  try simp only [Act.put, List.setIfInBounds_toArray, List.set_cons_zero, List.set_cons_succ]
  refine wpAnyH_ready (rs := [10]) (by kernel_rfl) (by simp) ?_
  refine AllReadyH.cons (o := { dst := none, op := Op.store 35 (Operand.tmp 4) (Operand.tmp 14), type := 0, pos := "law.go:46", after := #[{ on := 9, ground := Ground.data }, { on := 8, ground := Ground.chain }, { on := 0, ground := Ground.phase }, { on := 1, ground := Ground.phase }, { on := 2, ground := Ground.phase }, { on := 3, ground := Ground.phase }, { on := 4, ground := Ground.phase }, { on := 5, ground := Ground.phase }, { on := 6, ground := Ground.phase }, { on := 7, ground := Ground.phase }, { on := 8, ground := Ground.phase }, { on := 9, ground := Ground.phase }], guard := none }) rfl (fun K hK => ?_) AllReadyH.nil
  rw [if_pos (by rfl)]
  have o1 := C0.lt
  refine wp_store_row 35 (.tmp 4) (.tmp 14) rfl (b + 1 + 1) (rmA c (some ⟨g', 0, none⟩) n c' (cnt + 1) AC) rfl rfl 35 rmZ C8 (by rw [isT_rm.1]; rfl) rfl (rm_one _ _ _ _ _ _) ?_
  have D := C8.row (rmA c (some ⟨g', 0, none⟩) n c' (cnt + 1) AC)
  simp only [Act.put]
  refine hK.out _ _ (⟨B8.rowOther _ (by omega), P8.rowOther _ (by omega), _, D⟩) (fun hS => ?_)
  clear hK K
  refine wpAnyH_done (by kernel_rfl) ?_ _
  go_wp2
  refine bodyPost_ret (v := .agg (rmA c (some ⟨g', 0, none⟩) n c' (cnt + 1) AC)) ?_ rfl ⟨g', c', rfl, ?_, ?_, ?_⟩
  · obtain ⟨fs, hu⟩ := isT_rm.2
    exact results_cell_row Tryd.results39 _ _ (b + 1 + 1) 35 _ (0, 0) _ rfl D hu rfl (by rw [isT_rm.1]; rfl)
  · have := hk.size; exact h2.imp id (fun h => by omega)
  · refine rowR_far (l := [b + 1 + 1]) (w := w) (W := W) h3 ((Kept.refl [b + 1 + 1] w8).setRow (Or.inl (by simp)) _) (by simp; omega) hgl h2
  · exact (hk.trans K8).setRow (Or.inr (by omega)) _
end K
end Go.Proofs.YtmmpafhfanldbaaDoor

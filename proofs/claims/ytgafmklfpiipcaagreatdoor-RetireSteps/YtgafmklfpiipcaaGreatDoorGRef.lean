/-
  The document's guard, as a value: its thread, its latest era, how many reservations it used; what each call makes of it.
-/
import Derived.Test.YtgafmklfpiipcaaGreatDoorGSt
namespace Go.Proofs.YtgafmklfpiipcaaGreatDoor
open Go.RowKit (Grown Hid Below)
open Go.Deep
namespace K
set_option maxRecDepth 100000
def rgA (g : Gs) : Array Value := #[.int .i64 g.t, .int .u64 g.l, .int .i64 g.u]
def rgZ : Array Value := #[.int .i64 0, .int .u64 0, .int .i64 0]
theorem isT_rg : IsT 51 3 := ⟨by kernel_rfl, _, Tryz.underlying51⟩
theorem rg_one (g : Gs) : (rgA g).all (·.oneCell') = true := by simp [rgA, Value.oneCell']
theorem results_r12 {fn : Func} {p q1 q2 : Tmp} {T n : Nat} (h : fn.results = #[.cell p T, .tmp q1, .tmp q2]) (h1 : IsT T n) (tmps : Array Value) (w : World) (c1 : Nat) (A : Array Value) (x y : Value) (hA : A.size = n)
    (hp : tmps.getD p undef = .pointer (some ⟨c1, 0, none⟩)) (hx : tmps.getD q1 undef = x) (hy : tmps.getD q2 undef = y) (r1 : RW T w c1 A) :
    (results fn tmps).run Tryz.prog w = .ok (.tuple #[.agg A, x, y]) w := by
  obtain ⟨f1, u1⟩ := h1.2
  have hp' : tmps[p]?.getD undef = .pointer (some ⟨c1, 0, none⟩) := by simpa using hp
  have hx' : tmps[q1]?.getD undef = x := by simpa using hx
  have hy' : tmps[q2]?.getD undef = y := by simpa using hy
  simp [results, h, hp', hx', hy', asAddr, run_loadVar_row w c1 T T A (0, 0) _ r1 u1 rfl (by rw [h1.1, hA])]
theorem results_r21 {fn : Func} {p q s : Tmp} {T1 T2 n1 n2 : Nat} (h : fn.results = #[.cell p T1, .cell q T2, .tmp s]) (h1 : IsT T1 n1) (h2 : IsT T2 n2) (tmps : Array Value) (w : World) (c1 c2 : Nat) (A B : Array Value) (x : Value) (hA : A.size = n1) (hB : B.size = n2)
    (hp : tmps.getD p undef = .pointer (some ⟨c1, 0, none⟩)) (hq : tmps.getD q undef = .pointer (some ⟨c2, 0, none⟩)) (hx : tmps.getD s undef = x) (r1 : RW T1 w c1 A) (r2 : RW T2 w c2 B) :
    (results fn tmps).run Tryz.prog w = .ok (.tuple #[.agg A, .agg B, x]) w := by
  obtain ⟨f1, u1⟩ := h1.2
  obtain ⟨f2, u2⟩ := h2.2
  have hp' : tmps[p]?.getD undef = .pointer (some ⟨c1, 0, none⟩) := by simpa using hp
  have hq' : tmps[q]?.getD undef = .pointer (some ⟨c2, 0, none⟩) := by simpa using hq
  have hx' : tmps[s]?.getD undef = x := by simpa using hx
  simp [results, h, hp', hq', hx', asAddr, run_loadVar_row w c1 T1 T1 A (0, 0) _ r1 u1 rfl (by rw [h1.1, hA]), run_loadVar_row w c2 T2 T2 B (0, 0) _ r2 u2 rfl (by rw [h2.1, hB])]
set_option maxHeartbeats 4000000 in
theorem rcheck_any (s : Gs) (c : Cfg) (g : Nat) (cs : List Int) (cap : Nat) (cnt : Int) (a : Acc) (w : World) (hR : RowR w g cs cap) (hl : cs.length ≤ 17592186044415) (c0 : 0 ≤ cnt) (c1 : cnt < 4611686018427387904) :
    Calls Tryz.prog 65 #[.agg (rgA s), .agg (rmA c (some ⟨g, 0, none⟩) cs.length cap cnt a)] w fun e w' =>
      ∃ g' c', e = .returned (.tuple #[.agg (rmA c (some ⟨g', 0, none⟩) cs.length c' (cnt + 1) (acV cs 1 0 0 0 0)), .int .u64 (acV cs 1 0 0 0 0).o, .bool ((acV cs 1 0 0 0 0).o == s.l)]) ∧ (g' = g ∨ w.heap.size ≤ g') ∧ RowR w' g' cs c' ∧ Kept [] w w' := by
  have hgl := hR.lt
  have HL := hidOf (fun W (k : Kept [] w W) => qclock_any c g cs cap cnt a W (hR.kept k (by simp)) hl c0 c1)
  rw [clV_load] at HL
  clear hR hl
  generalize acV cs 1 0 0 0 0 = AC at *
  obtain ⟨n, hn⟩ : ∃ n, n = cs.length := ⟨_, rfl⟩
  rw [← hn] at HL ⊢
  clear hn
  obtain ⟨A, hAe⟩ : ∃ A, A = rmA c (some ⟨g, 0, none⟩) n cap cnt a := ⟨_, rfl⟩
  have hA : A.size = 15 := by rw [hAe]; rfl
  have HLr : Hid (∀ W, Kept [] w W → Calls Tryz.prog 36 #[.agg A] W fun e w' => ∃ g' c', e = .returned (.tuple #[.agg (rmA c (some ⟨g', 0, none⟩) n c' (cnt + 1) AC), .int .u64 AC.o]) ∧ (g' = g ∨ W.heap.size ≤ g') ∧ RowR w' g' cs c' ∧ Kept [] W w') := by rw [hAe]; exact HL.out
  rw [← hAe]
  clear HL hAe
  obtain ⟨b, hb⟩ : ∃ b, b = w.heap.size := ⟨_, rfl⟩
  have ST := hidOf (three_new 51 35 35 w (rgA s) A rmZ hb)
  go_enter Tryz.func65, Tryz.ntmps65
  go_upto_region 1 with (fail)
  rw [← hb]
  refine gen_world (fun W => RW 51 W b (rgA s) ∧ RW 35 W (b + 1) A ∧ RW 35 W (b + 1 + 1) rmZ ∧ Kept [] w W) ST.out ?_
  have hbw : w.heap.size ≤ b := by omega
  clear ST hb
  rintro W ⟨B0, M0, Z0, hk⟩
  have HC := hidOf (HLr.out W hk)
  clear HLr
  go_wp2_with (first | ((with_reducible change wpList _ _ _ (Oper.mk _ (Op.load 35 (Operand.tmp 3)) _ _ _ _ :: _) _ _); refine wpList_load_rw 35 isT_rm rfl (.tmp 3) rfl (b + 1) rfl A hA M0 ?_))
  refine HC.out.mono ?_
  rintro e w1 ⟨g', c', rfl, h2, R1, K1⟩
  have szw := hk.size
  have szz := Z0.lt
  have h2' : g' = g ∨ w.heap.size ≤ g' := h2.imp id (fun h => by omega)
  clear HC
  obtain ⟨d, hd⟩ : ∃ d, d = w1.heap.size := ⟨_, rfl⟩
  go_upto_region 2 with (first | ((with_reducible change wpList _ _ _ (Oper.mk _ (Op.store 35 (Operand.tmp 7) _) _ _ _ _ :: _) _ _); refine wpList_store_rw 35 isT_rm rfl (.tmp 7) (.tmp 12) rfl w1.heap.size (rmA c (some ⟨g', 0, none⟩) n c' (cnt + 1) AC) rfl rfl rfl (rm_one _ _ _ _ _ _) rmZ (RW.new 35 w1 rmZ) rfl ?_))
  rw [← hd]
  refine gen_world (fun V => RW 35 V d (rmA c (some ⟨g', 0, none⟩) n c' (cnt + 1) AC) ∧ Kept [] w1 V) ?_ ?_
  · rw [hd]; exact ⟨(RW.new 35 w1 rmZ).row _, ((Kept.refl [] w1).alloc _).setRow (Or.inr (Nat.le_refl _)) _⟩
  have hd1 : w1.heap.size ≤ d := by omega
  clear hd
  rintro V ⟨D0', KV'⟩
  have zl := (Z0.kept K1 (by simp)).lt
  have gz : ¬ g' = b + 1 + 1 := fun e => by obtain ⟨rest, z, _⟩ := R1; rw [e, Z0.kept K1 (by simp)] at z; simp at z
  have gq : ¬ g' = d := by have := R1.lt; omega
  have FX : Hid (RW 35 V.drew d (rmA c (some ⟨g', 0, none⟩) n c' (cnt + 1) AC) ∧ RW 51 V.drew b (rgA s) ∧ RW 35 V.drew (b + 1 + 1) rmZ ∧ RowR V.drew g' cs c' ∧ Kept [] w V.drew) :=
    ⟨D0'.drew, (B0.kept (K1.trans KV') (by simp)).drew, (Z0.kept (K1.trans KV') (by simp)).drew, R1.kept KV'.drew (by simp), (hk.trans (K1.trans KV')).drew⟩
  refine wp_region_held_drew (S := fun w' => RW 35 w' d (rmA c (some ⟨g', 0, none⟩) n c' (cnt + 1) AC) ∧ RW 51 w' b (rgA s) ∧ ∃ O, RW 35 w' (b + 1 + 1) O) (by kernel_rfl) ⟨D0'.drew, B0.kept (K1.trans KV'.drew) (by simp), _, Z0.kept (K1.trans KV'.drew) (by simp)⟩ (fun hS => ?_)
  clear D0' KV' K1 R1 B0 M0 Z0 hk h2
  have h2 := h2'
  clear h2'
  generalize V.drew = V at FX hS ⊢
  obtain ⟨D0, B0, Z0, R2, KV⟩ := FX.out
  clear FX
  refine wpAnyH_take (i := 0) (oi := { dst := some 14, op := Op.load 35 (Operand.tmp 7), type := 35, pos := "ref.go:16", after := #[], guard := none }) (v := Value.agg (rmA c (some ⟨g', 0, none⟩) n c' (cnt + 1) AC)) rfl (by kernel_rfl) (by kernel_rfl) (by kernel_rfl) (fun _ _ _ h => h) (yieldsIf_load_rw rfl 35 isT_rm (.tmp 7) rfl d rfl (rmA c (some ⟨g', 0, none⟩) n c' (cnt + 1) AC) rfl (fun _ h => h.1)) hS ?_
  try simp only [Act.put, List.setIfInBounds_toArray, List.set_cons_zero, List.set_cons_succ]
  refine wpAnyH_take (i := 1) (oi := { dst := some 15, op := Op.move (Operand.tmp 8), type := 25, pos := "ref.go:16", after := #[{ on := 6, ground := Ground.gcOnly Departure.lateStores }], guard := none }) (v := Value.int .u64 AC.o) rfl (by kernel_rfl) (by kernel_rfl) (by kernel_rfl) (fun _ _ _ h => h) (Or.inl ⟨rfl, fun _ _ => by kernel_rfl⟩) hS ?_
  try simp only [Act.put, List.setIfInBounds_toArray, List.set_cons_zero, List.set_cons_succ]
  refine wpAnyH_take (i := 2) (oi := { dst := some 16, op := Op.move (Operand.tmp 8), type := 25, pos := "ref.go:16", after := #[{ on := 7, ground := Ground.gcOnly Departure.lateStores }], guard := none }) (v := Value.int .u64 AC.o) rfl (by kernel_rfl) (by kernel_rfl) (by kernel_rfl) (fun _ _ _ h => h) (Or.inl ⟨rfl, fun _ _ => by kernel_rfl⟩) hS ?_
  try simp only [Act.put, List.setIfInBounds_toArray, List.set_cons_zero, List.set_cons_succ]
  refine wpAnyH_take (i := 3) (oi := { dst := some 17, op := Op.fieldAddr 51 (Operand.tmp 2) 1, type := 0, pos := "ref.go:16", after := #[{ on := 7, ground := Ground.gcOnly Departure.lateStores }], guard := none }) (v := Value.pointer (some ⟨b, 1, none⟩)) rfl (by kernel_rfl) (by kernel_rfl) (by kernel_rfl) (fun _ _ _ h => h) (Or.inl ⟨rfl, fun _ _ => by kernel_rfl⟩) hS ?_
  try simp only [Act.put, List.setIfInBounds_toArray, List.set_cons_zero, List.set_cons_succ]
  refine wpAnyH_take (i := 4) (oi := { dst := some 18, op := Op.load 25 (Operand.tmp 17), type := 25, pos := "ref.go:16", after := #[{ on := 3, ground := Ground.data }, { on := 7, ground := Ground.gcOnly Departure.lateStores }], guard := none }) (v := Value.int .u64 s.l) rfl (by kernel_rfl) (by kernel_rfl) (by kernel_rfl) (fun _ _ _ h => h) (Or.inl ⟨rfl, fun w hSw => by have z := cell_of_blk hSw.2.1 (i := 1) (v := .int .u64 s.l) rfl; go_simp⟩) hS ?_
  try simp only [Act.put, List.setIfInBounds_toArray, List.set_cons_zero, List.set_cons_succ]
  refine wpAnyH_take (i := 5) (oi := { dst := some 19, op := Op.binOp BinOp.eql 25 (Operand.tmp 16) (Operand.tmp 18) 25, type := 4, pos := "ref.go:16", after := #[{ on := 2, ground := Ground.data }, { on := 4, ground := Ground.data }, { on := 7, ground := Ground.gcOnly Departure.lateStores }], guard := none }) (v := Value.bool (AC.o == s.l)) rfl (by kernel_rfl) (by kernel_rfl) (by kernel_rfl) (fun _ _ _ h => h) (Or.inl ⟨rfl, fun _ _ => by go_simp⟩) hS ?_
  try simp only [Act.put, List.setIfInBounds_toArray, List.set_cons_zero, List.set_cons_succ]
  refine wpAnyH_ready (rs := [6]) (by kernel_rfl) (by simp) ?_
  refine AllReadyH.cons (o := { dst := none, op := Op.store 35 (Operand.tmp 4) (Operand.tmp 14), type := 0, pos := "ref.go:16", after := #[{ on := 0, ground := Ground.data }, { on := 0, ground := Ground.phase }, { on := 1, ground := Ground.textOnly Departure.lateStores }, { on := 2, ground := Ground.textOnly Departure.lateStores }, { on := 3, ground := Ground.textOnly Departure.lateStores }, { on := 4, ground := Ground.textOnly Departure.lateStores }, { on := 5, ground := Ground.textOnly Departure.lateStores }], guard := none }) rfl (fun K hK => ?_) AllReadyH.nil
  rw [if_pos (by rfl)]
  refine wp_store_row 35 (.tmp 4) (.tmp 14) rfl (b + 1 + 1) (rmA c (some ⟨g', 0, none⟩) n c' (cnt + 1) AC) rfl rfl 35 rmZ Z0 (by rw [isT_rm.1]; rfl) rfl (rm_one _ _ _ _ _ _) ?_
  have D := Z0.row (rmA c (some ⟨g', 0, none⟩) n c' (cnt + 1) AC)
  simp only [Act.put]
  refine hK.out _ _ (⟨D0.rowOther _ (by omega), B0.rowOther _ (by omega), _, D⟩) (fun hS => ?_)
  clear hK K
  refine wpAnyH_take (i := 7) (oi := { dst := some 5, op := Op.assign (Operand.tmp 15), type := 25, pos := "ref.go:16", after := #[{ on := 1, ground := Ground.data }, { on := 6, ground := Ground.chain }, { on := 0, ground := Ground.phase }, { on := 1, ground := Ground.phase }, { on := 2, ground := Ground.textOnly Departure.lateStores }, { on := 3, ground := Ground.textOnly Departure.lateStores }, { on := 4, ground := Ground.textOnly Departure.lateStores }, { on := 5, ground := Ground.textOnly Departure.lateStores }, { on := 6, ground := Ground.phase }], guard := none }) (v := Value.int .u64 AC.o) rfl (by kernel_rfl) (by kernel_rfl) (by kernel_rfl) (fun _ _ _ h => h) (Or.inl ⟨rfl, fun _ _ => by kernel_rfl⟩) hS ?_
  try simp only [Act.put, List.setIfInBounds_toArray, List.set_cons_zero, List.set_cons_succ]
  refine wpAnyH_take (i := 8) (oi := { dst := some 6, op := Op.assign (Operand.tmp 19), type := 4, pos := "ref.go:16", after := #[{ on := 5, ground := Ground.data }, { on := 7, ground := Ground.chain }, { on := 0, ground := Ground.phase }, { on := 1, ground := Ground.phase }, { on := 2, ground := Ground.phase }, { on := 3, ground := Ground.phase }, { on := 4, ground := Ground.phase }, { on := 5, ground := Ground.phase }, { on := 6, ground := Ground.phase }, { on := 7, ground := Ground.phase }], guard := none }) (v := Value.bool (AC.o == s.l)) rfl (by kernel_rfl) (by kernel_rfl) (by kernel_rfl) (fun _ _ _ h => h) (Or.inl ⟨rfl, fun _ _ => by kernel_rfl⟩) hS ?_
  try simp only [Act.put, List.setIfInBounds_toArray, List.set_cons_zero, List.set_cons_succ]
  refine wpAnyH_done (by kernel_rfl) ?_ _
  clear hS
  go_wp2
  refine bodyPost_ret (v := .tuple #[.agg (rmA c (some ⟨g', 0, none⟩) n c' (cnt + 1) AC), .int .u64 AC.o, .bool (AC.o == s.l)]) ?_ rfl ⟨g', c', rfl, ?_, ?_, ?_⟩
  · exact results_r12 Tryz.results65 isT_rm _ _ (b + 1 + 1) _ _ _ rfl rfl rfl rfl D
  · exact h2
  · exact R2.kept ((Kept.refl [b + 1 + 1] V).setRow (Or.inl (by simp)) _) (by simp; omega)
  · exact KV.setRow (Or.inr (by omega)) _
set_option maxHeartbeats 4000000 in
theorem rpublish_any (s : Gs) (c : Cfg) (g : Nat) (cs : List Int) (cap : Nat) (cnt : Int) (a : Acc) (e : Int) (w : World) (hR : RowR w g cs cap) (hl : cs.length ≤ 17592186044415) (u0 : 0 ≤ s.u) (u1 : s.u < 1000) (c0 : 0 ≤ cnt) (c1 : cnt < 4611686018427387904) :
    Calls Tryz.prog 66 #[.agg (rgA s), .agg (rmA c (some ⟨g, 0, none⟩) cs.length cap cnt a), .int .u64 e] w fun ee w' =>
      ∃ g' c', ee = .returned (.tuple #[.agg (rgA (pubG c s e)), .agg (rmA c (some ⟨g', 0, none⟩) cs.length c' (cnt + 1) (acV cs 2 (rsV c s.t (pubN c s)) 0 0 e)), .bool (decide (s.u < c.s))]) ∧ (g' = g ∨ w.heap.size ≤ g') ∧ RowR w' g' (clV cs 2 (rsV c s.t (pubN c s)) 0 e) c' ∧ Kept [] w w' := by
  have hgl := hR.lt
  have HL := hidOf (fun W (k : Kept [] w W) => qreserve_any c g cs cap cnt a s.t (pubN c s) e W (hR.kept k (by simp)) hl c0 c1)
  have EG : rgA (pubG c s e) = rgA ⟨pubN c s + 1, e, s.t⟩ := rfl
  rw [EG]
  clear EG hR hl
  generalize acV cs 2 (rsV c s.t (pubN c s)) 0 0 e = AC at *
  generalize clV cs 2 (rsV c s.t (pubN c s)) 0 e = CC at *
  obtain ⟨n, hn⟩ : ∃ n, n = cs.length := ⟨_, rfl⟩
  rw [← hn] at HL ⊢
  clear hn
  obtain ⟨A, hAe⟩ : ∃ A, A = rmA c (some ⟨g, 0, none⟩) n cap cnt a := ⟨_, rfl⟩
  have hA : A.size = 15 := by rw [hAe]; rfl
  have hA1 : A[1]? = some (.int .i64 c.s) := by rw [hAe]; rfl
  have HLr : Hid (∀ W, Kept [] w W → Calls Tryz.prog 91 #[.agg A, .int .i64 s.t, .int .i64 (pubN c s), .int .u64 e] W fun e w' => ∃ g' c', e = .returned (.agg (rmA c (some ⟨g', 0, none⟩) n c' (cnt + 1) AC)) ∧ (g' = g ∨ W.heap.size ≤ g') ∧ RowR w' g' CC c' ∧ Kept [] W w') := by rw [hAe]; exact HL.out
  rw [← hAe]
  clear HL hAe
  obtain ⟨b, hb⟩ : ∃ b, b = w.heap.size := ⟨_, rfl⟩
  have ST := hidOf (R4.start 51 35 w (rgA s) A rgZ rmZ hb)
  by_cases hu : s.u < c.s
  · rw [show pubN c s = s.u from if_pos hu] at HLr ⊢
    rw [show decide (s.u < c.s) = true from decide_eq_true hu]
    go_enter Tryz.func66, Tryz.ntmps66
    go_upto_region 1 with (fail)
    rw [← hb]
    refine gen_world (fun W => R4 51 35 w W b (rgA s) A rgZ rmZ) ST.out ?_
    have hbw : w.heap.size ≤ b := by omega
    clear ST hb
    rintro W RR
    have q2 := cell_of_blk RR.c (i := 2) (v := .int .i64 s.u) rfl
    have q1 := cell_of_blk RR.m (i := 1) hA1
    go_upto_region 5 with (fail)
    refine gen_world (fun V => R4 51 35 w V b (rgA s) A rgZ rmZ) RR ?_
    clear q1 q2 RR
    rintro V0 RR'
    have FX := hidOf RR'
    clear RR'
    refine wp_region_held_drew (S := fun w' => RW 51 w' b (rgA s) ∧ RW 35 w' (b + 1) A ∧ (∃ O, RW 51 w' (b + 1 + 1) O) ∧ ∃ O, RW 35 w' (b + 1 + 1 + 1) O) (by kernel_rfl) ⟨FX.out.c, FX.out.m, ⟨_, FX.out.c'⟩, _, FX.out.m'⟩ (fun hS => ?_)
    replace FX := hidOf (FX.out.new (Kept.refl [] V0).drew)
    generalize V0.drew = V at FX hS ⊢
    obtain ⟨B0, M0, Y0, Z0, hk, -⟩ := FX.out
    clear FX
    refine wpAnyH_take (i := 0) (oi := { dst := some 20, op := Op.fieldAddr 51 (Operand.tmp 3) 0, type := 0, pos := "ref.go:26", after := #[], guard := none }) (v := Value.pointer (some ⟨b, 0, none⟩)) rfl (by kernel_rfl) (by kernel_rfl) (by kernel_rfl) (fun _ _ _ h => h) (Or.inl ⟨rfl, fun _ _ => by kernel_rfl⟩) hS ?_
    try simp only [Act.put, List.setIfInBounds_toArray, List.set_cons_zero, List.set_cons_succ]
    refine wpAnyH_take (i := 1) (oi := { dst := some 21, op := Op.load 3 (Operand.tmp 20), type := 3, pos := "ref.go:26", after := #[{ on := 0, ground := Ground.data }], guard := none }) (v := Value.int .i64 s.t) rfl (by kernel_rfl) (by kernel_rfl) (by kernel_rfl) (fun _ _ _ h => h) (Or.inl ⟨rfl, fun w hSw => by have z := cell_of_blk hSw.1 (i := 0) (v := .int .i64 s.t) rfl; go_simp⟩) hS ?_
    try simp only [Act.put, List.setIfInBounds_toArray, List.set_cons_zero, List.set_cons_succ]
    refine wpAnyH_take (i := 2) (oi := { dst := some 22, op := Op.move (Operand.tmp 2), type := 25, pos := "ref.go:26", after := #[], guard := none }) (v := Value.int .u64 e) rfl (by kernel_rfl) (by kernel_rfl) (by kernel_rfl) (fun _ _ _ h => h) (Or.inl ⟨rfl, fun _ _ => by kernel_rfl⟩) hS ?_
    try simp only [Act.put, List.setIfInBounds_toArray, List.set_cons_zero, List.set_cons_succ]
    refine wpAnyH_take (i := 3) (oi := { dst := some 23, op := Op.move (Operand.tmp 9), type := 3, pos := "ref.go:26", after := #[], guard := none }) (v := Value.int .i64 s.u) rfl (by kernel_rfl) (by kernel_rfl) (by kernel_rfl) (fun _ _ _ h => h) (Or.inl ⟨rfl, fun _ _ => by kernel_rfl⟩) hS ?_
    try simp only [Act.put, List.setIfInBounds_toArray, List.set_cons_zero, List.set_cons_succ]
    refine wpAnyH_take (i := 4) (oi := { dst := some 24, op := Op.binOp BinOp.add 3 (Operand.tmp 23) (Operand.const (Value.int IntKind.i64 1)) 3, type := 3, pos := "ref.go:26", after := #[{ on := 3, ground := Ground.data }], guard := none }) (v := Value.int .i64 (s.u + 1)) rfl (by kernel_rfl) (by kernel_rfl) (by kernel_rfl) (fun _ _ _ h => h) (Or.inl ⟨rfl, fun _ _ => by go_simp; first | rfl | (rw [IntKind.wrap_i64]; omega)⟩) hS ?_
    try simp only [Act.put, List.setIfInBounds_toArray, List.set_cons_zero, List.set_cons_succ]
    refine wpAnyH_take (i := 5) (oi := { dst := some 25, op := Op.build 51 #[(0, Operand.tmp 21), (1, Operand.tmp 22), (2, Operand.tmp 24)], type := 51, pos := "ref.go:26", after := #[{ on := 1, ground := Ground.data }, { on := 2, ground := Ground.data }, { on := 4, ground := Ground.data }], guard := none }) (v := Value.agg (rgA ⟨s.u + 1, e, s.t⟩)) rfl (by kernel_rfl) (by kernel_rfl) (by kernel_rfl) (fun _ _ _ h => h) (Or.inl ⟨rfl, fun _ _ => by kernel_rfl⟩) hS ?_
    try simp only [Act.put, List.setIfInBounds_toArray, List.set_cons_zero, List.set_cons_succ]
    refine wpAnyH_take (i := 6) (oi := { dst := some 26, op := Op.load 35 (Operand.tmp 4), type := 35, pos := "ref.go:26", after := #[], guard := none }) (v := Value.agg A) rfl (by kernel_rfl) (by kernel_rfl) (by kernel_rfl) (fun _ _ _ h => h) (yieldsIf_load_rw rfl 35 isT_rm (.tmp 4) rfl (b + 1) rfl A hA (fun _ h => h.2.1)) hS ?_
    try simp only [Act.put, List.setIfInBounds_toArray, List.set_cons_zero, List.set_cons_succ]
    refine wpAnyH_take (i := 7) (oi := { dst := some 27, op := Op.fieldAddr 51 (Operand.tmp 3) 0, type := 0, pos := "ref.go:26", after := #[], guard := none }) (v := Value.pointer (some ⟨b, 0, none⟩)) rfl (by kernel_rfl) (by kernel_rfl) (by kernel_rfl) (fun _ _ _ h => h) (Or.inl ⟨rfl, fun _ _ => by kernel_rfl⟩) hS ?_
    try simp only [Act.put, List.setIfInBounds_toArray, List.set_cons_zero, List.set_cons_succ]
    refine wpAnyH_take (i := 8) (oi := { dst := some 28, op := Op.load 3 (Operand.tmp 27), type := 3, pos := "ref.go:26", after := #[{ on := 7, ground := Ground.data }], guard := none }) (v := Value.int .i64 s.t) rfl (by kernel_rfl) (by kernel_rfl) (by kernel_rfl) (fun _ _ _ h => h) (Or.inl ⟨rfl, fun w hSw => by have z := cell_of_blk hSw.1 (i := 0) (v := .int .i64 s.t) rfl; go_simp⟩) hS ?_
    try simp only [Act.put, List.setIfInBounds_toArray, List.set_cons_zero, List.set_cons_succ]
    refine wpAnyH_take (i := 9) (oi := { dst := some 29, op := Op.move (Operand.tmp 9), type := 3, pos := "ref.go:26", after := #[], guard := none }) (v := Value.int .i64 s.u) rfl (by kernel_rfl) (by kernel_rfl) (by kernel_rfl) (fun _ _ _ h => h) (Or.inl ⟨rfl, fun _ _ => by kernel_rfl⟩) hS ?_
    try simp only [Act.put, List.setIfInBounds_toArray, List.set_cons_zero, List.set_cons_succ]
    refine wpAnyH_take (i := 10) (oi := { dst := some 30, op := Op.move (Operand.tmp 2), type := 25, pos := "ref.go:26", after := #[], guard := none }) (v := Value.int .u64 e) rfl (by kernel_rfl) (by kernel_rfl) (by kernel_rfl) (fun _ _ _ h => h) (Or.inl ⟨rfl, fun _ _ => by kernel_rfl⟩) hS ?_
    try simp only [Act.put, List.setIfInBounds_toArray, List.set_cons_zero, List.set_cons_succ]
    refine wpAnyH_take (i := 12) (oi := { dst := some 32, op := Op.move (Operand.tmp 10), type := 4, pos := "ref.go:26", after := #[{ on := 14, ground := Ground.gcOnly Departure.lateStores }], guard := none }) (v := Value.bool true) rfl (by kernel_rfl) (by kernel_rfl) (by kernel_rfl) (fun _ _ _ h => h) (Or.inl ⟨rfl, fun _ _ => by kernel_rfl⟩) hS ?_
    try simp only [Act.put, List.setIfInBounds_toArray, List.set_cons_zero, List.set_cons_succ]
    refine wpAnyH_ready (rs := [11]) (by kernel_rfl) (by simp) ?_
    refine AllReadyH.cons (o := { dst := some 31, op := Op.call { callee := Callee.value (Operand.func 91), args := #[Operand.tmp 26, Operand.tmp 28, Operand.tmp 29, Operand.tmp 30], argTypes := #[35, 3, 3, 25] }, type := 35, pos := "ref.go:26", after := #[{ on := 6, ground := Ground.data }, { on := 8, ground := Ground.data }, { on := 9, ground := Ground.data }, { on := 10, ground := Ground.data }], guard := none }) rfl (fun K hK => ?_) AllReadyH.nil
    rw [if_pos (by rfl)]
    refine wp_calls 91 #[.agg A, .int .i64 s.t, .int .i64 s.u, .int .u64 e] (by kernel_rfl) (fun v U => (∃ g' c', v = .agg (rmA c (some ⟨g', 0, none⟩) n c' (cnt + 1) AC) ∧ (g' = g ∨ V.heap.size ≤ g') ∧ RowR U g' CC c') ∧ Kept [] V U) ((HLr.out _ hk).mono fun e w' ⟨g', c', h1, h2, h3, h4⟩ => ⟨_, h1, ⟨g', c', rfl, h2, h3⟩, h4⟩) ?_
    rintro _ w1 ⟨⟨g', c', rfl, h2, R1⟩, K1⟩
    have gy : ¬ g' = b + 1 + 1 := fun e => by obtain ⟨rest, z, _⟩ := R1; rw [e, Y0.kept K1 (by simp)] at z; simp at z
    have gz : ¬ g' = b + 1 + 1 + 1 := fun e => by obtain ⟨rest, z, _⟩ := R1; rw [e, Z0.kept K1 (by simp)] at z; simp at z
    replace B0 := B0.kept K1 (by simp)
    replace M0 := M0.kept K1 (by simp)
    replace Y0 := Y0.kept K1 (by simp)
    replace Z0 := Z0.kept K1 (by simp)
    have szk := hk.size
    have h2' : g' = g ∨ w.heap.size ≤ g' := h2.imp id (fun h => by omega)
    have hk1 := hk.trans K1
    have szv := Z0.lt
    try simp only [Act.put, List.setIfInBounds_toArray, List.set_cons_zero, List.set_cons_succ]
    refine hK.out _ _ (⟨B0, M0, ⟨_, Y0⟩, _, Z0⟩) (fun hS => ?_)
    clear hK K
    refine wpAnyH_ready (rs := [13]) (by kernel_rfl) (by simp) ?_
    refine AllReadyH.cons (o := { dst := none, op := Op.store 51 (Operand.tmp 6) (Operand.tmp 25), type := 0, pos := "ref.go:26", after := #[{ on := 5, ground := Ground.data }, { on := 11, ground := Ground.chain }, { on := 0, ground := Ground.phase }, { on := 1, ground := Ground.phase }, { on := 2, ground := Ground.phase }, { on := 3, ground := Ground.phase }, { on := 4, ground := Ground.phase }, { on := 5, ground := Ground.phase }, { on := 6, ground := Ground.textOnly Departure.lateStores }, { on := 7, ground := Ground.textOnly Departure.lateStores }, { on := 8, ground := Ground.textOnly Departure.lateStores }, { on := 9, ground := Ground.textOnly Departure.lateStores }, { on := 10, ground := Ground.textOnly Departure.lateStores }, { on := 11, ground := Ground.textOnly Departure.lateStoresUnsure }, { on := 12, ground := Ground.textOnly Departure.lateStores }], guard := none }) rfl (fun K hK => ?_) AllReadyH.nil
    rw [if_pos (by rfl)]
    refine wp_store_row 51 (.tmp 6) (.tmp 25) rfl (b + 1 + 1) (rgA ⟨s.u + 1, e, s.t⟩) rfl rfl 51 rgZ Y0 (by rw [isT_rg.1]; rfl) rfl (rg_one _) ?_
    have Y2 := Y0.row (rgA ⟨s.u + 1, e, s.t⟩)
    have Z2 := Z0.rowOther (c := b + 1 + 1) (rgA ⟨s.u + 1, e, s.t⟩) (by omega)
    have B2 := B0.rowOther (c := b + 1 + 1) (rgA ⟨s.u + 1, e, s.t⟩) (by omega)
    have M2 := M0.rowOther (c := b + 1 + 1) (rgA ⟨s.u + 1, e, s.t⟩) (by omega)
    simp only [Act.put]
    refine hK.out _ _ (⟨B2, M2, ⟨_, Y2⟩, _, Z2⟩) (fun hS => ?_)
    clear hK K
    refine wpAnyH_ready (rs := [14]) (by kernel_rfl) (by simp) ?_
    refine AllReadyH.cons (o := { dst := none, op := Op.store 35 (Operand.tmp 7) (Operand.tmp 31), type := 0, pos := "ref.go:26", after := #[{ on := 11, ground := Ground.data }, { on := 13, ground := Ground.chain }, { on := 0, ground := Ground.phase }, { on := 1, ground := Ground.phase }, { on := 2, ground := Ground.phase }, { on := 3, ground := Ground.phase }, { on := 4, ground := Ground.phase }, { on := 5, ground := Ground.phase }, { on := 6, ground := Ground.phase }, { on := 7, ground := Ground.phase }, { on := 8, ground := Ground.phase }, { on := 9, ground := Ground.phase }, { on := 10, ground := Ground.phase }, { on := 11, ground := Ground.phase }, { on := 12, ground := Ground.textOnly Departure.lateStores }, { on := 13, ground := Ground.phase }], guard := none }) rfl (fun K hK => ?_) AllReadyH.nil
    rw [if_pos (by rfl)]
    refine wp_store_row 35 (.tmp 7) (.tmp 31) rfl (b + 1 + 1 + 1) (rmA c (some ⟨g', 0, none⟩) n c' (cnt + 1) AC) rfl rfl 35 rmZ Z2 (by rw [isT_rm.1]; rfl) rfl (rm_one _ _ _ _ _ _) ?_
    have Z3 := Z2.row (rmA c (some ⟨g', 0, none⟩) n c' (cnt + 1) AC)
    have Y3 := Y2.rowOther (c := b + 1 + 1 + 1) (rmA c (some ⟨g', 0, none⟩) n c' (cnt + 1) AC) (by omega)
    have B3 := B2.rowOther (c := b + 1 + 1 + 1) (rmA c (some ⟨g', 0, none⟩) n c' (cnt + 1) AC) (by omega)
    have M3 := M2.rowOther (c := b + 1 + 1 + 1) (rmA c (some ⟨g', 0, none⟩) n c' (cnt + 1) AC) (by omega)
    simp only [Act.put]
    refine hK.out _ _ (⟨B3, M3, ⟨_, Y3⟩, _, Z3⟩) (fun hS => ?_)
    clear hK K
    refine wpAnyH_take (i := 15) (oi := { dst := some 8, op := Op.assign (Operand.tmp 32), type := 4, pos := "ref.go:26", after := #[{ on := 12, ground := Ground.data }, { on := 14, ground := Ground.chain }, { on := 0, ground := Ground.phase }, { on := 1, ground := Ground.phase }, { on := 2, ground := Ground.phase }, { on := 3, ground := Ground.phase }, { on := 4, ground := Ground.phase }, { on := 5, ground := Ground.phase }, { on := 6, ground := Ground.phase }, { on := 7, ground := Ground.phase }, { on := 8, ground := Ground.phase }, { on := 9, ground := Ground.phase }, { on := 10, ground := Ground.phase }, { on := 11, ground := Ground.phase }, { on := 12, ground := Ground.phase }, { on := 13, ground := Ground.phase }, { on := 14, ground := Ground.phase }], guard := none }) (v := Value.bool true) rfl (by kernel_rfl) (by kernel_rfl) (by kernel_rfl) (fun _ _ _ h => h) (Or.inl ⟨rfl, fun _ _ => by kernel_rfl⟩) hS ?_
    try simp only [Act.put, List.setIfInBounds_toArray, List.set_cons_zero, List.set_cons_succ]
    refine wpAnyH_done (by kernel_rfl) ?_ _
    clear hS
    go_wp2
    refine bodyPost_ret (v := .tuple #[.agg (rgA ⟨s.u + 1, e, s.t⟩), .agg (rmA c (some ⟨g', 0, none⟩) n c' (cnt + 1) AC), .bool true]) ?_ rfl ⟨g', c', rfl, h2', ?_, ?_⟩
    · exact results_r21 Tryz.results66 isT_rg isT_rm _ _ (b + 1 + 1) (b + 1 + 1 + 1) _ _ _ rfl rfl rfl rfl rfl Y3 Z3
    · exact R1.kept (((Kept.refl [b + 1 + 1, b + 1 + 1 + 1] w1).setRow (b := b + 1 + 1) (Or.inl (by simp)) _).setRow (b := b + 1 + 1 + 1) (Or.inl (by simp)) _) (by simp; omega)
    · exact (hk1.setRow (b := b + 1 + 1) (Or.inr (by omega)) _).setRow (b := b + 1 + 1 + 1) (Or.inr (by omega)) _
  · rw [show pubN c s = 0 from if_neg hu] at HLr ⊢
    rw [show decide (s.u < c.s) = false from decide_eq_false hu]
    go_enter Tryz.func66, Tryz.ntmps66
    go_upto_region 1 with (fail)
    rw [← hb]
    refine gen_world (fun W => R4 51 35 w W b (rgA s) A rgZ rmZ) ST.out ?_
    have hbw : w.heap.size ≤ b := by omega
    clear ST hb
    rintro W RR
    have q2 := cell_of_blk RR.c (i := 2) (v := .int .i64 s.u) rfl
    have q1 := cell_of_blk RR.m (i := 1) hA1
    go_upto_region 5 with (fail)
    refine gen_world (fun V => R4 51 35 w V b (rgA s) A rgZ rmZ) RR ?_
    clear q1 q2 RR
    rintro V0 RR'
    have FX := hidOf RR'
    clear RR'
    refine wp_region_held_drew (S := fun w' => RW 51 w' b (rgA s) ∧ RW 35 w' (b + 1) A ∧ (∃ O, RW 51 w' (b + 1 + 1) O) ∧ ∃ O, RW 35 w' (b + 1 + 1 + 1) O) (by kernel_rfl) ⟨FX.out.c, FX.out.m, ⟨_, FX.out.c'⟩, _, FX.out.m'⟩ (fun hS => ?_)
    replace FX := hidOf (FX.out.new (Kept.refl [] V0).drew)
    generalize V0.drew = V at FX hS ⊢
    obtain ⟨B0, M0, Y0, Z0, hk, -⟩ := FX.out
    clear FX
    refine wpAnyH_take (i := 0) (oi := { dst := some 20, op := Op.fieldAddr 51 (Operand.tmp 3) 0, type := 0, pos := "ref.go:26", after := #[], guard := none }) (v := Value.pointer (some ⟨b, 0, none⟩)) rfl (by kernel_rfl) (by kernel_rfl) (by kernel_rfl) (fun _ _ _ h => h) (Or.inl ⟨rfl, fun _ _ => by kernel_rfl⟩) hS ?_
    try simp only [Act.put, List.setIfInBounds_toArray, List.set_cons_zero, List.set_cons_succ]
    refine wpAnyH_take (i := 1) (oi := { dst := some 21, op := Op.load 3 (Operand.tmp 20), type := 3, pos := "ref.go:26", after := #[{ on := 0, ground := Ground.data }], guard := none }) (v := Value.int .i64 s.t) rfl (by kernel_rfl) (by kernel_rfl) (by kernel_rfl) (fun _ _ _ h => h) (Or.inl ⟨rfl, fun w hSw => by have z := cell_of_blk hSw.1 (i := 0) (v := .int .i64 s.t) rfl; go_simp⟩) hS ?_
    try simp only [Act.put, List.setIfInBounds_toArray, List.set_cons_zero, List.set_cons_succ]
    refine wpAnyH_take (i := 2) (oi := { dst := some 22, op := Op.move (Operand.tmp 2), type := 25, pos := "ref.go:26", after := #[], guard := none }) (v := Value.int .u64 e) rfl (by kernel_rfl) (by kernel_rfl) (by kernel_rfl) (fun _ _ _ h => h) (Or.inl ⟨rfl, fun _ _ => by kernel_rfl⟩) hS ?_
    try simp only [Act.put, List.setIfInBounds_toArray, List.set_cons_zero, List.set_cons_succ]
    refine wpAnyH_take (i := 3) (oi := { dst := some 23, op := Op.move (Operand.tmp 9), type := 3, pos := "ref.go:26", after := #[], guard := none }) (v := Value.int .i64 0) rfl (by kernel_rfl) (by kernel_rfl) (by kernel_rfl) (fun _ _ _ h => h) (Or.inl ⟨rfl, fun _ _ => by kernel_rfl⟩) hS ?_
    try simp only [Act.put, List.setIfInBounds_toArray, List.set_cons_zero, List.set_cons_succ]
    refine wpAnyH_take (i := 4) (oi := { dst := some 24, op := Op.binOp BinOp.add 3 (Operand.tmp 23) (Operand.const (Value.int IntKind.i64 1)) 3, type := 3, pos := "ref.go:26", after := #[{ on := 3, ground := Ground.data }], guard := none }) (v := Value.int .i64 (0 + 1)) rfl (by kernel_rfl) (by kernel_rfl) (by kernel_rfl) (fun _ _ _ h => h) (Or.inl ⟨rfl, fun _ _ => by go_simp; first | rfl | (rw [IntKind.wrap_i64]; omega)⟩) hS ?_
    try simp only [Act.put, List.setIfInBounds_toArray, List.set_cons_zero, List.set_cons_succ]
    refine wpAnyH_take (i := 5) (oi := { dst := some 25, op := Op.build 51 #[(0, Operand.tmp 21), (1, Operand.tmp 22), (2, Operand.tmp 24)], type := 51, pos := "ref.go:26", after := #[{ on := 1, ground := Ground.data }, { on := 2, ground := Ground.data }, { on := 4, ground := Ground.data }], guard := none }) (v := Value.agg (rgA ⟨0 + 1, e, s.t⟩)) rfl (by kernel_rfl) (by kernel_rfl) (by kernel_rfl) (fun _ _ _ h => h) (Or.inl ⟨rfl, fun _ _ => by kernel_rfl⟩) hS ?_
    try simp only [Act.put, List.setIfInBounds_toArray, List.set_cons_zero, List.set_cons_succ]
    refine wpAnyH_take (i := 6) (oi := { dst := some 26, op := Op.load 35 (Operand.tmp 4), type := 35, pos := "ref.go:26", after := #[], guard := none }) (v := Value.agg A) rfl (by kernel_rfl) (by kernel_rfl) (by kernel_rfl) (fun _ _ _ h => h) (yieldsIf_load_rw rfl 35 isT_rm (.tmp 4) rfl (b + 1) rfl A hA (fun _ h => h.2.1)) hS ?_
    try simp only [Act.put, List.setIfInBounds_toArray, List.set_cons_zero, List.set_cons_succ]
    refine wpAnyH_take (i := 7) (oi := { dst := some 27, op := Op.fieldAddr 51 (Operand.tmp 3) 0, type := 0, pos := "ref.go:26", after := #[], guard := none }) (v := Value.pointer (some ⟨b, 0, none⟩)) rfl (by kernel_rfl) (by kernel_rfl) (by kernel_rfl) (fun _ _ _ h => h) (Or.inl ⟨rfl, fun _ _ => by kernel_rfl⟩) hS ?_
    try simp only [Act.put, List.setIfInBounds_toArray, List.set_cons_zero, List.set_cons_succ]
    refine wpAnyH_take (i := 8) (oi := { dst := some 28, op := Op.load 3 (Operand.tmp 27), type := 3, pos := "ref.go:26", after := #[{ on := 7, ground := Ground.data }], guard := none }) (v := Value.int .i64 s.t) rfl (by kernel_rfl) (by kernel_rfl) (by kernel_rfl) (fun _ _ _ h => h) (Or.inl ⟨rfl, fun w hSw => by have z := cell_of_blk hSw.1 (i := 0) (v := .int .i64 s.t) rfl; go_simp⟩) hS ?_
    try simp only [Act.put, List.setIfInBounds_toArray, List.set_cons_zero, List.set_cons_succ]
    refine wpAnyH_take (i := 9) (oi := { dst := some 29, op := Op.move (Operand.tmp 9), type := 3, pos := "ref.go:26", after := #[], guard := none }) (v := Value.int .i64 0) rfl (by kernel_rfl) (by kernel_rfl) (by kernel_rfl) (fun _ _ _ h => h) (Or.inl ⟨rfl, fun _ _ => by kernel_rfl⟩) hS ?_
    try simp only [Act.put, List.setIfInBounds_toArray, List.set_cons_zero, List.set_cons_succ]
    refine wpAnyH_take (i := 10) (oi := { dst := some 30, op := Op.move (Operand.tmp 2), type := 25, pos := "ref.go:26", after := #[], guard := none }) (v := Value.int .u64 e) rfl (by kernel_rfl) (by kernel_rfl) (by kernel_rfl) (fun _ _ _ h => h) (Or.inl ⟨rfl, fun _ _ => by kernel_rfl⟩) hS ?_
    try simp only [Act.put, List.setIfInBounds_toArray, List.set_cons_zero, List.set_cons_succ]
    refine wpAnyH_take (i := 12) (oi := { dst := some 32, op := Op.move (Operand.tmp 10), type := 4, pos := "ref.go:26", after := #[{ on := 14, ground := Ground.gcOnly Departure.lateStores }], guard := none }) (v := Value.bool false) rfl (by kernel_rfl) (by kernel_rfl) (by kernel_rfl) (fun _ _ _ h => h) (Or.inl ⟨rfl, fun _ _ => by kernel_rfl⟩) hS ?_
    try simp only [Act.put, List.setIfInBounds_toArray, List.set_cons_zero, List.set_cons_succ]
    refine wpAnyH_ready (rs := [11]) (by kernel_rfl) (by simp) ?_
    refine AllReadyH.cons (o := { dst := some 31, op := Op.call { callee := Callee.value (Operand.func 91), args := #[Operand.tmp 26, Operand.tmp 28, Operand.tmp 29, Operand.tmp 30], argTypes := #[35, 3, 3, 25] }, type := 35, pos := "ref.go:26", after := #[{ on := 6, ground := Ground.data }, { on := 8, ground := Ground.data }, { on := 9, ground := Ground.data }, { on := 10, ground := Ground.data }], guard := none }) rfl (fun K hK => ?_) AllReadyH.nil
    rw [if_pos (by rfl)]
    refine wp_calls 91 #[.agg A, .int .i64 s.t, .int .i64 0, .int .u64 e] (by kernel_rfl) (fun v U => (∃ g' c', v = .agg (rmA c (some ⟨g', 0, none⟩) n c' (cnt + 1) AC) ∧ (g' = g ∨ V.heap.size ≤ g') ∧ RowR U g' CC c') ∧ Kept [] V U) ((HLr.out _ hk).mono fun e w' ⟨g', c', h1, h2, h3, h4⟩ => ⟨_, h1, ⟨g', c', rfl, h2, h3⟩, h4⟩) ?_
    rintro _ w1 ⟨⟨g', c', rfl, h2, R1⟩, K1⟩
    have gy : ¬ g' = b + 1 + 1 := fun e => by obtain ⟨rest, z, _⟩ := R1; rw [e, Y0.kept K1 (by simp)] at z; simp at z
    have gz : ¬ g' = b + 1 + 1 + 1 := fun e => by obtain ⟨rest, z, _⟩ := R1; rw [e, Z0.kept K1 (by simp)] at z; simp at z
    replace B0 := B0.kept K1 (by simp)
    replace M0 := M0.kept K1 (by simp)
    replace Y0 := Y0.kept K1 (by simp)
    replace Z0 := Z0.kept K1 (by simp)
    have szk := hk.size
    have h2' : g' = g ∨ w.heap.size ≤ g' := h2.imp id (fun h => by omega)
    have hk1 := hk.trans K1
    have szv := Z0.lt
    try simp only [Act.put, List.setIfInBounds_toArray, List.set_cons_zero, List.set_cons_succ]
    refine hK.out _ _ (⟨B0, M0, ⟨_, Y0⟩, _, Z0⟩) (fun hS => ?_)
    clear hK K
    refine wpAnyH_ready (rs := [13]) (by kernel_rfl) (by simp) ?_
    refine AllReadyH.cons (o := { dst := none, op := Op.store 51 (Operand.tmp 6) (Operand.tmp 25), type := 0, pos := "ref.go:26", after := #[{ on := 5, ground := Ground.data }, { on := 11, ground := Ground.chain }, { on := 0, ground := Ground.phase }, { on := 1, ground := Ground.phase }, { on := 2, ground := Ground.phase }, { on := 3, ground := Ground.phase }, { on := 4, ground := Ground.phase }, { on := 5, ground := Ground.phase }, { on := 6, ground := Ground.textOnly Departure.lateStores }, { on := 7, ground := Ground.textOnly Departure.lateStores }, { on := 8, ground := Ground.textOnly Departure.lateStores }, { on := 9, ground := Ground.textOnly Departure.lateStores }, { on := 10, ground := Ground.textOnly Departure.lateStores }, { on := 11, ground := Ground.textOnly Departure.lateStoresUnsure }, { on := 12, ground := Ground.textOnly Departure.lateStores }], guard := none }) rfl (fun K hK => ?_) AllReadyH.nil
    rw [if_pos (by rfl)]
    refine wp_store_row 51 (.tmp 6) (.tmp 25) rfl (b + 1 + 1) (rgA ⟨0 + 1, e, s.t⟩) rfl rfl 51 rgZ Y0 (by rw [isT_rg.1]; rfl) rfl (rg_one _) ?_
    have Y2 := Y0.row (rgA ⟨0 + 1, e, s.t⟩)
    have Z2 := Z0.rowOther (c := b + 1 + 1) (rgA ⟨0 + 1, e, s.t⟩) (by omega)
    have B2 := B0.rowOther (c := b + 1 + 1) (rgA ⟨0 + 1, e, s.t⟩) (by omega)
    have M2 := M0.rowOther (c := b + 1 + 1) (rgA ⟨0 + 1, e, s.t⟩) (by omega)
    simp only [Act.put]
    refine hK.out _ _ (⟨B2, M2, ⟨_, Y2⟩, _, Z2⟩) (fun hS => ?_)
    clear hK K
    refine wpAnyH_ready (rs := [14]) (by kernel_rfl) (by simp) ?_
    refine AllReadyH.cons (o := { dst := none, op := Op.store 35 (Operand.tmp 7) (Operand.tmp 31), type := 0, pos := "ref.go:26", after := #[{ on := 11, ground := Ground.data }, { on := 13, ground := Ground.chain }, { on := 0, ground := Ground.phase }, { on := 1, ground := Ground.phase }, { on := 2, ground := Ground.phase }, { on := 3, ground := Ground.phase }, { on := 4, ground := Ground.phase }, { on := 5, ground := Ground.phase }, { on := 6, ground := Ground.phase }, { on := 7, ground := Ground.phase }, { on := 8, ground := Ground.phase }, { on := 9, ground := Ground.phase }, { on := 10, ground := Ground.phase }, { on := 11, ground := Ground.phase }, { on := 12, ground := Ground.textOnly Departure.lateStores }, { on := 13, ground := Ground.phase }], guard := none }) rfl (fun K hK => ?_) AllReadyH.nil
    rw [if_pos (by rfl)]
    refine wp_store_row 35 (.tmp 7) (.tmp 31) rfl (b + 1 + 1 + 1) (rmA c (some ⟨g', 0, none⟩) n c' (cnt + 1) AC) rfl rfl 35 rmZ Z2 (by rw [isT_rm.1]; rfl) rfl (rm_one _ _ _ _ _ _) ?_
    have Z3 := Z2.row (rmA c (some ⟨g', 0, none⟩) n c' (cnt + 1) AC)
    have Y3 := Y2.rowOther (c := b + 1 + 1 + 1) (rmA c (some ⟨g', 0, none⟩) n c' (cnt + 1) AC) (by omega)
    have B3 := B2.rowOther (c := b + 1 + 1 + 1) (rmA c (some ⟨g', 0, none⟩) n c' (cnt + 1) AC) (by omega)
    have M3 := M2.rowOther (c := b + 1 + 1 + 1) (rmA c (some ⟨g', 0, none⟩) n c' (cnt + 1) AC) (by omega)
    simp only [Act.put]
    refine hK.out _ _ (⟨B3, M3, ⟨_, Y3⟩, _, Z3⟩) (fun hS => ?_)
    clear hK K
    refine wpAnyH_take (i := 15) (oi := { dst := some 8, op := Op.assign (Operand.tmp 32), type := 4, pos := "ref.go:26", after := #[{ on := 12, ground := Ground.data }, { on := 14, ground := Ground.chain }, { on := 0, ground := Ground.phase }, { on := 1, ground := Ground.phase }, { on := 2, ground := Ground.phase }, { on := 3, ground := Ground.phase }, { on := 4, ground := Ground.phase }, { on := 5, ground := Ground.phase }, { on := 6, ground := Ground.phase }, { on := 7, ground := Ground.phase }, { on := 8, ground := Ground.phase }, { on := 9, ground := Ground.phase }, { on := 10, ground := Ground.phase }, { on := 11, ground := Ground.phase }, { on := 12, ground := Ground.phase }, { on := 13, ground := Ground.phase }, { on := 14, ground := Ground.phase }], guard := none }) (v := Value.bool false) rfl (by kernel_rfl) (by kernel_rfl) (by kernel_rfl) (fun _ _ _ h => h) (Or.inl ⟨rfl, fun _ _ => by kernel_rfl⟩) hS ?_
    try simp only [Act.put, List.setIfInBounds_toArray, List.set_cons_zero, List.set_cons_succ]
    refine wpAnyH_done (by kernel_rfl) ?_ _
    clear hS
    go_wp2
    refine bodyPost_ret (v := .tuple #[.agg (rgA ⟨0 + 1, e, s.t⟩), .agg (rmA c (some ⟨g', 0, none⟩) n c' (cnt + 1) AC), .bool false]) ?_ rfl ⟨g', c', rfl, h2', ?_, ?_⟩
    · exact results_r21 Tryz.results66 isT_rg isT_rm _ _ (b + 1 + 1) (b + 1 + 1 + 1) _ _ _ rfl rfl rfl rfl rfl Y3 Z3
    · exact R1.kept (((Kept.refl [b + 1 + 1, b + 1 + 1 + 1] w1).setRow (b := b + 1 + 1) (Or.inl (by simp)) _).setRow (b := b + 1 + 1 + 1) (Or.inl (by simp)) _) (by simp; omega)
    · exact (hk1.setRow (b := b + 1 + 1) (Or.inr (by omega)) _).setRow (b := b + 1 + 1 + 1) (Or.inr (by omega)) _
end K
end Go.Proofs.YtgafmklfpiipcaaGreatDoor

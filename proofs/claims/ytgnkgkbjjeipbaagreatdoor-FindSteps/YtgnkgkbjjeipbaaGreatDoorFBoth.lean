/-
  Words that somebody else writes: the program's, and the document's.
  Words that somebody else writes ahead of a step: the program's, and the document's.
  A find and the document's, side by side: what holds ahead of each step.
  The law's sameness: a find tells what the document's tells.
-/
import Derived.Test.YtgnkgkbjjeipbaaGreatDoorKBase
import Derived.Test.YtgnkgkbjjeipbaaGreatDoorFOver
import Derived.Deep.Cut
import Derived.Test.YtgnkgkbjjeipbaaGreatDoorFDoc
import Derived.Test.YtgnkgkbjjeipbaaGreatDoorFFind
namespace Go.Proofs.YtgnkgkbjjeipbaaGreatDoor
open Go.RowKit (Grown Hid Below)
open Go.Deep
namespace K
set_option maxRecDepth 100000
def pkA (p : Pk) : Array Value := #[.int .i64 p.s, .int .i64 p.c, .int .u64 p.v]
theorem isT_pk : IsT 82 3 := ⟨by kernel_rfl, _, Tryz.underlying82⟩
set_option maxHeartbeats 2000000 in
theorem pokedRef_any (st ce v : Int) (c : Cfg) (g : Nat) (cs : List Int) (cap : Nat) (cnt : Int) (a : Acc) (w : World) (hR : RowR w g cs cap) (hl : cs.length ≤ 17592186044415) (c0 : 0 ≤ cnt) (c1 : cnt < 4611686018427387904) :
    Calls Tryz.prog 32 #[.agg (rmA c (some ⟨g, 0, none⟩) cs.length cap cnt a), .agg (pkA ⟨st, ce, v⟩)] w fun e w' =>
      ∃ g' c', e = .returned (.agg (rmA c (some ⟨g', 0, none⟩) cs.length c' (cnt + 1) (acV cs 2 ce 0 0 v))) ∧ (g' = g ∨ w.heap.size ≤ g') ∧ RowR w' g' (clV cs 2 ce 0 v) c' ∧ Kept [] w w' := by
  have hgl := hR.lt
  have HL := hidOf (fun W (k : Kept [] w W) => rstore_any g cs cap cnt a ce 0 v W (hR.kept k (by simp)) hl c0 c1)
  clear hR hl
  generalize acV cs 2 ce 0 0 v = AC at *
  generalize clV cs 2 ce 0 v = CC at *
  generalize cs.length = n at *
  obtain ⟨b, hb⟩ : ∃ b, b = w.heap.size := ⟨_, rfl⟩
  have ST := hidOf (three_new 35 82 35 w (rmA c (some ⟨g, 0, none⟩) n cap cnt a) (pkA ⟨st, ce, v⟩) rmZ hb)
  go_enter Tryz.func32, Tryz.ntmps32
  go_upto_region 1 with (fail)
  rw [← hb]
  refine gen_world (fun W => RW 35 W b (rmA c (some ⟨g, 0, none⟩) n cap cnt a) ∧ RW 82 W (b + 1) (pkA ⟨st, ce, v⟩) ∧ RW 35 W (b + 1 + 1) rmZ ∧ Kept [] w W) ST.out ?_
  have hbw : w.heap.size ≤ b := by omega
  clear ST hb
  rintro W ⟨B0, P0, C0, hk⟩
  refine wp_region_held_drew (S := fun w' => RW 35 w' b (rmA c (some ⟨g, 0, none⟩) n cap cnt a) ∧ RW 82 w' (b + 1) (pkA ⟨st, ce, v⟩) ∧ ∃ O, RW 35 w' (b + 1 + 1) O) (by kernel_rfl) ⟨B0, P0, _, C0⟩ (fun hS => ?_)
  have hk' : Kept [] w W.drew := hk.drew
  have B0' : RW 35 W.drew b (rmA c (some ⟨g, 0, none⟩) n cap cnt a) := B0
  have C0' : RW 35 W.drew (b + 1 + 1) rmZ := C0
  have P0' : RW 82 W.drew (b + 1) (pkA ⟨st, ce, v⟩) := P0
  clear hk B0 C0 P0
  generalize W.drew = W at hk' B0' C0' P0' hS ⊢
  have hk := hk'
  have B0 := B0'
  have C0 := C0'
  have P0 := P0'
  clear hk' B0' C0' P0'
  refine wpAnyH_take (i := 0) (oi := { dst := some 5, op := Op.fieldAddr 35 (Operand.tmp 2) 0, type := 0, pos := "law.go:46", after := #[], guard := none }) (v := Value.pointer (some ⟨b, 0, none⟩)) rfl (by kernel_rfl) (by kernel_rfl) (by kernel_rfl) (fun _ _ _ h => h) (Or.inl ⟨rfl, fun _ _ => by kernel_rfl⟩) hS ?_
  try simp only [Act.put, List.setIfInBounds_toArray, List.set_cons_zero, List.set_cons_succ]
  refine wpAnyH_take (i := 1) (oi := { dst := some 6, op := Op.load 23 (Operand.tmp 5), type := 23, pos := "law.go:46", after := #[{ on := 0, ground := Ground.data }], guard := none }) (v := Value.agg #[.int .i64 c.t, .int .i64 c.s, .int .i64 c.c, .int .i64 c.h, .int .i64 c.k, .int .i64 c.e, .int .i64 c.l]) rfl (by kernel_rfl) (by kernel_rfl) (by kernel_rfl) (fun _ _ _ h => h) (yieldsIf_load_mid (P := Tryz.prog) rfl 23 (.tmp 5) rfl b 0 rfl [.int .i64 c.t, .int .i64 c.s, .int .i64 c.c, .int .i64 c.h, .int .i64 c.k, .int .i64 c.e, .int .i64 c.l] _ (fun _ h => range_rm0 h.1) Tryz.underlying23 rfl (by kernel_rfl)) hS ?_
  try simp only [Act.put, List.setIfInBounds_toArray, List.set_cons_zero, List.set_cons_succ]
  refine wpAnyH_take (i := 2) (oi := { dst := some 7, op := Op.fieldAddr 35 (Operand.tmp 2) 1, type := 0, pos := "law.go:46", after := #[], guard := none }) (v := Value.pointer (some ⟨b, 7, none⟩)) rfl (by kernel_rfl) (by kernel_rfl) (by kernel_rfl) (fun _ _ _ h => h) (Or.inl ⟨rfl, fun _ _ => by kernel_rfl⟩) hS ?_
  try simp only [Act.put, List.setIfInBounds_toArray, List.set_cons_zero, List.set_cons_succ]
  refine wpAnyH_take (i := 3) (oi := { dst := some 8, op := Op.load 33 (Operand.tmp 7), type := 33, pos := "law.go:46", after := #[{ on := 2, ground := Ground.data }], guard := none }) (v := Value.agg #[.slice (some ⟨g, 0, none⟩) n cap, .int .i64 cnt, .int .i64 a.k, .int .i64 a.c, .int .u64 a.v, .int .u64 a.o, .int .u64 a.n, .bool a.d]) rfl (by kernel_rfl) (by kernel_rfl) (by kernel_rfl) (fun _ _ _ h => h) (yieldsIf_load_mid (P := Tryz.prog) rfl 33 (.tmp 7) rfl b 7 rfl [.slice (some ⟨g, 0, none⟩) n cap, .int .i64 cnt, .int .i64 a.k, .int .i64 a.c, .int .u64 a.v, .int .u64 a.o, .int .u64 a.n, .bool a.d] _ (fun _ h => range_rm7 h.1) Tryz.underlying33 rfl (by kernel_rfl)) hS ?_
  try simp only [Act.put, List.setIfInBounds_toArray, List.set_cons_zero, List.set_cons_succ]
  refine wpAnyH_take (i := 4) (oi := { dst := some 9, op := Op.fieldAddr 82 (Operand.tmp 3) 1, type := 0, pos := "law.go:46", after := #[], guard := none }) (v := Value.pointer (some ⟨b + 1, 1, none⟩)) rfl (by kernel_rfl) (by kernel_rfl) (by kernel_rfl) (fun _ _ _ h => h) (Or.inl ⟨rfl, fun _ _ => by kernel_rfl⟩) hS ?_
  try simp only [Act.put, List.setIfInBounds_toArray, List.set_cons_zero, List.set_cons_succ]
  refine wpAnyH_take (i := 5) (oi := { dst := some 10, op := Op.load 3 (Operand.tmp 9), type := 3, pos := "law.go:46", after := #[{ on := 4, ground := Ground.data }], guard := none }) (v := Value.int .i64 ce) rfl (by kernel_rfl) (by kernel_rfl) (by kernel_rfl) (fun _ _ _ h => h) (Or.inl ⟨rfl, fun w hSw => by have z := cell_of_blk hSw.2.1 (i := 1) (v := .int .i64 ce) rfl; go_simp⟩) hS ?_
  try simp only [Act.put, List.setIfInBounds_toArray, List.set_cons_zero, List.set_cons_succ]
  refine wpAnyH_take (i := 6) (oi := { dst := some 11, op := Op.fieldAddr 82 (Operand.tmp 3) 2, type := 0, pos := "law.go:46", after := #[], guard := none }) (v := Value.pointer (some ⟨b + 1, 2, none⟩)) rfl (by kernel_rfl) (by kernel_rfl) (by kernel_rfl) (fun _ _ _ h => h) (Or.inl ⟨rfl, fun _ _ => by kernel_rfl⟩) hS ?_
  try simp only [Act.put, List.setIfInBounds_toArray, List.set_cons_zero, List.set_cons_succ]
  refine wpAnyH_take (i := 7) (oi := { dst := some 12, op := Op.load 25 (Operand.tmp 11), type := 25, pos := "law.go:46", after := #[{ on := 6, ground := Ground.data }], guard := none }) (v := Value.int .u64 v) rfl (by kernel_rfl) (by kernel_rfl) (by kernel_rfl) (fun _ _ _ h => h) (Or.inl ⟨rfl, fun w hSw => by have z := cell_of_blk hSw.2.1 (i := 2) (v := .int .u64 v) rfl; go_simp⟩) hS ?_
  try simp only [Act.put, List.setIfInBounds_toArray, List.set_cons_zero, List.set_cons_succ]
  refine wpAnyH_ready (rs := [8]) (by kernel_rfl) (by simp) ?_
  refine AllReadyH.cons (o := { dst := some 13, op := Op.call { callee := Callee.value (Operand.func 65), args := #[Operand.tmp 8, Operand.tmp 10, Operand.const (Value.int IntKind.u64 0), Operand.tmp 12], argTypes := #[33, 3, 25, 25] }, type := 33, pos := "law.go:46", after := #[{ on := 3, ground := Ground.data }, { on := 5, ground := Ground.data }, { on := 7, ground := Ground.data }], guard := none }) rfl (fun K hK => ?_) AllReadyH.nil
  rw [if_pos (by rfl)]
  refine wp_calls 65 #[.agg #[.slice (some ⟨g, 0, none⟩) n cap, .int .i64 cnt, .int .i64 a.k, .int .i64 a.c, .int .u64 a.v, .int .u64 a.o, .int .u64 a.n, .bool a.d], .int .i64 ce, .int .u64 0, .int .u64 v] (by kernel_rfl) (fun v V => (∃ g' c', v = .agg #[.slice (some ⟨g', 0, none⟩) n c', .int .i64 (cnt + 1), .int .i64 AC.k, .int .i64 AC.c, .int .u64 AC.v, .int .u64 AC.o, .int .u64 AC.n, .bool AC.d] ∧ (g' = g ∨ W.heap.size ≤ g') ∧ RowR V g' CC c') ∧ Kept [] W V) ((HL.out _ hk).mono fun e w' ⟨g', c', h1, h2, h3, h4⟩ => ⟨_, h1, ⟨g', c', rfl, h2, h3⟩, h4⟩) ?_
  rintro _ w8 ⟨⟨g', c', rfl, h2, h3⟩, K8⟩
  have B8 := B0.kept K8 (by simp)
  have P8 := P0.kept K8 (by simp)
  have C8 := C0.kept K8 (by simp)
  try simp only [Act.put, List.setIfInBounds_toArray, List.set_cons_zero, List.set_cons_succ]
  refine hK.out _ _ (⟨B8, P8, _, C8⟩) (fun hS => ?_)
  clear hK K
  refine wpAnyH_take (i := 9) (oi := { dst := some 14, op := Op.build 35 #[(0, Operand.tmp 6), (1, Operand.tmp 13)], type := 35, pos := "law.go:46", after := #[{ on := 1, ground := Ground.data }, { on := 8, ground := Ground.data }], guard := none }) (v := Value.agg (rmA c (some ⟨g', 0, none⟩) n c' (cnt + 1) AC)) rfl (by kernel_rfl) (by kernel_rfl) (by kernel_rfl) (fun _ _ _ h => h) (Or.inl ⟨rfl, fun _ _ => by kernel_rfl⟩) hS ?_
  try simp only [Act.put, List.setIfInBounds_toArray, List.set_cons_zero, List.set_cons_succ]
  refine wpAnyH_ready (rs := [10]) (by kernel_rfl) (by simp) ?_
  refine AllReadyH.cons (o := { dst := none, op := Op.store 35 (Operand.tmp 4) (Operand.tmp 14), type := 0, pos := "law.go:46", after := #[{ on := 9, ground := Ground.data }, { on := 8, ground := Ground.chain }, { on := 0, ground := Ground.phase }, { on := 1, ground := Ground.phase }, { on := 2, ground := Ground.phase }, { on := 3, ground := Ground.phase }, { on := 4, ground := Ground.phase }, { on := 5, ground := Ground.phase }, { on := 6, ground := Ground.phase }, { on := 7, ground := Ground.phase }, { on := 8, ground := Ground.phase }, { on := 9, ground := Ground.phase }], guard := none }) rfl (fun K hK => ?_) AllReadyH.nil
  rw [if_pos (by rfl)]
  have o1 := C0.lt
  refine wp_store_row 35 (.tmp 4) (.tmp 14) rfl (b + 1 + 1) (rmA c (some ⟨g', 0, none⟩) n c' (cnt + 1) AC) rfl rfl 35 rmZ C8 (by rw [isT_rm.1]; rfl) rfl (rm_one _ _ _ _ _ _) ?_
  have D := C8.row (rmA c (some ⟨g', 0, none⟩) n c' (cnt + 1) AC)
  simp only [Act.put]
  refine hK.out _ _ (⟨B8.rowOther _ (by omega), P8.rowOther _ (by omega), _, D⟩) (fun hS => ?_)
  clear hK K
  refine wpAnyH_done (by kernel_rfl) ?_ _
  go_wp2
  refine bodyPost_ret (v := .agg (rmA c (some ⟨g', 0, none⟩) n c' (cnt + 1) AC)) ?_ rfl ⟨g', c', rfl, ?_, ?_, ?_⟩
  · obtain ⟨fs, hu⟩ := isT_rm.2
    exact results_cell_row Tryz.results32 _ _ (b + 1 + 1) 35 _ (0, 0) _ rfl D hu rfl (by rw [isT_rm.1]; rfl)
  · have := hk.size; exact h2.imp id (fun h => by omega)
  · refine rowR_far (l := [b + 1 + 1]) (w := w) (W := W) h3 ((Kept.refl [b + 1 + 1] w8).setRow (Or.inl (by simp)) _) (by simp; omega) hgl h2
  · exact (hk.trans K8).setRow (Or.inr (by omega)) _
end K
end Go.Proofs.YtgnkgkbjjeipbaaGreatDoor
namespace Go.Proofs.YtgnkgkbjjeipbaaGreatDoor
open Go.RowKit (Grown Hid Below intOf)
open Go.Deep
namespace K
set_option maxRecDepth 100000
/-- Cells, how many accesses there were, and the last one. -/
structure Mst where
  cs : List Int
  n : Int
  a : Acc
def pkS (k : Int) (p : Pk) (x : Mst) : Mst := if p.s = k then ⟨clV x.cs 2 p.c 0 p.v, x.n + 1, acV x.cs 2 p.c 0 0 p.v⟩ else x
def pkF (k : Int) (ps : List Pk) (x : Mst) : Mst := ps.foldl (fun y p => pkS k p y) x
theorem pkS_len (k : Int) (p : Pk) (x : Mst) : (pkS k p x).cs.length = x.cs.length := by
  unfold pkS; split
  · show (clV x.cs 2 p.c 0 p.v).length = _
    unfold clV; split <;> simp
  · rfl
theorem pkS_n (k : Int) (p : Pk) (x : Mst) : x.n ≤ (pkS k p x).n ∧ (pkS k p x).n ≤ x.n + 1 := by
  unfold pkS; split
  · show x.n ≤ x.n + 1 ∧ x.n + 1 ≤ x.n + 1; omega
  · omega
theorem pkF_len (k : Int) : ∀ (ps : List Pk) (x : Mst), (pkF k ps x).cs.length = x.cs.length
  | [], _ => rfl
  | p :: ps, x => (pkF_len k ps (pkS k p x)).trans (pkS_len k p x)
theorem pkF_n (k : Int) : ∀ (ps : List Pk) (x : Mst), x.n ≤ (pkF k ps x).n ∧ (pkF k ps x).n ≤ x.n + ps.length
  | [], x => by show x.n ≤ x.n ∧ x.n ≤ x.n + ((0 : Nat) : Int); omega
  | p :: ps, x => by
    have h1 := pkF_n k ps (pkS k p x)
    have h2 := pkS_n k p x
    show x.n ≤ (pkF k ps (pkS k p x)).n ∧ (pkF k ps (pkS k p x)).n ≤ x.n + (((p :: ps).length : Nat) : Int)
    rw [List.length_cons]; omega
theorem pkF_next (k : Int) (ps : List Pk) (x : Mst) {i : Nat} (h : i < ps.length) : pkF k (ps.take (i + 1)) x = pkS k (ps.getD i pk0) (pkF k (ps.take i) x) := by
  unfold pkF
  rw [List.take_add_one, List.foldl_append]
  simp [h]
theorem pk_row {w : World} {ao : Option Addr} {ps : List Pk} (h : SlOf 3 pkL w ao ps) {k : Nat} (hk : k < ps.length) :
    ∃ b off, ao = some ⟨b, off, none⟩ ∧ b < w.heap.size ∧ w.cell? ⟨b, off + k * 3, none⟩ = some (.int .i64 (ps.getD k pk0).s) ∧ w.cell? ⟨b, off + k * 3 + 1, none⟩ = some (.int .i64 (ps.getD k pk0).c) ∧ w.cell? ⟨b, off + k * 3 + 2, none⟩ = some (.int .u64 (ps.getD k pk0).v) := by
  obtain ⟨b, off, rfl, hb, hc⟩ := h (by omega)
  have e : ps.getD k pk0 = ps[k] := by simp [hk]
  rw [e]
  exact ⟨b, off, rfl, hb, hc k hk 0 _ rfl, hc k hk 1 _ rfl, hc k hk 2 _ rfl⟩
set_option maxHeartbeats 4000000 in
theorem poked_any (m p r g : Nat) (c : Cfg) (x : Mst) (cap : Nat) (ao : Option Addr) (ps : List Pk) (n cp : Nat) (k : Int) (w : World) (hM : Mm w m p r c x.cs x.n x.a) (hR : RowR w g x.cs cap) (hgr : ¬ g = r) (hl : x.cs.length ≤ 17592186044415) (hn : n = ps.length)
    (hs : SlOf 3 pkL w ao ps) (hx : 0 < ps.length → ∀ ad, ao = some ad → ¬ ad.block = p ∧ ¬ ad.block = r) (hc : n ≤ 1000) (c0 : 0 ≤ x.n) (c1 : x.n < 4611686018427386000) :
    Calls Tryz.prog 9 #[.pointer (some ⟨m, 0, none⟩), .agg (rmA c (some ⟨g, 0, none⟩) x.cs.length cap x.n x.a), .slice ao n cp, .int .i64 k] w fun e w' =>
      ∃ g' c', e = .returned (.agg (rmA c (some ⟨g', 0, none⟩) x.cs.length c' (pkF k ps x).n (pkF k ps x).a)) ∧ (g' = g ∨ w.heap.size ≤ g') ∧ RowR w' g' (pkF k ps x).cs c' ∧ Mm w' m p r c (pkF k ps x).cs (pkF k ps x).n (pkF k ps x).a ∧ Kept [p, r] w w' := by
  obtain ⟨b, hb⟩ : ∃ b, b = w.heap.size := ⟨_, rfl⟩
  obtain ⟨L, hL⟩ : ∃ L, L = x.cs.length := ⟨_, rfl⟩
  rw [← hL]
  have ST := hidOf (two_new 35 35 w (rmA c (some ⟨g, 0, none⟩) L cap x.n x.a) rmZ hb)
  have hg := hR.lt
  have HM := hidOf hM
  have HMr : Hid (m < w.heap.size ∧ p < w.heap.size ∧ r < w.heap.size) := ⟨lt_of_blk hM.st, lt_of_blk hM.bk.st, lt_of_blk hM.bk.row⟩
  have HR := hidOf hR
  have HS := hidOf hs
  have HN := hidOf hn
  have HLe := hidOf hL
  clear hM hR hs hn hL
  go_enter Tryz.func9, Tryz.ntmps9
  go_upto_region 1 with (fail)
  rw [← hb]
  refine gen_world (fun W => RW 35 W b (rmA c (some ⟨g, 0, none⟩) L cap x.n x.a) ∧ RW 35 W (b + 1) rmZ ∧ Kept [] w W) ST.out ?_
  have hbw : w.heap.size ≤ b := by omega
  clear ST hb
  rintro W ⟨B0, C0, K0⟩
  have HX := hidOf (And.intro B0 (And.intro C0 K0))
  clear B0 C0 K0
  go_wp2
  go_loopw [13] (fun i wr => ∃ (j g' c' : Nat), j ≤ n ∧ i = .int .i64 j ∧ RW 35 wr b (rmA c (some ⟨g', 0, none⟩) L c' (pkF k (ps.take j) x).n (pkF k (ps.take j) x).a) ∧ RW 35 wr (b + 1) rmZ ∧ Hid (g' = g ∨ w.heap.size ≤ g') ∧ RowR wr g' (pkF k (ps.take j) x).cs c' ∧ Mm wr m p r c (pkF k (ps.take j) x).cs (pkF k (ps.take j) x).n (pkF k (ps.take j) x).a ∧ Kept [p, r] w wr) (fun i _ => n - (intOf i).toNat)
  case atStart =>
    obtain ⟨B0, C0, K0⟩ := HX.out
    exact ⟨0, g, cap, Nat.zero_le _, rfl, B0, C0, Or.inl rfl, HR.out.kept K0 (by simp), HM.out.new K0, K0.weaken (by simp)⟩
  case round =>
    obtain ⟨j, g', c', hj, rfl, D0, C0, hg0, R0, M0, KR⟩ := hrel
    clear HX HR HM
    by_cases hlt : j < n
    · have hltz : (j : Int) < (n : Int) := by omega
      have NX := hidOf (pkF_next k ps x (by rw [← HN.out]; exact hlt))
      obtain ⟨Y, hYe⟩ : ∃ Y, pkF k (ps.take j) x = Y := ⟨_, rfl⟩
      have yb := pkF_n k (ps.take j) x
      have hY : Y.cs.length = L := by rw [← hYe, pkF_len]; exact HLe.out.symm
      rw [List.length_take] at yb
      rw [hYe] at NX D0 R0 M0 yb
      clear hYe
      have y0 : 0 ≤ Y.n := by omega
      have y1 : Y.n < 4611686018427387904 := by have := HN.out; omega
      have hYl : Y.cs.length ≤ 17592186044415 := by rw [hY, HLe.out]; exact hl
      have SL := HS.out.kept KR (fun ad e => by have := hx (by have := HN.out; omega) ad e; simp; omega)
      obtain ⟨b1, o1, e1, lt1, s0, s1, s2⟩ := pk_row SL (by rw [← HN.out]; exact hlt)
      have hgr' : ¬ g' = r := by
        rcases hg0.out with h | h
        · rw [h]; exact hgr
        · have := HMr.out; omega
      have hgp' : ¬ g' = p := fun e => by obtain ⟨rest, z1, z2⟩ := R0; rw [e, M0.bk.st] at z1; simp at z1
      have hgb' : ¬ g' = b := fun e => by obtain ⟨rest, z1, z2⟩ := R0; rw [e, D0] at z1; simp at z1
      have bp : ¬ b = p := by have := HMr.out; omega
      have br : ¬ b = r := by have := HMr.out; omega
      have bm : ¬ b = m := by have := HMr.out; omega
      have cp' : ¬ b + 1 = p := by have := HMr.out; omega
      have cr' : ¬ b + 1 = r := by have := HMr.out; omega
      generalize ps.getD j pk0 = q at NX s0 s1 s2
      obtain ⟨sk, ce, v⟩ := q
      have ss0 : wr.cell? ⟨b1, o1 + j * 3, none⟩ = some (.int .i64 sk) := s0
      have ss1 : wr.cell? ⟨b1, o1 + j * 3 + 1, none⟩ = some (.int .i64 ce) := s1
      have ss2 : wr.cell? ⟨b1, o1 + j * 3 + 2, none⟩ = some (.int .u64 v) := s2
      clear s0 s1 s2 SL
      rw [e1]
      have HF := hidOf (And.intro D0 (And.intro C0 (And.intro R0 (And.intro M0 KR))))
      have szr := D0.lt
      clear D0 C0 R0 M0 KR
      by_cases hk : sk = k
      · subst hk
        have NX' : Hid (pkF sk (ps.take (j + 1)) x = ⟨clV Y.cs 2 ce 0 v, Y.n + 1, acV Y.cs 2 ce 0 0 v⟩) := NX.out.trans (if_pos rfl)
        clear NX
        have NX := NX'
        clear NX'
        obtain ⟨nb, hnb⟩ : ∃ nb, nb = wr.heap.size := ⟨_, rfl⟩
        go_upto_region 5 with (fail)
        rw [← hnb]
        refine gen_world (fun V => RW 82 V nb (pkA ⟨sk, ce, v⟩) ∧ Kept [] wr V) ?_ ?_
        · rw [hnb]; exact ⟨RW.new _ _ _, (Kept.refl [] wr).alloc _⟩
        have nle : wr.heap.size ≤ nb := by omega
        clear hnb ss0 ss1 ss2
        rintro V1 ⟨N1, KV1⟩
        have D1 := HF.out.1.kept KV1.drew (by simp)
        have C1 := HF.out.2.1.kept KV1.drew (by simp)
        have R1 := HF.out.2.2.1.kept KV1.drew (by simp)
        have M1 : Mm V1.drew m p r c Y.cs Y.n Y.a := HF.out.2.2.2.1.new KV1.drew
        have KV : Kept [p, r] w V1.drew := HF.out.2.2.2.2.then KV1.drew (by simp)
        have N1' : RW 82 V1.drew nb (pkA ⟨sk, ce, v⟩) := N1
        have np : ¬ nb = p := by have := HMr.out; have := HF.out.2.2.2.2.size; omega
        have nr : ¬ nb = r := by have := HMr.out; have := HF.out.2.2.2.2.size; omega
        clear HF KV1
        refine wp_region_held_drew (S := fun w' => RW 82 w' nb (pkA ⟨sk, ce, v⟩)) (by kernel_rfl) N1 (fun hS => ?_)
        refine wpAnyH_take (i := 0) (oi := { dst := some 21, op := Op.move (Operand.tmp 0), type := 29, pos := "law.go:53", after := #[], guard := none }) (v := Value.pointer (some ⟨m, 0, none⟩)) rfl (by kernel_rfl) (by kernel_rfl) (by kernel_rfl) (fun _ _ _ h => h) (Or.inl ⟨rfl, fun _ _ => by kernel_rfl⟩) hS ?_
        try simp only [Act.put, List.setIfInBounds_toArray, List.set_cons_zero, List.set_cons_succ]
        refine wpAnyH_take (i := 2) (oi := { dst := some 23, op := Op.fieldAddr 82 (Operand.tmp 10) 1, type := 0, pos := "law.go:53", after := #[], guard := none }) (v := Value.pointer (some ⟨nb, 1, none⟩)) rfl (by kernel_rfl) (by kernel_rfl) (by kernel_rfl) (fun _ _ _ h => h) (Or.inl ⟨rfl, fun _ _ => by kernel_rfl⟩) hS ?_
        try simp only [Act.put, List.setIfInBounds_toArray, List.set_cons_zero, List.set_cons_succ]
        refine wpAnyH_take (i := 3) (oi := { dst := some 24, op := Op.load 3 (Operand.tmp 23), type := 3, pos := "law.go:53", after := #[{ on := 2, ground := Ground.data }], guard := none }) (v := Value.int .i64 ce) rfl (by kernel_rfl) (by kernel_rfl) (by kernel_rfl) (fun _ _ _ h => h) (Or.inl ⟨rfl, fun w hSw => by have z := cell_of_blk hSw (i := 1) (v := .int .i64 ce) rfl; go_simp⟩) hS ?_
        try simp only [Act.put, List.setIfInBounds_toArray, List.set_cons_zero, List.set_cons_succ]
        refine wpAnyH_take (i := 4) (oi := { dst := some 25, op := Op.fieldAddr 82 (Operand.tmp 10) 2, type := 0, pos := "law.go:53", after := #[], guard := none }) (v := Value.pointer (some ⟨nb, 2, none⟩)) rfl (by kernel_rfl) (by kernel_rfl) (by kernel_rfl) (fun _ _ _ h => h) (Or.inl ⟨rfl, fun _ _ => by kernel_rfl⟩) hS ?_
        try simp only [Act.put, List.setIfInBounds_toArray, List.set_cons_zero, List.set_cons_succ]
        refine wpAnyH_take (i := 5) (oi := { dst := some 26, op := Op.load 25 (Operand.tmp 25), type := 25, pos := "law.go:53", after := #[{ on := 4, ground := Ground.data }], guard := none }) (v := Value.int .u64 v) rfl (by kernel_rfl) (by kernel_rfl) (by kernel_rfl) (fun _ _ _ h => h) (Or.inl ⟨rfl, fun w hSw => by have z := cell_of_blk hSw (i := 2) (v := .int .u64 v) rfl; go_simp⟩) hS ?_
        try simp only [Act.put, List.setIfInBounds_toArray, List.set_cons_zero, List.set_cons_succ]
        refine wpAnyH_ready (rs := [1]) (by kernel_rfl) (by simp) ?_
        refine AllReadyH.cons (o := { dst := some 22, op := Op.call { callee := Callee.value (Operand.func 19), args := #[Operand.tmp 21], argTypes := #[29] }, type := 66, pos := "law.go:53", after := #[{ on := 0, ground := Ground.data }], guard := none }) rfl (fun K hK => ?_) AllReadyH.nil
        rw [if_pos (by rfl)]
        refine wp_calls 19 #[.pointer (some ⟨m, 0, none⟩)] (by kernel_rfl) (fun v V => v = .pointer (some ⟨p, 0, none⟩) ∧ V = V1.drew) ((bank_any m p r c Y.cs Y.n Y.a V1.drew M1).mono fun e w' hh => ⟨_, hh.1, rfl, hh.2⟩) ?_
        rintro _ _ ⟨rfl, rfl⟩
        try simp only [Act.put, List.setIfInBounds_toArray, List.set_cons_zero, List.set_cons_succ]
        refine hK.out _ _ (N1') (fun hS => ?_)
        clear hK K
        refine wpAnyH_ready (rs := [6]) (by kernel_rfl) (by simp) ?_
        refine AllReadyH.cons (o := { dst := some 27, op := Op.call { callee := Callee.value (Operand.func 31), args := #[Operand.tmp 22, Operand.tmp 24, Operand.const (Value.int IntKind.u64 0), Operand.tmp 26], argTypes := #[66, 3, 25, 25] }, type := 0, pos := "law.go:53", after := #[{ on := 1, ground := Ground.data }, { on := 3, ground := Ground.data }, { on := 5, ground := Ground.data }, { on := 1, ground := Ground.chain }], guard := none }) rfl (fun K hK => ?_) AllReadyH.nil
        rw [if_pos (by rfl)]
        refine wp_calls 31 #[.pointer (some ⟨p, 0, none⟩), .int .i64 ce, .int .u64 0, .int .u64 v] (by kernel_rfl) (fun u V => u = .tuple #[] ∧ Bk V p r (clV Y.cs 2 ce 0 v) (Y.n + 1) (acV Y.cs 2 ce 0 0 v) ∧ Kept [p, r] V1.drew V) ((store_any p r Y.cs Y.n Y.a ce 0 v V1.drew M1.bk y0 y1).mono fun e w' hh => ⟨_, hh.1, rfl, hh.2.1, hh.2.2⟩) ?_
        rintro _ w6 ⟨rfl, B6, K6⟩
        have N6 := N1'.kept K6 (by simp; omega)
        try simp only [Act.put, List.setIfInBounds_toArray, List.set_cons_zero, List.set_cons_succ]
        refine hK.out _ _ (N6) (fun hS => ?_)
        clear hK K
        refine wpAnyH_done (by kernel_rfl) ?_ _
        have nouse := hS
        clear nouse
        have M6 : Mm w6 m p r c (clV Y.cs 2 ce 0 v) (Y.n + 1) (acV Y.cs 2 ce 0 0 v) := Mm.step M1 K6 B6
        have D6 := D1.kept K6 (by simp; omega)
        have C6 := C1.kept K6 (by simp; omega)
        have R6 := R1.kept K6 (by simp; omega)
        have K7 : Kept [p, r] w w6 := KV.trans K6
        have HX6 := hidOf (And.intro M6 (And.intro D6 (And.intro C6 (And.intro R6 (And.intro K7 N6)))))
        have PR := hidOf (pokedRef_any sk ce v c g' Y.cs c' Y.n Y.a w6 R6 hYl y0 y1)
        rw [hY] at PR
        have szb := D6.lt
        have szc := C6.lt
        clear M6 D6 C6 R6 K7 N6 B6 K6 M1 D1 C1 R1 N1 N1' KV hS
        go_wp2_with (first
          | ((with_reducible change wpList _ _ _ (Oper.mk _ (Op.load 35 _) _ _ _ _ :: _) _ _); refine wpList_load_rw 35 isT_rm rfl (.tmp 5) rfl b rfl (rmA c (some ⟨g', 0, none⟩) L c' Y.n Y.a) rfl HX6.out.2.1 ?_)
          | ((with_reducible change wpList _ _ _ (Oper.mk _ (Op.load 82 _) _ _ _ _ :: _) _ _); refine wpList_load_rw 82 isT_pk rfl (.tmp 10) rfl nb rfl (pkA ⟨sk, ce, v⟩) rfl HX6.out.2.2.2.2.2 ?_))
        refine PR.out.mono ?_
        rintro e w8 ⟨g2, c2, rfl, h2, R8, K8⟩
        have D8 := HX6.out.2.1.kept K8 (by simp)
        have HX8 := hidOf (And.intro (HX6.out.1.new K8) (And.intro (HX6.out.2.2.1.kept K8 (by simp)) (And.intro R8 (HX6.out.2.2.2.2.1.then K8 (by simp)))))
        have G2 : Hid (g2 = g ∨ w.heap.size ≤ g2) := by
          rcases h2 with rfl | h2
          · exact hg0.out
          · exact Or.inr (by have := HX6.out.2.2.2.2.1.size; omega)
        have gb : ¬ g2 = b := fun e => by obtain ⟨rest, z1, z2⟩ := R8; rw [e] at z1; rw [D8] at z1; simp at z1
        clear PR HX6 K8 R8 h2
        go_wp2_with (first
          | ((with_reducible change wpList _ _ _ (Oper.mk _ (Op.store 35 _ _) _ _ _ _ :: _) _ _); refine wpList_store_rw 35 isT_rm rfl (.tmp 5) (.tmp 30) rfl b (rmA c (some ⟨g2, 0, none⟩) L c2 (Y.n + 1) (acV Y.cs 2 ce 0 0 v)) rfl rfl rfl (rm_one _ _ _ _ _ _) _ D8 rfl ?_))
        go_roundw
        case rel =>
          obtain ⟨MM, CC, RR, KK⟩ := HX8.out
          have kr : Kept [b] w8 (w8.setRow b (rmA c (some ⟨g2, 0, none⟩) L c2 (Y.n + 1) (acV Y.cs 2 ce 0 0 v))) := (Kept.refl [b] w8).setRow (Or.inl (by simp)) _
          refine ⟨j + 1, g2, c2, by omega, by go_num, ?_, CC.kept kr (by simp), G2, ?_, ?_, KK.then kr (by simp; omega)⟩
          · rw [NX.out]; exact D8.row _
          · rw [NX.out]; exact RR.kept kr (by simp; omega)
          · rw [NX.out]; exact MM.kept kr (by simp; omega) (by simp; omega) (by simp; omega)
        case measure => simp [intOf]; omega
      · have NX' : Hid (pkF k (ps.take (j + 1)) x = Y) := NX.out.trans (if_neg hk)
        have hkb : (sk == k) = false := by simp [hk]
        clear NX
        go_wp2
        go_roundw
        case rel =>
          have kr : Kept [] wr (wr.alloc (.cells (pkA ⟨sk, ce, v⟩) 82)) := (Kept.refl [] wr).alloc _
          obtain ⟨D0, C0, R0, M0, KR⟩ := HF.out
          refine ⟨j + 1, g', c', by omega, by go_num, ?_, C0.kept kr (by simp), hg0, ?_, ?_, KR.then kr (by simp)⟩
          · rw [NX'.out]; exact D0.kept kr (by simp)
          · rw [NX'.out]; exact R0.kept kr (by simp)
          · rw [NX'.out]; exact M0.new kr
        case measure => simp [intOf]; omega
    · have hje : j = n := by omega
      have e2 : ps.take j = ps := List.take_of_length_le (by rw [hje]; exact Nat.le_of_eq HN.out.symm)
      rw [e2] at D0 R0 M0
      have HF := hidOf (And.intro D0 (And.intro C0 (And.intro R0 (And.intro M0 KR))))
      have HMr' := HMr.out
      clear D0 C0 R0 M0 KR e2 HMr
      go_wp2_with (first
        | ((with_reducible change wpList _ _ _ (Oper.mk _ (Op.load 35 _) _ _ _ _ :: _) _ _); refine wpList_load_rw 35 isT_rm rfl (.tmp 5) rfl b rfl (rmA c (some ⟨g', 0, none⟩) L c' (pkF k ps x).n (pkF k ps x).a) rfl HF.out.1 ?_)
        | ((with_reducible change wpList _ _ _ (Oper.mk _ (Op.store 35 _ _) _ _ _ _ :: _) _ _); refine wpList_store_rw 35 isT_rm rfl (.tmp 8) (.tmp 32) rfl (b + 1) (rmA c (some ⟨g', 0, none⟩) L c' (pkF k ps x).n (pkF k ps x).a) rfl rfl rfl (rm_one _ _ _ _ _ _) rmZ HF.out.2.1 rfl ?_))
      obtain ⟨D0, C0, R0, M0, KR⟩ := HF.out
      have kr : Kept [b + 1] wr (wr.setRow (b + 1) (rmA c (some ⟨g', 0, none⟩) L c' (pkF k ps x).n (pkF k ps x).a)) := (Kept.refl [b + 1] wr).setRow (Or.inl (by simp)) _
      have hgb' : ¬ g' = b + 1 := fun e => by obtain ⟨rest, z1, z2⟩ := R0; rw [e, C0] at z1; simp at z1
      refine bodyPost_ret (v := .agg (rmA c (some ⟨g', 0, none⟩) L c' (pkF k ps x).n (pkF k ps x).a)) ?_ rfl ⟨g', c', rfl, hg0.out, R0.kept kr (by simp; omega), M0.kept kr (by simp; omega) (by simp; omega) (by simp; omega), KR.then kr (by simp; omega)⟩
      obtain ⟨fs, hu⟩ := isT_rm.2
      exact results_cell_row Tryz.results9 _ _ (b + 1) 35 _ (0, 0) _ rfl (C0.row _) hu rfl (by rw [isT_rm.1]; rfl)
end K
end Go.Proofs.YtgnkgkbjjeipbaaGreatDoor
namespace Go.Proofs.YtgnkgkbjjeipbaaGreatDoor
open Go.RowKit (Grown Hid Below)
open Go.Deep
namespace K
set_option maxRecDepth 100000
section
variable {base : Nat} {w0 w w' : World} {b gb m p r : Nat} {c : Cfg} {g : Gs} {f : Fm} {cs : List Int} {cnt : Int} {a : Acc}
/-- A block of another type is none of a find's, its guard's and its words'. -/
theorem Fw.apart (h : Fw base w0 w b gb m p r c g f cs cnt a) {T : TypeId} {d : Nat} {X : Array Value} (rd : RW T w d X) (h1 : T ≠ 70) (h2 : T ≠ 58) (h3 : T ≠ 108) (h4 : T ≠ 119) (h5 : T ≠ 25) : ¬ d = b ∧ ¬ d = gb ∧ ¬ d = m ∧ ¬ d = p ∧ ¬ d = r := by
  refine ⟨?_, blk_ne rd h.st.gd h2, blk_ne rd h.st.mm.st h3, blk_ne rd h.st.mm.bk.st h4, blk_ne rd h.st.mm.bk.row h5⟩
  rcases h.st.fs.2 with z | ⟨x, s, era, lw, gg, A, z⟩
  · exact blk_ne rd z.fb h1
  · exact blk_ne rd z.fb h1
theorem FK.rw (h : FK base [b, gb, p, r] w w') {T : TypeId} {d : Nat} {X : Array Value} (rd : RW T w d X) (hT : T ≠ 121) (ap : ¬ d = b ∧ ¬ d = gb ∧ ¬ d = m ∧ ¬ d = p ∧ ¬ d = r) : RW T w' d X := h.blk rd hT (by simp; omega)
theorem FK.rowR {bs : List Nat} (h : FK base bs w w') {q cap : Nat} {xs : List Int} (row : RowR w q xs cap) (hn : q ∉ bs) : RowR w' q xs cap := by
  obtain ⟨rest, z, e⟩ := row
  exact ⟨rest, h.blk z (by decide) hn, e⟩
theorem SlB.fk {base2 : Nat} {bs : List Nat} {ao : Option Addr} {cap : Nat} {xs : List Int} (h : SlB base2 w ao cap xs) (k : FK base bs w w') (hb : ∀ x ∈ bs, x < base2) : SlB base2 w' ao cap xs := by
  obtain ⟨l, kk, hl⟩ := k
  refine h.far kk (fun ad e hx => ?_)
  obtain ⟨cur, z⟩ := h.t ad e
  rcases hl _ hx with y | y | ⟨_, B, y⟩
  · have := hb _ y; have := h.b ad e; omega
  · have := lt_of_blk z; omega
  · unfold EB RW at y; rw [z] at y; simp at y
theorem RF.fk {base2 : Nat} {bs : List Nat} {A : Array Value} (h : RF base2 w f A) (k : FK base bs w w') (hb : ∀ x ∈ bs, x < base2) : RF base2 w' f A := by
  obtain ⟨a1, c1, a2, c2, a3, c3, e, h1, h2, h3⟩ := h
  exact ⟨a1, c1, a2, c2, a3, c3, e, h1.fk k hb, h2.fk k hb, h3.fk k hb⟩
/-- Other words. -/
theorem Fw.words {cs' : List Int} {cnt' : Int} {a' : Acc} (h : Fw base w0 w b gb m p r c g f cs cnt a) (K : Kept [p, r] w w') (M : Mm w' m p r c cs' cnt' a') (wd : Wds cs') (n0 : 0 ≤ cnt') : Fw base w0 w' b gb m p r c g f cs' cnt' a' := by
  have nm := fs_nm h.st.fs h.st.mm
  have gm := h.st.gd.nm h.st.mm
  have KK : Kept [] w0 w' := h.kp.then K (by have := h.op; have := h.ow; simp; omega)
  exact ⟨⟨h.st.R, h.st.fs.kept K (by simp; omega) (fun g3 _ he => by
      obtain ⟨A, hA⟩ := he
      have n1 := blk_ne (T1 := 121) hA h.st.mm.bk.st (by decide)
      have n2 := blk_ne (T1 := 121) hA h.st.mm.bk.row (by decide)
      simp; omega), h.st.gd.kept K (by simp; omega), M, h.t0.kept KK, h.st.fi, wd, h.st.u0, h.st.u1, h.st.g0, Nat.le_trans h.st.bs K.size⟩, KK, h.ob, h.og, h.op, h.ow, h.os, n0, h.t0⟩
/-- Another block is written. -/
theorem Fw.box (h : Fw base w0 w b gb m p r c g f cs cnt a) {T : TypeId} {d : Nat} {X : Array Value} (rd : RW T w d X) (hT : T ≠ 121) (ap : ¬ d = b ∧ ¬ d = gb ∧ ¬ d = m ∧ ¬ d = p ∧ ¬ d = r) (o : w0.heap.size ≤ d) (K : Kept [d] w w') : Fw base w0 w' b gb m p r c g f cs cnt a := by
  have KK : Kept [] w0 w' := h.kp.then K (by simp; omega)
  exact ⟨⟨h.st.R, h.st.fs.kept K (by simp; omega) (fun g3 _ he => by
      obtain ⟨A, hA⟩ := he
      have n1 := blk_ne (T1 := 121) hA rd (fun e => hT e.symm)
      simp; omega), h.st.gd.kept K (by simp; omega), h.st.mm.kept K (by simp; omega) (by simp; omega) (by simp; omega), h.t0.kept KK, h.st.fi, h.st.wd, h.st.u0, h.st.u1, h.st.g0, Nat.le_trans h.st.bs K.size⟩, KK, h.ob, h.og, h.op, h.ow, h.os, h.n0, h.t0⟩
end
/-- The program's find (gp, fp, xp) and the document's (g, f, x, which lie where). -/
structure LS (W w : World) (q8 d1 d2 b gb m p r base2 n : Nat) (c : Cfg) (gp : Gs) (fp : Fm) (xp : Mst) (g : Gs) (f : Fm) (x : Mst) (gg c' : Nat) (A : Array Value) : Prop where
  fw : Fw W.heap.size W w b gb m p r c gp fp xp.cs xp.n xp.a
  rm : RW 35 w q8 (rmA c (some ⟨gg, 0, none⟩) n c' x.n x.a)
  row : RowR w gg x.cs c'
  rf1 : RW 44 w d1 A
  rf : RF base2 w f A
  rg : RW 47 w d2 (rgA g)
  len : x.cs.length = n
  gr : ¬ gg = r
  bb : b < base2 ∧ gb < base2 ∧ p < base2 ∧ r < base2
  oq : W.heap.size ≤ q8 ∧ W.heap.size ≤ d1 ∧ W.heap.size ≤ d2
  bw : base2 ≤ w.heap.size
section
variable {W w w' : World} {q8 d1 d2 b gb m p r base2 n : Nat} {c : Cfg} {gp g : Gs} {fp f : Fm} {xp x : Mst} {gg c' : Nat} {A : Array Value}
theorem LS.apM (h : LS W w q8 d1 d2 b gb m p r base2 n c gp fp xp g f x gg c' A) : ¬ q8 = b ∧ ¬ q8 = gb ∧ ¬ q8 = m ∧ ¬ q8 = p ∧ ¬ q8 = r := h.fw.apart h.rm (by decide) (by decide) (by decide) (by decide) (by decide)
theorem LS.apF (h : LS W w q8 d1 d2 b gb m p r base2 n c gp fp xp g f x gg c' A) : ¬ d1 = b ∧ ¬ d1 = gb ∧ ¬ d1 = m ∧ ¬ d1 = p ∧ ¬ d1 = r := h.fw.apart h.rf1 (by decide) (by decide) (by decide) (by decide) (by decide)
theorem LS.apG (h : LS W w q8 d1 d2 b gb m p r base2 n c gp fp xp g f x gg c' A) : ¬ d2 = b ∧ ¬ d2 = gb ∧ ¬ d2 = m ∧ ¬ d2 = p ∧ ¬ d2 = r := h.fw.apart h.rg (by decide) (by decide) (by decide) (by decide) (by decide)
theorem LS.apR (h : LS W w q8 d1 d2 b gb m p r base2 n c gp fp xp g f x gg c' A) : ¬ gg = b ∧ ¬ gg = gb ∧ ¬ gg = p := by
  refine ⟨?_, h.row.ne h.fw.st.gd (by decide), h.row.ne h.fw.st.mm.bk.st (by decide)⟩
  rcases h.fw.st.fs.2 with z | ⟨x, s, era, lw, g2, A, z⟩
  · exact h.row.ne z.fb (by decide)
  · exact h.row.ne z.fb (by decide)
theorem LS.new (h : LS W w q8 d1 d2 b gb m p r base2 n c gp fp xp g f x gg c' A) (k : Kept [] w w') : LS W w' q8 d1 d2 b gb m p r base2 n c gp fp xp g f x gg c' A :=
  ⟨h.fw.new k, h.rm.kept k (by simp), h.row.kept k (by simp), h.rf1.kept k (by simp), h.rf.new k, h.rg.kept k (by simp), h.len, h.gr, h.bb, h.oq, Nat.le_trans h.bw k.size⟩
/-- The program has done its step. -/
theorem LS.fk {gp2 : Gs} {fp2 : Fm} {xp2 : Mst} (h : LS W w q8 d1 d2 b gb m p r base2 n c gp fp xp g f x gg c' A) (F : Fw W.heap.size W w' b gb m p r c gp2 fp2 xp2.cs xp2.n xp2.a) (k : FK W.heap.size [b, gb, p, r] w w') : LS W w' q8 d1 d2 b gb m p r base2 n c gp2 fp2 xp2 g f x gg c' A := by
  have aR := h.apR
  have gr := h.gr
  have bb := h.bb
  exact ⟨F, k.rw h.rm (by decide) h.apM, k.rowR h.row (by simp; omega), k.rw h.rf1 (by decide) h.apF, h.rf.fk k (by intro z hz; simp at hz; omega), k.rw h.rg (by decide) h.apG, h.len, h.gr, h.bb, h.oq, Nat.le_trans h.bw k.size⟩
/-- The document has done its step too. -/
theorem LS.sync {g2 : Gs} {f2 : Fm} {x2 : Mst} {X B : Array Value} (h : LS W w q8 d1 d2 b gb m p r base2 n c g2 f2 x2 g f x gg c' A) (k : Kept [] w w') (RX : RF base2 w' f2 X) (WB : Wv w gg c n x2.cs x2.n x2.a B w') (hl : x2.cs.length = n) :
    ∃ gg2 c2, B = rmA c (some ⟨gg2, 0, none⟩) n c2 x2.n x2.a ∧ LS W (((w'.setRow d1 X).setRow q8 B).setRow d2 (rgA g2)) q8 d1 d2 b gb m p r base2 n c g2 f2 x2 g2 f2 x2 gg2 c2 X := by
  obtain ⟨gg2, c2, eB, hg, R2⟩ := WB
  refine ⟨gg2, c2, eB, ?_⟩
  have H := h.new k
  have n1 : ¬ q8 = d1 := blk_ne H.rm H.rf1 (by decide)
  have n2 : ¬ d2 = d1 := blk_ne H.rg H.rf1 (by decide)
  have n3 : ¬ q8 = d2 := blk_ne H.rm H.rg (by decide)
  have rm1 := H.rm.rowOther X n1
  have rg1 := H.rg.rowOther X n2
  have rg2 := rg1.rowOther B (c := q8) (fun e => n3 e.symm)
  have k1 := k_row w' d1 X
  have k2 := k_row (w'.setRow d1 X) q8 B
  have k3 := k_row ((w'.setRow d1 X).setRow q8 B) d2 (rgA g2)
  have F1 := H.fw.box H.rf1 (by decide) H.apF h.oq.2.1 k1
  have F2 := F1.box rm1 (by decide) H.apM h.oq.1 k2
  have F3 := F2.box rg2 (by decide) H.apG h.oq.2.2 k3
  have R3 := ((R2.kept k1 (by simp; exact R2.ne H.rf1 (by decide))))
  have R4 := R3.kept k2 (by simp; exact R3.ne rm1 (by decide))
  have R5 := R4.kept k3 (by simp; exact R4.ne rg2 (by decide))
  have gr2 : ¬ gg2 = r := by
    rcases hg with e | e
    · rw [e]; exact h.gr
    · have := lt_of_blk h.fw.st.mm.bk.row; omega
  exact ⟨F3, by rw [← eB]; exact (rm1.row B).rowOther _ n3, R5, ((H.rf1.row X).rowOther B (fun e => n1 e.symm)).rowOther _ (fun e => n2 e.symm), ((RX.far1 H.rf1 (by decide) k1).far1 rm1 (by decide) k2).far1 rg2 (by decide) k3, rg2.row _, hl, gr2, h.bb, h.oq, Nat.le_trans H.bw (by rw [setRow_size, setRow_size, setRow_size]; exact Nat.le_refl _)⟩
/-- Others have written. -/
theorem LS.poke {x2 : Mst} {gg2 c2 : Nat} (h : LS W w q8 d1 d2 b gb m p r base2 n c g f x g f x gg c' A) (k : Kept [p, r] w w') (M : Mm w' m p r c x2.cs x2.n x2.a) (hg : gg2 = gg ∨ w.heap.size ≤ gg2) (R2 : RowR w' gg2 x2.cs c2) (hl : x2.cs.length = n) (wd : Wds x2.cs) (n0 : 0 ≤ x2.n) :
    LS W (w'.setRow q8 (rmA c (some ⟨gg2, 0, none⟩) n c2 x2.n x2.a)) q8 d1 d2 b gb m p r base2 n c g f x2 g f x2 gg2 c2 A := by
  have aM := h.apM
  have aF := h.apF
  have aG := h.apG
  have rm1 := h.rm.kept k (by simp; omega)
  have rf1 := h.rf1.kept k (by simp; omega)
  have rg1 := h.rg.kept k (by simp; omega)
  have bb := h.bb
  have RF1 : RF base2 w' f A := h.rf.kept k (by intro z hz; simp at hz; omega)
  have n1 : ¬ d1 = q8 := blk_ne rf1 rm1 (by decide)
  have n2 : ¬ d2 = q8 := blk_ne rg1 rm1 (by decide)
  have k1 := k_row w' q8 (rmA c (some ⟨gg2, 0, none⟩) n c2 x2.n x2.a)
  have F1 := (h.fw.words k M wd n0).box rm1 (by decide) aM h.oq.1 k1
  have gr2 : ¬ gg2 = r := by
    rcases hg with e | e
    · rw [e]; exact h.gr
    · have := lt_of_blk h.fw.st.mm.bk.row; omega
  exact ⟨F1, rm1.row _, R2.kept k1 (by simp; exact R2.ne rm1 (by decide)), rf1.rowOther _ n1, RF1.far1 rm1 (by decide) k1, rg1.rowOther _ n2, hl, gr2, h.bb, h.oq, Nat.le_trans h.bw (by rw [setRow_size]; exact k.size)⟩
end
theorem pkS_wd {k : Int} {p : Pk} {x : Mst} (h : Wds x.cs) (hp : p.wf) : Wds (pkS k p x).cs := by
  unfold pkS; split
  · exact wds_clV h 2 _ _ (by decide) hp
  · exact h
theorem pkF_wd {k : Int} : ∀ {ps : List Pk} {x : Mst}, Wds x.cs → (∀ p ∈ ps, p.wf) → Wds (pkF k ps x).cs
  | [], _, h, _ => h
  | p :: ps, x, h, hp => pkF_wd (ps := ps) (x := pkS k p x) (pkS_wd h (hp p (by simp))) (fun y hy => hp y (by simp [hy]))
end K
end Go.Proofs.YtgnkgkbjjeipbaaGreatDoor
namespace Go.Proofs.YtgnkgkbjjeipbaaGreatDoor
open Go.RowKit (Grown Hid Below intOf)
open Go.Deep
namespace K
set_option maxRecDepth 100000
theorem Sf.at {base : Nat} {w : World} {b : Nat} {c : Cfg} {f : Fm} (h : Sf base w b c f) :
    Calls Tryz.prog 28 #[.pointer (some ⟨b, 0, none⟩)] w fun e w' => e = .returned (.int .i64 f.at_) ∧ w' = w := by
  rcases h.fs.2 with z | ⟨x, s, era, lw, gg, A, z⟩
  · have e : f.at_ = 0 := by rw [z.e]; rfl
    rw [e]; exact fat_any _ _ _ _ _ _ _ _ _ _ _ w z.fb
  · exact fat_any _ _ _ _ _ _ _ _ _ _ _ w z.fb
set_option maxHeartbeats 8000000 in
theorem tell_any {base base2 : Nat} {w : World} {b : Nat} {c : Cfg} {f : Fm} {A : Array Value} (h : Sf base w b c f) (rf : RF base2 w f A) :
    Calls Tryz.prog 13 #[.pointer (some ⟨b, 0, none⟩), .agg A, .agg #[.int .i64 c.t, .int .i64 c.s, .int .i64 c.c, .int .i64 c.h, .int .i64 c.k, .int .i64 c.e, .int .i64 c.l]] w fun e w' => e = .returned (.bool true) ∧ Kept [] w w' := by
  have R0 := h.R.h0
  have R1 := h.R.h1
  have hHN := HN_eq h.R
  have fdn := h.fi.dn
  have l1 : f.ps.length ≤ 1000 := by rw [h.fi.ps]; omega
  have l2 : f.ss.length ≤ 1000 := by rw [h.fi.ss]; omega
  have l3 : f.ks.length ≤ 1000 := by rw [h.fi.ks]; omega
  have HP1 := hidOf (fun (Y : World) (k : Kept [] w Y) (l : Int) => tpred_any (h.new k) l)
  have HP2 := hidOf (fun (Y : World) (k : Kept [] w Y) (l : Int) => tsucc_any (h.new k) l)
  have HP3 := hidOf (fun (Y : World) (k : Kept [] w Y) (l : Int) => tkey_any (h.new k) l)
  have HR1 : Hid (∀ (Y : World), Kept [] w Y → ∀ l : Int, Calls Tryz.prog 44 #[.agg A, .int .i64 l] Y fun e w' => e = .returned (.int .u64 (enV f.d f.ps l)) ∧ Kept [] Y w') := hidOf (fun (Y : World) (k : Kept [] w Y) (l : Int) => rpred_any base2 f A l Y (rf.new k) l1)
  have HR2 : Hid (∀ (Y : World), Kept [] w Y → ∀ l : Int, Calls Tryz.prog 45 #[.agg A, .int .i64 l] Y fun e w' => e = .returned (.int .u64 (enV f.d f.ss l)) ∧ Kept [] Y w') := hidOf (fun (Y : World) (k : Kept [] w Y) (l : Int) => rsucc_any base2 f A l Y (rf.new k) l2)
  have HR3 : Hid (∀ (Y : World), Kept [] w Y → ∀ l : Int, Calls Tryz.prog 46 #[.agg A, .int .i64 l] Y fun e w' => e = .returned (.int .u64 (enV f.d f.ks l)) ∧ Kept [] Y w') := hidOf (fun (Y : World) (k : Kept [] w Y) (l : Int) => rkey_any base2 f A l Y (rf.new k) l3)
  have HD : Hid (∀ (Y : World), Kept [] w Y → Calls Tryz.prog 22 #[.pointer (some ⟨b, 0, none⟩)] Y fun e w' => e = .returned (.bool f.d) ∧ Kept [] Y w') := hidOf (fun (Y : World) (k : Kept [] w Y) => ((h.new k).done).mono fun e w' hh => ⟨hh.1, by rw [hh.2]; exact Kept.refl _ _⟩)
  have HA : Hid (∀ (Y : World), Kept [] w Y → Calls Tryz.prog 28 #[.pointer (some ⟨b, 0, none⟩)] Y fun e w' => e = .returned (.int .i64 f.at_) ∧ Kept [] Y w') := hidOf (fun (Y : World) (k : Kept [] w Y) => ((h.new k).at).mono fun e w' hh => ⟨hh.1, by rw [hh.2]; exact Kept.refl _ _⟩)
  obtain ⟨a1, c1, a2, c2, a3, c3, eA, -, -, -⟩ := rf
  have hA12 : A.size = 12 := by rw [eA]; rfl
  have k10 : A[10]? = some (.int .i64 f.at_) := by rw [eA]; rfl
  have k11 : A[11]? = some (.bool f.d) := by rw [eA]; rfl
  generalize f.d = D at HP1 HP2 HP3 HR1 HR2 HR3 HD k11
  generalize f.at_ = AT at HA k10
  generalize f.ps = ps at HP1 HR1
  generalize f.ss = ss at HP2 HR2
  generalize f.ks = ks at HP3 HR3
  clear eA l1 l2 l3 fdn hHN h
  obtain ⟨bx, hbx⟩ : ∃ bx, bx = w.heap.size := ⟨_, rfl⟩
  have ST := hidOf (two_new 44 23 w A #[.int .i64 c.t, .int .i64 c.s, .int .i64 c.c, .int .i64 c.h, .int .i64 c.k, .int .i64 c.e, .int .i64 c.l] hbx)
  go_enter Tryz.func13, Tryz.ntmps13
  go_upto_region 1 with (fail)
  rw [← hbx]
  refine gen_world (fun W => RW 44 W bx A ∧ RW 23 W (bx + 1) #[.int .i64 c.t, .int .i64 c.s, .int .i64 c.c, .int .i64 c.h, .int .i64 c.k, .int .i64 c.e, .int .i64 c.l] ∧ Kept [] w W) ST.out ?_
  clear ST hbx
  rintro W0 ⟨B0, C0, K0⟩
  have H0 := hidOf (And.intro B0 (And.intro C0 K0))
  clear B0 C0 K0
  go_wp2
  go_loopw [7] (fun i wr => ∃ L : Int, -1 ≤ L ∧ L ≤ c.h + 1 ∧ i = .int .i64 L ∧ RW 44 wr bx A ∧ RW 23 wr (bx + 1) #[.int .i64 c.t, .int .i64 c.s, .int .i64 c.c, .int .i64 c.h, .int .i64 c.k, .int .i64 c.e, .int .i64 c.l] ∧ Kept [] w wr) (fun i _ => (c.h + 2 - intOf i).toNat)
  case atStart => exact ⟨-1, by omega, by omega, rfl, H0.out.1, H0.out.2.1, H0.out.2.2⟩
  case round =>
    clear H0
    obtain ⟨L, hL0, hL1, rfl, B1, C1, KR⟩ := hrel
    have HX := hidOf (And.intro B1 (And.intro C1 KR))
    have q3 := cell_of_blk C1 (i := 3) (v := .int .i64 c.h) rfl
    clear B1 C1 KR
    by_cases hlt : L ≤ c.h
    · go_upto_region 4 with (fail)
      have HP1 := hidOf (fun (Y : World) (k : Kept [] wr Y) => HP1.out Y (HX.out.2.2.trans k) L)
      have HP2 := hidOf (fun (Y : World) (k : Kept [] wr Y) => HP2.out Y (HX.out.2.2.trans k) L)
      have HP3 := hidOf (fun (Y : World) (k : Kept [] wr Y) => HP3.out Y (HX.out.2.2.trans k) L)
      have HR1 := hidOf (fun (Y : World) (k : Kept [] wr Y) => HR1.out Y (HX.out.2.2.trans k) L)
      have HR2 := hidOf (fun (Y : World) (k : Kept [] wr Y) => HR2.out Y (HX.out.2.2.trans k) L)
      have HR3 := hidOf (fun (Y : World) (k : Kept [] wr Y) => HR3.out Y (HX.out.2.2.trans k) L)
      generalize enV D ps L = V1 at HP1 HR1
      generalize enV D ss L = V2 at HP2 HR2
      generalize enV D ks L = V3 at HP3 HR3
      have B4 : RW 44 wr.drew bx A := HX.out.1
      have K4 : Kept [] wr wr.drew := (Kept.refl [] wr).drew
      clear q3 HD HA
      refine wp_region_held_drew (S := fun w' => RW 44 w' bx A) (by kernel_rfl) B4 (fun hS => ?_)
      generalize wr.drew = W4 at B4 K4 hS ⊢
      refine wpAnyH_take (i := 0) (oi := { dst := some 14, op := Op.move (Operand.tmp 0), type := 38, pos := "law.go:49", after := #[], guard := none }) (v := Value.pointer (some ⟨b, 0, none⟩)) rfl (by kernel_rfl) (by kernel_rfl) (by kernel_rfl) (fun _ _ _ h => h) (Or.inl ⟨rfl, fun _ _ => by kernel_rfl⟩) hS ?_
      try simp only [Act.put, List.setIfInBounds_toArray, List.set_cons_zero, List.set_cons_succ]
      refine wpAnyH_take (i := 1) (oi := { dst := some 15, op := Op.move (Operand.tmp 7), type := 3, pos := "law.go:49", after := #[], guard := none }) (v := Value.int .i64 L) rfl (by kernel_rfl) (by kernel_rfl) (by kernel_rfl) (fun _ _ _ h => h) (Or.inl ⟨rfl, fun _ _ => by kernel_rfl⟩) hS ?_
      try simp only [Act.put, List.setIfInBounds_toArray, List.set_cons_zero, List.set_cons_succ]
      refine wpAnyH_take (i := 3) (oi := { dst := some 17, op := Op.load 44 (Operand.tmp 4), type := 44, pos := "law.go:49", after := #[], guard := none }) (v := Value.agg A) rfl (by kernel_rfl) (by kernel_rfl) (by kernel_rfl) (fun _ _ _ h => h) (yieldsIf_load_rw rfl 44 isT_rf (.tmp 4) rfl bx rfl A hA12 (fun _ h => h)) hS ?_
      try simp only [Act.put, List.setIfInBounds_toArray, List.set_cons_zero, List.set_cons_succ]
      refine wpAnyH_take (i := 4) (oi := { dst := some 18, op := Op.move (Operand.tmp 7), type := 3, pos := "law.go:49", after := #[], guard := none }) (v := Value.int .i64 L) rfl (by kernel_rfl) (by kernel_rfl) (by kernel_rfl) (fun _ _ _ h => h) (Or.inl ⟨rfl, fun _ _ => by kernel_rfl⟩) hS ?_
      try simp only [Act.put, List.setIfInBounds_toArray, List.set_cons_zero, List.set_cons_succ]
      refine wpAnyH_ready (rs := [2]) (by kernel_rfl) (by simp) ?_
      refine AllReadyH.cons (o := { dst := some 16, op := Op.call { callee := Callee.value (Operand.func 25), args := #[Operand.tmp 14, Operand.tmp 15], argTypes := #[38, 3] }, type := 25, pos := "law.go:49", after := #[{ on := 0, ground := Ground.data }, { on := 1, ground := Ground.data }], guard := none }) rfl (fun K hK => ?_) AllReadyH.nil
      rw [if_pos (by rfl)]
      refine wp_calls 25 #[.pointer (some ⟨b, 0, none⟩), .int .i64 L] (by kernel_rfl) (fun v V => v = .int .u64 V1 ∧ Kept [] W4 V) ((HP1.out _ K4).mono fun e w' hh => ⟨_, hh.1, rfl, hh.2⟩) ?_
      rintro _ u2 ⟨rfl, J2⟩
      have j2 := K4.trans J2
      have B2 := B4.kept J2 (by simp)
      try simp only [Act.put, List.setIfInBounds_toArray, List.set_cons_zero, List.set_cons_succ]
      refine hK.out _ _ (B2) (fun hS => ?_)
      clear hK K
      refine wpAnyH_ready (rs := [5]) (by kernel_rfl) (by simp) ?_
      refine AllReadyH.cons (o := { dst := some 19, op := Op.call { callee := Callee.value (Operand.func 44), args := #[Operand.tmp 17, Operand.tmp 18], argTypes := #[44, 3] }, type := 25, pos := "law.go:49", after := #[{ on := 3, ground := Ground.data }, { on := 4, ground := Ground.data }, { on := 2, ground := Ground.chain }], guard := none }) rfl (fun K hK => ?_) AllReadyH.nil
      rw [if_pos (by rfl)]
      refine wp_calls 44 #[.agg A, .int .i64 L] (by kernel_rfl) (fun v V => v = .int .u64 V1 ∧ Kept [] u2 V) ((HR1.out _ j2).mono fun e w' hh => ⟨_, hh.1, rfl, hh.2⟩) ?_
      rintro _ u5 ⟨rfl, J5⟩
      have j5 := j2.trans J5
      have B5 := B2.kept J5 (by simp)
      try simp only [Act.put, List.setIfInBounds_toArray, List.set_cons_zero, List.set_cons_succ]
      refine hK.out _ _ (B5) (fun hS => ?_)
      clear hK K
      refine wpAnyH_take (i := 6) (oi := { dst := some 20, op := Op.binOp BinOp.neq 25 (Operand.tmp 16) (Operand.tmp 19) 25, type := 4, pos := "law.go:49", after := #[{ on := 2, ground := Ground.data }, { on := 5, ground := Ground.data }], guard := none }) (v := Value.bool false) rfl (by kernel_rfl) (by kernel_rfl) (by kernel_rfl) (fun _ _ _ h => h) (Or.inl ⟨rfl, fun _ _ => by go_simp⟩) hS ?_
      try simp only [Act.put, List.setIfInBounds_toArray, List.set_cons_zero, List.set_cons_succ]
      refine wpAnyH_take (i := 7) (oi := { dst := some 21, op := Op.move (Operand.tmp 20), type := 4, pos := "law.go:49", after := #[{ on := 6, ground := Ground.data }, { on := 5, ground := Ground.chain }], guard := none }) (v := Value.bool false) rfl (by kernel_rfl) (by kernel_rfl) (by kernel_rfl) (fun _ _ _ h => h) (Or.inl ⟨rfl, fun _ _ => by kernel_rfl⟩) hS ?_
      try simp only [Act.put, List.setIfInBounds_toArray, List.set_cons_zero, List.set_cons_succ]
      refine wpAnyH_take (i := 8) (oi := { dst := some 22, op := Op.move (Operand.tmp 0), type := 38, pos := "law.go:49", after := #[{ on := 7, ground := Ground.guard }], guard := some (7, false) }) (v := Value.pointer (some ⟨b, 0, none⟩)) rfl (by kernel_rfl) (by kernel_rfl) (by kernel_rfl) (fun _ _ _ h => h) (Or.inl ⟨rfl, fun _ _ => by kernel_rfl⟩) hS ?_
      try simp only [Act.put, List.setIfInBounds_toArray, List.set_cons_zero, List.set_cons_succ]
      refine wpAnyH_take (i := 9) (oi := { dst := some 23, op := Op.move (Operand.tmp 7), type := 3, pos := "law.go:49", after := #[{ on := 7, ground := Ground.guard }], guard := some (7, false) }) (v := Value.int .i64 L) rfl (by kernel_rfl) (by kernel_rfl) (by kernel_rfl) (fun _ _ _ h => h) (Or.inl ⟨rfl, fun _ _ => by kernel_rfl⟩) hS ?_
      try simp only [Act.put, List.setIfInBounds_toArray, List.set_cons_zero, List.set_cons_succ]
      refine wpAnyH_take (i := 11) (oi := { dst := some 25, op := Op.load 44 (Operand.tmp 4), type := 44, pos := "law.go:49", after := #[{ on := 7, ground := Ground.guard }], guard := some (7, false) }) (v := Value.agg A) rfl (by kernel_rfl) (by kernel_rfl) (by kernel_rfl) (fun _ _ _ h => h) (yieldsIf_load_rw rfl 44 isT_rf (.tmp 4) rfl bx rfl A hA12 (fun _ h => h)) hS ?_
      try simp only [Act.put, List.setIfInBounds_toArray, List.set_cons_zero, List.set_cons_succ]
      refine wpAnyH_take (i := 12) (oi := { dst := some 26, op := Op.move (Operand.tmp 7), type := 3, pos := "law.go:49", after := #[{ on := 7, ground := Ground.guard }], guard := some (7, false) }) (v := Value.int .i64 L) rfl (by kernel_rfl) (by kernel_rfl) (by kernel_rfl) (fun _ _ _ h => h) (Or.inl ⟨rfl, fun _ _ => by kernel_rfl⟩) hS ?_
      try simp only [Act.put, List.setIfInBounds_toArray, List.set_cons_zero, List.set_cons_succ]
      refine wpAnyH_ready (rs := [10]) (by kernel_rfl) (by simp) ?_
      refine AllReadyH.cons (o := { dst := some 24, op := Op.call { callee := Callee.value (Operand.func 26), args := #[Operand.tmp 22, Operand.tmp 23], argTypes := #[38, 3] }, type := 25, pos := "law.go:49", after := #[{ on := 8, ground := Ground.data }, { on := 9, ground := Ground.data }, { on := 7, ground := Ground.chain }, { on := 7, ground := Ground.guard }], guard := some (7, false) }) rfl (fun K hK => ?_) AllReadyH.nil
      rw [if_pos (by rfl)]
      refine wp_calls 26 #[.pointer (some ⟨b, 0, none⟩), .int .i64 L] (by kernel_rfl) (fun v V => v = .int .u64 V2 ∧ Kept [] u5 V) ((HP2.out _ j5).mono fun e w' hh => ⟨_, hh.1, rfl, hh.2⟩) ?_
      rintro _ u10 ⟨rfl, J10⟩
      have j10 := j5.trans J10
      have B10 := B5.kept J10 (by simp)
      try simp only [Act.put, List.setIfInBounds_toArray, List.set_cons_zero, List.set_cons_succ]
      refine hK.out _ _ (B10) (fun hS => ?_)
      clear hK K
      refine wpAnyH_ready (rs := [13]) (by kernel_rfl) (by simp) ?_
      refine AllReadyH.cons (o := { dst := some 27, op := Op.call { callee := Callee.value (Operand.func 45), args := #[Operand.tmp 25, Operand.tmp 26], argTypes := #[44, 3] }, type := 25, pos := "law.go:49", after := #[{ on := 11, ground := Ground.data }, { on := 12, ground := Ground.data }, { on := 10, ground := Ground.chain }, { on := 7, ground := Ground.guard }], guard := some (7, false) }) rfl (fun K hK => ?_) AllReadyH.nil
      rw [if_pos (by rfl)]
      refine wp_calls 45 #[.agg A, .int .i64 L] (by kernel_rfl) (fun v V => v = .int .u64 V2 ∧ Kept [] u10 V) ((HR2.out _ j10).mono fun e w' hh => ⟨_, hh.1, rfl, hh.2⟩) ?_
      rintro _ u13 ⟨rfl, J13⟩
      have j13 := j10.trans J13
      have B13 := B10.kept J13 (by simp)
      try simp only [Act.put, List.setIfInBounds_toArray, List.set_cons_zero, List.set_cons_succ]
      refine hK.out _ _ (B13) (fun hS => ?_)
      clear hK K
      refine wpAnyH_take (i := 14) (oi := { dst := some 28, op := Op.binOp BinOp.neq 25 (Operand.tmp 24) (Operand.tmp 27) 25, type := 4, pos := "law.go:49", after := #[{ on := 10, ground := Ground.data }, { on := 13, ground := Ground.data }, { on := 7, ground := Ground.guard }], guard := some (7, false) }) (v := Value.bool false) rfl (by kernel_rfl) (by kernel_rfl) (by kernel_rfl) (fun _ _ _ h => h) (Or.inl ⟨rfl, fun _ _ => by go_simp⟩) hS ?_
      try simp only [Act.put, List.setIfInBounds_toArray, List.set_cons_zero, List.set_cons_succ]
      refine wpAnyH_take (i := 15) (oi := { dst := some 29, op := Op.pick (Operand.tmp 21) (Operand.const (Value.bool true)) (Operand.tmp 28), type := 4, pos := "law.go:49", after := #[{ on := 7, ground := Ground.data }, { on := 14, ground := Ground.data }], guard := none }) (v := Value.bool false) rfl (by kernel_rfl) (by kernel_rfl) (by kernel_rfl) (fun _ _ _ h => h) (Or.inl ⟨rfl, fun _ _ => by kernel_rfl⟩) hS ?_
      try simp only [Act.put, List.setIfInBounds_toArray, List.set_cons_zero, List.set_cons_succ]
      refine wpAnyH_take (i := 16) (oi := { dst := some 30, op := Op.move (Operand.tmp 29), type := 4, pos := "law.go:49", after := #[{ on := 15, ground := Ground.data }, { on := 13, ground := Ground.chain }], guard := none }) (v := Value.bool false) rfl (by kernel_rfl) (by kernel_rfl) (by kernel_rfl) (fun _ _ _ h => h) (Or.inl ⟨rfl, fun _ _ => by kernel_rfl⟩) hS ?_
      try simp only [Act.put, List.setIfInBounds_toArray, List.set_cons_zero, List.set_cons_succ]
      refine wpAnyH_take (i := 17) (oi := { dst := some 31, op := Op.move (Operand.tmp 0), type := 38, pos := "law.go:49", after := #[{ on := 16, ground := Ground.guard }], guard := some (16, false) }) (v := Value.pointer (some ⟨b, 0, none⟩)) rfl (by kernel_rfl) (by kernel_rfl) (by kernel_rfl) (fun _ _ _ h => h) (Or.inl ⟨rfl, fun _ _ => by kernel_rfl⟩) hS ?_
      try simp only [Act.put, List.setIfInBounds_toArray, List.set_cons_zero, List.set_cons_succ]
      refine wpAnyH_take (i := 18) (oi := { dst := some 32, op := Op.move (Operand.tmp 7), type := 3, pos := "law.go:49", after := #[{ on := 16, ground := Ground.guard }], guard := some (16, false) }) (v := Value.int .i64 L) rfl (by kernel_rfl) (by kernel_rfl) (by kernel_rfl) (fun _ _ _ h => h) (Or.inl ⟨rfl, fun _ _ => by kernel_rfl⟩) hS ?_
      try simp only [Act.put, List.setIfInBounds_toArray, List.set_cons_zero, List.set_cons_succ]
      refine wpAnyH_take (i := 20) (oi := { dst := some 34, op := Op.load 44 (Operand.tmp 4), type := 44, pos := "law.go:49", after := #[{ on := 16, ground := Ground.guard }], guard := some (16, false) }) (v := Value.agg A) rfl (by kernel_rfl) (by kernel_rfl) (by kernel_rfl) (fun _ _ _ h => h) (yieldsIf_load_rw rfl 44 isT_rf (.tmp 4) rfl bx rfl A hA12 (fun _ h => h)) hS ?_
      try simp only [Act.put, List.setIfInBounds_toArray, List.set_cons_zero, List.set_cons_succ]
      refine wpAnyH_take (i := 21) (oi := { dst := some 35, op := Op.move (Operand.tmp 7), type := 3, pos := "law.go:49", after := #[{ on := 16, ground := Ground.guard }], guard := some (16, false) }) (v := Value.int .i64 L) rfl (by kernel_rfl) (by kernel_rfl) (by kernel_rfl) (fun _ _ _ h => h) (Or.inl ⟨rfl, fun _ _ => by kernel_rfl⟩) hS ?_
      try simp only [Act.put, List.setIfInBounds_toArray, List.set_cons_zero, List.set_cons_succ]
      refine wpAnyH_ready (rs := [19]) (by kernel_rfl) (by simp) ?_
      refine AllReadyH.cons (o := { dst := some 33, op := Op.call { callee := Callee.value (Operand.func 27), args := #[Operand.tmp 31, Operand.tmp 32], argTypes := #[38, 3] }, type := 25, pos := "law.go:49", after := #[{ on := 17, ground := Ground.data }, { on := 18, ground := Ground.data }, { on := 16, ground := Ground.chain }, { on := 16, ground := Ground.guard }], guard := some (16, false) }) rfl (fun K hK => ?_) AllReadyH.nil
      rw [if_pos (by rfl)]
      refine wp_calls 27 #[.pointer (some ⟨b, 0, none⟩), .int .i64 L] (by kernel_rfl) (fun v V => v = .int .u64 V3 ∧ Kept [] u13 V) ((HP3.out _ j13).mono fun e w' hh => ⟨_, hh.1, rfl, hh.2⟩) ?_
      rintro _ u19 ⟨rfl, J19⟩
      have j19 := j13.trans J19
      have B19 := B13.kept J19 (by simp)
      try simp only [Act.put, List.setIfInBounds_toArray, List.set_cons_zero, List.set_cons_succ]
      refine hK.out _ _ (B19) (fun hS => ?_)
      clear hK K
      refine wpAnyH_ready (rs := [22]) (by kernel_rfl) (by simp) ?_
      refine AllReadyH.cons (o := { dst := some 36, op := Op.call { callee := Callee.value (Operand.func 46), args := #[Operand.tmp 34, Operand.tmp 35], argTypes := #[44, 3] }, type := 25, pos := "law.go:49", after := #[{ on := 20, ground := Ground.data }, { on := 21, ground := Ground.data }, { on := 19, ground := Ground.chain }, { on := 16, ground := Ground.guard }], guard := some (16, false) }) rfl (fun K hK => ?_) AllReadyH.nil
      rw [if_pos (by rfl)]
      refine wp_calls 46 #[.agg A, .int .i64 L] (by kernel_rfl) (fun v V => v = .int .u64 V3 ∧ Kept [] u19 V) ((HR3.out _ j19).mono fun e w' hh => ⟨_, hh.1, rfl, hh.2⟩) ?_
      rintro _ u22 ⟨rfl, J22⟩
      have j22 := j19.trans J22
      have B22 := B19.kept J22 (by simp)
      try simp only [Act.put, List.setIfInBounds_toArray, List.set_cons_zero, List.set_cons_succ]
      refine hK.out _ _ (B22) (fun hS => ?_)
      clear hK K
      refine wpAnyH_take (i := 23) (oi := { dst := some 37, op := Op.binOp BinOp.neq 25 (Operand.tmp 33) (Operand.tmp 36) 25, type := 4, pos := "law.go:49", after := #[{ on := 19, ground := Ground.data }, { on := 22, ground := Ground.data }, { on := 16, ground := Ground.guard }], guard := some (16, false) }) (v := Value.bool false) rfl (by kernel_rfl) (by kernel_rfl) (by kernel_rfl) (fun _ _ _ h => h) (Or.inl ⟨rfl, fun _ _ => by go_simp⟩) hS ?_
      try simp only [Act.put, List.setIfInBounds_toArray, List.set_cons_zero, List.set_cons_succ]
      refine wpAnyH_take (i := 24) (oi := { dst := some 38, op := Op.pick (Operand.tmp 30) (Operand.const (Value.bool true)) (Operand.tmp 37), type := 4, pos := "law.go:49", after := #[{ on := 16, ground := Ground.data }, { on := 23, ground := Ground.data }], guard := none }) (v := Value.bool false) rfl (by kernel_rfl) (by kernel_rfl) (by kernel_rfl) (fun _ _ _ h => h) (Or.inl ⟨rfl, fun _ _ => by kernel_rfl⟩) hS ?_
      try simp only [Act.put, List.setIfInBounds_toArray, List.set_cons_zero, List.set_cons_succ]
      refine wpAnyH_done (by kernel_rfl) ?_ _
      have nouse := hS
      clear nouse hS HP1 HP2 HP3 HR1 HR2 HR3
      have HXX := hidOf (And.intro (B22) (And.intro (HX.out.2.1.kept j22 (by simp)) (HX.out.2.2.trans j22)))
      go_wp2
      go_roundw
      case rel => exact ⟨L + 1, by omega, by omega, by first | rfl | go_num, HXX.out.1, HXX.out.2.1, HXX.out.2.2⟩
      case measure => simp [intOf]; omega
    · go_upto_region 6 with (fail)
      have HD := hidOf (fun (Y : World) (k : Kept [] wr Y) => HD.out Y (HX.out.2.2.trans k))
      have HA := hidOf (fun (Y : World) (k : Kept [] wr Y) => HA.out Y (HX.out.2.2.trans k))
      have B4 : RW 44 wr.drew bx A := HX.out.1
      have K4 : Kept [] wr wr.drew := (Kept.refl [] wr).drew
      clear q3 HP1 HP2 HP3 HR1 HR2 HR3
      refine wp_region_held_drew (S := fun w' => RW 44 w' bx A) (by kernel_rfl) B4 (fun hS => ?_)
      generalize wr.drew = W4 at B4 K4 hS ⊢
      refine wpAnyH_take (i := 0) (oi := { dst := some 39, op := Op.move (Operand.tmp 0), type := 38, pos := "law.go:53", after := #[], guard := none }) (v := Value.pointer (some ⟨b, 0, none⟩)) rfl (by kernel_rfl) (by kernel_rfl) (by kernel_rfl) (fun _ _ _ h => h) (Or.inl ⟨rfl, fun _ _ => by kernel_rfl⟩) hS ?_
      try simp only [Act.put, List.setIfInBounds_toArray, List.set_cons_zero, List.set_cons_succ]
      refine wpAnyH_take (i := 2) (oi := { dst := some 41, op := Op.fieldAddr 44 (Operand.tmp 4) 11, type := 0, pos := "law.go:53", after := #[], guard := none }) (v := Value.pointer (some ⟨bx, 11, none⟩)) rfl (by kernel_rfl) (by kernel_rfl) (by kernel_rfl) (fun _ _ _ h => h) (Or.inl ⟨rfl, fun _ _ => by kernel_rfl⟩) hS ?_
      try simp only [Act.put, List.setIfInBounds_toArray, List.set_cons_zero, List.set_cons_succ]
      refine wpAnyH_take (i := 3) (oi := { dst := some 42, op := Op.load 4 (Operand.tmp 41), type := 4, pos := "law.go:53", after := #[{ on := 2, ground := Ground.data }], guard := none }) (v := Value.bool D) rfl (by kernel_rfl) (by kernel_rfl) (by kernel_rfl) (fun _ _ _ h => h) (Or.inl ⟨rfl, fun w hSw => by have z := cell_of_blk hSw (i := 11) (v := .bool D) k11; go_simp⟩) hS ?_
      try simp only [Act.put, List.setIfInBounds_toArray, List.set_cons_zero, List.set_cons_succ]
      refine wpAnyH_ready (rs := [1]) (by kernel_rfl) (by simp) ?_
      refine AllReadyH.cons (o := { dst := some 40, op := Op.call { callee := Callee.value (Operand.func 22), args := #[Operand.tmp 39], argTypes := #[38] }, type := 4, pos := "law.go:53", after := #[{ on := 0, ground := Ground.data }], guard := none }) rfl (fun K hK => ?_) AllReadyH.nil
      rw [if_pos (by rfl)]
      refine wp_calls 22 #[.pointer (some ⟨b, 0, none⟩)] (by kernel_rfl) (fun v V => v = .bool D ∧ Kept [] W4 V) ((HD.out _ K4).mono fun e w' hh => ⟨_, hh.1, rfl, hh.2⟩) ?_
      rintro _ u1 ⟨rfl, J1⟩
      have j1 := K4.trans J1
      have B1 := B4.kept J1 (by simp)
      try simp only [Act.put, List.setIfInBounds_toArray, List.set_cons_zero, List.set_cons_succ]
      refine hK.out _ _ (B1) (fun hS => ?_)
      clear hK K
      refine wpAnyH_take (i := 4) (oi := { dst := some 43, op := Op.binOp BinOp.eql 4 (Operand.tmp 40) (Operand.tmp 42) 4, type := 4, pos := "law.go:53", after := #[{ on := 1, ground := Ground.data }, { on := 3, ground := Ground.data }], guard := none }) (v := Value.bool true) rfl (by kernel_rfl) (by kernel_rfl) (by kernel_rfl) (fun _ _ _ h => h) (Or.inl ⟨rfl, fun _ _ => by go_simp⟩) hS ?_
      try simp only [Act.put, List.setIfInBounds_toArray, List.set_cons_zero, List.set_cons_succ]
      refine wpAnyH_take (i := 5) (oi := { dst := some 44, op := Op.move (Operand.tmp 43), type := 4, pos := "law.go:53", after := #[{ on := 4, ground := Ground.data }, { on := 1, ground := Ground.chain }], guard := none }) (v := Value.bool true) rfl (by kernel_rfl) (by kernel_rfl) (by kernel_rfl) (fun _ _ _ h => h) (Or.inl ⟨rfl, fun _ _ => by kernel_rfl⟩) hS ?_
      try simp only [Act.put, List.setIfInBounds_toArray, List.set_cons_zero, List.set_cons_succ]
      refine wpAnyH_take (i := 6) (oi := { dst := some 45, op := Op.move (Operand.tmp 0), type := 38, pos := "law.go:53", after := #[{ on := 5, ground := Ground.guard }], guard := some (5, true) }) (v := Value.pointer (some ⟨b, 0, none⟩)) rfl (by kernel_rfl) (by kernel_rfl) (by kernel_rfl) (fun _ _ _ h => h) (Or.inl ⟨rfl, fun _ _ => by kernel_rfl⟩) hS ?_
      try simp only [Act.put, List.setIfInBounds_toArray, List.set_cons_zero, List.set_cons_succ]
      refine wpAnyH_take (i := 8) (oi := { dst := some 47, op := Op.fieldAddr 44 (Operand.tmp 4) 10, type := 0, pos := "law.go:53", after := #[{ on := 5, ground := Ground.guard }], guard := some (5, true) }) (v := Value.pointer (some ⟨bx, 10, none⟩)) rfl (by kernel_rfl) (by kernel_rfl) (by kernel_rfl) (fun _ _ _ h => h) (Or.inl ⟨rfl, fun _ _ => by kernel_rfl⟩) hS ?_
      try simp only [Act.put, List.setIfInBounds_toArray, List.set_cons_zero, List.set_cons_succ]
      refine wpAnyH_take (i := 9) (oi := { dst := some 48, op := Op.load 3 (Operand.tmp 47), type := 3, pos := "law.go:53", after := #[{ on := 8, ground := Ground.data }, { on := 5, ground := Ground.guard }], guard := some (5, true) }) (v := Value.int .i64 AT) rfl (by kernel_rfl) (by kernel_rfl) (by kernel_rfl) (fun _ _ _ h => h) (Or.inl ⟨rfl, fun w hSw => by have z := cell_of_blk hSw (i := 10) (v := .int .i64 AT) k10; go_simp⟩) hS ?_
      try simp only [Act.put, List.setIfInBounds_toArray, List.set_cons_zero, List.set_cons_succ]
      refine wpAnyH_ready (rs := [7]) (by kernel_rfl) (by simp) ?_
      refine AllReadyH.cons (o := { dst := some 46, op := Op.call { callee := Callee.value (Operand.func 28), args := #[Operand.tmp 45], argTypes := #[38] }, type := 3, pos := "law.go:53", after := #[{ on := 6, ground := Ground.data }, { on := 5, ground := Ground.chain }, { on := 5, ground := Ground.guard }], guard := some (5, true) }) rfl (fun K hK => ?_) AllReadyH.nil
      rw [if_pos (by rfl)]
      refine wp_calls 28 #[.pointer (some ⟨b, 0, none⟩)] (by kernel_rfl) (fun v V => v = .int .i64 AT ∧ Kept [] u1 V) ((HA.out _ j1).mono fun e w' hh => ⟨_, hh.1, rfl, hh.2⟩) ?_
      rintro _ u7 ⟨rfl, J7⟩
      have j7 := j1.trans J7
      have B7 := B1.kept J7 (by simp)
      try simp only [Act.put, List.setIfInBounds_toArray, List.set_cons_zero, List.set_cons_succ]
      refine hK.out _ _ (B7) (fun hS => ?_)
      clear hK K
      refine wpAnyH_take (i := 10) (oi := { dst := some 49, op := Op.binOp BinOp.eql 3 (Operand.tmp 46) (Operand.tmp 48) 3, type := 4, pos := "law.go:53", after := #[{ on := 7, ground := Ground.data }, { on := 9, ground := Ground.data }, { on := 5, ground := Ground.guard }], guard := some (5, true) }) (v := Value.bool true) rfl (by kernel_rfl) (by kernel_rfl) (by kernel_rfl) (fun _ _ _ h => h) (Or.inl ⟨rfl, fun _ _ => by go_simp⟩) hS ?_
      try simp only [Act.put, List.setIfInBounds_toArray, List.set_cons_zero, List.set_cons_succ]
      refine wpAnyH_take (i := 11) (oi := { dst := some 50, op := Op.pick (Operand.tmp 44) (Operand.tmp 49) (Operand.const (Value.bool false)), type := 4, pos := "law.go:53", after := #[{ on := 5, ground := Ground.data }, { on := 10, ground := Ground.data }], guard := none }) (v := Value.bool true) rfl (by kernel_rfl) (by kernel_rfl) (by kernel_rfl) (fun _ _ _ h => h) (Or.inl ⟨rfl, fun _ _ => by kernel_rfl⟩) hS ?_
      try simp only [Act.put, List.setIfInBounds_toArray, List.set_cons_zero, List.set_cons_succ]
      refine wpAnyH_take (i := 12) (oi := { dst := some 6, op := Op.assign (Operand.tmp 50), type := 4, pos := "law.go:53", after := #[{ on := 11, ground := Ground.data }, { on := 7, ground := Ground.chain }, { on := 0, ground := Ground.phase }, { on := 1, ground := Ground.phase }, { on := 2, ground := Ground.phase }, { on := 3, ground := Ground.phase }, { on := 4, ground := Ground.phase }, { on := 5, ground := Ground.phase }, { on := 6, ground := Ground.phase }, { on := 7, ground := Ground.phase }, { on := 8, ground := Ground.phase }, { on := 9, ground := Ground.phase }, { on := 10, ground := Ground.phase }, { on := 11, ground := Ground.phase }], guard := none }) (v := Value.bool true) rfl (by kernel_rfl) (by kernel_rfl) (by kernel_rfl) (fun _ _ _ h => h) (Or.inl ⟨rfl, fun _ _ => by kernel_rfl⟩) hS ?_
      try simp only [Act.put, List.setIfInBounds_toArray, List.set_cons_zero, List.set_cons_succ]
      refine wpAnyH_done (by kernel_rfl) ?_ _
      have nouse := hS
      clear nouse hS
      go_wp2
      go_ret
      exact ⟨rfl, HX.out.2.2.trans j7⟩
end K
end Go.Proofs.YtgnkgkbjjeipbaaGreatDoor

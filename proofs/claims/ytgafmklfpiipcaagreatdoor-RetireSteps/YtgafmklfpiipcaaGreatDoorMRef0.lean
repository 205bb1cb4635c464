/-
  The document's own answers for layer 5: a world's words are a value (how great it is, and a bank); what each call makes of them.
-/
import Derived.Test.YtgafmklfpiipcaaGreatDoorMMem
import Derived.Test.YtgafmklfpiipcaaGreatDoorRefOps
import Derived.Test.YtgafmklfpiipcaaGreatDoorPRef
namespace Go.Proofs.YtgafmklfpiipcaaGreatDoor
open Go.RowKit (Grown Hid Below)
open Go.Deep
set_option maxRecDepth 100000
def rmV (c : Cfg) (ao : Option Addr) (n cap : Nat) (cnt : Int) (a : Acc) : Value := .agg #[.int .i64 c.t, .int .i64 c.s, .int .i64 c.c, .int .i64 c.h, .int .i64 c.k, .int .i64 c.e, .int .i64 c.l, .slice ao n cap, .int .i64 cnt, .int .i64 a.k, .int .i64 a.c, .int .u64 a.v, .int .u64 a.o, .int .u64 a.n, .bool a.d]
theorem rindex_is {x v : Int} (h : ixV x = v) (w : World) (h0 : 0 ≤ x) (h1 : x < 18446744073709551616) : Calls Tryz.prog 89 #[.int .u64 x] w fun e w' => e = .returned (.int .i64 v) ∧ Kept [] w w' := h ▸ rindex_any x w h0 h1
theorem rplain_is {x v : Int} (h : plainV x = v) (w : World) (h0 : 0 ≤ x) (h1 : x < 18446744073709551616) : Calls Tryz.prog 37 #[.int .u64 x] w fun e w' => e = .returned (.int .u64 v) ∧ Kept [] w w' := h ▸ rplain_any x w h0 h1
set_option maxRecDepth 100000 in
set_option maxHeartbeats 2000000 in
theorem rmcell_any (c : Cfg) (g n cap : Nat) (cnt : Int) (a : Acc) (h f : Int) (w : World) (h0 : 0 ≤ h) (h1 : h < 18446744073709551616) :
    Calls Tryz.prog 63 #[.agg #[.int .i64 c.t, .int .i64 c.s, .int .i64 c.c, .int .i64 c.h, .int .i64 c.k, .int .i64 c.e, .int .i64 c.l, .slice (some ⟨g, 0, none⟩) n cap, .int .i64 cnt, .int .i64 a.k, .int .i64 a.c, .int .u64 a.v, .int .u64 a.o, .int .u64 a.n, .bool a.d], .int .u64 h, .int .i64 f] w fun e w' => e = .returned (.int .i64 (clV' c (ixV h) f)) ∧ Kept [] w w' := by
  have Z := blk_alloc_new w (.cells #[.int .i64 c.t, .int .i64 c.s, .int .i64 c.c, .int .i64 c.h, .int .i64 c.k, .int .i64 c.e, .int .i64 c.l, .slice (some ⟨g, 0, none⟩) n cap, .int .i64 cnt, .int .i64 a.k, .int .i64 a.c, .int .u64 a.v, .int .u64 a.o, .int .u64 a.n, .bool a.d] 35)
  have K0 : Kept [] w (w.alloc (.cells #[.int .i64 c.t, .int .i64 c.s, .int .i64 c.c, .int .i64 c.h, .int .i64 c.k, .int .i64 c.e, .int .i64 c.l, .slice (some ⟨g, 0, none⟩) n cap, .int .i64 cnt, .int .i64 a.k, .int .i64 a.c, .int .u64 a.v, .int .u64 a.o, .int .u64 a.n, .bool a.d] 35)) := (Kept.refl _ _).alloc _
  obtain ⟨I, hI⟩ : ∃ I, ixV h = I := ⟨_, rfl⟩
  rw [hI]
  obtain ⟨X, hX⟩ : ∃ X, clV' c I f = X := ⟨_, rfl⟩
  rw [hX]
  have HI : Hid (∀ W' : World, Calls Tryz.prog 89 #[.int .u64 h] W' fun e w' => e = .returned (.int .i64 I) ∧ Kept [] W' w') := fun W' => rindex_is hI W' h0 h1
  have HX : Hid _ := hX
  clear hI hX h0 h1
  go_enter Tryz.func63, Tryz.ntmps63
  go_wp2_with fail
  generalize (w.alloc (.cells #[.int .i64 c.t, .int .i64 c.s, .int .i64 c.c, .int .i64 c.h, .int .i64 c.k, .int .i64 c.e, .int .i64 c.l, .slice (some ⟨g, 0, none⟩) n cap, .int .i64 cnt, .int .i64 a.k, .int .i64 a.c, .int .u64 a.v, .int .u64 a.o, .int .u64 a.n, .bool a.d] 35)) = W at Z K0 ⊢
  have q0 : ∀ u : KW W, u.val.cell? ⟨w.heap.size, 0, none⟩ = some (.int .i64 c.t) := KW.cell (cell_of_blk Z (i := 0) rfl)
  have q1 : ∀ u : KW W, u.val.cell? ⟨w.heap.size, 1, none⟩ = some (.int .i64 c.s) := KW.cell (cell_of_blk Z (i := 1) rfl)
  have q2 : ∀ u : KW W, u.val.cell? ⟨w.heap.size, 2, none⟩ = some (.int .i64 c.c) := KW.cell (cell_of_blk Z (i := 2) rfl)
  have q3 : ∀ u : KW W, u.val.cell? ⟨w.heap.size, 3, none⟩ = some (.int .i64 c.h) := KW.cell (cell_of_blk Z (i := 3) rfl)
  have q4 : ∀ u : KW W, u.val.cell? ⟨w.heap.size, 4, none⟩ = some (.int .i64 c.k) := KW.cell (cell_of_blk Z (i := 4) rfl)
  have q5 : ∀ u : KW W, u.val.cell? ⟨w.heap.size, 5, none⟩ = some (.int .i64 c.e) := KW.cell (cell_of_blk Z (i := 5) rfl)
  have q6 : ∀ u : KW W, u.val.cell? ⟨w.heap.size, 6, none⟩ = some (.int .i64 c.l) := KW.cell (cell_of_blk Z (i := 6) rfl)
  refine wp_region_kept (by kernel_rfl) (by kernel_rfl) ?_
  repeat (first | go_big_quiet_step ((first | (go_at_call 89; exact Calls.kw_of (HI.out _)) | (go_at_call 52; exact Calls.kw_of (rcell_is HX.out _)))) | quiet_step ((first | (go_at_call 89; exact Calls.kw_of (HI.out _)) | (go_at_call 52; exact Calls.kw_of (rcell_is HX.out _)))))
  refine wpQuiet_nil ?_
  intro _ hw'
  obtain ⟨pq, hw''⟩ := hw'
  subst hw''
  go_wp2
  go_ret
  exact ⟨rfl, K0.trans pq.kept⟩
theorem hf1 {w w7 : World} {b g' c' : Nat} {C : List Int} (R : RowR w7 g' C c') (T : Kept [] w w7) (hb : w.heap.size ≤ b) (gy : ¬ g' = b + 1) : ∀ V, Kept [b + 1] w7 V → RowR V g' C c' ∧ Kept [] w V :=
  fun _ k => ⟨R.kept k (by simpa using gy), T.then k (by simp; omega)⟩
theorem hf2 {w w7 : World} {b d g' c' : Nat} {C : List Int} (R : RowR w7 g' C c') (T : Kept [] w w7) (hb : w.heap.size ≤ b) (hd : w.heap.size ≤ d) (gy : ¬ g' = b + 1) (gz : ¬ g' = d) : ∀ V, Kept [b + 1, d] w7 V → RowR V g' C c' ∧ Kept [] w V :=
  fun _ k => ⟨R.kept k (by simp [gy, gz]), T.then k (by simp; omega)⟩
end Go.Proofs.YtgafmklfpiipcaaGreatDoor

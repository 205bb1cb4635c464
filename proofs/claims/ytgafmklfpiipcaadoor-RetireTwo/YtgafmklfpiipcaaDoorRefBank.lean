/-
  The document's own bank: a struct by value with a slice of words; the contracts of New and Of.
-/
import Derived.Test.YtgafmklfpiipcaaDoorOwn
import Derived.Deep.Cut
namespace Go.Proofs.YtgafmklfpiipcaaDoor
set_option maxRecDepth 100000
open Go.ChangeShapes Go.WideShapes Go.ChangeAt Go.RowKit
open Go.Deep
/-- The document's bank, by value. -/
def rbV (ao : Option Addr) (n cap : Nat) (cnt : Int) (a : Acc) : Value := .agg #[.slice ao n cap, .int .i64 cnt, .int .i64 a.k, .int .i64 a.c, .int .u64 a.v, .int .u64 a.o, .int .u64 a.n, .bool a.d]
theorem fldC (ao : Option Addr) (n cap : Nat) (cnt : Int) (a : Acc) (w : World) : (Instr.field 102 (rbV ao n cap cnt a) 0).run Tryd.prog w = .ok (.slice ao n cap) w := by kernel_rfl
theorem rbV_eq {ao : Option Addr} {n cap n' cap' : Nat} (h : n = n') (k : cap = cap') (cnt : Int) (a : Acc) : Ending.returned (rbV ao n cap cnt a) = .returned (rbV ao n' cap' cnt a) := by rw [h, k]
theorem row_made1 (w : World) (o : Obj) (N : Nat) : Row ((w.alloc o).alloc (.cells (madeCells #[.int .u64 0] N) 26)) (w.heap.size + 1) (List.replicate N 0) := by
  unfold Row; rw [blk_alloc, if_pos (by rw [nblk_alloc]), made_zero]
set_option maxRecDepth 100000 in
theorem rnew_any (n : Int) (w : World) :
    Calls Tryd.prog 65 #[.int .i64 n] w fun e w' => ∃ r, e = .returned (rbV (some ⟨r, 0, none⟩) (newN n) (newN n) 0 Acc.zero) ∧ w.heap.size ≤ r ∧ Row w' r (List.replicate (newN n) 0) ∧ Kept [] w w' := by
  have hb : newN n ≤ 100000 := by unfold newN; split; omega; split <;> omega
  have hmk := run_make_row' (P := Tryd.prog) 44 26 (.int .u64 0) 8 Tryd.underlying44 info_u64 rfl .i64 .i64 (newN n) (by omega) (by omega)
  have hN : (newN n : Int) = if n < 0 then 0 else if n ≤ 100000 then n else 100000 := by unfold newN; split; rfl; split <;> omega
  generalize newN n = N at hb hmk hN ⊢
  by_cases h0 : n < 0
  · rw [if_pos h0] at hN
    rw [hN] at hmk
    clear hN
    go_enter Tryd.func65, Tryd.ntmps65
    go_wp2
    exact bodyPost_ret (v := rbV (some ⟨w.heap.size + 1, 0, none⟩) N N 0 Acc.zero) (by simp [results, Tryd.results65, go_sem, rbV, Acc.zero]) rfl ⟨_, rfl, by omega, row_made1 w _ N, ((Kept.refl _ _).alloc _).alloc _⟩
  by_cases h1 : n ≤ 100000
  · rw [if_neg h0, if_pos h1] at hN
    rw [hN] at hmk
    clear hN
    go_enter Tryd.func65, Tryd.ntmps65
    go_wp2
    exact bodyPost_ret (v := rbV (some ⟨w.heap.size + 1, 0, none⟩) N N 0 Acc.zero) (by simp [results, Tryd.results65, go_sem, rbV, Acc.zero]) rfl ⟨_, rfl, by omega, row_made1 w _ N, ((Kept.refl _ _).alloc _).alloc _⟩
  · rw [if_neg h0, if_neg h1] at hN
    rw [hN] at hmk
    clear hN
    go_enter Tryd.func65, Tryd.ntmps65
    go_wp2
    exact bodyPost_ret (v := rbV (some ⟨w.heap.size + 1, 0, none⟩) N N 0 Acc.zero) (by simp [results, Tryd.results65, go_sem, rbV, Acc.zero]) rfl ⟨_, rfl, by omega, row_made1 w _ N, ((Kept.refl _ _).alloc _).alloc _⟩
end Go.Proofs.YtgafmklfpiipcaaDoor

/-
  The document's own bank: a struct by value with a slice of words; the contracts of New and Of.
-/
import Derived.Test.YtgafmklfpiipcaaGreatDoorOwn
import Derived.Deep.Cut
namespace Go.Proofs.YtgafmklfpiipcaaGreatDoor
set_option maxRecDepth 100000
open Go.ChangeShapes Go.WideShapes Go.ChangeAt Go.RowKit
open Go.Deep
/-- The document's bank, by value. -/
def rbV (ao : Option Addr) (n cap : Nat) (cnt : Int) (a : Acc) : Value := .agg #[.slice ao n cap, .int .i64 cnt, .int .i64 a.k, .int .i64 a.c, .int .u64 a.v, .int .u64 a.o, .int .u64 a.n, .bool a.d]
theorem fldC (ao : Option Addr) (n cap : Nat) (cnt : Int) (a : Acc) (w : World) : (Instr.field 33 (rbV ao n cap cnt a) 0).run Tryz.prog w = .ok (.slice ao n cap) w := by kernel_rfl
theorem rbV_eq {ao : Option Addr} {n cap n' cap' : Nat} (h : n = n') (k : cap = cap') (cnt : Int) (a : Acc) : Ending.returned (rbV ao n cap cnt a) = .returned (rbV ao n' cap' cnt a) := by rw [h, k]
theorem row_made1 (w : World) (o : Obj) (N : Nat) : Row ((w.alloc o).alloc (.cells (madeCells #[.int .u64 0] N) 25)) (w.heap.size + 1) (List.replicate N 0) := by
  unfold Row; rw [blk_alloc, if_pos (by rw [nblk_alloc]), made_zero]
set_option maxRecDepth 100000 in
theorem rnew_any (n : Int) (w : World) :
    Calls Tryz.prog 83 #[.int .i64 n] w fun e w' => ∃ r, e = .returned (rbV (some ⟨r, 0, none⟩) (newN n) (newN n) 0 Acc.zero) ∧ w.heap.size ≤ r ∧ Row w' r (List.replicate (newN n) 0) ∧ Kept [] w w' := by
  have hb : newN n ≤ 100000 := by unfold newN; split; omega; split <;> omega
  have hmk := run_make_row' (P := Tryz.prog) 24 25 (.int .u64 0) 8 Tryz.underlying24 info_u64 rfl .i64 .i64 (newN n) (by omega) (by omega)
  have hN : (newN n : Int) = if n < 0 then 0 else if n ≤ 100000 then n else 100000 := by unfold newN; split; rfl; split <;> omega
  generalize newN n = N at hb hmk hN ⊢
  by_cases h0 : n < 0
  · rw [if_pos h0] at hN
    rw [hN] at hmk
    clear hN
    go_enter Tryz.func83, Tryz.ntmps83
    go_wp2
    exact bodyPost_ret (v := rbV (some ⟨w.heap.size + 1, 0, none⟩) N N 0 Acc.zero) (by simp [results, Tryz.results83, go_sem, rbV, Acc.zero]) rfl ⟨_, rfl, by omega, row_made1 w _ N, ((Kept.refl _ _).alloc _).alloc _⟩
  by_cases h1 : n ≤ 100000
  · rw [if_neg h0, if_pos h1] at hN
    rw [hN] at hmk
    clear hN
    go_enter Tryz.func83, Tryz.ntmps83
    go_wp2
    exact bodyPost_ret (v := rbV (some ⟨w.heap.size + 1, 0, none⟩) N N 0 Acc.zero) (by simp [results, Tryz.results83, go_sem, rbV, Acc.zero]) rfl ⟨_, rfl, by omega, row_made1 w _ N, ((Kept.refl _ _).alloc _).alloc _⟩
  · rw [if_neg h0, if_neg h1] at hN
    rw [hN] at hmk
    clear hN
    go_enter Tryz.func83, Tryz.ntmps83
    go_wp2
    exact bodyPost_ret (v := rbV (some ⟨w.heap.size + 1, 0, none⟩) N N 0 Acc.zero) (by simp [results, Tryz.results83, go_sem, rbV, Acc.zero]) rfl ⟨_, rfl, by omega, row_made1 w _ N, ((Kept.refl _ _).alloc _).alloc _⟩
set_option maxRecDepth 100000 in
theorem rof_any (ao : Option Addr) (xs : List Int) (cap : Nat) (w : World) (hs : Sl w ao xs) (hc : ao = none → cap = 0) (hn : xs.length ≤ 17592186044415) :
    Calls Tryz.prog 45 #[.slice ao xs.length cap] w fun e w' => ∃ g c', e = .returned (rbV (some ⟨g, 0, none⟩) xs.length c' 0 Acc.zero) ∧ w.heap.size ≤ g ∧ RowR w' g xs c' ∧ Kept [] w w' := by
  obtain ⟨n, Hn⟩ : ∃ n, n = xs.length := ⟨_, rfl⟩
  rw [← Hn] at hn ⊢
  obtain ⟨W, HW⟩ : ∃ W, W = w.alloc (.cells #[.slice none 0 0, .int .i64 0, .int .i64 0, .int .i64 0, .int .u64 0, .int .u64 0, .int .u64 0, .bool false] 33) := ⟨_, rfl⟩
  have T0 : Kept [] w W := by rw [HW]; exact (Kept.refl _ _).alloc _
  have Z0 := blk_alloc_new w (.cells #[.slice none 0 0, .int .i64 0, .int .i64 0, .int .i64 0, .int .u64 0, .int .u64 0, .int .u64 0, .bool false] 33)
  rw [← HW] at Z0
  have H : Hid _ := HW
  clear HW
  obtain ⟨g, c', w1, hap, hg, hR, hK⟩ := append_new 24 W ao xs n cap Hn (hs.new T0) hc (by omega)
  have Z1 := hK.blk Z0 (by simp)
  have hf := free_of_blk Z1
  have q0 := cell_of_blk Z1 (i := 0) rfl
  have q1 := cell_of_blk Z1 (i := 1) rfl
  have q2 := cell_of_blk Z1 (i := 2) rfl
  have q3 := cell_of_blk Z1 (i := 3) rfl
  have q4 := cell_of_blk Z1 (i := 4) rfl
  have q5 := cell_of_blk Z1 (i := 5) rfl
  have q6 := cell_of_blk Z1 (i := 6) rfl
  have q7 := cell_of_blk Z1 (i := 7) rfl
  clear Hn
  go_enter Tryz.func45, Tryz.ntmps45
  go_upto_region 1 with (fail)
  rw [← H.out]
  go_wp2_with (at_builtin; refine wpList_append_run rfl (.tmp 3) (.tmp 4) 24 rfl rfl rfl hap ?_)
  have KS := kept_sets w.heap.size [(0, .slice (some ⟨g, 0, none⟩) n c'), (1, .int .i64 0), (2, .int .i64 0), (3, .int .i64 0), (4, .int .u64 0), (5, .int .u64 0), (6, .int .u64 0), (7, .bool false)] w1
  have hgn : g ∉ [w.heap.size] := by have := lt_of_blk Z0; simp; omega
  exact bodyPost_ret (v := rbV (some ⟨g, 0, none⟩) n c' 0 Acc.zero) (by simp [results, Tryz.results45, go_sem, rbV, Acc.zero, q0, q1, q2, q3, q4, q5, q6, q7]) rfl
    ⟨g, c', rfl, Nat.le_trans T0.size hg, hR.kept KS hgn, (T0.trans hK).then KS (by simp)⟩
end Go.Proofs.YtgafmklfpiipcaaGreatDoor

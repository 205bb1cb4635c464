/-
  Load, Store, Swap and Add of the document's own bank, and the law's own access to it.
-/
import Derived.Test.YtgafmklfpiipcaaGreatDoorRefDo2
namespace Go.Proofs.YtgafmklfpiipcaaGreatDoor
open Go.ChangeShapes Go.WideShapes Go.ChangeAt Go.RowKit
open Go.Deep
theorem blk2 (w : World) (a b : Obj) : ((w.alloc a).alloc b).heap[w.heap.size + 1]? = some b := by
  rw [blk_alloc, if_pos (by rw [nblk_alloc])]
theorem RowR.ne {w : World} {g b : Nat} {xs : List Int} {cap : Nat} {c : Array Value} {t : TypeId} (h : RowR w g xs cap) (z : w.heap[b]? = some (.cells c t (0, 0))) (ht : t ≠ 25) : ¬ g = b := by
  rintro rfl
  obtain ⟨rest, h1, _⟩ := h
  rw [h1] at z; simp at z; exact ht z.2.symm
theorem kept2 (w : World) (a b : Obj) : Kept [] w ((w.alloc a).alloc b) := ((Kept.refl [] w).alloc a).alloc b
set_option maxRecDepth 100000 in
set_option maxHeartbeats 1000000 in
theorem rload_any (g : Nat) (cs : List Int) (cap : Nat) (cnt : Int) (a : Acc) (c via : Int) (w : World) (hR : RowR w g cs cap) (hl : cs.length ≤ 17592186044415) (h0 : 0 ≤ cnt) (h1 : cnt < 4611686018427387904) :
    Calls Tryz.prog 70 #[rbV (some ⟨g, 0, none⟩) cs.length cap cnt a, .int .i64 c, .int .u64 via] w fun e w' =>
      ∃ g' c', e = .returned (.tuple #[rbV (some ⟨g', 0, none⟩) cs.length c' (cnt + 1) (acV cs 1 c via 0 0), .int .u64 (acV cs 1 c via 0 0).o]) ∧ (g' = g ∨ w.heap.size ≤ g') ∧ RowR w' g' (clV cs 1 c 0 0) c' ∧ Kept [] w w' := by
  simp only [rbV]
  go_enter Tryz.func70, Tryz.ntmps70
  go_wp2_with fail
  refine (rdo_any g cs cap cnt a 1 c via 0 0 _ (hR.kept (kept2 _ _ _) (by simp)) hl h0 h1).mono ?_
  rintro e w1 ⟨g', c', rfl, hn1, R1, K1⟩
  rw [nblk_alloc, nblk_alloc] at hn1
  have hn : Hid (g' = g ∨ w.heap.size ≤ g') := hn1.imp id (fun h => by omega)
  clear hn1
  have T1 := (kept2 w _ _).trans K1
  have Z1 := K1.blk (blk2 w _ _) (by simp)
  have wl := lt_of_blk Z1
  have hgn := R1.ne Z1 (by decide)
  have wl1 : w.heap.size < w1.heap.size := by omega
  have wl2 : w.heap.size + 1 < w1.heap.size + 1 := by omega
  have p0 := cell_of_blk Z1 (i := 0) rfl
  have p1 := cell_of_blk Z1 (i := 1) rfl
  have p2 := cell_of_blk Z1 (i := 2) rfl
  have p3 := cell_of_blk Z1 (i := 3) rfl
  have p4 := cell_of_blk Z1 (i := 4) rfl
  have p5 := cell_of_blk Z1 (i := 5) rfl
  have p6 := cell_of_blk Z1 (i := 6) rfl
  have p7 := cell_of_blk Z1 (i := 7) rfl
  have f1 := free_of_blk Z1
  simp only [rbV, Acc.val]
  have ks := kept_sets (w.heap.size + 1) [(0, .slice (some ⟨g', 0, none⟩) cs.length c'), (1, .int .i64 (cnt + 1)), (2, .int .i64 (acV cs 1 c via 0 0).k), (3, .int .i64 (acV cs 1 c via 0 0).c), (4, .int .u64 (acV cs 1 c via 0 0).v), (5, .int .u64 (acV cs 1 c via 0 0).o), (6, .int .u64 (acV cs 1 c via 0 0).n), (7, .bool (acV cs 1 c via 0 0).d)] w1
  have HF : Hid _ := And.intro (R1.kept ks (by simpa using hgn)) (T1.then ks (by simp))
  clear Z1 K1 R1 T1 ks hR
  go_wp2
  go_region
  all_goals
    go_wp2
    exact bodyPost_ret (v := .tuple #[rbV (some ⟨g', 0, none⟩) cs.length c' (cnt + 1) (acV cs 1 c via 0 0), .int .u64 (acV cs 1 c via 0 0).o]) (by simp [results, Tryz.results70, go_sem, rbV, p0, p1, p2, p3, p4, p5, p6, p7, wl, wl2]) rfl ⟨g', c', rfl, hn.out, HF.out.1.kept (kept2 _ _ _).drew (by simp), HF.out.2.trans (kept2 _ _ _).drew⟩
set_option maxRecDepth 100000 in
set_option maxHeartbeats 1000000 in
theorem rstore_any (g : Nat) (cs : List Int) (cap : Nat) (cnt : Int) (a : Acc) (c via v : Int) (w : World) (hR : RowR w g cs cap) (hl : cs.length ≤ 17592186044415) (h0 : 0 ≤ cnt) (h1 : cnt < 4611686018427387904) :
    Calls Tryz.prog 61 #[rbV (some ⟨g, 0, none⟩) cs.length cap cnt a, .int .i64 c, .int .u64 via, .int .u64 v] w fun e w' =>
      ∃ g' c', e = .returned (rbV (some ⟨g', 0, none⟩) cs.length c' (cnt + 1) (acV cs 2 c via 0 v)) ∧ (g' = g ∨ w.heap.size ≤ g') ∧ RowR w' g' (clV cs 2 c 0 v) c' ∧ Kept [] w w' := by
  simp only [rbV]
  go_enter Tryz.func61, Tryz.ntmps61
  go_wp2_with fail
  refine (rdo_any g cs cap cnt a 2 c via 0 v _ (hR.kept (kept2 _ _ _) (by simp)) hl h0 h1).mono ?_
  rintro e w1 ⟨g', c', rfl, hn1, R1, K1⟩
  rw [nblk_alloc, nblk_alloc] at hn1
  have hn : Hid (g' = g ∨ w.heap.size ≤ g') := hn1.imp id (fun h => by omega)
  clear hn1
  have T1 := (kept2 w _ _).trans K1
  have Z1 := K1.blk (blk2 w _ _) (by simp)
  have wl := lt_of_blk Z1
  have hgn := R1.ne Z1 (by decide)
  have wl1 : w.heap.size < w1.heap.size := by omega
  have wl2 : w.heap.size + 1 < w1.heap.size + 1 := by omega
  have p0 := cell_of_blk Z1 (i := 0) rfl
  have p1 := cell_of_blk Z1 (i := 1) rfl
  have p2 := cell_of_blk Z1 (i := 2) rfl
  have p3 := cell_of_blk Z1 (i := 3) rfl
  have p4 := cell_of_blk Z1 (i := 4) rfl
  have p5 := cell_of_blk Z1 (i := 5) rfl
  have p6 := cell_of_blk Z1 (i := 6) rfl
  have p7 := cell_of_blk Z1 (i := 7) rfl
  have f1 := free_of_blk Z1
  simp only [rbV, Acc.val]
  have ks := kept_sets (w.heap.size + 1) [(0, .slice (some ⟨g', 0, none⟩) cs.length c'), (1, .int .i64 (cnt + 1)), (2, .int .i64 (acV cs 2 c via 0 v).k), (3, .int .i64 (acV cs 2 c via 0 v).c), (4, .int .u64 (acV cs 2 c via 0 v).v), (5, .int .u64 (acV cs 2 c via 0 v).o), (6, .int .u64 (acV cs 2 c via 0 v).n), (7, .bool (acV cs 2 c via 0 v).d)] w1
  have HF : Hid _ := And.intro (R1.kept ks (by simpa using hgn)) (T1.then ks (by simp))
  clear Z1 K1 R1 T1 ks hR
  go_wp2
  exact bodyPost_ret (v := rbV (some ⟨g', 0, none⟩) cs.length c' (cnt + 1) (acV cs 2 c via 0 v)) (by simp [results, Tryz.results61, go_sem, rbV, p0, p1, p2, p3, p4, p5, p6, p7, wl, wl2]) rfl ⟨g', c', rfl, hn.out, HF.out.1.kept (kept2 _ _ _) (by simp), HF.out.2.trans (kept2 _ _ _)⟩
set_option maxRecDepth 100000 in
set_option maxHeartbeats 1000000 in
theorem rswap_any (g : Nat) (cs : List Int) (cap : Nat) (cnt : Int) (a : Acc) (c via old v : Int) (w : World) (hR : RowR w g cs cap) (hl : cs.length ≤ 17592186044415) (h0 : 0 ≤ cnt) (h1 : cnt < 4611686018427387904) :
    Calls Tryz.prog 92 #[rbV (some ⟨g, 0, none⟩) cs.length cap cnt a, .int .i64 c, .int .u64 via, .int .u64 old, .int .u64 v] w fun e w' =>
      ∃ g' c', e = .returned (.tuple #[rbV (some ⟨g', 0, none⟩) cs.length c' (cnt + 1) (acV cs 3 c via old v), .bool (acV cs 3 c via old v).d]) ∧ (g' = g ∨ w.heap.size ≤ g') ∧ RowR w' g' (clV cs 3 c old v) c' ∧ Kept [] w w' := by
  simp only [rbV]
  go_enter Tryz.func92, Tryz.ntmps92
  go_wp2_with fail
  refine (rdo_any g cs cap cnt a 3 c via old v _ (hR.kept (kept2 _ _ _) (by simp)) hl h0 h1).mono ?_
  rintro e w1 ⟨g', c', rfl, hn1, R1, K1⟩
  rw [nblk_alloc, nblk_alloc] at hn1
  have hn : Hid (g' = g ∨ w.heap.size ≤ g') := hn1.imp id (fun h => by omega)
  clear hn1
  have T1 := (kept2 w _ _).trans K1
  have Z1 := K1.blk (blk2 w _ _) (by simp)
  have wl := lt_of_blk Z1
  have hgn := R1.ne Z1 (by decide)
  have wl1 : w.heap.size < w1.heap.size := by omega
  have wl2 : w.heap.size + 1 < w1.heap.size + 1 := by omega
  have p0 := cell_of_blk Z1 (i := 0) rfl
  have p1 := cell_of_blk Z1 (i := 1) rfl
  have p2 := cell_of_blk Z1 (i := 2) rfl
  have p3 := cell_of_blk Z1 (i := 3) rfl
  have p4 := cell_of_blk Z1 (i := 4) rfl
  have p5 := cell_of_blk Z1 (i := 5) rfl
  have p6 := cell_of_blk Z1 (i := 6) rfl
  have p7 := cell_of_blk Z1 (i := 7) rfl
  have f1 := free_of_blk Z1
  simp only [rbV, Acc.val]
  have ks := kept_sets (w.heap.size + 1) [(0, .slice (some ⟨g', 0, none⟩) cs.length c'), (1, .int .i64 (cnt + 1)), (2, .int .i64 (acV cs 3 c via old v).k), (3, .int .i64 (acV cs 3 c via old v).c), (4, .int .u64 (acV cs 3 c via old v).v), (5, .int .u64 (acV cs 3 c via old v).o), (6, .int .u64 (acV cs 3 c via old v).n), (7, .bool (acV cs 3 c via old v).d)] w1
  have HF : Hid _ := And.intro (R1.kept ks (by simpa using hgn)) (T1.then ks (by simp))
  clear Z1 K1 R1 T1 ks hR
  go_wp2
  go_region
  all_goals
    go_wp2
    exact bodyPost_ret (v := .tuple #[rbV (some ⟨g', 0, none⟩) cs.length c' (cnt + 1) (acV cs 3 c via old v), .bool (acV cs 3 c via old v).d]) (by simp [results, Tryz.results92, go_sem, rbV, p0, p1, p2, p3, p4, p5, p6, p7, wl, wl2]) rfl ⟨g', c', rfl, hn.out, HF.out.1.kept (kept2 _ _ _).drew (by simp), HF.out.2.trans (kept2 _ _ _).drew⟩
set_option maxRecDepth 100000 in
set_option maxHeartbeats 1000000 in
theorem radd_any (g : Nat) (cs : List Int) (cap : Nat) (cnt : Int) (a : Acc) (c via v : Int) (w : World) (hR : RowR w g cs cap) (hl : cs.length ≤ 17592186044415) (h0 : 0 ≤ cnt) (h1 : cnt < 4611686018427387904) :
    Calls Tryz.prog 62 #[rbV (some ⟨g, 0, none⟩) cs.length cap cnt a, .int .i64 c, .int .u64 via, .int .u64 v] w fun e w' =>
      ∃ g' c', e = .returned (.tuple #[rbV (some ⟨g', 0, none⟩) cs.length c' (cnt + 1) (acV cs 4 c via 0 v), .int .u64 (acV cs 4 c via 0 v).o]) ∧ (g' = g ∨ w.heap.size ≤ g') ∧ RowR w' g' (clV cs 4 c 0 v) c' ∧ Kept [] w w' := by
  simp only [rbV]
  go_enter Tryz.func62, Tryz.ntmps62
  go_wp2_with fail
  refine (rdo_any g cs cap cnt a 4 c via 0 v _ (hR.kept (kept2 _ _ _) (by simp)) hl h0 h1).mono ?_
  rintro e w1 ⟨g', c', rfl, hn1, R1, K1⟩
  rw [nblk_alloc, nblk_alloc] at hn1
  have hn : Hid (g' = g ∨ w.heap.size ≤ g') := hn1.imp id (fun h => by omega)
  clear hn1
  have T1 := (kept2 w _ _).trans K1
  have Z1 := K1.blk (blk2 w _ _) (by simp)
  have wl := lt_of_blk Z1
  have hgn := R1.ne Z1 (by decide)
  have wl1 : w.heap.size < w1.heap.size := by omega
  have wl2 : w.heap.size + 1 < w1.heap.size + 1 := by omega
  have p0 := cell_of_blk Z1 (i := 0) rfl
  have p1 := cell_of_blk Z1 (i := 1) rfl
  have p2 := cell_of_blk Z1 (i := 2) rfl
  have p3 := cell_of_blk Z1 (i := 3) rfl
  have p4 := cell_of_blk Z1 (i := 4) rfl
  have p5 := cell_of_blk Z1 (i := 5) rfl
  have p6 := cell_of_blk Z1 (i := 6) rfl
  have p7 := cell_of_blk Z1 (i := 7) rfl
  have f1 := free_of_blk Z1
  simp only [rbV, Acc.val]
  have ks := kept_sets (w.heap.size + 1) [(0, .slice (some ⟨g', 0, none⟩) cs.length c'), (1, .int .i64 (cnt + 1)), (2, .int .i64 (acV cs 4 c via 0 v).k), (3, .int .i64 (acV cs 4 c via 0 v).c), (4, .int .u64 (acV cs 4 c via 0 v).v), (5, .int .u64 (acV cs 4 c via 0 v).o), (6, .int .u64 (acV cs 4 c via 0 v).n), (7, .bool (acV cs 4 c via 0 v).d)] w1
  have HF : Hid _ := And.intro (R1.kept ks (by simpa using hgn)) (T1.then ks (by simp))
  clear Z1 K1 R1 T1 ks hR
  go_wp2
  go_region
  all_goals
    go_wp2
    exact bodyPost_ret (v := .tuple #[rbV (some ⟨g', 0, none⟩) cs.length c' (cnt + 1) (acV cs 4 c via 0 v), .int .u64 (acV cs 4 c via 0 v).o]) (by simp [results, Tryz.results62, go_sem, rbV, p0, p1, p2, p3, p4, p5, p6, p7, wl, wl2]) rfl ⟨g', c', rfl, hn.out, HF.out.1.kept (kept2 _ _ _).drew (by simp), HF.out.2.trans (kept2 _ _ _).drew⟩
end Go.Proofs.YtgafmklfpiipcaaGreatDoor

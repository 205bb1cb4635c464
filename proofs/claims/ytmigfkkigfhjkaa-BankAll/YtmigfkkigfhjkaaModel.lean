/-
  The law's own access to the document's bank, of whatever kind.
-/
import Derived.Test.YtmigfkkigfhjkaaRefOps
namespace Go.Proofs.Ytmigfkkigfhjkaa
open Go.ChangeShapes Go.WideShapes Go.ChangeAt Go.RowKit
open Go.Deep
theorem blk3 (w : World) (a b c : Obj) : (((w.alloc a).alloc b).alloc c).heap[w.heap.size + 1 + 1]? = some c := by
  rw [blk_alloc, if_pos (by rw [nblk_alloc, nblk_alloc])]
theorem kept3 (w : World) (a b c : Obj) : Kept [] w (((w.alloc a).alloc b).alloc c) := (((Kept.refl [] w).alloc a).alloc b).alloc c
set_option maxRecDepth 100000 in
set_option maxHeartbeats 1000000 in
theorem model_any (g : Nat) (cs : List Int) (cap : Nat) (cnt : Int) (a : Acc) (o : OpV) (w : World) (hR : RowR w g cs cap) (hl : cs.length ≤ 17592186044415) (h0 : 0 ≤ cnt) (h1 : cnt < 4611686018427387904) :
    Calls Try.prog 13 #[rbV (some ⟨g, 0, none⟩) cs.length cap cnt a, o.val] w fun e w' =>
      ∃ g' c', e = .returned (.tuple #[rbV (some ⟨g', 0, none⟩) cs.length c' (dsN cnt o) (dsA cs a o), .int .u64 (dsU cs o), .bool (dsB cs o)]) ∧ (g' = g ∨ w.heap.size ≤ g') ∧ RowR w' g' (dsC cs o) c' ∧ Kept [] w w' := by
  obtain ⟨k, c, via, old, v⟩ := o
  by_cases e1 : k = 1
  · subst e1
    simp only [dsU, dsB, dsC, dsN, dsA, opA, isOp, OpV.val]
    simp (decide := true) only [if_true, if_false]
    rw [acV_1, clV_1]
    simp only [rbV]
    go_enter Try.func13, Try.ntmps13
    go_wp2_with fail
    refine (rload_any g cs cap cnt a c via _ (hR.kept (kept3 _ _ _ _) (by simp)) hl h0 h1).mono ?_
    rintro e w1 ⟨g', c', rfl, hn1, R1, K1⟩
    rw [nblk_alloc, nblk_alloc, nblk_alloc] at hn1
    have hn : Hid (g' = g ∨ w.heap.size ≤ g') := hn1.imp id (fun h => by omega)
    clear hn1
    have T1 := (kept3 w _ _ _).trans K1
    have Z1 := K1.blk (blk3 w _ _ _) (by simp)
    have wl := lt_of_blk Z1
    have hgn := R1.ne Z1 (by decide)
    have wl1 : w.heap.size + 1 < w1.heap.size := by omega
    have wl2 : w.heap.size + 1 + 1 < w1.heap.size + 1 := by omega
    have p0 := cell_of_blk Z1 (i := 0) rfl
    have p1 := cell_of_blk Z1 (i := 1) rfl
    have p2 := cell_of_blk Z1 (i := 2) rfl
    have p3 := cell_of_blk Z1 (i := 3) rfl
    have p4 := cell_of_blk Z1 (i := 4) rfl
    have p5 := cell_of_blk Z1 (i := 5) rfl
    have p6 := cell_of_blk Z1 (i := 6) rfl
    have p7 := cell_of_blk Z1 (i := 7) rfl
    have f1 := free_of_blk Z1
    simp only [rbV]
    have ks := kept_sets (w.heap.size + 1 + 1) [(0, .slice (some ⟨g', 0, none⟩) cs.length c'), (1, .int .i64 (cnt + 1)), (2, .int .i64 (acV cs 1 c via 0 0).k), (3, .int .i64 (acV cs 1 c via 0 0).c), (4, .int .u64 (acV cs 1 c via 0 0).v), (5, .int .u64 (acV cs 1 c via 0 0).o), (6, .int .u64 (acV cs 1 c via 0 0).n), (7, .bool (acV cs 1 c via 0 0).d)] w1
    have HF : Hid _ := And.intro (R1.kept ks (by simpa using hgn)) (T1.then ks (by simp; omega))
    clear Z1 K1 R1 T1 ks hR
    go_wp2
    exact bodyPost_ret (v := .tuple #[rbV (some ⟨g', 0, none⟩) cs.length c' (cnt + 1) (acV cs 1 c via 0 0), .int .u64 (acV cs 1 c via 0 0).o, .bool false]) (by simp [results, Try.results13, go_sem, rbV, p0, p1, p2, p3, p4, p5, p6, p7, wl]) rfl ⟨g', c', rfl, hn.out, HF.out.1.kept ((Kept.refl [] _).alloc _) (by simp), HF.out.2.trans ((Kept.refl [] _).alloc _)⟩
  by_cases e2 : k = 2
  · subst e2
    simp only [dsU, dsB, dsC, dsN, dsA, opA, isOp, OpV.val]
    simp (decide := true) only [if_true, if_false]
    rw [acV_2, clV_2]
    simp only [rbV]
    go_enter Try.func13, Try.ntmps13
    go_wp2_with fail
    refine (rstore_any g cs cap cnt a c via v _ (hR.kept (kept3 _ _ _ _) (by simp)) hl h0 h1).mono ?_
    rintro e w1 ⟨g', c', rfl, hn1, R1, K1⟩
    rw [nblk_alloc, nblk_alloc, nblk_alloc] at hn1
    have hn : Hid (g' = g ∨ w.heap.size ≤ g') := hn1.imp id (fun h => by omega)
    clear hn1
    have T1 := (kept3 w _ _ _).trans K1
    have Z1 := K1.blk (blk3 w _ _ _) (by simp)
    have wl := lt_of_blk Z1
    have hgn := R1.ne Z1 (by decide)
    have wl1 : w.heap.size + 1 < w1.heap.size := by omega
    have wl2 : w.heap.size + 1 + 1 < w1.heap.size + 1 := by omega
    have p0 := cell_of_blk Z1 (i := 0) rfl
    have p1 := cell_of_blk Z1 (i := 1) rfl
    have p2 := cell_of_blk Z1 (i := 2) rfl
    have p3 := cell_of_blk Z1 (i := 3) rfl
    have p4 := cell_of_blk Z1 (i := 4) rfl
    have p5 := cell_of_blk Z1 (i := 5) rfl
    have p6 := cell_of_blk Z1 (i := 6) rfl
    have p7 := cell_of_blk Z1 (i := 7) rfl
    have f1 := free_of_blk Z1
    simp only [rbV]
    have ks := kept_sets (w.heap.size + 1 + 1) [(0, .slice (some ⟨g', 0, none⟩) cs.length c'), (1, .int .i64 (cnt + 1)), (2, .int .i64 (acV cs 2 c via 0 v).k), (3, .int .i64 (acV cs 2 c via 0 v).c), (4, .int .u64 (acV cs 2 c via 0 v).v), (5, .int .u64 (acV cs 2 c via 0 v).o), (6, .int .u64 (acV cs 2 c via 0 v).n), (7, .bool (acV cs 2 c via 0 v).d)] w1
    have HF : Hid _ := And.intro (R1.kept ks (by simpa using hgn)) (T1.then ks (by simp; omega))
    clear Z1 K1 R1 T1 ks hR
    go_wp2
    exact bodyPost_ret (v := .tuple #[rbV (some ⟨g', 0, none⟩) cs.length c' (cnt + 1) (acV cs 2 c via 0 v), .int .u64 0, .bool false]) (by simp [results, Try.results13, go_sem, rbV, p0, p1, p2, p3, p4, p5, p6, p7]) rfl ⟨g', c', rfl, hn.out, HF.out.1.kept (Kept.refl [] _) (by simp), HF.out.2.trans (Kept.refl [] _)⟩
  by_cases e3 : k = 3
  · subst e3
    simp only [dsU, dsB, dsC, dsN, dsA, opA, isOp, OpV.val]
    simp (decide := true) only [if_true, if_false]
    skip
    simp only [rbV]
    go_enter Try.func13, Try.ntmps13
    go_wp2_with fail
    refine (rswap_any g cs cap cnt a c via old v _ (hR.kept (kept3 _ _ _ _) (by simp)) hl h0 h1).mono ?_
    rintro e w1 ⟨g', c', rfl, hn1, R1, K1⟩
    rw [nblk_alloc, nblk_alloc, nblk_alloc] at hn1
    have hn : Hid (g' = g ∨ w.heap.size ≤ g') := hn1.imp id (fun h => by omega)
    clear hn1
    have T1 := (kept3 w _ _ _).trans K1
    have Z1 := K1.blk (blk3 w _ _ _) (by simp)
    have wl := lt_of_blk Z1
    have hgn := R1.ne Z1 (by decide)
    have wl1 : w.heap.size + 1 < w1.heap.size := by omega
    have wl2 : w.heap.size + 1 + 1 < w1.heap.size + 1 := by omega
    have p0 := cell_of_blk Z1 (i := 0) rfl
    have p1 := cell_of_blk Z1 (i := 1) rfl
    have p2 := cell_of_blk Z1 (i := 2) rfl
    have p3 := cell_of_blk Z1 (i := 3) rfl
    have p4 := cell_of_blk Z1 (i := 4) rfl
    have p5 := cell_of_blk Z1 (i := 5) rfl
    have p6 := cell_of_blk Z1 (i := 6) rfl
    have p7 := cell_of_blk Z1 (i := 7) rfl
    have f1 := free_of_blk Z1
    simp only [rbV]
    have ks := kept_sets (w.heap.size + 1 + 1) [(0, .slice (some ⟨g', 0, none⟩) cs.length c'), (1, .int .i64 (cnt + 1)), (2, .int .i64 (acV cs 3 c via old v).k), (3, .int .i64 (acV cs 3 c via old v).c), (4, .int .u64 (acV cs 3 c via old v).v), (5, .int .u64 (acV cs 3 c via old v).o), (6, .int .u64 (acV cs 3 c via old v).n), (7, .bool (acV cs 3 c via old v).d)] w1
    have HF : Hid _ := And.intro (R1.kept ks (by simpa using hgn)) (T1.then ks (by simp; omega))
    clear Z1 K1 R1 T1 ks hR
    go_wp2
    exact bodyPost_ret (v := .tuple #[rbV (some ⟨g', 0, none⟩) cs.length c' (cnt + 1) (acV cs 3 c via old v), .int .u64 0, .bool (acV cs 3 c via old v).d]) (by simp [results, Try.results13, go_sem, rbV, p0, p1, p2, p3, p4, p5, p6, p7, wl]) rfl ⟨g', c', rfl, hn.out, HF.out.1.kept ((Kept.refl [] _).alloc _) (by simp), HF.out.2.trans ((Kept.refl [] _).alloc _)⟩
  by_cases e4 : k = 4
  · subst e4
    simp only [dsU, dsB, dsC, dsN, dsA, opA, isOp, OpV.val]
    simp (decide := true) only [if_true, if_false]
    rw [acV_4, clV_4]
    simp only [rbV]
    go_enter Try.func13, Try.ntmps13
    go_wp2_with fail
    refine (radd_any g cs cap cnt a c via v _ (hR.kept (kept3 _ _ _ _) (by simp)) hl h0 h1).mono ?_
    rintro e w1 ⟨g', c', rfl, hn1, R1, K1⟩
    rw [nblk_alloc, nblk_alloc, nblk_alloc] at hn1
    have hn : Hid (g' = g ∨ w.heap.size ≤ g') := hn1.imp id (fun h => by omega)
    clear hn1
    have T1 := (kept3 w _ _ _).trans K1
    have Z1 := K1.blk (blk3 w _ _ _) (by simp)
    have wl := lt_of_blk Z1
    have hgn := R1.ne Z1 (by decide)
    have wl1 : w.heap.size + 1 < w1.heap.size := by omega
    have wl2 : w.heap.size + 1 + 1 < w1.heap.size + 1 := by omega
    have p0 := cell_of_blk Z1 (i := 0) rfl
    have p1 := cell_of_blk Z1 (i := 1) rfl
    have p2 := cell_of_blk Z1 (i := 2) rfl
    have p3 := cell_of_blk Z1 (i := 3) rfl
    have p4 := cell_of_blk Z1 (i := 4) rfl
    have p5 := cell_of_blk Z1 (i := 5) rfl
    have p6 := cell_of_blk Z1 (i := 6) rfl
    have p7 := cell_of_blk Z1 (i := 7) rfl
    have f1 := free_of_blk Z1
    simp only [rbV]
    have ks := kept_sets (w.heap.size + 1 + 1) [(0, .slice (some ⟨g', 0, none⟩) cs.length c'), (1, .int .i64 (cnt + 1)), (2, .int .i64 (acV cs 4 c via 0 v).k), (3, .int .i64 (acV cs 4 c via 0 v).c), (4, .int .u64 (acV cs 4 c via 0 v).v), (5, .int .u64 (acV cs 4 c via 0 v).o), (6, .int .u64 (acV cs 4 c via 0 v).n), (7, .bool (acV cs 4 c via 0 v).d)] w1
    have HF : Hid _ := And.intro (R1.kept ks (by simpa using hgn)) (T1.then ks (by simp; omega))
    clear Z1 K1 R1 T1 ks hR
    go_wp2
    exact bodyPost_ret (v := .tuple #[rbV (some ⟨g', 0, none⟩) cs.length c' (cnt + 1) (acV cs 4 c via 0 v), .int .u64 (acV cs 4 c via 0 v).o, .bool false]) (by simp [results, Try.results13, go_sem, rbV, p0, p1, p2, p3, p4, p5, p6, p7, wl]) rfl ⟨g', c', rfl, hn.out, HF.out.1.kept ((Kept.refl [] _).alloc _) (by simp), HF.out.2.trans ((Kept.refl [] _).alloc _)⟩
  · have hk : ¬ isOp k := by unfold isOp; omega
    simp only [dsU, dsB, dsC, dsN, dsA, OpV.val]
    rw [if_neg (show ¬ (k = 1 ∨ k = 4) by omega), if_neg e3, if_neg hk, if_neg hk, if_neg hk]
    clear hk
    simp only [rbV]
    go_enter Try.func13, Try.ntmps13
    go_wp2
    exact bodyPost_ret (v := .tuple #[rbV (some ⟨g, 0, none⟩) cs.length cap cnt a, .int .u64 0, .bool false]) (by simp [results, Try.results13, go_sem, rbV]) rfl ⟨g, cap, rfl, Or.inl rfl, hR.kept (kept3 _ _ _ _) (by simp), kept3 _ _ _ _⟩
end Go.Proofs.Ytmigfkkigfhjkaa

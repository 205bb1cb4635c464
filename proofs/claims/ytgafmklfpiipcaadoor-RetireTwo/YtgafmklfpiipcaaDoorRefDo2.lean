/-
  The document's own access to a bank by value, where the cell turns: the cells are copied first.
-/
import Derived.Test.YtgafmklfpiipcaaDoorRefDo
namespace Go.Proofs.YtgafmklfpiipcaaDoor
open Go.ChangeShapes Go.WideShapes Go.ChangeAt Go.RowKit
open Go.Deep
theorem blk5 (w : World) (a b c d e : Obj) : ((((((w.alloc a).alloc b).alloc c).alloc d).alloc e).heap[w.heap.size]? = some a ∧ (((((w.alloc a).alloc b).alloc c).alloc d).alloc e).heap[w.heap.size + 1]? = some b ∧ (((((w.alloc a).alloc b).alloc c).alloc d).alloc e).heap[w.heap.size + 1 + 1]? = some c ∧
    (((((w.alloc a).alloc b).alloc c).alloc d).alloc e).heap[w.heap.size + 1 + 1 + 1]? = some d ∧ (((((w.alloc a).alloc b).alloc c).alloc d).alloc e).heap[w.heap.size + 1 + 1 + 1 + 1]? = some e) := by
  simp only [blk_alloc, nblk_alloc]
  refine ⟨?_, ?_, ?_, ?_, ?_⟩
  · rw [if_neg (by omega), if_neg (by omega), if_neg (by omega), if_neg (by omega), if_true]
  · rw [if_neg (by omega), if_neg (by omega), if_neg (by omega), if_true]
  · rw [if_neg (by omega), if_neg (by omega), if_true]
  · rw [if_neg (by omega), if_true]
  · rw [if_true]
theorem blk_sets (b : Nat) {t : TypeId} : ∀ (l : List (Nat × Value)) (w : World) (c : Array Value), w.heap[b]? = some (.cells c t (0, 0)) → (sets b w l).heap[b]? = some (.cells (l.foldl (fun c p => c.setIfInBounds p.1 p.2) c) t (0, 0))
  | [], _, _, h => h
  | p :: l, _, _, h => blk_sets b l _ _ (blk_set h p.1 p.2)
/-- What the stores behind the copy leave: the bank that is handed back (block so), and its row. -/
theorem rdo_tail {w1 : World} {so g' i c' : Nat} {cs : List Int} {t : TypeId} {s0 n1 z2 z3 z4 z5 z6 z7 : Value} (zo : w1.heap[so]? = some (.cells #[s0, n1, z2, z3, z4, z5, z6, z7] t (0, 0))) (hR : RowR w1 g' cs c') (hne : ¬ g' = so) (hi : i < cs.length) (S : Value) (X : Int) (b2 b3 b4 b5 b6 b7 : Value) :
    (sets so ((w1.setCell ⟨so, 0, none⟩ S).setCell ⟨g', i, none⟩ (.int .u64 X)) [(2, b2), (3, b3), (4, b4), (5, b5), (6, b6), (7, b7)]).heap[so]? = some (.cells #[S, n1, b2, b3, b4, b5, b6, b7] t (0, 0)) ∧
    RowR (sets so ((w1.setCell ⟨so, 0, none⟩ S).setCell ⟨g', i, none⟩ (.int .u64 X)) [(2, b2), (3, b3), (4, b4), (5, b5), (6, b6), (7, b7)]) g' (cs.set i X) c' ∧
    Kept [so, g'] w1 (sets so ((w1.setCell ⟨so, 0, none⟩ S).setCell ⟨g', i, none⟩ (.int .u64 X)) [(2, b2), (3, b3), (4, b4), (5, b5), (6, b6), (7, b7)]) := by
  have k1 : Kept [so] w1 (w1.setCell ⟨so, 0, none⟩ S) := (Kept.refl _ _).setCell (Or.inl (by simp)) _
  have hR1 := hR.kept k1 (by simpa using hne)
  have z1 := blk_set zo 0 S
  have z2' : ((w1.setCell ⟨so, 0, none⟩ S).setCell ⟨g', i, none⟩ (.int .u64 X)).heap[so]? = _ := (blk_setCell_other _ _ _ _ (fun e => hne e.symm)).trans z1
  have k2 : Kept [so, g'] w1 ((w1.setCell ⟨so, 0, none⟩ S).setCell ⟨g', i, none⟩ (.int .u64 X)) := (k1.weaken (m := [so, g']) (by simp)).setCell (Or.inl (by simp)) _
  have k3 := kept_sets so [(2, b2), (3, b3), (4, b4), (5, b5), (6, b6), (7, b7)] ((w1.setCell ⟨so, 0, none⟩ S).setCell ⟨g', i, none⟩ (.int .u64 X))
  refine ⟨?_, (hR1.set hi X).kept k3 (by simpa using hne), k2.then k3 (by simp)⟩
  have := blk_sets so [(2, b2), (3, b3), (4, b4), (5, b5), (6, b6), (7, b7)] _ _ z2'
  simpa using this
end Go.Proofs.YtgafmklfpiipcaaDoor

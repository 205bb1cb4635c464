/-
  Rows of words with spare places, as 'append' makes them; 'append' to an empty slice; a world under a name.
-/
import Derived.Test.YtgafmklfpiipcaaGreatDoorSame
import Derived.Test.YtgafmklfpiipcaaGreatDoorGrow
import Derived.Laws.AppendOwnNone
namespace Go.Proofs.YtgafmklfpiipcaaGreatDoor
set_option maxRecDepth 100000
open Go.ChangeShapes Go.WideShapes Go.ChangeAt Go.RowKit
open Go.Deep
/-- Stores into one block, one behind the other. -/
def sets (b : Nat) (w : World) : List (Nat × Value) → World
  | [] => w
  | p :: l => sets b (w.setCell ⟨b, p.1, none⟩ p.2) l
theorem kept_sets (b : Nat) : ∀ (l : List (Nat × Value)) (w : World), Kept [b] w (sets b w l)
  | [], w => Kept.refl _ _
  | p :: l, w => ((Kept.refl [b] w).setCell (p := ⟨b, p.1, none⟩) (Or.inl (by simp)) p.2).trans (kept_sets b l _)
/-- A row of words, of so many places. -/
def RowR (w : World) (g : Nat) (xs : List Int) (cap : Nat) : Prop := ∃ rest : List Value, w.heap[g]? = some (.cells (wd xs ++ rest.toArray) 25 (0, 0)) ∧ cap = xs.length + rest.length
theorem Row.rowR {w : World} {g : Nat} {xs : List Int} (h : Row w g xs) : RowR w g xs xs.length := ⟨[], by rw [show ([] : List Value).toArray = #[] from rfl, Array.append_empty]; exact h, by simp⟩
theorem RowR.kept {l : List Nat} {w w' : World} {r : Nat} {xs : List Int} {cap : Nat} (h : RowR w r xs cap) (k : Kept l w w') (hn : r ∉ l) : RowR w' r xs cap := by
  obtain ⟨rest, h1, h2⟩ := h; exact ⟨rest, k.blk h1 hn, h2⟩
theorem RowR.lt {w : World} {r : Nat} {xs : List Int} {cap : Nat} (h : RowR w r xs cap) : r < w.heap.size := by obtain ⟨rest, h1, h2⟩ := h; exact lt_of_blk h1
theorem RowR.cell {w : World} {r : Nat} {xs : List Int} {cap : Nat} (h : RowR w r xs cap) {i : Nat} (hi : i < xs.length) : w.cell? ⟨r, i, none⟩ = some (.int .u64 xs[i]) := by
  obtain ⟨rest, h1, h2⟩ := h
  exact cell_of_blk h1 (by rw [Array.getElem?_append_left (by rw [wd_size]; exact hi)]; exact wd_get xs hi)
theorem RowR.free {w : World} {r : Nat} {xs : List Int} {cap : Nat} (h : RowR w r xs cap) (i : Nat) : w.frozen? ⟨r, i, none⟩ = false := by obtain ⟨rest, h1, h2⟩ := h; exact free_of_blk h1 i
theorem RowR.sl {w : World} {r : Nat} {xs : List Int} {cap : Nat} (h : RowR w r xs cap) : Sl w (some ⟨r, 0, none⟩) xs := fun _ => ⟨_, rfl, fun i hi => by rw [addr_add0]; exact h.cell hi⟩
theorem RowR.set {w : World} {r : Nat} {xs : List Int} {cap : Nat} (h : RowR w r xs cap) {i : Nat} (hi : i < xs.length) (v : Int) : RowR (w.setCell ⟨r, i, none⟩ (.int .u64 v)) r (xs.set i v) cap := by
  obtain ⟨rest, h1, h2⟩ := h
  refine ⟨rest, ?_, by rw [List.length_set]; exact h2⟩
  rw [blk_set h1, ← wd_set]
  congr 3
  rw [Array.setIfInBounds_append_left (by rw [wd_size]; exact hi)]
theorem RowR.le {w : World} {r : Nat} {xs : List Int} {cap : Nat} (h : RowR w r xs cap) : xs.length ≤ cap := by obtain ⟨rest, h1, h2⟩ := h; omega
/-- 'append' to a slice that is empty and has no places. -/
theorem append_new (ty : TypeId) (w : World) (ao : Option Addr) (xs : List Int) (n cap : Nat) (hn : n = xs.length) (hs : Sl w ao xs) (hc : ao = none → cap = 0) (hl : xs.length ≤ 17592186044415) :
    ∃ g c' w1, (Builtin.append_ #[24, 24] ty #[.slice (some ⟨w.heap.size, 0, none⟩) 0 0, .slice ao n cap]).run Tryz.prog (w.alloc (.cells #[] 25)) = .ok (.slice (some ⟨g, 0, none⟩) n c') w1 ∧ w.heap.size ≤ g ∧ RowR w1 g xs c' ∧ Kept [] w w1 := by
  subst hn
  obtain ⟨i, hi, hz0, hz1, hz2⟩ := info_parts info_u64
  have hown : (w.alloc (.cells #[] 25)).ownsRow w.heap.size 25 1 (.slice (some ⟨w.heap.size, 0, none⟩) 0 0) 0 [] := World.ownsRow_made w #[] 0 (Nat.le_refl _) (by decide) rfl
  have hs' := hs.new ((Kept.refl [] w).alloc (.cells #[] 25))
  cases ao with
  | none =>
    have hx : xs = [] := by
      cases xs with
      | nil => rfl
      | cons a r => obtain ⟨ad, h, _⟩ := hs (by simp); cases h
    subst hx
    obtain rfl := hc rfl
    have hrun := run_append_owned_none (P := Tryz.prog) (w := w.alloc (.cells #[] 25)) w.heap.size 24 ty 25 i 1 Tryz.underlying24 hi _ 0 [] hown
    exact ⟨w.heap.size, 0, _, hrun, Nat.le_refl _, ⟨[], by rw [blk_alloc_new]; rfl, rfl⟩, (Kept.refl _ _).alloc _⟩
  | some ad =>
    have hcells : ∀ j v, (xs.map (Value.int .u64))[j]? = some v → (w.alloc (.cells #[] 25)).cell? (ad.add j) = some v := by
      by_cases h0 : 0 < xs.length
      · obtain ⟨ad', he, hc'⟩ := hs' h0
        cases he
        exact sl_cells hc'
      · have hx : xs = [] := List.eq_nil_of_length_eq_zero (by omega)
        subst hx; simp
    obtain ⟨v', w1, hrun, hown', hg, hnil⟩ := run_append_own (P := Tryz.prog) (w.alloc (.cells #[] 25)) w.heap.size 24 ty 25 i (.int .u64 0) 1 8 Tryz.underlying24 hi hz0 hz1 hz2 rfl (by decide) _ 0 [] hown ad xs.length cap (xs.map (Value.int .u64)) (by simp) hcells (words_one xs) (by unfold maxLen; omega) (by omega) (by rw [nblk_alloc]; omega)
    obtain ⟨h1, h2⟩ := hown'
    rcases h2 with ⟨h2, _⟩ | ⟨g, c', cur, rfl, hgb, hblk, hnc, hcm, hsz, htk⟩
    · exact absurd (hnil.1 h2).1 (by simp)
    · refine ⟨g, c', w1, by simpa using hrun, hgb, ⟨cur.toList.drop xs.length, ?_, ?_⟩, ?_⟩
      · rw [hblk]
        simp only [Nat.zero_add, Nat.mul_one, List.nil_append] at htk
        have : cur = wd xs ++ (cur.toList.drop xs.length).toArray := by
          rw [wd, ← htk]; apply Array.toList_inj.1; simp
        rw [← this]
      · simp only [List.length_drop, Array.length_toList]; simp at hsz hnc; omega
      · refine ((Kept.refl [] w).alloc (.cells #[] 25)).then (m := [w.heap.size]) ⟨hg.os, hg.tape, hg.output, hg.size, fun k hk hn => hg.block k hk (fun e => hn (by simp [Value.ownBlock] at e; simp [e]))⟩ (by simp)
end Go.Proofs.YtgafmklfpiipcaaGreatDoor

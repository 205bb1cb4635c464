/-
  The contracts of package bank: making a bank, and telling its cells.
-/
import Derived.Test.YtlmkcakmeldfeaaBank
namespace Go.Proofs.Ytlmkcakmeldfeaa
open Go.RowKit (Grown Hid Below)
open Go.Deep

/-- A slice of words, wherever it lies. -/
def Sl (w : World) (ao : Option Addr) (xs : List Int) : Prop := 0 < xs.length → ∃ ad, ao = some ad ∧ ∀ i (h : i < xs.length), w.cell? (ad.add i) = some (.int .u64 xs[i])
theorem Row.sl {w : World} {r : Nat} {xs : List Int} (h : Row w r xs) : Sl w (some ⟨r, 0, none⟩) xs := fun _ => ⟨_, rfl, fun i hi => by rw [addr_add0]; exact h.cell hi⟩
theorem info_u64 : (Try.prog.info? 41).map (fun i => (i.zero, i.size, i.bytes)) = some (some (.int .u64 0), 1, 8) := by kernel_rfl
theorem size_u64 : (Try.prog.info? 41).map (·.size) = some 1 := by kernel_rfl
theorem words_one (xs : List Int) : ∀ v ∈ xs.map (Value.int .u64), v.oneCell' = true := by
  intro v hv; obtain ⟨x, _, rfl⟩ := List.mem_map.1 hv; rfl
theorem sl_cells {w : World} {ad : Addr} {xs : List Int} (h : ∀ i (h : i < xs.length), w.cell? (ad.add i) = some (.int .u64 xs[i])) :
    ∀ j v, (xs.map (Value.int .u64))[j]? = some v → w.cell? (ad.add j) = some v := by
  intro j v hv
  rw [List.getElem?_map] at hv
  by_cases hj : j < xs.length
  · rw [List.getElem?_eq_getElem hj] at hv; simp at hv; rw [h j hj, hv]
  · rw [List.getElem?_eq_none (by omega)] at hv; simp at hv
theorem Sl.kept {l : List Nat} {w w' : World} {ao : Option Addr} {xs : List Int} (h : Sl w ao xs) (k : Kept l w w') (hl : ∀ ad, ao = some ad → ad.block ∉ l) : Sl w' ao xs := by
  intro h0
  obtain ⟨ad, rfl, hc⟩ := h h0
  refine ⟨ad, rfl, fun i hi => ?_⟩
  have hb : ad.block < w.heap.size := by have := lt_of_cell (hc i hi); rwa [add_block] at this
  have e : w'.heap[(ad.add i).block]? = w.heap[(ad.add i).block]? := by rw [add_block]; exact k.block _ hb (hl ad rfl)
  rw [World.cell?_of_block (w := w) e]; exact hc i hi
theorem Sl.new {w w' : World} {ao : Option Addr} {xs : List Int} (h : Sl w ao xs) (k : Kept [] w w') : Sl w' ao xs := h.kept k (by simp)
theorem made_zero (n : Nat) : madeCells #[(.int .u64 0 : Value)] n = wd (List.replicate n 0) := by
  apply Array.ext_getElem?; intro i
  by_cases h : i < n <;> simp [madeCells, wd, h, Nat.mod_one]
/-- 'copy' into a row that has just been made. -/
theorem copy_new (ty : TypeId) (w : World) (ao : Option Addr) (xs : List Int) (n cap : Nat) (hn : n = xs.length) (hs : Sl w ao xs) :
    ∃ w1, (Builtin.copy_ #[44, 44] ty #[.slice (some ⟨w.heap.size, 0, none⟩) n n, .slice ao n cap]).run Try.prog (w.alloc (.cells (madeCells #[.int .u64 0] n) 41)) = .ok (.int .i64 n) w1 ∧ Row w1 w.heap.size xs ∧ Kept [] w w1 := by
  subst hn
  by_cases h0 : 0 < xs.length
  · obtain ⟨ad, rfl, hc⟩ := (hs.new ((Kept.refl [] w).alloc (.cells (madeCells #[.int .u64 0] xs.length) 41))) h0
    have hrun := run_copy_row (P := Try.prog) (w.alloc (.cells (madeCells #[.int .u64 0] xs.length) 41)) 44 44 ty 41 w.heap.size 0 xs.length xs.length ad xs.length cap _ _ (xs.map (Value.int .u64)) Try.underlying44 size_u64 (blk_alloc_new _ _) (by simp) (sl_cells hc) (by simp [size_madeCells]) (words_one xs)
    rw [List.length_map, Nat.zero_add] at hrun
    refine ⟨_, hrun, ?_, ?_⟩
    · unfold Row
      rw [setRow_heap _ _ _ _ _ _ (blk_alloc_new _ _)]
      simp [wd, size_madeCells]
    · exact Kept.of_below (below_setRow ((Below.refl _ _).alloc (Nat.le_refl _) _) (Nat.le_refl _) _)
  · have e : xs = [] := List.eq_nil_of_length_eq_zero (by omega)
    subst e
    refine ⟨_, run_copy_none (P := Try.prog) _ 44 44 ty 41 _ ao 0 0 0 cap Try.underlying44 size_u64 rfl, ?_, (Kept.refl _ _).alloc _⟩
    unfold Row; rw [blk_alloc_new]; simp [made_zero]
/-- An access that is none. -/
def Acc.zero : Acc := ⟨0, 0, 0, 0, 0, false⟩
/-- How many cells a new bank has. -/
def newN (n : Int) : Nat := if n < 0 then 0 else if n ≤ 100000 then n.toNat else 100000
theorem Kept.own {a b c : World} {p r : Nat} (h : Kept [] a b) (k : Kept [p, r] b c) (hp : a.heap.size ≤ p) (hr : a.heap.size ≤ r) : Kept [] a c :=
  h.then k (by intro x hx; simp at hx; right; omega)
end Go.Proofs.Ytlmkcakmeldfeaa

/-
  The contracts of package bank: making a bank, and telling its cells.
-/
import Derived.Test.YtgafmklfpiipcaaGreatDoorBank
namespace Go.Proofs.YtgafmklfpiipcaaGreatDoor
open Go.RowKit (Grown Hid Below)
open Go.Deep

/-- A slice of words, wherever it lies. -/
def Sl (w : World) (ao : Option Addr) (xs : List Int) : Prop := 0 < xs.length → ∃ ad, ao = some ad ∧ ∀ i (h : i < xs.length), w.cell? (ad.add i) = some (.int .u64 xs[i])
theorem Row.sl {w : World} {r : Nat} {xs : List Int} (h : Row w r xs) : Sl w (some ⟨r, 0, none⟩) xs := fun _ => ⟨_, rfl, fun i hi => by rw [addr_add0]; exact h.cell hi⟩
theorem info_u64 : (Tryz.prog.info? 25).map (fun i => (i.zero, i.size, i.bytes)) = some (some (.int .u64 0), 1, 8) := by kernel_rfl
theorem size_u64 : (Tryz.prog.info? 25).map (·.size) = some 1 := by kernel_rfl
theorem words_one (xs : List Int) : ∀ v ∈ xs.map (Value.int .u64), v.oneCell' = true := by
  intro v hv; obtain ⟨x, _, rfl⟩ := List.mem_map.1 hv; rfl
theorem sl_cells {w : World} {ad : Addr} {xs : List Int} (h : ∀ i (h : i < xs.length), w.cell? (ad.add i) = some (.int .u64 xs[i])) :
    ∀ j v, (xs.map (Value.int .u64))[j]? = some v → w.cell? (ad.add j) = some v := by
  intro j v hv
  rw [List.getElem?_map] at hv
  by_cases hj : j < xs.length
  · rw [List.getElem?_eq_getElem hj] at hv; simp at hv; rw [h j hj, hv]
  · rw [List.getElem?_eq_none (by omega)] at hv; simp at hv
theorem Sl.kept {l : List Nat} {w w' : World} {ao : Option Addr} {xs : List Int} (h : Sl w ao xs) (k : Kept l w w') (hl : ∀ ad, ao = some ad → ad.block ∉ l) : Sl w' ao xs := by
  intro h0
  obtain ⟨ad, rfl, hc⟩ := h h0
  refine ⟨ad, rfl, fun i hi => ?_⟩
  have hb : ad.block < w.heap.size := by have := lt_of_cell (hc i hi); rwa [add_block] at this
  have e : w'.heap[(ad.add i).block]? = w.heap[(ad.add i).block]? := by rw [add_block]; exact k.block _ hb (hl ad rfl)
  rw [World.cell?_of_block (w := w) e]; exact hc i hi
theorem Sl.new {w w' : World} {ao : Option Addr} {xs : List Int} (h : Sl w ao xs) (k : Kept [] w w') : Sl w' ao xs := h.kept k (by simp)
theorem made_zero (n : Nat) : madeCells #[(.int .u64 0 : Value)] n = wd (List.replicate n 0) := by
  apply Array.ext_getElem?; intro i
  by_cases h : i < n <;> simp [madeCells, wd, h, Nat.mod_one]
/-- 'copy' into a row that has just been made. -/
theorem copy_new (ty : TypeId) (w : World) (ao : Option Addr) (xs : List Int) (n cap : Nat) (hn : n = xs.length) (hs : Sl w ao xs) :
    ∃ w1, (Builtin.copy_ #[24, 24] ty #[.slice (some ⟨w.heap.size, 0, none⟩) n n, .slice ao n cap]).run Tryz.prog (w.alloc (.cells (madeCells #[.int .u64 0] n) 25)) = .ok (.int .i64 n) w1 ∧ Row w1 w.heap.size xs ∧ Kept [] w w1 := by
  subst hn
  by_cases h0 : 0 < xs.length
  · obtain ⟨ad, rfl, hc⟩ := (hs.new ((Kept.refl [] w).alloc (.cells (madeCells #[.int .u64 0] xs.length) 25))) h0
    have hrun := run_copy_row (P := Tryz.prog) (w.alloc (.cells (madeCells #[.int .u64 0] xs.length) 25)) 24 24 ty 25 w.heap.size 0 xs.length xs.length ad xs.length cap _ _ (xs.map (Value.int .u64)) Tryz.underlying24 size_u64 (blk_alloc_new _ _) (by simp) (sl_cells hc) (by simp [size_madeCells]) (words_one xs)
    rw [List.length_map, Nat.zero_add] at hrun
    refine ⟨_, hrun, ?_, ?_⟩
    · unfold Row
      rw [setRow_heap _ _ _ _ _ _ (blk_alloc_new _ _)]
      simp [wd, size_madeCells]
    · exact Kept.of_below (below_setRow ((Below.refl _ _).alloc (Nat.le_refl _) _) (Nat.le_refl _) _)
  · have e : xs = [] := List.eq_nil_of_length_eq_zero (by omega)
    subst e
    refine ⟨_, run_copy_none (P := Tryz.prog) _ 24 24 ty 25 _ ao 0 0 0 cap Tryz.underlying24 size_u64 rfl, ?_, (Kept.refl _ _).alloc _⟩
    unfold Row; rw [blk_alloc_new]; simp [made_zero]
set_option maxRecDepth 100000 in
theorem copied_any (ao : Option Addr) (xs : List Int) (cap : Nat) (w : World) (hs : Sl w ao xs) (hn : xs.length ≤ 17592186044415) :
    Calls Tryz.prog 71 #[.slice ao xs.length cap] w fun e w' => e = .returned (.slice (some ⟨w.heap.size, 0, none⟩) xs.length xs.length) ∧ Row w' w.heap.size xs ∧ Kept [] w w' := by
  obtain ⟨n, Hn⟩ : ∃ n, n = xs.length := ⟨_, rfl⟩
  rw [← Hn] at hn ⊢
  have hmk := run_make_row' (P := Tryz.prog) 24 25 (.int .u64 0) 8 Tryz.underlying24 info_u64 rfl .i64 .i64 n (by omega) (by omega)
  obtain ⟨w1, hcp, hR, hK⟩ := copy_new 3 w ao xs n cap Hn hs
  clear Hn
  go_enter Tryz.func71, Tryz.ntmps71
  go_wp2
  go_ret
  exact ⟨rfl, hR, hK⟩
/-- An access that is none. -/
def Acc.zero : Acc := ⟨0, 0, 0, 0, 0, false⟩
set_option maxRecDepth 100000 in
theorem of_any (ao : Option Addr) (xs : List Int) (cap : Nat) (w : World) (hs : Sl w ao xs) (hn : xs.length ≤ 17592186044415) :
    Calls Tryz.prog 44 #[.slice ao xs.length cap] w fun e w' => ∃ p, e = .returned (.pointer (some ⟨p, 0, none⟩)) ∧ w.heap.size ≤ p ∧ Bk w' p w.heap.size xs 0 Acc.zero ∧ Kept [] w w' := by
  go_enter Tryz.func44, Tryz.ntmps44
  go_wp2_with fail
  refine (copied_any ao xs cap w hs hn).mono ?_
  rintro e w1 ⟨rfl, R1, K1⟩
  go_wp2
  go_ret
  refine ⟨w1.heap.size, rfl, K1.size, ⟨blk_alloc_new _ _, R1.kept ((Kept.refl [] _).alloc _) (by simp), ?_, hn⟩, K1.alloc _⟩
  have := R1.lt; omega
set_option maxRecDepth 100000 in
theorem cells_any (p r : Nat) (cs : List Int) (cnt : Int) (a : Acc) (w : World) (hB : Bk w p r cs cnt a) :
    Calls Tryz.prog 39 #[.pointer (some ⟨p, 0, none⟩)] w fun e w' => e = .returned (.slice (some ⟨w.heap.size, 0, none⟩) cs.length cs.length) ∧ Row w' w.heap.size cs ∧ Kept [] w w' := by
  have c0 := cell_of_blk hB.st (i := 0) rfl
  go_enter Tryz.func39, Tryz.ntmps39
  go_wp2_with fail
  refine (copied_any _ cs cs.length w hB.row.sl hB.len).mono ?_
  rintro e w1 ⟨rfl, R1, K1⟩
  go_wp2
  go_ret
  exact ⟨rfl, R1, K1⟩
/-- How many cells a new bank has. -/
def newN (n : Int) : Nat := if n < 0 then 0 else if n ≤ 100000 then n.toNat else 100000
theorem load_at (p r : Nat) (cs : List Int) (cnt : Int) (a : Acc) (c via : Int) (A : Acc) (C : List Int) (w : World) (hB : Bk w p r cs cnt a) (hA : acV cs 1 c via 0 0 = A) (hC : clV cs 1 c 0 0 = C) (h0 : 0 ≤ cnt) (h1 : cnt < 4611686018427387904) :
    Calls Tryz.prog 57 #[.pointer (some ⟨p, 0, none⟩), .int .i64 c, .int .u64 via] w fun e w' => e = .returned (.int .u64 A.o) ∧ Bk w' p r C (cnt + 1) A ∧ Kept [p, r] w w' := by
  subst hA hC; exact load_any p r cs cnt a c via w hB h0 h1
theorem store_at (p r : Nat) (cs : List Int) (cnt : Int) (a : Acc) (c via v : Int) (A : Acc) (C : List Int) (w : World) (hB : Bk w p r cs cnt a) (hA : acV cs 2 c via 0 v = A) (hC : clV cs 2 c 0 v = C) (h0 : 0 ≤ cnt) (h1 : cnt < 4611686018427387904) :
    Calls Tryz.prog 31 #[.pointer (some ⟨p, 0, none⟩), .int .i64 c, .int .u64 via, .int .u64 v] w fun e w' => e = .returned (.tuple #[]) ∧ Bk w' p r C (cnt + 1) A ∧ Kept [p, r] w w' := by
  subst hA hC; exact store_any p r cs cnt a c via v w hB h0 h1
theorem swap_at (p r : Nat) (cs : List Int) (cnt : Int) (a : Acc) (c via old v : Int) (A : Acc) (C : List Int) (w : World) (hB : Bk w p r cs cnt a) (hA : acV cs 3 c via old v = A) (hC : clV cs 3 c old v = C) (h0 : 0 ≤ cnt) (h1 : cnt < 4611686018427387904) :
    Calls Tryz.prog 119 #[.pointer (some ⟨p, 0, none⟩), .int .i64 c, .int .u64 via, .int .u64 old, .int .u64 v] w fun e w' => e = .returned (.bool A.d) ∧ Bk w' p r C (cnt + 1) A ∧ Kept [p, r] w w' := by
  subst hA hC; exact swap_any p r cs cnt a c via old v w hB h0 h1
theorem add_at (p r : Nat) (cs : List Int) (cnt : Int) (a : Acc) (c via v : Int) (A : Acc) (C : List Int) (w : World) (hB : Bk w p r cs cnt a) (hA : acV cs 4 c via 0 v = A) (hC : clV cs 4 c 0 v = C) (h0 : 0 ≤ cnt) (h1 : cnt < 4611686018427387904) :
    Calls Tryz.prog 79 #[.pointer (some ⟨p, 0, none⟩), .int .i64 c, .int .u64 via, .int .u64 v] w fun e w' => e = .returned (.int .u64 A.o) ∧ Bk w' p r C (cnt + 1) A ∧ Kept [p, r] w w' := by
  subst hA hC; exact add_any p r cs cnt a c via v w hB h0 h1
theorem Kept.own {a b c : World} {p r : Nat} (h : Kept [] a b) (k : Kept [p, r] b c) (hp : a.heap.size ≤ p) (hr : a.heap.size ≤ r) : Kept [] a c :=
  h.then k (by intro x hx; simp at hx; right; omega)
end Go.Proofs.YtgafmklfpiipcaaGreatDoor

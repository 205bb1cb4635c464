/-
  What stays of memory: 'Kept l w w'': all blocks of w but those of the list l are in w' as they were. Rows of words.
-/
import Derived.Test.YtgafmklfpiipcaaGreatDoorRows
import Derived.WalkKit
import Derived.WalkLawsBesides
import Derived.WalkSpells
import Derived.Laws.StructEq
import Derived.Laws.CopyOwn
import Derived.OpenShut
import Derived.Deep.RegionWith
import Derived.Deep.QuietTactic
import Derived.Deep.OwnRows
import Derived.BigQuiet
import Derived.LoopN
import Derived.ProofKit
namespace Go.Proofs.YtgafmklfpiipcaaGreatDoor
open Go.RowKit (Grown Hid Below)
open Go.Deep

/-- All blocks of w but those of l are in w' as they were. -/
structure Kept (l : List Nat) (w w' : World) : Prop where
  os : w'.os = w.os
  tape : w'.tape = w.tape
  output : w'.output = w.output
  size : w.heap.size ≤ w'.heap.size
  block : ∀ k, k < w.heap.size → k ∉ l → w'.heap[k]? = w.heap[k]?

theorem Kept.refl (l : List Nat) (w : World) : Kept l w w := ⟨rfl, rfl, rfl, Nat.le_refl _, fun _ _ _ => rfl⟩
theorem Kept.trans {l : List Nat} {a b c : World} (h : Kept l a b) (k : Kept l b c) : Kept l a c :=
  ⟨k.os.trans h.os, k.tape.trans h.tape, k.output.trans h.output, Nat.le_trans h.size k.size, fun i hi hn => (k.block i (Nat.lt_of_lt_of_le hi h.size) hn).trans (h.block i hi hn)⟩
/-- What was new behind w may be left out of the list. -/
theorem Kept.weaken {l m : List Nat} {a b : World} (h : Kept l a b) (hm : ∀ x ∈ l, x ∈ m ∨ a.heap.size ≤ x) : Kept m a b :=
  ⟨h.os, h.tape, h.output, h.size, fun i hi hn => h.block i hi (fun hx => by rcases hm i hx with k | k; exact hn k; omega)⟩
theorem Kept.drew {l : List Nat} {a w : World} (h : Kept l a w) : Kept l a w.drew := ⟨h.os, h.tape, h.output, h.size, h.block⟩
theorem Kept.undrew {l : List Nat} {a b : World} (h : Kept l a.drew b) : Kept l a b := ⟨h.os, h.tape, h.output, h.size, h.block⟩
theorem Kept.drewN {l : List Nat} {a w : World} (h : Kept l a w) (n : Nat) : Kept l a (w.drewN n) := by
  induction n generalizing w with
  | zero => exact h
  | succ n ih => exact (ih h).drew
theorem Kept.alloc {l : List Nat} {a w : World} (h : Kept l a w) (o : Obj) : Kept l a (w.alloc o) :=
  ⟨h.os, h.tape, h.output, by rw [nblk_alloc]; have := h.size; omega, fun k hk hn => by rw [blk_alloc_lt _ _ _ (by have := h.size; omega)]; exact h.block k hk hn⟩
theorem Kept.setCell {l : List Nat} {a w : World} (h : Kept l a w) {p : Addr} (hp : p.block ∈ l ∨ a.heap.size ≤ p.block) (u : Value) : Kept l a (w.setCell p u) :=
  ⟨h.os, h.tape, h.output, by rw [nblk_setCell]; exact h.size, fun k hk hn => by
    rw [blk_setCell_other _ _ _ _ (fun e => by subst e; rcases hp with hp | hp; exact hn hp; omega)]; exact h.block k hk hn⟩
theorem Kept.below {l : List Nat} {a b : World} (h : Kept l a b) (hl : ∀ x ∈ l, a.heap.size ≤ x) : Below a.heap.size a b :=
  ⟨h.os, h.tape, h.output, h.size, fun k hk => h.block k hk (fun hx => by have := hl k hx; omega)⟩
theorem Kept.then {l m : List Nat} {a b c : World} (h : Kept l a b) (k : Kept m b c) (hm : ∀ x ∈ m, x ∈ l ∨ a.heap.size ≤ x) : Kept l a c :=
  ⟨k.os.trans h.os, k.tape.trans h.tape, k.output.trans h.output, Nat.le_trans h.size k.size, fun i hi hn =>
    (k.block i (Nat.lt_of_lt_of_le hi h.size) (fun hx => by rcases hm i hx with e | e; exact hn e; omega)).trans (h.block i hi hn)⟩
theorem lt_of_blk {w : World} {b : Nat} {o : Obj} (h : w.heap[b]? = some o) : b < w.heap.size := (Array.getElem?_eq_some_iff.1 h).1
theorem Kept.blk {l : List Nat} {a b : World} (h : Kept l a b) {k : Nat} {o : Obj} (hk : a.heap[k]? = some o) (hn : k ∉ l) : b.heap[k]? = some o := (h.block k (lt_of_blk hk) hn).trans hk
/-- A cell of a block. -/
theorem cell_of_blk {w : World} {b : Nat} {c : Array Value} {t : TypeId} (h : w.heap[b]? = some (.cells c t (0, 0))) {i : Nat} {v : Value} (hv : c[i]? = some v) : w.cell? ⟨b, i, none⟩ = some v := by simp [World.cell?, h, hv]
theorem free_of_blk {w : World} {b : Nat} {c : Array Value} {t : TypeId} (h : w.heap[b]? = some (.cells c t (0, 0))) (i : Nat) : w.frozen? ⟨b, i, none⟩ = false := by simp [World.frozen?, h]
/-- A store into a block. -/
theorem blk_set {w : World} {b : Nat} {c : Array Value} {t : TypeId} (h : w.heap[b]? = some (.cells c t (0, 0))) (i : Nat) (v : Value) : (w.setCell ⟨b, i, none⟩ v).heap[b]? = some (.cells (c.setIfInBounds i v) t (0, 0)) := by
  simp [World.setCell, Array.getElem?_modify, h]
theorem blk_drew {w : World} {b : Nat} : w.drew.heap[b]? = w.heap[b]? := rfl
theorem blk_drewN {w : World} {b : Nat} (n : Nat) : (w.drewN n).heap[b]? = w.heap[b]? := by
  induction n generalizing w with
  | zero => rfl
  | succ n ih => exact ih
theorem addr_add0 (r i : Nat) : (⟨r, 0, none⟩ : Addr).add i = ⟨r, i, none⟩ := by
  unfold Addr.add; split <;> simp_all
theorem add_block (a : Addr) (n : Nat) : (a.add n).block = a.block := by unfold Addr.add; split <;> rfl
theorem lt_of_cell {w : World} {a : Addr} {v : Value} (h : w.cell? a = some v) : a.block < w.heap.size := by
  by_cases hl : a.block < w.heap.size
  · exact hl
  · unfold World.cell? at h; rw [Array.getElem?_eq_none (by omega)] at h; simp at h
theorem Kept.of_below {w w' : World} (h : Below w.heap.size w w') : Kept [] w w' := ⟨h.os, h.tape, h.output, h.size, fun k hk _ => h.block k hk⟩
/-- A world in which all of w is as it was. -/
structure KW (w : World) where
  val : World
  kept : Kept [] w val
instance (w : World) : Inhabited (KW w) := ⟨⟨w, Kept.refl _ _⟩⟩
theorem wp_region_kept {P : Program} {id : Nat} {Q : Exit → Act → World → Prop} {a : Act} {w : World} {l : List Oper} (hm : P.follows .mixedOrders = true) (hB : Region.lexB .any l.toArray = true)
    (h : wpQuiet P l.toArray (fun w' => ∃ p : KW w, w' = p.val) (fun a' => ∀ w', (∃ p : KW w, w' = p.val) → Q .normal a' w') l a) : (Code.region id l.toArray true).wp P Q a w :=
  wp_region_quiet (C := fun w' => ∃ p : KW w, w' = p.val) hm hB ⟨⟨w.drew, (Kept.refl _ _).drew⟩, rfl⟩ (by simpa using h)
theorem Calls.kw_of {P : Program} {f : FuncId} {args : Array Value} {w : World} {p : KW w} {v : Value} (h : Calls P f args p.val fun e w' => e = .returned v ∧ Kept [] p.val w') :
    Calls P f args p.val fun e w'' => e = .returned v ∧ ∃ q : KW w, w'' = q.val :=
  h.mono fun _ w' ⟨he, k⟩ => ⟨he, ⟨w', p.kept.trans k⟩, rfl⟩
theorem KW.cell {w : World} {b o : Nat} {v : Value} (h : w.cell? ⟨b, o, none⟩ = some v) (p : KW w) : p.val.cell? ⟨b, o, none⟩ = some v := by
  have hb : b < w.heap.size := lt_of_cell h
  rw [World.cell?_of_block (w := w) (a := ⟨b, o, none⟩) (p.kept.block b hb (by simp))]; exact h
theorem kept_cell {w w' : World} (g : Kept [] w w') {b o : Nat} (h : b < w.heap.size) : w'.cell? ⟨b, o, none⟩ = w.cell? ⟨b, o, none⟩ := World.cell?_of_block (w := w) (a := ⟨b, o, none⟩) (g.block b h (by simp))
/-- A row of words. -/
def wd (xs : List Int) : Array Value := (xs.map (Value.int .u64)).toArray
def Row (w : World) (r : Nat) (xs : List Int) : Prop := w.heap[r]? = some (.cells (wd xs) 25 (0, 0))
theorem wd_size (xs : List Int) : (wd xs).size = xs.length := by simp [wd]
theorem wd_get (xs : List Int) {i : Nat} (h : i < xs.length) : (wd xs)[i]? = some (.int .u64 xs[i]) := by simp [wd, h]
theorem wd_set (xs : List Int) (i : Nat) (v : Int) : (wd xs).setIfInBounds i (.int .u64 v) = wd (xs.set i v) := by simp [wd, List.map_set]
theorem Row.lt {w : World} {r : Nat} {xs : List Int} (h : Row w r xs) : r < w.heap.size := lt_of_blk h
theorem Row.cell {w : World} {r : Nat} {xs : List Int} (h : Row w r xs) {i : Nat} (hi : i < xs.length) : w.cell? ⟨r, i, none⟩ = some (.int .u64 xs[i]) := cell_of_blk h (wd_get xs hi)
theorem Row.free {w : World} {r : Nat} {xs : List Int} (h : Row w r xs) (i : Nat) : w.frozen? ⟨r, i, none⟩ = false := free_of_blk h i
theorem Row.set {w : World} {r : Nat} {xs : List Int} (h : Row w r xs) (i : Nat) (v : Int) : Row (w.setCell ⟨r, i, none⟩ (.int .u64 v)) r (xs.set i v) := by
  unfold Row; rw [blk_set h, wd_set]
theorem Row.kept {l : List Nat} {w w' : World} {r : Nat} {xs : List Int} (h : Row w r xs) (k : Kept l w w') (hn : r ∉ l) : Row w' r xs := k.blk h hn

theorem ret_u64 {a b : Int} (h : a = b) : Ending.returned (.int .u64 a) = .returned (.int .u64 b) := by rw [h]
theorem ret_i64 {a b : Int} (h : a = b) : Ending.returned (.int .i64 a) = .returned (.int .i64 b) := by rw [h]
theorem ret_bool {a b : Bool} (h : a = b) : Ending.returned (.bool a) = .returned (.bool b) := by rw [h]
end Go.Proofs.YtgafmklfpiipcaaGreatDoor

/-
  Arguments: nodes that are laid; a find's play; ahead of which steps the clock goes on.
-/
import Derived.Test.YtjbdaejkofkcpaaDoorFLaid
import Derived.Test.YtjbdaejkofkcpaaDoorOpen
namespace Go.Proofs.YtjbdaejkofkcpaaDoor
set_option maxRecDepth 100000
open Go.ChangeShapes Go.WideShapes Go.ChangeAt Go.RowKit
open Go.Deep
namespace K
section
variable {H : Type} {enc : TypeId × Value → H} {w : World}
theorem open_slice_cells {α : Type} (x0 : α) {n fuel : Nat} {t e : TypeId} {cs : List Value} {x : DataW H × List MemPlace} {ks : List Lk} (f : α → List Value) (G : α → Prop) (ht : Tryd.prog.underlying t = some (.slice e)) (hf : flat Tryd.prog n e = some ks) (hc : Tryd.prog.cellsOf e = ks.length)
    (hpos : 0 < ks.length) (hG : ∀ cs, F2 ks cs → ∃ x, cs = f x ∧ G x) (hd : DataW.trod enc Tryd.prog w 0 (fun _ => true) true fuel t cs = some x) :
    ∃ ao cap xs, cs = [.slice ao (List.length xs) cap] ∧ SlOf ks.length f w ao xs ∧ (∀ x ∈ xs, G x) := by
  have : Inhabited α := ⟨x0⟩
  rcases Deep.open_slice ht hd with ⟨hcs, hx⟩ | ⟨ad, len, cap, m, n', D, Pl, hcs, hb, hl, hm, hmm, hx, hall⟩
  · exact ⟨none, 0, [], hcs, fun h => absurd h (by simp), by simp⟩
  · have hml : len ≤ m := by rw [hmm]; split <;> omega
    have each : ∀ i, i < len → ∃ x : α, (G x ∧ (f x).length = ks.length) ∧ ∀ j v, (f x)[j]? = some v → w.cell? (ad.add (i * ks.length + j)) = some v := by
      intro i hi
      obtain ⟨cs', h1, h2⟩ := hall i (by omega)
      have hF := flat_trod n hf h2
      obtain ⟨x, rfl, hg⟩ := hG cs' hF
      refine ⟨x, ⟨hg, (F2_length hF).symm⟩, fun j v hj => ?_⟩
      rw [hc] at h1
      have h3 := (World.cells?_some h1).2.2 j (by rw [F2_length hF]; exact (List.getElem?_eq_some_iff.1 hj).1)
      rw [hj, Deep.add_add] at h3
      exact h3
    obtain ⟨X, hX⟩ := choose_lt each
    have hlenX : ((List.range len).map X).length = len := by simp
    refine ⟨some ad, cap, (List.range len).map X, by rw [hlenX]; exact hcs, ?_, ?_⟩
    · intro h0
      rw [hlenX] at h0
      obtain ⟨b, off, spot⟩ := ad
      have c0 : ∃ v, (f (X 0))[0]? = some v := ⟨_, List.getElem?_eq_getElem (by have := (hX 0 h0).1.2; omega)⟩
      obtain ⟨v0, hv0⟩ := c0
      have hc0 := (hX 0 h0).2 0 v0 hv0
      have hspot : spot = none := by
        have := World.cell?_spot hc0
        rw [Nat.zero_mul] at this; simpa [Addr.add] using this
      subst hspot
      refine ⟨b, off, rfl, ?_, fun i hi j v hj => ?_⟩
      · have := lt_of_cell hc0; rwa [add_block] at this
      · rw [hlenX] at hi
        have := (hX i hi).2 j v (by simpa using hj)
        rw [add_plain] at this
        rw [Nat.add_assoc]; exact this
    · intro x hx; obtain ⟨i, hi, rfl⟩ := List.mem_map.1 hx; exact (hX i (by simpa using hi)).1.1
theorem flat_nn : flat Tryd.prog 3 72 = some [.int .u64, .int .u64, .int .i64, .int .i64, .bool] := by kernel_rfl
theorem cells_nn : Tryd.prog.cellsOf 72 = 5 := by kernel_rfl
theorem nn_cells {cs : List Value} (h : F2 [.int .u64, .int .u64, .int .i64, .int .i64, .bool] cs) : ∃ p : Nn, cs = nnL p ∧ p.wf := by
  obtain ⟨a0, r, rfl, w0, h⟩ := F2_int h
  obtain ⟨a1, r, rfl, w1, h⟩ := F2_int h
  obtain ⟨a2, r, rfl, _, h⟩ := F2_int h
  obtain ⟨a3, r, rfl, _, h⟩ := F2_int h
  obtain ⟨a4, r5, e5, h5⟩ := F2_bool h
  subst e5
  obtain rfl := F2_nil h5
  have b0 := bounds_u64 w0
  have b1 := bounds_u64 w1
  refine ⟨⟨a0, a1, a2, a3, a4⟩, rfl, ?_⟩
  unfold Nn.wf
  show (0 ≤ a0 ∧ a0 < 18446744073709551616) ∧ 0 ≤ a1 ∧ a1 < 18446744073709551616
  omega
theorem open_nodes {r : Reach} {b0 : Nat} {v : Value} {d : DataW H} {p : List MemPlace} (hv : Value.okWide Tryd.prog w r b0 65 v) (h : DataW.Trod enc Tryd.prog w 0 (fun _ => true) true 65 v d p) :
    ∃ (ao : Option Addr) (cap : Nat) (ns : List Nn), v = .slice ao (List.length ns) cap ∧ SlOf 5 nnL w ao ns ∧ (∀ x ∈ ns, x.wf) := by
  have : Inhabited Nn := ⟨nn0⟩
  obtain ⟨ao, cap, xs, e, S, G, _⟩ := open_slice_of (ks := [.int .u64, .int .u64, .int .i64, .int .i64, .bool]) nnL Nn.wf Tryd.underlying65 flat_nn cells_nn (by decide) (fun cs hF => nn_cells hF) hv h
  exact ⟨ao, cap, xs, e, S, G⟩
/-- Ahead of which steps the clock goes on. -/
def iwC (x : Int) : List Value := [.int .i64 x]
theorem flat_iw : flat Tryd.prog 3 3 = some [.int .i64] := by kernel_rfl
theorem cells_iw : Tryd.prog.cellsOf 3 = 1 := by kernel_rfl
theorem iw_cells {cs : List Value} (h : F2 [.int .i64] cs) : ∃ p : Int, cs = iwC p ∧ True := by
  obtain ⟨a0, r, rfl, w0, h⟩ := F2_int h
  obtain rfl := F2_nil h
  exact ⟨a0, rfl, trivial⟩
def tkA (k : Int) (ao : Option Addr) (n cap : Nat) : Array Value := #[.int .u64 k, .slice ao n cap]
/-- What is written meanwhile. -/
structure Pk where
  s : Int
  c : Int
  v : Int
def pkL (p : Pk) : List Value := [.int .i64 p.s, .int .i64 p.c, .int .u64 p.v]
def pk0 : Pk := ⟨0, 0, 0⟩
theorem flat_pk : flat Tryd.prog 3 88 = some [.int .i64, .int .i64, .int .u64] := by kernel_rfl
theorem cells_pk : Tryd.prog.cellsOf 88 = 3 := by kernel_rfl
def Pk.wf (p : Pk) : Prop := 0 ≤ p.v ∧ p.v < 18446744073709551616
theorem pk_cells {cs : List Value} (h : F2 [.int .i64, .int .i64, .int .u64] cs) : ∃ p : Pk, cs = pkL p ∧ p.wf := by
  obtain ⟨a0, r, rfl, _, h⟩ := F2_int h
  obtain ⟨a1, r, rfl, _, h⟩ := F2_int h
  obtain ⟨a2, r, rfl, w2, h⟩ := F2_int h
  obtain rfl := F2_nil h
  have := bounds_u64 w2
  exact ⟨⟨a0, a1, a2⟩, rfl, by unfold Pk.wf; show 0 ≤ a2 ∧ a2 < 18446744073709551616; omega⟩
/-- A key, a thread, how many steps, and what is written. -/
def plA (k t st : Int) (ao : Option Addr) (n cap : Nat) : Array Value := #[.int .u64 k, .int .i64 t, .int .i64 st, .slice ao n cap]
end
end K
end Go.Proofs.YtjbdaejkofkcpaaDoor

/-
  Arguments: a guard's thread, and its calls.
-/
import Derived.Test.YtpobanjpgdghlaaDoorGWld
import Derived.Test.YtpobanjpgdghlaaDoorOpen
namespace Go.Proofs.YtpobanjpgdghlaaDoor
set_option maxRecDepth 100000
open Go.ChangeShapes Go.WideShapes Go.ChangeAt Go.RowKit
open Go.Deep
namespace K
/-- A call: what it is, a slot, an era. -/
structure Gp where
  k : Int
  s : Int
  e : Int
def gpA (p : Gp) : Array Value := #[.int .i64 p.k, .int .i64 p.s, .int .u64 p.e]
def gpL (p : Gp) : List Value := [.int .i64 p.k, .int .i64 p.s, .int .u64 p.e]
def gp0 : Gp := ⟨0, 0, 0⟩
def Gp.wf (p : Gp) : Prop := 0 ≤ p.e ∧ p.e < 18446744073709551616
theorem isT_gp : IsT 44 3 := ⟨by kernel_rfl, _, Tryd.underlying44⟩
theorem gp_row {w : World} {ao : Option Addr} {ps : List Gp} (h : SlOf 3 gpL w ao ps) {k : Nat} (hk : k < ps.length) :
    ∃ b off, ao = some ⟨b, off, none⟩ ∧ b < w.heap.size ∧ w.cell? ⟨b, off + k * 3, none⟩ = some (.int .i64 (ps.getD k gp0).k) ∧ w.cell? ⟨b, off + k * 3 + 1, none⟩ = some (.int .i64 (ps.getD k gp0).s) ∧ w.cell? ⟨b, off + k * 3 + 2, none⟩ = some (.int .u64 (ps.getD k gp0).e) := by
  obtain ⟨b, off, rfl, hb, hc⟩ := h (by omega)
  have e : ps.getD k gp0 = ps[k] := by simp [hk]
  rw [e]
  exact ⟨b, off, rfl, hb, hc k hk 0 _ rfl, hc k hk 1 _ rfl, hc k hk 2 _ rfl⟩
section
variable {H : Type} {enc : TypeId × Value → H} {w : World}
theorem open_slice_cells {α : Type} (x0 : α) {n fuel : Nat} {t e : TypeId} {cs : List Value} {x : DataW H × List MemPlace} {ks : List Lk} (f : α → List Value) (G : α → Prop) (ht : Tryd.prog.underlying t = some (.slice e)) (hf : flat Tryd.prog n e = some ks) (hc : Tryd.prog.cellsOf e = ks.length)
    (hpos : 0 < ks.length) (hG : ∀ cs, F2 ks cs → ∃ x, cs = f x ∧ G x) (hd : DataW.trod enc Tryd.prog w 0 (fun _ => true) true fuel t cs = some x) :
    ∃ ao cap xs, cs = [.slice ao (List.length xs) cap] ∧ SlOf ks.length f w ao xs ∧ (∀ x ∈ xs, G x) := by
  have : Inhabited α := ⟨x0⟩
  rcases Deep.open_slice ht hd with ⟨hcs, hx⟩ | ⟨ad, len, cap, m, n', D, Pl, hcs, hb, hl, hm, hmm, hx, hall⟩
  · exact ⟨none, 0, [], hcs, fun h => absurd h (by simp), by simp⟩
  · have hml : len ≤ m := by rw [hmm]; split <;> omega
    have each : ∀ i, i < len → ∃ x : α, (G x ∧ (f x).length = ks.length) ∧ ∀ j v, (f x)[j]? = some v → w.cell? (ad.add (i * ks.length + j)) = some v := by
      intro i hi
      obtain ⟨cs', h1, h2⟩ := hall i (by omega)
      have hF := flat_trod n hf h2
      obtain ⟨x, rfl, hg⟩ := hG cs' hF
      refine ⟨x, ⟨hg, (F2_length hF).symm⟩, fun j v hj => ?_⟩
      rw [hc] at h1
      have h3 := (World.cells?_some h1).2.2 j (by rw [F2_length hF]; exact (List.getElem?_eq_some_iff.1 hj).1)
      rw [hj, Deep.add_add] at h3
      exact h3
    obtain ⟨X, hX⟩ := choose_lt each
    have hlenX : ((List.range len).map X).length = len := by simp
    refine ⟨some ad, cap, (List.range len).map X, by rw [hlenX]; exact hcs, ?_, ?_⟩
    · intro h0
      rw [hlenX] at h0
      obtain ⟨b, off, spot⟩ := ad
      have c0 : ∃ v, (f (X 0))[0]? = some v := ⟨_, List.getElem?_eq_getElem (by have := (hX 0 h0).1.2; omega)⟩
      obtain ⟨v0, hv0⟩ := c0
      have hc0 := (hX 0 h0).2 0 v0 hv0
      have hspot : spot = none := by
        have := World.cell?_spot hc0
        rw [Nat.zero_mul] at this; simpa [Addr.add] using this
      subst hspot
      refine ⟨b, off, rfl, ?_, fun i hi j v hj => ?_⟩
      · have := lt_of_cell hc0; rwa [add_block] at this
      · rw [hlenX] at hi
        have := (hX i hi).2 j v (by simpa using hj)
        rw [add_plain] at this
        rw [Nat.add_assoc]; exact this
    · intro x hx; obtain ⟨i, hi, rfl⟩ := List.mem_map.1 hx; exact (hX i (by simpa using hi)).1.1
theorem flat_gp : flat Tryd.prog 3 44 = some [.int .i64, .int .i64, .int .u64] := by kernel_rfl
theorem cells_gp : Tryd.prog.cellsOf 44 = 3 := by kernel_rfl
theorem gp_cells {cs : List Value} (h : F2 [.int .i64, .int .i64, .int .u64] cs) : ∃ p : Gp, cs = gpL p ∧ p.wf := by
  obtain ⟨a0, r, rfl, _, h⟩ := F2_int h
  obtain ⟨a1, r, rfl, _, h⟩ := F2_int h
  obtain ⟨a2, r, rfl, w2, h⟩ := F2_int h
  obtain rfl := F2_nil h
  have := bounds_u64 w2
  exact ⟨⟨a0, a1, a2⟩, rfl, by unfold Gp.wf; show 0 ≤ a2 ∧ a2 < 18446744073709551616; omega⟩
def plA (t : Int) (ao : Option Addr) (n cap : Nat) : Array Value := #[.int .i64 t, .slice ao n cap]
theorem isT_pl : IsT 27 2 := ⟨by kernel_rfl, _, Tryd.underlying27⟩
theorem open_play {r : Reach} {b0 : Nat} {v : Value} {d : DataW H} {p : List MemPlace} (hv : Value.okWide Tryd.prog w r b0 27 v) (h : DataW.Trod enc Tryd.prog w 0 (fun _ => true) true 27 v d p) :
    ∃ (t : Int) (ao : Option Addr) (cap : Nat) (ps : List Gp), v = .agg (plA t ao (List.length ps) cap) ∧ SlOf 3 gpL w ao ps ∧ (∀ x ∈ ps, x.wf) := by
  obtain ⟨cs, rfl, hsz⟩ := okWide_struct Tryd.underlying27 hv
  obtain ⟨fuel, h⟩ := h
  have h' : DataW.trod enc Tryd.prog w 0 (fun _ => true) true fuel 27 cs.toList = some (d, p) := by simpa [Value.cells] using h
  obtain ⟨xs, m, _, _, hlen, hxl, hx⟩ := DataW.trod_struct Tryd.underlying27 h'
  have c3 : Tryd.prog.cellsOf 27 = 2 := by kernel_rfl
  have b1 : Tryd.prog.cellsOf 3 = 1 := by kernel_rfl
  have w1 : Tryd.prog.cellsOf 25 = 1 := by kernel_rfl
  rw [c3] at hlen
  have hxl3 : xs.length = 2 := hxl
  have x0 := hx 0 _ rfl
  have x1 := hx 1 _ rfl
  rw [List.getElem?_eq_getElem (by omega)] at x0 x1
  obtain ⟨t, e0, _⟩ := DataW.trod_int Tryd.underlying3 x0
  obtain ⟨ao, cap, ks, e2, S, G⟩ := open_slice_cells gp0 (ks := [.int .i64, .int .i64, .int .u64]) gpL Gp.wf Tryd.underlying25 flat_gp cells_gp (by decide) (fun cs hF => gp_cells hF) x1
  change List.take (Tryd.prog.cellsOf 3) (List.drop 0 cs.toList) = _ at e0
  change List.take (Tryd.prog.cellsOf 25) (List.drop 1 cs.toList) = _ at e2
  rw [b1] at e0
  rw [w1] at e2
  refine ⟨t, ao, cap, ks, ?_, S, G⟩
  match hcs : cs.toList, hlen with
  | [a, b], _ =>
    rw [hcs] at e0 e2
    simp at e0 e2
    subst e0 e2
    rw [show cs = cs.toList.toArray by simp, hcs]
    rfl
end
end K
end Go.Proofs.YtpobanjpgdghlaaDoor

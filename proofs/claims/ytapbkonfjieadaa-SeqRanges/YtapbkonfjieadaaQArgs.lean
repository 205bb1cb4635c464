/-
  Arguments: pairs, ops, an op, an answer, three words.
-/
import Derived.Test.YtapbkonfjieadaaQAlive
namespace Go.Proofs.Ytapbkonfjieadaa.Q
set_option maxRecDepth 100000
open Go.ChangeShapes Go.WideShapes Go.ChangeAt Go.RowKit
open Go.Deep
theorem flat_pair : (flat Try.prog 3 62) = some [.int .u64, .int .u64] := by kernel_rfl
theorem cells_pair : Try.prog.cellsOf 62 = 2 := by kernel_rfl
theorem word_le {x : Int} (h : (Lit.int .u64 x).wf = true) : x ≤ 18446744073709551615 := by
  simp [Lit.wf, IntKind.max, IntKind.min] at h; have h2 := h.2; simp [IntKind.bits, IntKind.signed] at h2; omega
theorem pair_cells {cs : List Value} (h : F2 [.int .u64, .int .u64] cs) : ∃ e : Pr, cs = pC e ∧ e.k ≤ 18446744073709551615 := by
  obtain ⟨a0, r, rfl, w0, h⟩ := F2_int h
  obtain ⟨a1, r, rfl, _, h⟩ := F2_int h
  obtain rfl := F2_nil h
  exact ⟨⟨a0, a1⟩, rfl, word_le w0⟩
theorem flat_op : (flat Try.prog 3 38) = some [.int .i64, .int .u64, .int .u64, .int .i64, .int .i64] := by kernel_rfl
theorem cells_op : Try.prog.cellsOf 38 = 5 := by kernel_rfl
def oC (o : OpQ) : List Value := [.int .i64 o.d, .int .u64 o.k, .int .u64 o.v, .int .i64 o.n, .int .i64 o.t]
instance : Inhabited OpQ := ⟨⟨0, 0, 0, 0, 0⟩⟩
theorem op_cells {cs : List Value} (h : F2 [.int .i64, .int .u64, .int .u64, .int .i64, .int .i64] cs) : ∃ o : OpQ, cs = oC o ∧ o.k ≤ 18446744073709551615 := by
  obtain ⟨a0, r, rfl, _, h⟩ := F2_int h
  obtain ⟨a1, r, rfl, w1, h⟩ := F2_int h
  obtain ⟨a2, r, rfl, _, h⟩ := F2_int h
  obtain ⟨a3, r, rfl, _, h⟩ := F2_int h
  obtain ⟨a4, r, rfl, _, h⟩ := F2_int h
  obtain rfl := F2_nil h
  exact ⟨⟨a0, a1, a2, a3, a4⟩, rfl, word_le w1⟩
theorem flat_three : (flat Try.prog 3 47) = some [.int .u64, .int .u64, .int .u64] := by kernel_rfl
section
variable {H : Type} {enc : TypeId × Value → H} {w : World} {r : Reach} {b0 base : Nat} {spare : Nat → Bool} {held : Bool} {v : Value} {d : DataW H} {p : List MemPlace}
theorem open_pairs (hv : Value.okWide Try.prog w r b0 22 v) (h : DataW.Trod enc Try.prog w 0 (fun _ => true) true 22 v d p) :
    ∃ ao cap es, v = .slice ao (List.length es) cap ∧ SlP w ao es ∧ (∀ x ∈ es, x.k ≤ 18446744073709551615) ∧ (ao = none → cap = 0) := by
  obtain ⟨ao, cap, xs, h1, h2, h3, h4, h5⟩ := open_slice_of (ks := [.int .u64, .int .u64]) pC (fun e => e.k ≤ 18446744073709551615) Try.underlying22 flat_pair cells_pair (by decide) (fun cs hF => pair_cells hF) hv h
  exact ⟨ao, cap, xs, h1, h2, h3, h5⟩
theorem open_ops (hv : Value.okWide Try.prog w r b0 34 v) (h : DataW.Trod enc Try.prog w 0 (fun _ => true) true 34 v d p) :
    ∃ ao cap es, v = .slice ao (List.length es) cap ∧ SlOf 5 oC w ao es ∧ (∀ x ∈ es, x.k ≤ 18446744073709551615) := by
  obtain ⟨ao, cap, xs, h1, h2, h3, h4, h5⟩ := open_slice_of (ks := [.int .i64, .int .u64, .int .u64, .int .i64, .int .i64]) oC (fun e => e.k ≤ 18446744073709551615) Try.underlying34 flat_op cells_op (by decide) (fun cs hF => op_cells hF) hv h
  exact ⟨ao, cap, xs, h1, h2, h3⟩
theorem open_op (hv : Value.okWide Try.prog w r b0 38 v) (h : DataW.Trod enc Try.prog w base spare held 38 v d p) : ∃ o : OpQ, v = .agg #[.int .i64 o.d, .int .u64 o.k, .int .u64 o.v, .int .i64 o.n, .int .i64 o.t] := by
  obtain ⟨cs, rfl, hF⟩ := flat_agg (Or.inl ⟨_, Try.underlying38⟩) flat_op hv h
  obtain ⟨e, hc, _⟩ := op_cells hF
  exact ⟨e, by rw [show cs = cs.toList.toArray by simp, hc]; rfl⟩
theorem open_three (hv : Value.okWide Try.prog w r b0 47 v) (h : DataW.Trod enc Try.prog w base spare held 47 v d p) : ∃ a b c : Int, v = .agg #[.int .u64 a, .int .u64 b, .int .u64 c] ∧ a ≤ 18446744073709551615 := by
  obtain ⟨cs, rfl, hF⟩ := flat_agg (Or.inr ⟨_, _, Try.underlying47⟩) flat_three hv h
  obtain ⟨a0, r, e0, w0, hF⟩ := F2_int hF
  obtain ⟨a1, r, rfl, _, hF⟩ := F2_int hF
  obtain ⟨a2, r, rfl, _, hF⟩ := F2_int hF
  obtain rfl := F2_nil hF
  exact ⟨a0, a1, a2, by rw [show cs = cs.toList.toArray by simp, e0], word_le w0⟩
theorem open_words_cells {fuel : Nat} {cs : List Value} {x : DataW H × List MemPlace} (hd : DataW.trod enc Try.prog w 0 (fun _ => true) true fuel 39 cs = some x) :
    ∃ ao cap xs, cs = [.slice ao (List.length xs) cap] ∧ Sl w ao xs := by
  rcases Deep.open_slice Try.underlying39 hd with ⟨hcs, hx⟩ | ⟨ad, len', cap', m, n', D, Pl, hcs, hb, hl, hm, hmm, hx, hall⟩
  · exact ⟨none, 0, [], hcs, fun h => absurd h (by simp)⟩
  · have hml : len' ≤ m := by rw [hmm]; split <;> omega
    have each : ∀ i, i < len' → ∃ x : Int, True ∧ w.cell? (ad.add i) = some (.int .u64 x) := by
      intro i hi
      obtain ⟨cs', h1, h2⟩ := hall i (by omega)
      have hF := flat_trod 2 flat_u64 h2
      obtain ⟨a0, r, rfl, _, h⟩ := F2_int hF
      obtain rfl := F2_nil h
      rw [cells_u64] at h1
      have h3 := (World.cells?_some h1).2.2 0 (by simp)
      refine ⟨a0, trivial, ?_⟩
      rw [Deep.add_add] at h3
      simpa using h3
    obtain ⟨X, hX⟩ := choose_lt each
    refine ⟨some ad, cap', (List.range len').map X, by simpa using hcs, fun _ => ⟨ad, rfl, fun i hi => ?_⟩⟩
    simp at hi
    rw [(hX i hi).2]; simp
theorem open_answer (hv : Value.okWide Try.prog w r b0 41 v) (h : DataW.Trod enc Try.prog w 0 (fun _ => true) true 41 v d p) :
    ∃ (f hh : Bool) (g : Int) (ao : Option Addr) (cap : Nat) (ks : List Int), v = .agg #[.bool f, .bool hh, .int .u64 g, .slice ao (List.length ks) cap] ∧ Sl w ao ks := by
  obtain ⟨cs, rfl, hsz⟩ := okWide_struct Try.underlying41 hv
  obtain ⟨fuel, h⟩ := h
  have h' : DataW.trod enc Try.prog w 0 (fun _ => true) true fuel 41 cs.toList = some (d, p) := by simpa [Value.cells] using h
  obtain ⟨xs, m, _, _, hlen, hxl, hx⟩ := DataW.trod_struct Try.underlying41 h'
  have c4 : Try.prog.cellsOf 41 = 4 := by kernel_rfl
  have b1 : Try.prog.cellsOf 4 = 1 := by kernel_rfl
  have w1 : Try.prog.cellsOf 39 = 1 := by kernel_rfl
  rw [c4] at hlen
  have hxl4 : xs.length = 4 := hxl
  have x0 := hx 0 _ rfl
  have x1 := hx 1 _ rfl
  have x2 := hx 2 _ rfl
  have x3 := hx 3 _ rfl
  rw [List.getElem?_eq_getElem (by omega)] at x0 x1 x2 x3
  obtain ⟨f, e0, _⟩ := DataW.trod_bool Try.underlying4 x0
  obtain ⟨hh, e1, _⟩ := DataW.trod_bool Try.underlying4 x1
  obtain ⟨g, e2, _, _⟩ := DataW.trod_int Try.underlying36 x2
  obtain ⟨ao, cap, ks, e3, S⟩ := open_words_cells x3
  change List.take (Try.prog.cellsOf 4) (List.drop 0 cs.toList) = _ at e0
  change List.take (Try.prog.cellsOf 4) (List.drop 1 cs.toList) = _ at e1
  change List.take (Try.prog.cellsOf 36) (List.drop 2 cs.toList) = _ at e2
  change List.take (Try.prog.cellsOf 39) (List.drop 3 cs.toList) = _ at e3
  rw [b1] at e0 e1
  rw [cells_u64] at e2
  rw [w1] at e3
  refine ⟨f, hh, g, ao, cap, ks, ?_, S⟩
  match hcs : cs.toList, hlen with
  | [a, b, c, e], _ =>
    rw [hcs] at e0 e1 e2 e3
    simp at e0 e1 e2 e3
    subst e0 e1 e2 e3
    rw [show cs = cs.toList.toArray by simp, hcs]
end
end Go.Proofs.Ytapbkonfjieadaa.Q

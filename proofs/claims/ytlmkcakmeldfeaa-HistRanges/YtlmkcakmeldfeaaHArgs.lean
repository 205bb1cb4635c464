/-
  Arguments: events, each with a slice of keys.
-/
import Derived.Test.YtlmkcakmeldfeaaHEvs
import Derived.Test.YtlmkcakmeldfeaaHLives
namespace Go.Proofs.Ytlmkcakmeldfeaa.Q
set_option maxRecDepth 100000
open Go.ChangeShapes Go.WideShapes Go.ChangeAt Go.RowKit
open Go.Deep
section
variable {H : Type} {enc : TypeId × Value → H} {w : World} {r : Reach} {b0 base : Nat} {v : Value} {d : DataW H} {p : List MemPlace}
theorem words_cells {fuel : Nat} {cs : List Value} {x : DataW H × List MemPlace} (hd : DataW.trod enc Try.prog w 0 (fun _ => true) true fuel 44 cs = some x) :
    ∃ ao cap xs, cs = [.slice ao (List.length xs) cap] ∧ Sl w ao xs ∧ ∀ k ∈ xs, (Lit.int .u64 k).wf = true := by
  rcases Deep.open_slice Try.underlying44 hd with ⟨hcs, hx⟩ | ⟨ad, len', cap', m, n', D, Pl, hcs, hb, hl, hm, hmm, hx, hall⟩
  · exact ⟨none, 0, [], hcs, fun h => absurd h (by simp), by simp⟩
  · have hml : len' ≤ m := by rw [hmm]; split <;> omega
    have each : ∀ i, i < len' → ∃ x : Int, (Lit.int .u64 x).wf = true ∧ w.cell? (ad.add i) = some (.int .u64 x) := by
      intro i hi
      obtain ⟨cs', h1, h2⟩ := hall i (by omega)
      have hF := flat_trod 2 flat_u64 h2
      obtain ⟨a0, r, rfl, hw, h⟩ := F2_int hF
      obtain rfl := F2_nil h
      rw [cells_u64] at h1
      have h3 := (World.cells?_some h1).2.2 0 (by simp)
      refine ⟨a0, hw, ?_⟩
      rw [Deep.add_add] at h3
      simpa using h3
    obtain ⟨X, hX⟩ := choose_lt each
    refine ⟨some ad, cap', (List.range len').map X, by simpa using hcs, fun _ => ⟨ad, rfl, fun i hi => ?_⟩, fun k hk => ?_⟩
    · simp at hi
      rw [(hX i hi).2]; simp
    · obtain ⟨i, hi, rfl⟩ := List.mem_map.1 hk
      exact (hX i (by simpa using hi)).1
theorem ans_cells {fuel : Nat} {cs : List Value} {x : DataW H × List MemPlace} (h : DataW.trod enc Try.prog w 0 (fun _ => true) true fuel 46 cs = some x) :
    ∃ (f hh : Bool) (g : Int) (ao : Option Addr) (cap : Nat) (ks : List Int), cs = [.bool f, .bool hh, .int .u64 g, .slice ao (List.length ks) cap] ∧ Sl w ao ks ∧ ∀ k ∈ ks, (Lit.int .u64 k).wf = true := by
  obtain ⟨xs, m, _, _, hlen, hxl, hx⟩ := DataW.trod_struct Try.underlying46 h
  have c4 : Try.prog.cellsOf 46 = 4 := by kernel_rfl
  have b1 : Try.prog.cellsOf 4 = 1 := by kernel_rfl
  have w1 : Try.prog.cellsOf 44 = 1 := by kernel_rfl
  rw [c4] at hlen
  have hxl4 : xs.length = 4 := hxl
  have x0 := hx 0 _ rfl
  have x1 := hx 1 _ rfl
  have x2 := hx 2 _ rfl
  have x3 := hx 3 _ rfl
  rw [List.getElem?_eq_getElem (by omega)] at x0 x1 x2 x3
  obtain ⟨f, e0, _⟩ := DataW.trod_bool Try.underlying4 x0
  obtain ⟨hh, e1, _⟩ := DataW.trod_bool Try.underlying4 x1
  obtain ⟨g, e2, _, _⟩ := DataW.trod_int Try.underlying41 x2
  obtain ⟨ao, cap, ks, e3, S, wf⟩ := words_cells x3
  change List.take (Try.prog.cellsOf 4) (List.drop 0 cs) = _ at e0
  change List.take (Try.prog.cellsOf 4) (List.drop 1 cs) = _ at e1
  change List.take (Try.prog.cellsOf 41) (List.drop 2 cs) = _ at e2
  change List.take (Try.prog.cellsOf 44) (List.drop 3 cs) = _ at e3
  rw [b1] at e0 e1
  rw [cells_u64] at e2
  rw [w1] at e3
  refine ⟨f, hh, g, ao, cap, ks, ?_, S, wf⟩
  match cs, hlen with
  | [a, b, c, e], _ =>
    simp at e0 e1 e2 e3
    rw [e0, e1, e2, e3]
theorem list14 {cs : List Value} (h : cs.length = 14) : ∃ a b c d e f g i j k l m n o, cs = [a, b, c, d, e, f, g, i, j, k, l, m, n, o] := by
  match cs, h with
  | [a, b, c, d, e, f, g, i, j, k, l, m, n, o], _ => exact ⟨a, b, c, d, e, f, g, i, j, k, l, m, n, o, rfl⟩
theorem ev_cells {fuel : Nat} {cs : List Value} {x : DataW H × List MemPlace} (h : DataW.trod enc Try.prog w 0 (fun _ => true) true fuel 48 cs = some x) :
    ∃ e : Ev, cs = evL e ∧ Sl w e.ka e.ks ∧ (Lit.int .u64 e.op.k).wf = true ∧ ∀ k ∈ e.ks, (Lit.int .u64 k).wf = true := by
  obtain ⟨xs, m, _, _, hlen, hxl, hx⟩ := DataW.trod_struct Try.underlying48 h
  have c14 : Try.prog.cellsOf 48 = 14 := by kernel_rfl
  have i1 : Try.prog.cellsOf 3 = 1 := by kernel_rfl
  have b1 : Try.prog.cellsOf 4 = 1 := by kernel_rfl
  have a4 : Try.prog.cellsOf 46 = 4 := by kernel_rfl
  rw [c14] at hlen
  have hxl7 : xs.length = 7 := hxl
  have x0 := hx 0 _ rfl
  have x1 := hx 1 _ rfl
  have x2 := hx 2 _ rfl
  have x3 := hx 3 _ rfl
  have x4 := hx 4 _ rfl
  have x5 := hx 5 _ rfl
  have x6 := hx 6 _ rfl
  rw [List.getElem?_eq_getElem (by omega)] at x0 x1 x2 x3 x4 x5 x6
  obtain ⟨th, e0, _, _⟩ := DataW.trod_int Try.underlying3 x0
  have F1 := flat_trod 3 flat_op x1
  obtain ⟨bg, e2, _, _⟩ := DataW.trod_int Try.underlying3 x2
  obtain ⟨at1, e3, _, _⟩ := DataW.trod_int Try.underlying3 x3
  obtain ⟨en, e4, _, _⟩ := DataW.trod_int Try.underlying3 x4
  obtain ⟨dn, e5, _⟩ := DataW.trod_bool Try.underlying4 x5
  obtain ⟨fu, ha, go, ao, cap, ks, e6, S, wf⟩ := ans_cells x6
  change List.take (Try.prog.cellsOf 3) (List.drop 0 cs) = _ at e0
  change F2 _ (List.take (Try.prog.cellsOf 43) (List.drop 1 cs)) at F1
  change List.take (Try.prog.cellsOf 3) (List.drop 6 cs) = _ at e2
  change List.take (Try.prog.cellsOf 3) (List.drop 7 cs) = _ at e3
  change List.take (Try.prog.cellsOf 3) (List.drop 8 cs) = _ at e4
  change List.take (Try.prog.cellsOf 4) (List.drop 9 cs) = _ at e5
  change List.take (Try.prog.cellsOf 46) (List.drop 10 cs) = _ at e6
  rw [i1] at e0 e2 e3 e4
  rw [b1] at e5
  rw [a4] at e6
  rw [cells_op] at F1
  obtain ⟨a, b, c, d, e, f, g, i, j, k, l, m, n, o, rfl⟩ := list14 hlen
  simp at e0 e2 e3 e4 e5 e6
  obtain ⟨od, r, q, _, F1⟩ := F2_int F1
  simp at q
  obtain ⟨q1, rfl⟩ := q
  obtain ⟨ok, r, q, wk, F1⟩ := F2_int F1
  simp at q
  obtain ⟨q2, rfl⟩ := q
  obtain ⟨ov, r, q, _, F1⟩ := F2_int F1
  simp at q
  obtain ⟨q3, rfl⟩ := q
  obtain ⟨on, r, q, _, F1⟩ := F2_int F1
  simp at q
  obtain ⟨q4, rfl⟩ := q
  obtain ⟨ot, r, q, _, F1⟩ := F2_int F1
  simp at q
  obtain ⟨q5, rfl⟩ := q
  obtain ⟨e6a, e6b, e6c, e6d⟩ := e6
  exact ⟨⟨th, ⟨od, ok, ov, on, ot⟩, bg, at1, en, dn, fu, ha, go, ao, cap, ks⟩, by rw [e0, q1, q2, q3, q4, q5, e2, e3, e4, e5, e6a, e6b, e6c, e6d]; rfl, S, wk, wf⟩
theorem open_evs (hv : Value.okWide Try.prog w r b0 22 v) (h : DataW.Trod enc Try.prog w 0 (fun _ => true) true 22 v d p) :
    ∃ ao cap es, v = .slice ao (List.length es) cap ∧ Evs w ao (List.length es) es ∧ KWf es ∧ (ao = none → cap = 0) := by
  obtain ⟨a, len, cap, rfl⟩ := okWide_slice Try.underlying22 hv
  obtain ⟨fuel, hd⟩ := h
  have c14 : Try.prog.cellsOf 48 = 14 := by kernel_rfl
  rcases open_slice Try.underlying22 hd with ⟨hcs, hx⟩ | ⟨ad, len', cap', m, n', D, Pl, hcs, hb, hl, hm, hmm, hx, hall⟩
  · simp [Value.cells] at hcs
    obtain ⟨rfl, rfl, rfl⟩ := hcs
    exact ⟨none, 0, [], rfl, ⟨rfl, fun h => absurd h (by simp), by simp, by simp⟩, ⟨by simp, by simp⟩, fun _ => rfl⟩
  · simp [Value.cells] at hcs
    obtain ⟨rfl, rfl, rfl⟩ := hcs
    have hml : len ≤ m := by rw [hmm]; split <;> omega
    have each : ∀ i, i < len → ∃ x : Ev, (Sl w x.ka x.ks ∧ (Lit.int .u64 x.op.k).wf = true ∧ ∀ k ∈ x.ks, (Lit.int .u64 k).wf = true) ∧ ∀ j v, (evL x)[j]? = some v → w.cell? (ad.add (i * 14 + j)) = some v := by
      intro i hi
      obtain ⟨cs', h1, h2⟩ := hall i (by omega)
      obtain ⟨x, rfl, hg⟩ := ev_cells h2
      refine ⟨x, hg, fun j v hj => ?_⟩
      rw [c14] at h1
      have h3 := (World.cells?_some h1).2.2 j (by exact (List.getElem?_eq_some_iff.1 hj).1)
      rw [hj, Deep.add_add] at h3
      exact h3
    have : Inhabited Ev := ⟨evZ⟩
    obtain ⟨X, hX⟩ := choose_lt each
    have hlenX : ((List.range len).map X).length = len := by simp
    refine ⟨some ad, cap, (List.range len).map X, by rw [hlenX], ⟨rfl, ?_, ?_, ?_⟩, ⟨?_, ?_⟩, by simp⟩
    · intro h0
      rw [hlenX] at h0
      obtain ⟨b, off, spot⟩ := ad
      have c0 : ∃ v, (evL (X 0))[0]? = some v := ⟨_, rfl⟩
      obtain ⟨v0, hv0⟩ := c0
      have hc0 := (hX 0 h0).2 0 v0 hv0
      have hspot : spot = none := by
        have := World.cell?_spot hc0
        rw [Nat.zero_mul] at this; simpa [Addr.add] using this
      subst hspot
      refine ⟨b, off, rfl, ?_, fun i hi j v hj => ?_⟩
      · have := lt_of_cell hc0; rwa [add_block] at this
      · rw [hlenX] at hi
        have := (hX i hi).2 j v (by simpa using hj)
        rw [add_plain] at this
        rw [Nat.add_assoc]; exact this
    · intro x hx; obtain ⟨i, hi, rfl⟩ := List.mem_map.1 hx; exact (hX i (by simpa using hi)).1.1
    · intro x hx; obtain ⟨i, hi, rfl⟩ := List.mem_map.1 hx; exact word_le (hX i (by simpa using hi)).1.2.1
    · intro x hx; obtain ⟨i, hi, rfl⟩ := List.mem_map.1 hx; exact (hX i (by simpa using hi)).1.2.1
    · intro x hx; obtain ⟨i, hi, rfl⟩ := List.mem_map.1 hx; exact (hX i (by simpa using hi)).1.2.2
end
theorem fw_len {es : List Ev} (h : fwB es = true) : es.length ≤ 40 := by
  cases es with
  | nil => simp
  | cons e l => unfold fwB at h; have := List.all_eq_true.1 h e (by simp); simp at this; simpa using this.1
theorem fw_keys {es : List Ev} (h : fwB es = true) : ∀ e ∈ es, e.ks.length ≤ 40 := fun e he => by
  unfold fwB at h; have := List.all_eq_true.1 h e he; simp at this; exact this.2
end Go.Proofs.Ytlmkcakmeldfeaa.Q
